/-
  The document's kind, called on the tokens of a tree: its kind, or the place of the first operator that does not take its operands.
-/
import Derived.Test.YtldfkcpbjooemaaGreatDoorG03
import Derived.Deep.RegionHeld3
set_option linter.unusedVariables false
set_option linter.unusedSimpArgs false
namespace Go.Proofs.YtldfkcpbjooemaaGreatDoor
open Go.RowKit Go.Deep
def resV:Except Nat Nat→Array Value
 | .ok k=>#[.int .i64 k,.int .i64 (-1)]
 | .error p=>#[.int .i64 0,.int .i64 p]
def KindOk (l:List Stm) (ks:List Nat) (t:Tr):Prop:=∀ (v:Value) (w:World) (lv kv:Value),t.toks.length≤400→Reads w v t.toks.length (cellsR t.toks)→Reads w lv l.length (cellsS l)→Reads w kv ks.length (cellsI ks) →
 Calls Tryz.prog 69 #[.agg #[lv,kv],v] w fun e w'=>e=.returned (.tuple (resV (kindT ((l.map Stm.name).zip ks) t)))∧Below w.heap.size w w'
theorem stripB_len:∀ t:BT (RTok × RTok),(toksB (stripB t)).length≤(toksB t).length
 | .nil=>Nat.le_refl _
 | .node 0 _ _ _ _=>Nat.le_refl _
 | .node 1 _ _ _ _=>Nat.le_refl _
 | .node 2 _ _ _ _=>Nat.le_refl _
 | .node 3 _ a e _=>by have:=stripB_len e;simp only[stripB,toksB,List.length_cons,List.length_append,List.length_nil];omega
 | .node (_+4) _ _ _ _=>Nat.le_refl _
theorem Tr.strip_len (t:Tr):t.strip.toks.length≤t.toks.length:=stripB_len t
theorem Tr.strip_wf (t:Tr) (h:t.wf):t.strip.wf :=
 Tr.ind (P:=fun t=>t.strip.wf) t h (fun _ h=>h) (fun _ _ h _=>h) (fun _ _ _ h _ _=>h) (fun _ _ _ _ ih=>ih)
theorem kindB_of_strip (c:List (Txt × Nat)):∀ t:BT (RTok × RTok),kindB c t=kindB c (stripB t)
 | .nil=>rfl
 | .node 0 _ _ _ _=>rfl
 | .node 1 _ _ _ _=>rfl
 | .node 2 _ _ _ _=>rfl
 | .node 3 _ _ e _=>kindB_of_strip c e
 | .node (_+4) _ _ _ _=>rfl
theorem kindT_of_strip (c:List (Txt × Nat)) (t:Tr):kindT c t=kindT c t.strip:=kindB_of_strip c t
theorem box_cells {w w1:World} {a b:Value} {e:TypeId} (h:Below (w.alloc (.cells #[a,b] e)).drew.heap.size (w.alloc (.cells #[a,b] e)).drew w1):w1.cell? ⟨w.heap.size,0,none⟩=some a∧w1.cell? ⟨w.heap.size,1,none⟩=some b :=
 ⟨(h.cell (p:=⟨w.heap.size,0,none⟩) (by simp)).trans (by simp),(h.cell (p:=⟨w.heap.size,1,none⟩) (by simp)).trans (by simp)⟩
theorem box_below {w w1:World} {o:Obj} (h:Below (w.alloc o).drew.heap.size (w.alloc o).drew w1):Below w.heap.size w w1 :=
 (((Below.refl w.heap.size w).alloc (Nat.le_refl _) o).drew).trans (h.mono (by simp))
theorem box_cells2 {w w1 w2:World} {a b:Value} {e:TypeId} (h:Below (w.alloc (.cells #[a,b] e)).drew.heap.size (w.alloc (.cells #[a,b] e)).drew w1) (h2:Below w1.drew.heap.size w1.drew w2):w2.cell? ⟨w.heap.size,0,none⟩=some a∧w2.cell? ⟨w.heap.size,1,none⟩=some b:=by
 have hz:w.heap.size < w1.drew.heap.size:=by have:=h.size;simp at this ⊢;omega
 exact ⟨(h2.cell (p:=⟨w.heap.size,0,none⟩) hz).trans (box_cells h).1,(h2.cell (p:=⟨w.heap.size,1,none⟩) hz).trans (box_cells h).2⟩
theorem tok_cell {w w1 w2:World} {o:Obj} {g off j:Nat} {xs:List Value} {u:Value} (h:Below (w.alloc o).drew.heap.size (w.alloc o).drew w1) (h2:Below w1.drew.heap.size w1.drew w2) (hlt:g < (w.alloc o).heap.size)
  (hc:∀ j u,xs[j]?=some u→(w.alloc o).cell? ⟨g,off+j,none⟩=some u) (hj:xs[j]?=some u):w2.cell? ⟨g,off+j,none⟩=some u:=by
 have hz:g < w1.drew.heap.size:=Nat.lt_of_lt_of_le hlt h.size
 exact (h2.cell (p:=⟨g,off+j,none⟩) hz).trans ((h.cell (p:=⟨g,off+j,none⟩) hlt).trans (hc j u hj))
theorem tok_cell1 {w w1:World} {o:Obj} {g off j:Nat} {xs:List Value} {u:Value} (h:Below (w.alloc o).drew.heap.size (w.alloc o).drew w1) (hlt:g < (w.alloc o).heap.size)
  (hc:∀ j u,xs[j]?=some u→(w.alloc o).cell? ⟨g,off+j,none⟩=some u) (hj:xs[j]?=some u):w1.cell? ⟨g,off+j,none⟩=some u :=
 (h.cell (p:=⟨g,off+j,none⟩) hlt).trans (hc j u hj)
theorem kindT_bin1 {c:List (Txt × Nat)} {op:RTok} {a b:Tr} {p:Nat} (h:kindT c a=.error p):kindT c (.bin op a b)=.error p:=by simp only[kindT_bin,h]
theorem kindT_bin2 {c:List (Txt × Nat)} {op:RTok} {a b:Tr} {x p:Nat} (h:kindT c a=.ok x) (h2:kindT c b=.error p):kindT c (.bin op a b)=.error p:=by simp only[kindT_bin,h,h2]
theorem kindT_bin3 {c:List (Txt × Nat)} {op:RTok} {a b:Tr} {x y:Nat} (h:kindT c a=.ok x) (h2:kindT c b=.ok y) (hm:madeT op.text x y=0):kindT c (.bin op a b)=.error op.at':=by simp only[kindT_bin,h,h2,if_pos hm]
theorem kindT_bin4 {c:List (Txt × Nat)} {op:RTok} {a b:Tr} {x y:Nat} (h:kindT c a=.ok x) (h2:kindT c b=.ok y) (hm:madeT op.text x y≠0):kindT c (.bin op a b)=.ok (madeT op.text x y):=by simp only[kindT_bin,h,h2,if_neg hm]
theorem kindT_un1 {c:List (Txt × Nat)} {op:RTok} {a:Tr} {p:Nat} (h:kindT c a=.error p):kindT c (.un op a)=.error p:=by simp only[kindT_un,h]
theorem kindT_un2 {c:List (Txt × Nat)} {op:RTok} {a:Tr} {x:Nat} (h:kindT c a=.ok x) (hm:madeT op.text x x=0):kindT c (.un op a)=.error op.at':=by simp only[kindT_un,h,if_pos hm]
theorem kindT_un3 {c:List (Txt × Nat)} {op:RTok} {a:Tr} {x:Nat} (h:kindT c a=.ok x) (hm:madeT op.text x x≠0):kindT c (.un op a)=.ok (madeT op.text x x):=by simp only[kindT_un,h,if_neg hm]
set_option maxHeartbeats 1000000 in
theorem kindR_bin (l:List Stm) (ks:List Nat) (t:Tr) (ht:t.wf) (op:RTok) (a b:Tr) (hs:t.strip=.bin op a b) (IA:KindOk l ks a) (IB:KindOk l ks b):KindOk l ks t:=by
 intro v w lv kv h4 hv hlv hkv
 have HSW:Hid (Tr.bin op a b).wf:=(hs ▸ t.strip_wf ht:(Tr.bin op a b).wf)
 have hlen:(Tr.bin op a b).toks.length=a.toks.length+b.toks.length+1:=by simp[Tr.toks_bin];omega
 have h4':(Tr.bin op a b).toks.length≤400:=by rw[← hs];exact Nat.le_trans t.strip_len h4
 have hap:=a.toks_pos
 have hbp:=b.toks_pos
 have hab:a.toks.length < (Tr.bin op a b).toks.length:=by omega
 have hab':(a.toks.length:Int) < (Tr.bin op a b).toks.length:=by omega
 have HRT:Hid (rootR (Tr.bin op a b).toks=a.toks.length):=root_bin op a b HSW.out
 rw[kindT_of_strip,hs]
 have HL:Hid ((Tr.bin op a b).toks.length=a.toks.length+b.toks.length+1):=hlen
 have HV:Hid (Reads (w.alloc (.cells #[lv,kv] 42)) v t.toks.length (cellsR t.toks)):=hv.alloc _
 have HLV:Hid (Reads (w.alloc (.cells #[lv,kv] 42)) lv l.length (cellsS l)):=hlv.alloc _
 have HKV:Hid (Reads (w.alloc (.cells #[lv,kv] 42)) kv ks.length (cellsI ks)):=hkv.alloc _
 have HS:Hid (t.strip=.bin op a b):=hs
 clear hs hv hlv hkv hlen
 cases hRA:kindT ((l.map Stm.name).zip ks) a with
 | error p =>
  rw[kindT_bin1 hRA]
  have HA:Hid (kindT ((l.map Stm.name).zip ks) a=.error p):=hRA
  clear hRA
  go_enter Tryz.func69,Tryz.ntmps69
  go_wp2_with (first | (go_at_call 100;refine (inside_any t ht _ _ h4 HV.out).mono ?_;rintro e _ ⟨⟨v',rfl,hr'⟩,rfl⟩;rw[HS.out] at hr';have HR':Hid (Reads _ v' _ _):=hr';clear hr';obtain ⟨g,o,cap,rfl,hncap,hlt,hc⟩:=HR'.out.pos (by have:=HL.out;omega)) | (go_at_call 101;refine (root_any (Tr.bin op a b).toks _ _ (by have:=HL.out;omega) h4' HR'.out).mono ?_;rintro e _ ⟨rfl,rfl⟩;rw[HRT.out]))
  have hsl:=fun wx=>sl_h g o (Tr.bin op a b).toks.length cap a.toks.length a.toks.length rfl (by have:=HL.out;omega) (by have:=HL.out;omega) wx
  have HRA:Hid (Reads (w.alloc (.cells #[lv,kv] 42)) (.slice (some ⟨g,o,none⟩) a.toks.length cap) a.toks.length (cellsR a.toks)):=reads_mid [] a.toks (op :: b.toks) (by simp[Tr.toks_bin]) hlt (by have:=HL.out;omega) hc
  go_region_held3 (fun w'=>w'.cell? ⟨w.heap.size,0,none⟩=some lv∧w'.cell? ⟨w.heap.size,1,none⟩=some kv) (go_keep) ((go_at_call 69;refine (IA _ _ lv kv (by have:=HL.out;omega) HRA.out.drew HLV.out.drew HKV.out.drew).mono ?_;rintro e w1 ⟨rfl,hb1⟩;rw[HA.out];simp only[resV];obtain ⟨k0,k1⟩:=box_cells hb1))
  go_wp2
  go_ret2
  exact ⟨rfl,box_below hb1⟩
 | ok x =>
  have HA:Hid (kindT ((l.map Stm.name).zip ks) a=.ok x):=hRA
  clear hRA
  cases hRB:kindT ((l.map Stm.name).zip ks) b with
  | error q =>
   rw[kindT_bin2 HA.out hRB]
   have HB:Hid (kindT ((l.map Stm.name).zip ks) b=.error q):=hRB
   clear hRB
   go_enter Tryz.func69,Tryz.ntmps69
   go_wp2_with (first | (go_at_call 100;refine (inside_any t ht _ _ h4 HV.out).mono ?_;rintro e _ ⟨⟨v',rfl,hr'⟩,rfl⟩;rw[HS.out] at hr';have HR':Hid (Reads _ v' _ _):=hr';clear hr';obtain ⟨g,o,cap,rfl,hncap,hlt,hc0⟩:=HR'.out.pos (by have:=HL.out;omega);have HC:Hid (∀ j u,(cellsR (Tr.bin op a b).toks)[j]?=some u→(w.alloc (.cells #[lv,kv] 42)).cell? ⟨g,o+j,none⟩=some u):=hc0;clear hc0) | (go_at_call 101;refine (root_any (Tr.bin op a b).toks _ _ (by have:=HL.out;omega) h4' HR'.out).mono ?_;rintro e _ ⟨rfl,rfl⟩;rw[HRT.out]))
   have hsl:=fun wx=>sl_h g o (Tr.bin op a b).toks.length cap a.toks.length a.toks.length rfl (by have:=HL.out;omega) (by have:=HL.out;omega) wx
   have hwr:IntKind.i64.wrap ((a.toks.length:Int)+1)=(a.toks.length:Int)+1:=IntWalk.i64_in _ ⟨by omega,by have:=HL.out;omega⟩
   have hsl2:=fun wx=>sl_l g o (Tr.bin op a b).toks.length cap (a.toks.length+1) ((a.toks.length:Int)+1) (by omega) (by have:=HL.out;omega) (by have:=HL.out;omega) wx
   have HRA:Hid (Reads (w.alloc (.cells #[lv,kv] 42)) (.slice (some ⟨g,o,none⟩) a.toks.length cap) a.toks.length (cellsR a.toks)):=reads_mid [] a.toks (op :: b.toks) (by simp[Tr.toks_bin]) hlt (by have:=HL.out;omega) HC.out
   have HRB:Hid (Reads (w.alloc (.cells #[lv,kv] 42)) (.slice (some ⟨g,o+(a.toks.length+1) * 2,none⟩) ((Tr.bin op a b).toks.length - (a.toks.length+1)) (cap - (a.toks.length+1))) b.toks.length (cellsR b.toks)):=by
    unfold Hid
    have:=reads_mid (a.toks++[op]) b.toks [] (by simp[Tr.toks_bin]) hlt (cap:=cap - (a.toks.length+1)) (by have:=HL.out;omega) HC.out
    rw[show (Tr.bin op a b).toks.length - (a.toks.length+1)=b.toks.length by have:=HL.out;omega]
    simpa using this
   have HOP:Hid ((cellsR (Tr.bin op a b).toks)[a.toks.length * 2]?=some (.string (bsOf op.text))∧(cellsR (Tr.bin op a b).toks)[a.toks.length * 2+1]?=some (.int .i64 op.at')):=by
    unfold Hid
    have:=cellsR_get (Tr.bin op a b).toks a.toks.length (by have:=HL.out;omega)
    simpa[Tr.toks_bin] using this
   go_region_held3 (fun w'=>w'.cell? ⟨w.heap.size,0,none⟩=some lv∧w'.cell? ⟨w.heap.size,1,none⟩=some kv) (go_keep) ((go_at_call 69;refine (IA _ _ lv kv (by have:=HL.out;omega) HRA.out.drew HLV.out.drew HKV.out.drew).mono ?_;rintro e w1 ⟨rfl,hb1⟩;rw[HA.out];simp only[resV];obtain ⟨k0,k1⟩:=box_cells hb1))
   go_wp2
   go_region_held3 (fun w'=>w'.cell? ⟨w.heap.size,0,none⟩=some lv∧w'.cell? ⟨w.heap.size,1,none⟩=some kv) (go_keep) ((go_at_call 69;refine (IB _ _ lv kv (by have:=HL.out;omega) (HRB.out.drew.below hb1).drew (HLV.out.drew.below hb1).drew (HKV.out.drew.below hb1).drew).mono ?_;rintro e w2 ⟨rfl,hb2⟩;rw[HB.out];simp only[resV];obtain ⟨k3,k4⟩:=box_cells2 hb1 hb2;have tx:=tok_cell hb1 hb2 hlt HC.out HOP.out.1;have ta:w2.cell? ⟨g,o+a.toks.length * 2+1,none⟩=some (.int .i64 op.at'):=tok_cell (off:=o) (j:=a.toks.length * 2+1) hb1 hb2 hlt HC.out HOP.out.2))
   go_wp2
   go_ret2
   exact ⟨rfl,(box_below hb1).drew.trans (hb2.mono (box_below hb1).size)⟩
  | ok y =>
   have HB:Hid (kindT ((l.map Stm.name).zip ks) b=.ok y):=hRB
   clear hRB
   by_cases hm:madeT op.text x y=0
   ·rw[kindT_bin3 HA.out HB.out hm]
    go_enter Tryz.func69,Tryz.ntmps69
    go_wp2_with (first | (go_at_call 100;refine (inside_any t ht _ _ h4 HV.out).mono ?_;rintro e _ ⟨⟨v',rfl,hr'⟩,rfl⟩;rw[HS.out] at hr';have HR':Hid (Reads _ v' _ _):=hr';clear hr';obtain ⟨g,o,cap,rfl,hncap,hlt,hc0⟩:=HR'.out.pos (by have:=HL.out;omega);have HC:Hid (∀ j u,(cellsR (Tr.bin op a b).toks)[j]?=some u→(w.alloc (.cells #[lv,kv] 42)).cell? ⟨g,o+j,none⟩=some u):=hc0;clear hc0) | (go_at_call 101;refine (root_any (Tr.bin op a b).toks _ _ (by have:=HL.out;omega) h4' HR'.out).mono ?_;rintro e _ ⟨rfl,rfl⟩;rw[HRT.out]))
    have hsl:=fun wx=>sl_h g o (Tr.bin op a b).toks.length cap a.toks.length a.toks.length rfl (by have:=HL.out;omega) (by have:=HL.out;omega) wx
    have hwr:IntKind.i64.wrap ((a.toks.length:Int)+1)=(a.toks.length:Int)+1:=IntWalk.i64_in _ ⟨by omega,by have:=HL.out;omega⟩
    have hsl2:=fun wx=>sl_l g o (Tr.bin op a b).toks.length cap (a.toks.length+1) ((a.toks.length:Int)+1) (by omega) (by have:=HL.out;omega) (by have:=HL.out;omega) wx
    have HRA:Hid (Reads (w.alloc (.cells #[lv,kv] 42)) (.slice (some ⟨g,o,none⟩) a.toks.length cap) a.toks.length (cellsR a.toks)):=reads_mid [] a.toks (op :: b.toks) (by simp[Tr.toks_bin]) hlt (by have:=HL.out;omega) HC.out
    have HRB:Hid (Reads (w.alloc (.cells #[lv,kv] 42)) (.slice (some ⟨g,o+(a.toks.length+1) * 2,none⟩) ((Tr.bin op a b).toks.length - (a.toks.length+1)) (cap - (a.toks.length+1))) b.toks.length (cellsR b.toks)):=by
     unfold Hid
     have:=reads_mid (a.toks++[op]) b.toks [] (by simp[Tr.toks_bin]) hlt (cap:=cap - (a.toks.length+1)) (by have:=HL.out;omega) HC.out
     rw[show (Tr.bin op a b).toks.length - (a.toks.length+1)=b.toks.length by have:=HL.out;omega]
     simpa using this
    have HOP:Hid ((cellsR (Tr.bin op a b).toks)[a.toks.length * 2]?=some (.string (bsOf op.text))∧(cellsR (Tr.bin op a b).toks)[a.toks.length * 2+1]?=some (.int .i64 op.at')):=by
     unfold Hid
     have:=cellsR_get (Tr.bin op a b).toks a.toks.length (by have:=HL.out;omega)
     simpa[Tr.toks_bin] using this
    go_region_held3 (fun w'=>w'.cell? ⟨w.heap.size,0,none⟩=some lv∧w'.cell? ⟨w.heap.size,1,none⟩=some kv) (go_keep) ((go_at_call 69;refine (IA _ _ lv kv (by have:=HL.out;omega) HRA.out.drew HLV.out.drew HKV.out.drew).mono ?_;rintro e w1 ⟨rfl,hb1⟩;rw[HA.out];simp only[resV];obtain ⟨k0,k1⟩:=box_cells hb1))
    go_wp2
    go_region_held3 (fun w'=>w'.cell? ⟨w.heap.size,0,none⟩=some lv∧w'.cell? ⟨w.heap.size,1,none⟩=some kv) (go_keep) ((go_at_call 69;refine (IB _ _ lv kv (by have:=HL.out;omega) (HRB.out.drew.below hb1).drew (HLV.out.drew.below hb1).drew (HKV.out.drew.below hb1).drew).mono ?_;rintro e w2 ⟨rfl,hb2⟩;rw[HB.out];simp only[resV];obtain ⟨k3,k4⟩:=box_cells2 hb1 hb2;have tx:=tok_cell hb1 hb2 hlt HC.out HOP.out.1;have ta:w2.cell? ⟨g,o+a.toks.length * 2+1,none⟩=some (.int .i64 op.at'):=tok_cell (off:=o) (j:=a.toks.length * 2+1) hb1 hb2 hlt HC.out HOP.out.2))
    go_wp2_with (go_at_call 107;refine (made_any _ _ _ _).mono ?_;rintro e _ ⟨rfl,rfl⟩;simp only[bsOf_toList])
    go_quiet (fail)
    go_wp2
    go_ret2
    exact ⟨rfl,below_drewN ((box_below hb1).drew.trans (hb2.mono (box_below hb1).size)) _⟩
   ·rw[kindT_bin4 HA.out HB.out hm]
    have hm':((madeT op.text x y:Nat):Int)≠0:=by omega
    go_enter Tryz.func69,Tryz.ntmps69
    go_wp2_with (first | (go_at_call 100;refine (inside_any t ht _ _ h4 HV.out).mono ?_;rintro e _ ⟨⟨v',rfl,hr'⟩,rfl⟩;rw[HS.out] at hr';have HR':Hid (Reads _ v' _ _):=hr';clear hr';obtain ⟨g,o,cap,rfl,hncap,hlt,hc0⟩:=HR'.out.pos (by have:=HL.out;omega);have HC:Hid (∀ j u,(cellsR (Tr.bin op a b).toks)[j]?=some u→(w.alloc (.cells #[lv,kv] 42)).cell? ⟨g,o+j,none⟩=some u):=hc0;clear hc0) | (go_at_call 101;refine (root_any (Tr.bin op a b).toks _ _ (by have:=HL.out;omega) h4' HR'.out).mono ?_;rintro e _ ⟨rfl,rfl⟩;rw[HRT.out]))
    have hsl:=fun wx=>sl_h g o (Tr.bin op a b).toks.length cap a.toks.length a.toks.length rfl (by have:=HL.out;omega) (by have:=HL.out;omega) wx
    have hwr:IntKind.i64.wrap ((a.toks.length:Int)+1)=(a.toks.length:Int)+1:=IntWalk.i64_in _ ⟨by omega,by have:=HL.out;omega⟩
    have hsl2:=fun wx=>sl_l g o (Tr.bin op a b).toks.length cap (a.toks.length+1) ((a.toks.length:Int)+1) (by omega) (by have:=HL.out;omega) (by have:=HL.out;omega) wx
    have HRA:Hid (Reads (w.alloc (.cells #[lv,kv] 42)) (.slice (some ⟨g,o,none⟩) a.toks.length cap) a.toks.length (cellsR a.toks)):=reads_mid [] a.toks (op :: b.toks) (by simp[Tr.toks_bin]) hlt (by have:=HL.out;omega) HC.out
    have HRB:Hid (Reads (w.alloc (.cells #[lv,kv] 42)) (.slice (some ⟨g,o+(a.toks.length+1) * 2,none⟩) ((Tr.bin op a b).toks.length - (a.toks.length+1)) (cap - (a.toks.length+1))) b.toks.length (cellsR b.toks)):=by
     unfold Hid
     have:=reads_mid (a.toks++[op]) b.toks [] (by simp[Tr.toks_bin]) hlt (cap:=cap - (a.toks.length+1)) (by have:=HL.out;omega) HC.out
     rw[show (Tr.bin op a b).toks.length - (a.toks.length+1)=b.toks.length by have:=HL.out;omega]
     simpa using this
    have HOP:Hid ((cellsR (Tr.bin op a b).toks)[a.toks.length * 2]?=some (.string (bsOf op.text))∧(cellsR (Tr.bin op a b).toks)[a.toks.length * 2+1]?=some (.int .i64 op.at')):=by
     unfold Hid
     have:=cellsR_get (Tr.bin op a b).toks a.toks.length (by have:=HL.out;omega)
     simpa[Tr.toks_bin] using this
    go_region_held3 (fun w'=>w'.cell? ⟨w.heap.size,0,none⟩=some lv∧w'.cell? ⟨w.heap.size,1,none⟩=some kv) (go_keep) ((go_at_call 69;refine (IA _ _ lv kv (by have:=HL.out;omega) HRA.out.drew HLV.out.drew HKV.out.drew).mono ?_;rintro e w1 ⟨rfl,hb1⟩;rw[HA.out];simp only[resV];obtain ⟨k0,k1⟩:=box_cells hb1))
    go_wp2
    go_region_held3 (fun w'=>w'.cell? ⟨w.heap.size,0,none⟩=some lv∧w'.cell? ⟨w.heap.size,1,none⟩=some kv) (go_keep) ((go_at_call 69;refine (IB _ _ lv kv (by have:=HL.out;omega) (HRB.out.drew.below hb1).drew (HLV.out.drew.below hb1).drew (HKV.out.drew.below hb1).drew).mono ?_;rintro e w2 ⟨rfl,hb2⟩;rw[HB.out];simp only[resV];obtain ⟨k3,k4⟩:=box_cells2 hb1 hb2;have tx:=tok_cell hb1 hb2 hlt HC.out HOP.out.1;have ta:w2.cell? ⟨g,o+a.toks.length * 2+1,none⟩=some (.int .i64 op.at'):=tok_cell (off:=o) (j:=a.toks.length * 2+1) hb1 hb2 hlt HC.out HOP.out.2))
    go_wp2_with (go_at_call 107;refine (made_any _ _ _ _).mono ?_;rintro e _ ⟨rfl,rfl⟩;simp only[bsOf_toList])
    go_ret2
    exact ⟨rfl,(box_below hb1).drew.trans (hb2.mono (box_below hb1).size)⟩
set_option maxHeartbeats 1000000 in
theorem kindR_un (l:List Stm) (ks:List Nat) (t:Tr) (ht:t.wf) (op:RTok) (a:Tr) (hs:t.strip=.un op a) (IA:KindOk l ks a):KindOk l ks t:=by
 intro v w lv kv h4 hv hlv hkv
 have HSW:Hid (Tr.un op a).wf:=(hs ▸ t.strip_wf ht:(Tr.un op a).wf)
 have hlen:(Tr.un op a).toks.length=a.toks.length+1:=by simp[Tr.toks_un]
 have h4':(Tr.un op a).toks.length≤400:=by rw[← hs];exact Nat.le_trans t.strip_len h4
 have hap:=a.toks_pos
 have h0:0 < (Tr.un op a).toks.length:=by omega
 have h0':(0:Int) < (Tr.un op a).toks.length:=by omega
 have HRT:Hid (rootR (Tr.un op a).toks=-1):=root_none _ HSW.out rfl
 rw[kindT_of_strip,hs]
 have HL:Hid ((Tr.un op a).toks.length=a.toks.length+1):=hlen
 have HV:Hid (Reads (w.alloc (.cells #[lv,kv] 42)) v t.toks.length (cellsR t.toks)):=hv.alloc _
 have HLV:Hid (Reads (w.alloc (.cells #[lv,kv] 42)) lv l.length (cellsS l)):=hlv.alloc _
 have HKV:Hid (Reads (w.alloc (.cells #[lv,kv] 42)) kv ks.length (cellsI ks)):=hkv.alloc _
 have HS:Hid (t.strip=.un op a):=hs
 clear hs hv hlv hkv hlen
 cases hRA:kindT ((l.map Stm.name).zip ks) a with
 | error p =>
  rw[kindT_un1 hRA]
  have HA:Hid (kindT ((l.map Stm.name).zip ks) a=.error p):=hRA
  clear hRA
  go_enter Tryz.func69,Tryz.ntmps69
  go_wp2_with (first | (go_at_call 100;refine (inside_any t ht _ _ h4 HV.out).mono ?_;rintro e _ ⟨⟨v',rfl,hr'⟩,rfl⟩;rw[HS.out] at hr';have HR':Hid (Reads _ v' _ _):=hr';clear hr';obtain ⟨g,o,cap,rfl,hncap,hlt,hc0⟩:=HR'.out.pos (by have:=HL.out;omega);have HC:Hid (∀ j u,(cellsR (Tr.un op a).toks)[j]?=some u→(w.alloc (.cells #[lv,kv] 42)).cell? ⟨g,o+j,none⟩=some u):=hc0;clear hc0) | (go_at_call 101;refine (root_any (Tr.un op a).toks _ _ (by have:=HL.out;omega) h4' HR'.out).mono ?_;rintro e _ ⟨rfl,rfl⟩;rw[HRT.out]) | (go_at_call 102;refine (one_any (Tr.un op a) HSW.out rfl (by intro _ _ _ h;cases h) _ _ h4' HR'.out).mono ?_;rintro e _ ⟨rfl,rfl⟩;simp only[Tr.isUn_un]))
  have hsl2:=fun wx=>sl_l g o (Tr.un op a).toks.length cap 1 1 (by omega) (by have:=HL.out;omega) (by have:=HL.out;omega) wx
  have HRA:Hid (Reads (w.alloc (.cells #[lv,kv] 42)) (.slice (some ⟨g,o+1 * 2,none⟩) ((Tr.un op a).toks.length - 1) (cap - 1)) a.toks.length (cellsR a.toks)):=by
   unfold Hid
   have:=reads_mid [op] a.toks [] (by simp[Tr.toks_un]) hlt (cap:=cap - 1) (by have:=HL.out;omega) HC.out
   rw[show (Tr.un op a).toks.length - 1=a.toks.length by have:=HL.out;omega]
   exact this
  have HOP:Hid ((cellsR (Tr.un op a).toks)[0]?=some (.string (bsOf op.text))∧(cellsR (Tr.un op a).toks)[1]?=some (.int .i64 op.at')):=by
   unfold Hid
   exact cellsR_get (Tr.un op a).toks 0 h0
  go_region_held3 (fun w'=>w'.cell? ⟨w.heap.size,0,none⟩=some lv∧w'.cell? ⟨w.heap.size,1,none⟩=some kv) (go_keep) ((go_at_call 69;refine (IA _ _ lv kv (by have:=HL.out;omega) HRA.out.drew HLV.out.drew HKV.out.drew).mono ?_;rintro e w1 ⟨rfl,hb1⟩;rw[HA.out];simp only[resV];obtain ⟨k0,k1⟩:=box_cells hb1;have tx:w1.cell? ⟨g,o,none⟩=some (.string (bsOf op.text)):=tok_cell1 hb1 hlt HC.out HOP.out.1;have ta:w1.cell? ⟨g,o+1,none⟩=some (.int .i64 op.at'):=tok_cell1 hb1 hlt HC.out HOP.out.2))
  go_wp2
  go_ret2
  exact ⟨rfl,box_below hb1⟩
 | ok x =>
  have HA:Hid (kindT ((l.map Stm.name).zip ks) a=.ok x):=hRA
  clear hRA
  by_cases hm:madeT op.text x x=0
  ·rw[kindT_un2 HA.out hm]
   go_enter Tryz.func69,Tryz.ntmps69
   go_wp2_with (first | (go_at_call 100;refine (inside_any t ht _ _ h4 HV.out).mono ?_;rintro e _ ⟨⟨v',rfl,hr'⟩,rfl⟩;rw[HS.out] at hr';have HR':Hid (Reads _ v' _ _):=hr';clear hr';obtain ⟨g,o,cap,rfl,hncap,hlt,hc0⟩:=HR'.out.pos (by have:=HL.out;omega);have HC:Hid (∀ j u,(cellsR (Tr.un op a).toks)[j]?=some u→(w.alloc (.cells #[lv,kv] 42)).cell? ⟨g,o+j,none⟩=some u):=hc0;clear hc0) | (go_at_call 101;refine (root_any (Tr.un op a).toks _ _ (by have:=HL.out;omega) h4' HR'.out).mono ?_;rintro e _ ⟨rfl,rfl⟩;rw[HRT.out]) | (go_at_call 102;refine (one_any (Tr.un op a) HSW.out rfl (by intro _ _ _ h;cases h) _ _ h4' HR'.out).mono ?_;rintro e _ ⟨rfl,rfl⟩;simp only[Tr.isUn_un]))
   have hsl2:=fun wx=>sl_l g o (Tr.un op a).toks.length cap 1 1 (by omega) (by have:=HL.out;omega) (by have:=HL.out;omega) wx
   have HRA:Hid (Reads (w.alloc (.cells #[lv,kv] 42)) (.slice (some ⟨g,o+1 * 2,none⟩) ((Tr.un op a).toks.length - 1) (cap - 1)) a.toks.length (cellsR a.toks)):=by
    unfold Hid
    have:=reads_mid [op] a.toks [] (by simp[Tr.toks_un]) hlt (cap:=cap - 1) (by have:=HL.out;omega) HC.out
    rw[show (Tr.un op a).toks.length - 1=a.toks.length by have:=HL.out;omega]
    exact this
   have HOP:Hid ((cellsR (Tr.un op a).toks)[0]?=some (.string (bsOf op.text))∧(cellsR (Tr.un op a).toks)[1]?=some (.int .i64 op.at')):=by
    unfold Hid
    exact cellsR_get (Tr.un op a).toks 0 h0
   go_region_held3 (fun w'=>w'.cell? ⟨w.heap.size,0,none⟩=some lv∧w'.cell? ⟨w.heap.size,1,none⟩=some kv) (go_keep) ((go_at_call 69;refine (IA _ _ lv kv (by have:=HL.out;omega) HRA.out.drew HLV.out.drew HKV.out.drew).mono ?_;rintro e w1 ⟨rfl,hb1⟩;rw[HA.out];simp only[resV];obtain ⟨k0,k1⟩:=box_cells hb1;have tx:w1.cell? ⟨g,o,none⟩=some (.string (bsOf op.text)):=tok_cell1 hb1 hlt HC.out HOP.out.1;have ta:w1.cell? ⟨g,o+1,none⟩=some (.int .i64 op.at'):=tok_cell1 hb1 hlt HC.out HOP.out.2))
   go_wp2_with (go_at_call 107;refine (made_any _ _ _ _).mono ?_;rintro e _ ⟨rfl,rfl⟩;simp only[bsOf_toList])
   go_quiet (fail)
   go_wp2
   go_ret2
   exact ⟨rfl,below_drewN (box_below hb1) _⟩
  ·rw[kindT_un3 HA.out hm]
   have hm':((madeT op.text x x:Nat):Int)≠0:=by omega
   go_enter Tryz.func69,Tryz.ntmps69
   go_wp2_with (first | (go_at_call 100;refine (inside_any t ht _ _ h4 HV.out).mono ?_;rintro e _ ⟨⟨v',rfl,hr'⟩,rfl⟩;rw[HS.out] at hr';have HR':Hid (Reads _ v' _ _):=hr';clear hr';obtain ⟨g,o,cap,rfl,hncap,hlt,hc0⟩:=HR'.out.pos (by have:=HL.out;omega);have HC:Hid (∀ j u,(cellsR (Tr.un op a).toks)[j]?=some u→(w.alloc (.cells #[lv,kv] 42)).cell? ⟨g,o+j,none⟩=some u):=hc0;clear hc0) | (go_at_call 101;refine (root_any (Tr.un op a).toks _ _ (by have:=HL.out;omega) h4' HR'.out).mono ?_;rintro e _ ⟨rfl,rfl⟩;rw[HRT.out]) | (go_at_call 102;refine (one_any (Tr.un op a) HSW.out rfl (by intro _ _ _ h;cases h) _ _ h4' HR'.out).mono ?_;rintro e _ ⟨rfl,rfl⟩;simp only[Tr.isUn_un]))
   have hsl2:=fun wx=>sl_l g o (Tr.un op a).toks.length cap 1 1 (by omega) (by have:=HL.out;omega) (by have:=HL.out;omega) wx
   have HRA:Hid (Reads (w.alloc (.cells #[lv,kv] 42)) (.slice (some ⟨g,o+1 * 2,none⟩) ((Tr.un op a).toks.length - 1) (cap - 1)) a.toks.length (cellsR a.toks)):=by
    unfold Hid
    have:=reads_mid [op] a.toks [] (by simp[Tr.toks_un]) hlt (cap:=cap - 1) (by have:=HL.out;omega) HC.out
    rw[show (Tr.un op a).toks.length - 1=a.toks.length by have:=HL.out;omega]
    exact this
   have HOP:Hid ((cellsR (Tr.un op a).toks)[0]?=some (.string (bsOf op.text))∧(cellsR (Tr.un op a).toks)[1]?=some (.int .i64 op.at')):=by
    unfold Hid
    exact cellsR_get (Tr.un op a).toks 0 h0
   go_region_held3 (fun w'=>w'.cell? ⟨w.heap.size,0,none⟩=some lv∧w'.cell? ⟨w.heap.size,1,none⟩=some kv) (go_keep) ((go_at_call 69;refine (IA _ _ lv kv (by have:=HL.out;omega) HRA.out.drew HLV.out.drew HKV.out.drew).mono ?_;rintro e w1 ⟨rfl,hb1⟩;rw[HA.out];simp only[resV];obtain ⟨k0,k1⟩:=box_cells hb1;have tx:w1.cell? ⟨g,o,none⟩=some (.string (bsOf op.text)):=tok_cell1 hb1 hlt HC.out HOP.out.1;have ta:w1.cell? ⟨g,o+1,none⟩=some (.int .i64 op.at'):=tok_cell1 hb1 hlt HC.out HOP.out.2))
   go_wp2_with (go_at_call 107;refine (made_any _ _ _ _).mono ?_;rintro e _ ⟨rfl,rfl⟩;simp only[bsOf_toList])
   go_ret2
   exact ⟨rfl,box_below hb1⟩
end Go.Proofs.YtldfkcpbjooemaaGreatDoor
namespace Go.Proofs.YtldfkcpbjooemaaGreatDoor
open Go.RowKit Go.Deep
set_option maxHeartbeats 1000000 in
theorem kind_leaf (l:List Stm) (ks:List Nat) (hk:ks.length=l.length) (hl4:l.length≤400) (t:Tr) (ht:t.wf) (a:RTok) (hs:t.strip=.leaf a) (hne:a.text≠[]):KindOk l ks t:=by
 intro v w lv kv h4 hv hlv hkv
 have HSW:Hid (Tr.leaf a).wf:=(hs ▸ t.strip_wf ht:(Tr.leaf a).wf)
 have h4':(Tr.leaf a).toks.length≤400:=by rw[← hs];exact Nat.le_trans t.strip_len h4
 have h0:0 < (Tr.leaf a).toks.length:=by simp[Tr.toks_leaf]
 have HRT:Hid (rootR (Tr.leaf a).toks=-1):=root_none _ HSW.out rfl
 have hz:Hid (0 < (bsOf a.text).size):=(by rw[bsOf_size];exact List.length_pos_iff.2 hne:0 < (bsOf a.text).size)
 rw[kindT_of_strip,hs]
 have HV:Hid (Reads (w.alloc (.cells #[lv,kv] 42)) v t.toks.length (cellsR t.toks)):=hv.alloc _
 have HLV:Hid (Reads (w.alloc (.cells #[lv,kv] 42)) lv l.length (cellsS l)):=hlv.alloc _
 have HKV:Hid (Reads (w.alloc (.cells #[lv,kv] 42)) kv ks.length (cellsI ks)):=hkv.alloc _
 have HS:Hid (t.strip=.leaf a):=hs
 have HKK:Hid (ks.length=l.length):=hk
 clear hs hv hlv hkv hk
 cases hn:nameT a.text
 ·have hkt:kindT ((l.map Stm.name).zip ks) (.leaf a)=.ok (leafKindT a.text):=by simp[kindT_leaf,hn]
  rw[hkt];clear hkt
  go_enter Tryz.func69,Tryz.ntmps69
  go_wp2_with (first | (go_at_call 100;refine (inside_any t ht _ _ h4 HV.out).mono ?_;rintro e _ ⟨⟨v',rfl,hr'⟩,rfl⟩;rw[HS.out] at hr';have HR':Hid (Reads _ v' _ _):=hr';clear hr';obtain ⟨g,o,cap,rfl,hncap,hlt,hc0⟩:=HR'.out.pos h0;have tx:(w.alloc (.cells #[lv,kv] 42)).cell? ⟨g,o,none⟩=some (.string (bsOf a.text)):=hc0 0 _ (cellsR_get (Tr.leaf a).toks 0 h0).1;clear hc0) | (go_at_call 101;refine (root_any (Tr.leaf a).toks _ _ h0 h4' HR'.out).mono ?_;rintro e _ ⟨rfl,rfl⟩;rw[HRT.out]) | (go_at_call 102;refine (one_any (Tr.leaf a) HSW.out rfl (by intro _ _ _ h;cases h) _ _ h4' HR'.out).mono ?_;rintro e _ ⟨rfl,rfl⟩;simp only[Tr.isUn_leaf]) | (go_at_call 65;refine (isName_any _ hz.out _).mono ?_;rintro e w1 ⟨rfl,hb1⟩;simp only[bsOf_toList,hn];have tx1:=(hb1.cell (p:=⟨g,o,none⟩) hlt).trans tx) | (go_at_call 109;refine (leafKind_any _ _).mono ?_;rintro e w2 ⟨rfl,hb2⟩;simp only[bsOf_toList]))
  go_ret2
  exact ⟨rfl,(((Below.refl w.heap.size w).alloc (Nat.le_refl _) _).trans (hb1.mono (by simp))).trans (hb2.mono (by have:=hb1.size;simp at this;omega))⟩
 ·have hkt:kindT ((l.map Stm.name).zip ks) (.leaf a)=.ok (knownT ((l.map Stm.name).zip ks) a.text):=by simp[kindT_leaf,hn]
  rw[hkt];clear hkt
  go_enter Tryz.func69,Tryz.ntmps69
  go_wp2_with (first | (go_at_call 100;refine (inside_any t ht _ _ h4 HV.out).mono ?_;rintro e _ ⟨⟨v',rfl,hr'⟩,rfl⟩;rw[HS.out] at hr';have HR':Hid (Reads _ v' _ _):=hr';clear hr';obtain ⟨g,o,cap,rfl,hncap,hlt,hc0⟩:=HR'.out.pos h0;have tx:(w.alloc (.cells #[lv,kv] 42)).cell? ⟨g,o,none⟩=some (.string (bsOf a.text)):=hc0 0 _ (cellsR_get (Tr.leaf a).toks 0 h0).1;clear hc0) | (go_at_call 101;refine (root_any (Tr.leaf a).toks _ _ h0 h4' HR'.out).mono ?_;rintro e _ ⟨rfl,rfl⟩;rw[HRT.out]) | (go_at_call 102;refine (one_any (Tr.leaf a) HSW.out rfl (by intro _ _ _ h;cases h) _ _ h4' HR'.out).mono ?_;rintro e _ ⟨rfl,rfl⟩;simp only[Tr.isUn_leaf]) | (go_at_call 65;refine (isName_any _ hz.out _).mono ?_;rintro e w1 ⟨rfl,hb1⟩;simp only[bsOf_toList,hn];have tx1:=(hb1.cell (p:=⟨g,o,none⟩) hlt).trans tx;have k0:=(hb1.cell (p:=⟨w.heap.size,0,none⟩) (by simp)).trans (show (w.alloc (.cells #[lv,kv] 42)).cell? ⟨w.heap.size,0,none⟩=some lv by simp);have k1:=(hb1.cell (p:=⟨w.heap.size,1,none⟩) (by simp)).trans (show (w.alloc (.cells #[lv,kv] 42)).cell? ⟨w.heap.size,1,none⟩=some kv by simp)))
  go_region_held3 (fun w'=>w'.cell? ⟨w.heap.size,0,none⟩=some lv∧w'.cell? ⟨w.heap.size,1,none⟩=some kv∧w'.cell? ⟨g,o,none⟩=some (.string (bsOf a.text))) (go_keep) ((go_at_call 108;refine (known_any l ks HKK.out hl4 _ lv kv _ (HLV.out.below hb1).drew (HKV.out.below hb1).drew).mono ?_;rintro e w2 ⟨rfl,hb2⟩;simp only[bsOf_toList];have k2:=(hb2.cell (p:=⟨w.heap.size,0,none⟩) (by have:=hb1.size;simp at this ⊢;omega)).trans k0;have k3:=(hb2.cell (p:=⟨w.heap.size,1,none⟩) (by have:=hb1.size;simp at this ⊢;omega)).trans k1;have k4:=(hb2.cell (p:=⟨g,o,none⟩) (Nat.lt_of_lt_of_le hlt hb1.size)).trans tx1))
  go_wp2
  go_ret2
  exact ⟨rfl,(((Below.refl w.heap.size w).alloc (Nat.le_refl _) _).trans (hb1.mono (by simp))).drew.trans (hb2.mono (by have:=hb1.size;simp at this ⊢;omega))⟩
def Tr.texts (t:Tr):Prop:=∀ x∈t.toks,x.text≠[]
theorem stripB_sub:∀ t:BT (RTok × RTok),∀ x∈toksB (stripB t),x∈toksB t
 | .nil,_,hx=>hx
 | .node 0 _ _ _ _,_,hx=>hx
 | .node 1 _ _ _ _,_,hx=>hx
 | .node 2 _ _ _ _,_,hx=>hx
 | .node 3 _ a e _,x,hx=>by simp only[toksB,List.mem_cons,List.mem_append];exact .inr (.inl (stripB_sub e x hx))
 | .node (_+4) _ _ _ _,_,hx=>hx
theorem Tr.strip_sub (t:Tr):∀ x∈t.strip.toks,x∈t.toks:=stripB_sub t
theorem Tr.strip_not_par (t:Tr) (h:t.wf):∀ o e c,t.strip≠.par o e c:=by
 refine Tr.ind (P:=fun t=>∀ o e c,t.strip≠.par o e c) t h ?_ ?_ ?_ ?_
 ·intro a _ o e c h;cases h
 ·intro op e _ _ o e' c h;cases h
 ·intro op l r _ _ _ o e c h;cases h
 ·intro o e c _ ih;exact ih
theorem kind_all (l:List Stm) (ks:List Nat) (hk:ks.length=l.length) (hl4:l.length≤400):∀ (n:Nat) (t:Tr),t.toks.length≤n→t.wf→t.texts→KindOk l ks t
 | 0,t,hn,_,_=>by have:=t.toks_pos;omega
 | n+1,t,hn,hw,ht=>by
  have hsw:=t.strip_wf hw
  have hsl:=t.strip_len
  have hst:t.strip.texts:=fun x hx=>ht x (t.strip_sub x hx)
  rcases t.strip.cases hsw with ⟨a,hs⟩ | ⟨op,e,hs⟩ | ⟨op,a,b,hs⟩ | ⟨o,e,c,hs⟩
  ·refine kind_leaf l ks hk hl4 t hw a hs ?_
   rw[hs] at hst
   exact hst a (by simp[Tr.toks_leaf])
  ·rw[hs] at hsw hsl hst
   refine kindR_un l ks t hw op e hs (kind_all l ks hk hl4 n e ?_ (Tr.wf_un hsw).2.2 (fun x hx=>hst x (by simp[Tr.toks_un,hx])))
   simp[Tr.toks_un] at hsl
   omega
  ·rw[hs] at hsw hsl hst
   have ha:=a.toks_pos
   have hb:=b.toks_pos
   simp[Tr.toks_bin] at hsl
   exact kindR_bin l ks t hw op a b hs (kind_all l ks hk hl4 n a (by omega) (Tr.wf_bin hsw).2.2.2.2.2.1 (fun x hx=>hst x (by simp[Tr.toks_bin,hx]))) (kind_all l ks hk hl4 n b (by omega) (Tr.wf_bin hsw).2.2.2.2.2.2 (fun x hx=>hst x (by simp[Tr.toks_bin,hx])))
  ·exact absurd hs (t.strip_not_par hw o e c)
end Go.Proofs.YtldfkcpbjooemaaGreatDoor
