/-
  The program's reader: its small functions.
-/
import Derived.Test.YtldfkcpbjooemaaGreatDoorG19
import Derived.Deep.RegionHeld3
import Derived.Deep.RegionLaw
import Derived.Deep.DeepCutAuto
import Derived.Deep.AppendLies
set_option linter.unusedVariables false
set_option linter.unusedSimpArgs false
namespace Go.Proofs.YtldfkcpbjooemaaGreatDoor
open Go.RowKit Go.Deep
def tokA (t:RTok):Value:=.agg #[.int .i64 (kindP t.text),.int .i64 t.at',.string (bsOf t.text)]
theorem tok_end {w W:World} (hb:Below w.heap.size w W) (a b c:Value):Below w.heap.size w (((W.setCell ⟨w.heap.size,0,none⟩ a).setCell ⟨w.heap.size,1,none⟩ b).setCell ⟨w.heap.size,2,none⟩ c) :=
 ((hb.setCell (p:=⟨w.heap.size,0,none⟩) (Nat.le_refl _) a).setCell (p:=⟨w.heap.size,1,none⟩) (Nat.le_refl _) b).setCell (p:=⟨w.heap.size,2,none⟩) (Nat.le_refl _) c
theorem new_below (w:World) (o:Obj):Below w.heap.size w (w.alloc o):=(Below.refl _ _).alloc (Nat.le_refl _) o
set_option maxHeartbeats 1000000 in
theorem current_any (B:Nat) (S:RS) (w:World) (h:RdAt w B S) (hk:S.k < S.T.length) :
  Calls Tryz.prog 55 #[.pointer (some ⟨B,0,none⟩)] w fun e w'=>e=.returned (tokA S.T[S.k])∧Below w.heap.size w w':=by
 obtain ⟨g,cap,hv,hcap,hg,hc⟩:=h.shape
 have htl:=h.tl
 have hB:=h.blk.lt
 have c0:=h.blk.cell 0
 have c1:=h.blk.cell 1
 simp only[List.getElem?_toArray,List.getElem?_cons_zero,List.getElem?_cons_succ] at c0 c1
 rw[hv] at c0
 obtain ⟨g0,g1,g2⟩:=cellsT_get S.T S.k hk
 have d0:=hc _ _ g0
 have d1:=hc _ _ g1
 have d2:=hc _ _ g2
 clear hc g0 g1 g2 h hv
 unfold tokA
 generalize S.T[S.k]=t at *
 obtain ⟨kd,hkd⟩:∃ kd,kd=kindP t.text:=⟨_,rfl⟩
 rw[← hkd] at d0 ⊢
 clear hkd
 generalize hn:S.T.length=n at *
 clear hn
 generalize hkk:S.k=k at *
 clear hkk
 go_enter Tryz.func55,Tryz.ntmps55
 go_wp2
 go_quiet (fail)
 go_wp2
 go_region
 all_goals
  go_wp2
  refine bodyPost_ret (v:=.agg #[.int .i64 kd,.int .i64 t.at',.string (bsOf t.text)]) (by simp[results,Tryz.results55,go_sem]) rfl ⟨rfl, ?_⟩
  exact tok_end (below_drewN (new_below w _) _) _ _ _
set_option maxHeartbeats 1000000 in
theorem sees_any (B:Nat) (S:RS) (w:World) (h:RdAt w B S) (hk:S.k < S.T.length) (n:Nat) :
  Calls Tryz.prog 91 #[.pointer (some ⟨B,0,none⟩),.int .i64 n] w fun e w'=>e=.returned (.bool (!S.f&&kindP S.T[S.k].text==n))∧Below w.heap.size w w':=by
 have HR:=hideP h
 have hB:=h.blk.lt
 clear h
 go_enter Tryz.func91,Tryz.ntmps91
 go_wp2_with (go_at_call 55;refine (current_any B S _ HR.out hk).mono ?_;rintro e w1 ⟨rfl,hb1⟩;unfold tokA;replace HR:=hideP (HR.out.below hb1);have c3:=HR.out.blk.cell 3;have hB1:=HR.out.blk.lt;simp only[List.getElem?_toArray,List.getElem?_cons_zero,List.getElem?_cons_succ] at c3)
 all_goals go_ret
 all_goals refine ⟨ret_bool ?_,hb1.alloc (by have:=hb1.size;omega) _⟩
 ·simp_all
 ·have hf:S.f=false:=by simp_all
  rw[hf,Bool.eq_iff_iff]
  simp only[Bool.not_false,Bool.true_and,beq_iff_eq]
  omega
set_option maxHeartbeats 1000000 in
theorem take_yes (B:Nat) (S:RS) (w:World) (h:RdAt w B S) (hk:S.k < S.T.length) (n:Nat) (hs:S.f=false) (hn:kindP S.T[S.k].text=n) (hk2:S.k+1 < S.T.length) :
  Calls Tryz.prog 136 #[.pointer (some ⟨B,0,none⟩),.int .i64 n] w fun e w'=>e=.returned (.tuple #[])∧RdAt w' B { S with k:=S.k+1 }∧KeepN B w w':=by
 have HR:=hideP h
 have HN:=hideP hn
 have HS:=hideP hs
 have hB:=h.blk.lt
 have htl:=h.tl
 clear h hn hs
 go_enter Tryz.func136,Tryz.ntmps136
 go_wp2_with (go_at_call 91;refine (sees_any B S _ HR.out hk n).mono ?_;rintro e w1 ⟨rfl,hb1⟩;rw[HN.out,HS.out];simp only[Bool.not_false,Bool.true_and,beq_self_eq_true];replace HR:=hideP (HR.out.below hb1);have c1:=HR.out.blk.cell 1;have f1:=HR.out.blk.free 1;have hB1:=HR.out.blk.lt;simp only[List.getElem?_toArray,List.getElem?_cons_zero,List.getElem?_cons_succ] at c1)
 have R:=HR.out.setK (S.k+1) hk2 (by omega)
 refine bodyPost_end (results_none rfl _ _ _) rfl ?_
 exact ⟨rfl,R,(KeepN.of hb1).trans (KeepN.set B 1 _)⟩
set_option maxHeartbeats 1000000 in
theorem take_no (B:Nat) (S:RS) (w:World) (h:RdAt w B S) (hk:S.k < S.T.length) (n:Nat) (hs:S.f=true∨kindP S.T[S.k].text≠n) :
  Calls Tryz.prog 136 #[.pointer (some ⟨B,0,none⟩),.int .i64 n] w fun e w'=>e=.returned (.tuple #[])∧RdAt w' B { S with f:=true }∧KeepN B w w':=by
 have HR:=hideP h
 have hb:(!S.f&&kindP S.T[S.k].text==n)=false:=by
  rcases hs with hs | hs
  ·simp[hs]
  ·simp[hs]
 have HN:=hideP hb
 have hB:=h.blk.lt
 have htl:=h.tl
 clear h hb hs
 go_enter Tryz.func136,Tryz.ntmps136
 go_wp2_with (go_at_call 91;refine (sees_any B S _ HR.out hk n).mono ?_;rintro e w1 ⟨rfl,hb1⟩;rw[HN.out];replace HR:=hideP (HR.out.below hb1);have c1:=HR.out.blk.cell 3;have f1:=HR.out.blk.free 3;have hB1:=HR.out.blk.lt;simp only[List.getElem?_toArray,List.getElem?_cons_zero,List.getElem?_cons_succ] at c1)
 have R:=HR.out.setF true
 refine bodyPost_end (results_none rfl _ _ _) rfl ?_
 exact ⟨rfl,R,(KeepN.of hb1).trans (KeepN.set B 3 _)⟩
set_option maxHeartbeats 1000000 in
theorem currentBinding_any (B:Nat) (S:RS) (w:World) (h:RdAt w B S) (hk:S.k < S.T.length) :
  Calls Tryz.prog 181 #[.pointer (some ⟨B,0,none⟩)] w fun e w'=>e=.returned (.int .i64 ((if S.f then 0 else bindK (kindP S.T[S.k].text):Nat):Int))∧Below w.heap.size w w':=by
 have HR:=hideP h
 have hB:=h.blk.lt
 have c3:=h.blk.cell 3
 simp only[List.getElem?_toArray,List.getElem?_cons_zero,List.getElem?_cons_succ] at c3
 clear h
 cases hf:S.f
 ·rw[hf] at c3
  clear hf
  go_enter Tryz.func181,Tryz.ntmps181
  go_wp2_with (first | (go_at_call 55;refine (current_any B S _ HR.out hk).mono ?_;rintro e w1 ⟨rfl,hb1⟩;unfold tokA;replace HR:=hideP (HR.out.below hb1)) | (go_at_call 184;refine (binding_any _ _).mono ?_;rintro e w2 ⟨rfl,rfl⟩))
  go_ret
  exact ⟨ret_int (by simp),hb1.alloc (by have:=hb1.size;omega) _⟩
 ·rw[hf] at c3
  clear hf
  go_enter Tryz.func181,Tryz.ntmps181
  go_wp2
  go_ret
  exact ⟨ret_int (by simp),Below.refl _ _⟩
def nodA (n:PNode):Value:=.agg #[.int .i64 (kindP n.tok.text),.int .i64 n.tok.at',.string (bsOf n.tok.text),.int .i64 n.ops,.int .i64 n.left,.int .i64 n.right]
theorem Tryz.infoNode:(Tryz.prog.info? 175).map (fun i=>(i.zero,i.size,i.bytes))=some (some (.agg #[.int .i64 0,.int .i64 0,.string ⟨#[]⟩,.int .i64 0,.int .i64 0,.int .i64 0]),6,56):=by kernel_rfl
end Go.Proofs.YtldfkcpbjooemaaGreatDoor
namespace Go.Proofs.YtldfkcpbjooemaaGreatDoor
open Go.RowKit Go.Deep
theorem one_nod (n:PNode):∀ u∈cellN n,u.oneCell'=true:=by
 intro u hu
 simp[cellN] at hu
 rcases hu with rfl | rfl | rfl | rfl | rfl | rfl <;> rfl
theorem cellsN_snoc (l:List PNode) (n:PNode):cellsN (l++[n])=cellsN l++cellN n:=by simp[cellsN]
theorem rd_added {w w3:World} {B:Nat} {S:RS} {n:PNode} {v:Value} {kd:Nat} (h:RdAt w B S) (ho:w3.ownsRow (B+1) 175 6 v (S.ns.length+1) (cellsN S.ns++[.int .i64 kd,.int .i64 n.tok.at',.string (bsOf n.tok.text),.int .i64 n.ops,.int .i64 n.left,.int .i64 n.right])) (hg:w.grownBy w3 S.nv.ownBlock) (hkd:kindP n.tok.text=kd) (hn:S.ns.length+1≤S.k) :
  RdAt (w3.setCell ⟨B,4,none⟩ v) B { S with nv:=v,ns:=S.ns++[n] }∧KeepN B w (w3.setCell ⟨B,4,none⟩ v):=by
 have hk:=KeepN.grown h.ond hg
 have hneB:some B≠S.nv.ownBlock:=by intro e;have:=(h.ond.lt B e.symm).1;omega
 have hb:Blk w3 B #[S.tv,.int .i64 S.k,.int .i64 S.d,.bool S.f,S.nv,S.lv,S.rv] 105:=by
  unfold Blk;rw[hg.block B h.blk.lt hneB];exact h.blk
 subst hkd
 refine ⟨⟨hb.set 4 v,own_set (own_keepN h.otk h.blk (by decide) (by decide) hk) hb (by decide), ?_,own_set (own_keepN h.olt h.blk (by decide) (by decide) hk) hb (by decide),own_set (own_keepN h.orl h.blk (by decide) (by decide) hk) hb (by decide),h.kt,h.tl,by simpa using hn,h.dl⟩,hk.trans (KeepN.set B 4 v)⟩
 have:=own_set (i:=4) (u:=v) ho hb (by decide)
 simpa[cellsN_snoc,cellN] using this
set_option maxHeartbeats 2000000 in
set_option maxRecDepth 100000 in
theorem add_any (B:Nat) (S:RS) (w:World) (h:RdAt w B S) (n:PNode) (hn:S.ns.length+1≤S.k) :
  Calls Tryz.prog 182 #[.pointer (some ⟨B,0,none⟩),nodA n] w fun e w'=>e=.returned (.int .i64 (S.ns.length:Nat))∧(∃ nv,RdAt w' B { S with nv:=nv,ns:=S.ns++[n] })∧KeepN B w w':=by
 obtain ⟨i0,hi,hz0,hz1,hz2⟩:=info_parts Tryz.infoNode
 have HR:=hideP h
 have hB:=h.blk.lt
 have htl:=h.tl
 have hkt:=h.kt
 have c4:=h.blk.cell 4
 have f4:=h.blk.free 4
 simp only[List.getElem?_toArray,List.getElem?_cons_zero,List.getElem?_cons_succ] at c4
 have hOn:=h.ond
 clear h
 unfold nodA
 generalize hkd:kindP n.tok.text=kd
 have HKD:=hideP hkd
 clear hkd
 go_enter Tryz.func182,Tryz.ntmps182
 go_wp2
 have hneB:S.nv.ownBlock≠some B:=by intro e;have:=(hOn.lt B e).1;omega
 have HW:=hideP (((HR.out.alloc (.cells #[.int .i64 kd,.int .i64 n.tok.at',.string (bsOf n.tok.text),.int .i64 n.ops,.int .i64 n.left,.int .i64 n.right] 175)).alloc (.cells #[.int .i64 kd,.int .i64 n.tok.at',.string (bsOf n.tok.text),.int .i64 n.ops,.int .i64 n.left,.int .i64 n.right] 175)).drew)
 have hone:∀ u∈[Value.int .i64 kd,.int .i64 n.tok.at',.string (bsOf n.tok.text),.int .i64 n.ops,.int .i64 n.left,.int .i64 n.right],u.oneCell'=true:=by have:=one_nod n;unfold cellN at this;rw[HKD.out] at this;exact this
 have h63:S.ns.length+1≤maxLen:=by unfold maxLen;omega
 have hnb:=Blk.new (w.alloc (.cells #[.int .i64 kd,.int .i64 n.tok.at',.string (bsOf n.tok.text),.int .i64 n.ops,.int .i64 n.left,.int .i64 n.right] 175)) #[.int .i64 kd,.int .i64 n.tok.at',.string (bsOf n.tok.text),.int .i64 n.ops,.int .i64 n.left,.int .i64 n.right] 175
 rw[show (w.alloc (.cells #[.int .i64 kd,.int .i64 n.tok.at',.string (bsOf n.tok.text),.int .i64 n.ops,.int .i64 n.left,.int .i64 n.right] 175)).heap.size=w.heap.size+1 from by simp] at hnb
 have hnews:∀ j u,[Value.int .i64 kd,.int .i64 n.tok.at',.string (bsOf n.tok.text),.int .i64 n.ops,.int .i64 n.left,.int .i64 n.right][j]?=some u→(((w.alloc (.cells #[.int .i64 kd,.int .i64 n.tok.at',.string (bsOf n.tok.text),.int .i64 n.ops,.int .i64 n.left,.int .i64 n.right] 175)).alloc (.cells #[.int .i64 kd,.int .i64 n.tok.at',.string (bsOf n.tok.text),.int .i64 n.ops,.int .i64 n.left,.int .i64 n.right] 175)).drew).cell? ((⟨w.heap.size+1,0,none⟩:Addr).add j)=some u:=World.news_of_block (cs:=#[.int .i64 kd,.int .i64 n.tok.at',.string (bsOf n.tok.text),.int .i64 n.ops,.int .i64 n.left,.int .i64 n.right]) (t:=175) (fr:=(0,0)) hnb
 go_region_law ((refine step_append_lies _ (by rfl) _ _ _ (by rfl) (B+1) 175 i0 _ 6 56 Tryz.underlying60 hi hz0 hz1 hz2 rfl (by omega) S.nv S.ns.length (cellsN S.ns) (by rfl) HW.out.ond ⟨w.heap.size+1,0,none⟩ 1 1 [.int .i64 kd,.int .i64 n.tok.at',.string (bsOf n.tok.text),.int .i64 n.ops,.int .i64 n.left,.int .i64 n.right] (by rfl) (by rfl) hnews hone (by omega) h63 (by omega) (by simp <;> omega) (w.heap.size+1+1) (by simp) ?_;intro gg cap w3 hown3 hgrow hat hlt4;have f3:w3.frozen? ⟨B,4,none⟩=false:=(hgrow.frozen_far _ (by simp <;> omega) (Ne.symm hneB)).trans (HW.out.blk.free 4);have c3:w3.cell? ⟨B,4,none⟩=some S.nv:=(hgrow.cell_far _ (by simp <;> omega) (Ne.symm hneB)).trans (HW.out.blk.cell 4)))
 all_goals
  have R:=rd_added HW.out hown3 hgrow HKD.out hn
  clear hnews hnb hone hown3 hgrow
  go_wp2
  go_ret
  exact ⟨ret_int (by omega),⟨_,R.1⟩,(KeepN.of (below_drewN (((Below.refl _ w).alloc (Nat.le_refl _) _).alloc (by simp) _) 1)).trans R.2⟩
end Go.Proofs.YtldfkcpbjooemaaGreatDoor
namespace Go.Proofs.YtldfkcpbjooemaaGreatDoor
open Go.RowKit Go.Deep
structure LeftR (S:RS) (l:List RTok):Prop where
  eq:∃ E,S.T.drop S.k=l++[⟨[],E⟩]
  may:∀ t∈l,mayT t.text=true
theorem LeftR.len {S:RS} {l:List RTok} (h:LeftR S l) (hk:S.k < S.T.length):S.k+l.length+1=S.T.length:=by
  obtain ⟨E,e⟩:=h.eq
  have:=congrArg List.length e
  simp at this
  omega
theorem LeftR.head {S:RS} {a:RTok} {r:List RTok} (h:LeftR S (a :: r)):S.T[S.k]?=some a:=by
  obtain ⟨E,e⟩:=h.eq
  have:=congrArg (fun x=>x[0]?) e
  simpa using this
theorem LeftR.nil {S:RS} (h:LeftR S []):∃ E,S.T[S.k]?=some ⟨[],E⟩:=by
  obtain ⟨E,e⟩:=h.eq
  have:=congrArg (fun x=>x[0]?) e
  exact ⟨E,by simpa using this⟩
theorem LeftR.drop {S:RS} {l:List RTok} (h:LeftR S l) {j:Nat} (hj:j≤l.length) (S':RS) (hT:S'.T=S.T) (hk:S'.k=S.k+j):LeftR S' (l.drop j):=by
  obtain ⟨E,e⟩:=h.eq
  refine ⟨⟨E, ?_⟩,fun t ht=>h.may t (List.mem_of_mem_drop ht)⟩
  rw[hT,hk,← List.drop_drop,e,List.drop_append_of_le_length hj]
theorem LeftR.next {S:RS} {a:RTok} {r:List RTok} (h:LeftR S (a :: r)) (S':RS) (hT:S'.T=S.T) (hk:S'.k=S.k+1):LeftR S' r:=by
  have:=h.drop (j:=1) (by simp) S' hT hk
  simpa using this
theorem LeftR.behind {S:RS} {l rest:List RTok} {t:Tr} {d:Nat} (h:LeftR S l) (g:GotO d l t rest) (S':RS) (hT:S'.T=S.T) (hk:S'.k=S.k+t.toks.length):LeftR S' rest:=by
  have:=h.drop (j:=t.toks.length) (by rw[g.eq];simp) S' hT hk
  rw[g.eq] at this
  simpa using this
theorem kindP_nil:kindP []=0:=by decide
theorem cur_at {S:RS} {t:RTok} (ht:S.T[S.k]?=some t):∃ hk:S.k < S.T.length,S.T[S.k]=t:=by
  rw[List.getElem?_eq_some_iff] at ht;exact ht
theorem current_at {B:Nat} {S:RS} {w:World} (h:RdAt w B S) {t:RTok} (ht:S.T[S.k]?=some t) :
    Calls Tryz.prog 55 #[.pointer (some ⟨B,0,none⟩)] w fun e w'=>e=.returned (tokA t)∧Below w.heap.size w w':=by
  obtain ⟨hk,rfl⟩:=cur_at ht
  exact current_any B S w h hk
theorem sees_at {B:Nat} {S:RS} {w:World} (h:RdAt w B S) {t:RTok} (ht:S.T[S.k]?=some t) (n:Nat) :
    Calls Tryz.prog 91 #[.pointer (some ⟨B,0,none⟩),.int .i64 n] w fun e w'=>e=.returned (.bool (!S.f&&kindP t.text==n))∧Below w.heap.size w w':=by
  obtain ⟨hk,rfl⟩:=cur_at ht
  exact sees_any B S w h hk n
theorem take_at {B:Nat} {S:RS} {w:World} (h:RdAt w B S) {a:RTok} {r:List RTok} (hl:LeftR S (a :: r)) (n:Nat) (hs:S.f=false) (hn:kindP a.text=n) :
    Calls Tryz.prog 136 #[.pointer (some ⟨B,0,none⟩),.int .i64 n] w fun e w'=>e=.returned (.tuple #[])∧RdAt w' B { S with k:=S.k+1 }∧KeepN B w w':=by
  obtain ⟨hk,he⟩:=cur_at hl.head
  have hlen:=hl.len hk
  exact take_yes B S w h hk n hs (by rw[he];exact hn) (by simp at hlen;omega)
theorem take_not {B:Nat} {S:RS} {w:World} (h:RdAt w B S) {t:RTok} (ht:S.T[S.k]?=some t) (n:Nat) (hs:S.f=true∨kindP t.text≠n) :
    Calls Tryz.prog 136 #[.pointer (some ⟨B,0,none⟩),.int .i64 n] w fun e w'=>e=.returned (.tuple #[])∧RdAt w' B { S with f:=true }∧KeepN B w w':=by
  obtain ⟨hk,rfl⟩:=cur_at ht
  exact take_no B S w h hk n hs
theorem binding_at {B:Nat} {S:RS} {w:World} (h:RdAt w B S) {t:RTok} (ht:S.T[S.k]?=some t) :
    Calls Tryz.prog 181 #[.pointer (some ⟨B,0,none⟩)] w fun e w'=>e=.returned (.int .i64 ((if S.f then 0 else bindK (kindP t.text):Nat):Int))∧Below w.heap.size w w':=by
  obtain ⟨hk,rfl⟩:=cur_at ht
  exact currentBinding_any B S w h hk
theorem RdAt.cur {w:World} {B:Nat} {S:RS} (h:RdAt w B S):∃ t,S.T[S.k]?=some t:=⟨_,List.getElem?_eq_getElem h.kt⟩
def OutE (P:Tr→List RTok→Prop) (B:Nat) (S:RS) (l:List RTok) (w w':World) (e:Ending):Prop :=
  KeepN B w w' ∧
  ((∃ t rest nv,GotO S.d l t rest∧P t rest∧RdAt w' B { S with k:=S.k+t.toks.length,nv:=nv,ns:=S.ns++t.flat S.ns.length }∧e=.returned (.int .i64 ((S.ns.length+t.num - 1:Nat):Int))) ∨
   (∃ j nv ns x,BadV S.d l j∧ns.length≤S.ns.length+j∧RdAt w' B { S with k:=S.k+j,f:=true,nv:=nv,ns:=ns }∧e=.returned (.int .i64 ((x:Nat):Int))))
structure RdW (w0 w:World) (B:Nat) (S:RS) (nb:Nat) (t:RTok):Prop where
  rd:RdAt w B S
  tk:Blk w nb #[.int .i64 (kindP t.text),.int .i64 t.at',.string (bsOf t.text)] 107
  ne:nb≠B
  kp:KeepN B w0 w
theorem RdW.step {w0 w w':World} {B nb:Nat} {S S':RS} {t:RTok} (h:RdW w0 w B S nb t) (hr:RdAt w' B S') (hk:KeepN B w w'):RdW w0 w' B S' nb t :=
  ⟨hr,h.tk.keepN hk h.ne (by decide),h.ne,h.kp.trans hk⟩
theorem RdW.start {w w1:World} {B:Nat} {S:RS} (h:RdAt w1 B S) (hb:Below w.heap.size w w1) (t:RTok):RdW w (w1.alloc (.cells #[.int .i64 (kindP t.text),.int .i64 t.at',.string (bsOf t.text)] 107)) B S w1.heap.size t :=
  ⟨h.alloc _,Blk.new _ _ _,by have:=h.blk.lt;omega,(KeepN.of hb).trans (KeepN.of (new_below _ _))⟩
theorem RdW.cells {w0 w:World} {B nb:Nat} {S:RS} {t:RTok} (h:RdW w0 w B S nb t):w.cell? ⟨nb,0,none⟩=some (.int .i64 (kindP t.text))∧w.cell? ⟨nb,1,none⟩=some (.int .i64 t.at')∧w.cell? ⟨nb,2,none⟩=some (.string (bsOf t.text))∧w.cell? ⟨B,2,none⟩=some (.int .i64 S.d)∧w.cell? ⟨B,3,none⟩=some (.bool S.f)∧w.frozen? ⟨B,3,none⟩=false :=
  ⟨h.tk.cell 0,h.tk.cell 1,h.tk.cell 2,h.rd.blk.cell 2,h.rd.blk.cell 3,h.rd.blk.free 3⟩
set_option maxHeartbeats 1000000 in
theorem operand_failed {B:Nat} {S:RS} {w:World} (h:RdAt w B S) (hf:S.f=true) :
    Calls Tryz.prog 180 #[.pointer (some ⟨B,0,none⟩)] w fun e w'=>e=.returned (.int .i64 0)∧Below w.heap.size w w':=by
  obtain ⟨t,ht⟩:=h.cur
  have HR:=hideP h
  have HT:=hideP ht
  have hB:=h.blk.lt
  have HF:=hideP hf
  clear h ht hf
  go_enter Tryz.func180,Tryz.ntmps180
  go_wp2_with (go_at_call 55;refine (current_at HR.out HT.out).mono ?_;rintro e w1 ⟨rfl,hb1⟩;unfold tokA;have hB1:=(HR.out.below hb1).blk.lt;have c3:=(HR.out.below hb1).blk.cell 3;simp only[List.getElem?_toArray,List.getElem?_cons_zero,List.getElem?_cons_succ] at c3;rw[HF.out] at c3)
  go_ret
  exact ⟨rfl,hb1.alloc (by have:=hb1.size;omega) _⟩
set_option maxHeartbeats 1000000 in
theorem binding_failed {B:Nat} {S:RS} {w:World} (h:RdAt w B S) (hf:S.f=true) (n:Nat) :
    Calls Tryz.prog 160 #[.pointer (some ⟨B,0,none⟩),.int .i64 n] w fun e w'=>e=.returned (.int .i64 0)∧Below w.heap.size w w':=by
  obtain ⟨t,ht⟩:=h.cur
  have HR:=hideP h
  have HT:=hideP ht
  have hB:=h.blk.lt
  have HF:=hideP hf
  clear h ht hf
  go_enter Tryz.func160,Tryz.ntmps160
  go_wp2_with (first | (go_at_call 180;refine (operand_failed HR.out HF.out).mono ?_;rintro e w1 ⟨rfl,hb1⟩;replace HR:=hideP (HR.out.below hb1)) | (go_at_call 181;refine (binding_at HR.out HT.out).mono ?_;rintro e w2 ⟨rfl,hb2⟩;rw[HF.out];simp only[if_true];replace HR:=hideP (HR.out.below hb2)))
  go_loopw [5,6] (fun vl vb wr=>vl=.int .i64 0∧vb=.int .i64 0∧Below w.heap.size w wr) (fun _ _ _=>0)
  case atStart=>exact ⟨rfl,rfl,hb1.trans (hb2.mono hb1.size)⟩
  case round =>
    obtain ⟨rfl,rfl,hbw⟩:=hrel
    go_wp2
    go_ret
    exact ⟨rfl,hbw⟩
end Go.Proofs.YtldfkcpbjooemaaGreatDoor
namespace Go.Proofs.YtldfkcpbjooemaaGreatDoor
open Go.RowKit Go.Deep
def OpOk (n:Nat):Prop:=∀ (B:Nat) (S:RS) (w:World) (l:List RTok),RdAt w B S→S.f=false→LeftR S l→l.length≤n →
 Calls Tryz.prog 180 #[.pointer (some ⟨B,0,none⟩)] w fun e w'=>OutE (fun t _=>t.level=6) B S l w w' e
def BiOk (n:Nat):Prop:=∀ (B:Nat) (S:RS) (w:World) (l:List RTok) (least:Nat),1≤least→least≤6→RdAt w B S→S.f=false→LeftR S l→l.length≤n →
 Calls Tryz.prog 160 #[.pointer (some ⟨B,0,none⟩),.int .i64 least] w fun e w'=>OutE (fun t rest=>least≤t.level∧stops least rest) B S l w w' e
def BrOk (n:Nat):Prop:=∀ (B:Nat) (S:RS) (w:World) (o:RTok) (r:List RTok),RdAt w B S→S.f=false→S.d < 8→o.text=cOpen→LeftR S (o :: r)→r.length≤n →
 Calls Tryz.prog 199 #[.pointer (some ⟨B,0,none⟩)] w fun e w'=>OutE (fun t _=>t.level=6) B S (o :: r) w w' e
theorem rd_cast {w:World} {B:Nat} {S:RS} (h:RdAt w B S) {k:Nat} {ns:List PNode} (hk:S.k=k) (hn:S.ns=ns):RdAt w B { S with k:=k,ns:=ns }:=by subst hk hn;exact h
theorem GotO.here {d:Nat} {l rest:List RTok} {t:Tr} (g:GotO d l t rest):l.length=t.toks.length+rest.length:=by rw[g.eq];simp
set_option maxHeartbeats 2000000 in
set_option maxRecDepth 100000 in
theorem operand_none {B:Nat} {S:RS} {w:World} {l:List RTok} {t:RTok} (h:RdAt w B S) (hf:S.f=false) (ht:S.T[S.k]?=some t) (h1:singleK (kindP t.text)=false) (h2:kindP t.text≠28) (h3:kindP t.text≠9) (h4:kindP t.text=32→8≤S.d) (hb:BadV S.d l 0) :
  Calls Tryz.prog 180 #[.pointer (some ⟨B,0,none⟩)] w fun e w'=>OutE (fun t _=>t.level=6) B S l w w' e:=by
 have HR:=hideP h
 have HT:=hideP ht
 have hB:=h.blk.lt
 have HF:=hideP hf
 have HBV:=hideP hb
 clear h ht hf hb
 have e1:((kindP t.text:Int)==28)=false:=by simp;omega
 have e2:((kindP t.text:Int)==9)=false:=by simp;omega
 have hdl:((kindP t.text:Int)==32)=true→decide ((S.d:Int) < 8)=false:=by intro e;simp at e ⊢;omega
 generalize hkd:kindP t.text=kd at *
 have HKD:=hideP hkd
 clear hkd h2 h3 h4
 have HS:=hideP h1
 clear h1
 by_cases e3:((kd:Int)==32)=true
 all_goals
  first | (have e4:=hdl e3) | (have e4:((kd:Int)==32)=false:=by simpa using e3)
  clear hdl
  go_enter Tryz.func180,Tryz.ntmps180
  go_wp2_with (first | (go_at_call 55;refine (current_at HR.out HT.out).mono ?_;rintro e w1 ⟨rfl,hb1⟩;unfold tokA;rw[HKD.out];have HW:=hideP (RdW.start (HR.out.below hb1) hb1 t);have hB1:=(HR.out.below hb1).blk.lt;have c3:=(HR.out.below hb1).blk.cell 3;have c2:=(HR.out.below hb1).blk.cell 2;have f3:=(HR.out.below hb1).blk.free 3;simp only[List.getElem?_toArray,List.getElem?_cons_zero,List.getElem?_cons_succ] at c3 c2;rw[HF.out] at c3) | (go_at_call 198;refine (isSingle_any _ _).mono ?_;rintro e w2 ⟨rfl,rfl⟩;rw[HS.out]))
  go_ret
  exact ⟨(KeepN.of hb1).trans ((KeepN.set B 3 _).trans (KeepN.of (new_below _ _))),.inr ⟨0,S.nv,S.ns,0,HBV.out,Nat.le_refl _,((HR.out.below hb1).setF true).alloc _,rfl⟩⟩
theorem add_at {B:Nat} {S:RS} {w:World} (h:RdAt w B S) (n:PNode) (a b c:Int) (ha:(n.ops:Int)=a) (hb:(n.left:Int)=b) (hc:(n.right:Int)=c) (hn:S.ns.length+1≤S.k) :
  Calls Tryz.prog 182 #[.pointer (some ⟨B,0,none⟩),.agg #[.int .i64 (kindP n.tok.text),.int .i64 n.tok.at',.string (bsOf n.tok.text),.int .i64 a,.int .i64 b,.int .i64 c]] w fun e w'=>e=.returned (.int .i64 (S.ns.length:Nat))∧(∃ nv,RdAt w' B { S with nv:=nv,ns:=S.ns++[n] })∧KeepN B w w':=by
 subst ha hb hc
 exact add_any B S w h n hn
set_option maxHeartbeats 2000000 in
set_option maxRecDepth 100000 in
theorem operand_single {B:Nat} {S:RS} {w:World} {a:RTok} {r:List RTok} (h:RdAt w B S) (hf:S.f=false) (hl:LeftR S (a :: r)) (h1:singleK (kindP a.text)=true) :
  Calls Tryz.prog 180 #[.pointer (some ⟨B,0,none⟩)] w fun e w'=>OutE (fun t _=>t.level=6) B S (a :: r) w w' e:=by
 have HR:=hideP h
 have HL:=hideP hl
 have hB:=h.blk.lt
 have HF:=hideP hf
 have HS:=hideP h1
 have hma:=hl.may a (by simp)
 have HG:Hid (GotO S.d (a :: r) (Tr.leaf a) r):=GotO.leaf hma (by rw[← (kindOf _ hma).single];exact h1) S.d
 have hnk:=h.nk
 clear h hl hf h1 hma
 go_enter Tryz.func180,Tryz.ntmps180
 go_wp2_with (first | (go_at_call 55;refine (current_at HR.out HL.out.head).mono ?_;rintro e w1 ⟨rfl,hb1⟩;unfold tokA;have HW:=hideP (RdW.start (HR.out.below hb1) hb1 a);have hB1:=(HR.out.below hb1).blk.lt;have c3:=(HR.out.below hb1).blk.cell 3;simp only[List.getElem?_toArray,List.getElem?_cons_zero,List.getElem?_cons_succ] at c3;rw[HF.out] at c3) | (go_at_call 198;refine (isSingle_any _ _).mono ?_;rintro e w2 ⟨rfl,rfl⟩;rw[HS.out]) | (go_at_call 136;refine (take_at HW.out.rd HL.out _ HF.out rfl).mono ?_;rintro e w3 ⟨rfl,hR3,hK3⟩;replace HW:=hideP (HW.out.step hR3 hK3);clear hR3 hK3;obtain ⟨q0,q1,q2,_⟩:=HW.out.cells) | (go_at_call 182;refine (add_at HW.out.rd ⟨a,0,0,0⟩ 0 0 0 rfl rfl rfl (by simp only;omega)).mono ?_;rintro e w4 ⟨rfl,⟨nv,hR4⟩,hK4⟩;replace HW:=hideP (HW.out.step hR4 hK4);clear hR4 hK4))
 go_ret
 exact ⟨HW.out.kp,.inl ⟨Tr.leaf a,r,nv,HG.out,rfl,HW.out.rd,rfl⟩⟩
theorem un_kind {a:RTok} (hm:mayT a.text=true) (hu:unT a.text=true):singleK (kindP a.text)=false∧(kindP a.text=28∨kindP a.text=9):=by
 simp only[unT,Bool.or_eq_true,beq_iff_eq] at hu
 rcases hu with e | e <;> rw[e] <;> decide
set_option maxHeartbeats 4000000 in
set_option maxRecDepth 100000 in
theorem operand_un {n:Nat} (IH:OpOk n) {B:Nat} {S:RS} {w:World} {a:RTok} {r:List RTok} (h:RdAt w B S) (hf:S.f=false) (hl:LeftR S (a :: r)) (hr:r.length≤n) (hu:unT a.text=true) :
  Calls Tryz.prog 180 #[.pointer (some ⟨B,0,none⟩)] w fun e w'=>OutE (fun t _=>t.level=6) B S (a :: r) w w' e:=by
 have HR:=hideP h
 have HL:=hideP hl
 have hB:=h.blk.lt
 have HF:=hideP hf
 have HU:=hideP hu
 have hma:=hl.may a (by simp)
 obtain ⟨h1,h2⟩:=un_kind hma hu
 have HS:=hideP h1
 have hnk:=h.nk
 have HIH:=hideP IH
 have hun:(((kindP a.text:Int)==28)=true)∨(((kindP a.text:Int)==28)=false∧((kindP a.text:Int)==9)=true):=by
  rcases h2 with e | e <;> rw[e] <;> decide
 clear h hl hf h1 hma hu IH h2
 rcases hun with e1 | ⟨e1,e2⟩
 all_goals
  go_enter Tryz.func180,Tryz.ntmps180
  go_wp2_with (first | (go_at_call 55;refine (current_at HR.out HL.out.head).mono ?_;rintro e w1 ⟨rfl,hb1⟩;unfold tokA;have HW:=hideP (RdW.start (HR.out.below hb1) hb1 a);have hB1:=(HR.out.below hb1).blk.lt;have c3:=(HR.out.below hb1).blk.cell 3;simp only[List.getElem?_toArray,List.getElem?_cons_zero,List.getElem?_cons_succ] at c3;rw[HF.out] at c3) | (go_at_call 198;refine (isSingle_any _ _).mono ?_;rintro e w2 ⟨rfl,rfl⟩;rw[HS.out]) | (go_at_call 136;refine (take_at HW.out.rd HL.out _ HF.out rfl).mono ?_;rintro e w3 ⟨rfl,hR3,hK3⟩;replace HW:=hideP (HW.out.step hR3 hK3);clear hR3 hK3;obtain ⟨q0,q1,q2,_⟩:=HW.out.cells) | (go_at_call 180;refine (HIH.out B _ _ r HW.out.rd HF.out (HL.out.next _ rfl rfl) hr).mono ?_;rintro e w4 ⟨hK4,⟨t,rest,nv,hG,hlv,hR4,rfl⟩ | ⟨j,nv,ns,x,hbad,hnl,hR4,rfl⟩⟩ <;> (replace HW:=hideP (HW.out.step hR4 hK4);clear hR4 hK4 q0 q1 q2;obtain ⟨q0,q1,q2,_⟩:=HW.out.cells)))
  ·have hn1:=t.num_le hG.wf
   have hn2:=t.flat_len hG.wf S.ns.length
   have hn3:=t.num_pos hG.wf
   have HG:=hideP hG
   clear hG
   have HLV:=hideP hlv
   clear hlv
   go_wp2_with (go_at_call 182;refine (add_at HW.out.rd ⟨a,1,S.ns.length+t.num - 1,0⟩ 1 _ 0 rfl rfl rfl (by simp only[List.length_append];omega)).mono ?_;rintro e w5 ⟨rfl,⟨nv5,hR5⟩,hK5⟩;replace HW:=hideP (HW.out.step hR5 hK5);clear hR5 hK5)
   go_ret
   exact ⟨HW.out.kp,.inl ⟨Tr.un a t,rest,nv5,GotO.un HU.out HG.out HLV.out,rfl,rd_cast HW.out.rd (by rw[Tr.toks_un];simp <;> omega) (by rw[Tr.flat_un];simp),ret_int (by rw[Tr.num_un];simp <;> omega)⟩⟩
  ·have HBD:=hideP hbad
   clear hbad
   go_wp2_with (go_at_call 182;refine (add_at HW.out.rd ⟨a,1,x,0⟩ 1 _ 0 rfl rfl rfl (by simp only;omega)).mono ?_;rintro e w5 ⟨rfl,⟨nv5,hR5⟩,hK5⟩;replace HW:=hideP (HW.out.step hR5 hK5);clear hR5 hK5)
   go_ret
   exact ⟨HW.out.kp,.inr ⟨j+1,nv5,_,_,BadV.un HU.out HBD.out,by simp;omega,rd_cast HW.out.rd (by simp;omega) rfl,rfl⟩⟩
end Go.Proofs.YtldfkcpbjooemaaGreatDoor
