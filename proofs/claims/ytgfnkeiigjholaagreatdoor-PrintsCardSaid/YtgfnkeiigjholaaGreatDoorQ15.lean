/-
  The document's full, called on the tokens of a tree: its string with brackets around every operator.
-/
import Derived.Test.YtgfnkeiigjholaaGreatDoorQ14
set_option linter.unusedVariables false
set_option linter.unusedSimpArgs false
namespace Go.Proofs.YtgfnkeiigjholaaGreatDoor
open Go.RowKit Go.Deep
theorem bsOf_cat(a b:Txt):bsOf (a++b)=bsOf a++bsOf b:=by
 apply ByteArray.ext
 simp[bsOf,ByteArray.data_append]
theorem coreB_strip:∀ t:BT (RTok×RTok),coreB t=coreB (stripB t)
 | .nil=>rfl
 | .node 0 _ _ _ _=>rfl
 | .node 1 _ _ _ _=>rfl
 | .node 2 _ _ _ _=>rfl
 | .node 3 _ _ e _=>coreB_strip e
 | .node (_+4) _ _ _ _=>rfl
theorem full_strip(t:Tr):t.full=t.strip.full:=congrArg fullC (coreB_strip t)
theorem full_len(t:Tr)(h:t.wf):(∀ a∈t.toks,a.text.length≤18)→t.full.length≤30*t.toks.length:=by
 refine Tr.ind (P:=fun t=>(∀ a∈t.toks,a.text.length≤18)→t.full.length≤30*t.toks.length) t h ?_ ?_ ?_ ?_
 ·intro a _ hm
  have h1:=hm a (by rw[Tr.toks_leaf];simp)
  rw[full_leaf,Tr.toks_leaf]
  simp only[List.length_cons,List.length_nil]
  omega
 ·intro op e _ ih hm
  have h1:=hm op (by rw[Tr.toks_un];simp)
  have h2:=ih (fun a ha=>hm a (by rw[Tr.toks_un];simp[ha]))
  rw[full_un,Tr.toks_un]
  simp only[List.length_cons,List.length_append,List.length_nil]
  omega
 ·intro op l r _ ihl ihr hm
  have h1:=hm op (by rw[Tr.toks_bin];simp)
  have h2:=ihl (fun a ha=>hm a (by rw[Tr.toks_bin];simp[ha]))
  have h3:=ihr (fun a ha=>hm a (by rw[Tr.toks_bin];simp[ha]))
  rw[full_bin,Tr.toks_bin]
  simp only[List.length_cons,List.length_append,List.length_nil]
  omega
 ·intro o e c _ ih hm
  have h2:=ih (fun a ha=>hm a (by rw[Tr.toks_par];simp[ha]))
  rw[full_par,Tr.toks_par]
  simp only[List.length_cons,List.length_append,List.length_nil]
  omega
def FullOk(t:Tr):Prop:=∀ (v:Value) (w:World),t.toks.length≤400→Reads w v t.toks.length (cellsR t.toks)→Calls Tryz.prog 62 #[v] w fun e w'=>e=.returned (.string (bsOf t.full))∧Below w.heap.size w w'
set_option maxHeartbeats 1000000 in
theorem fullR_leaf(t:Tr)(ht:t.wf)(a:RTok)(hs:t.strip=.leaf a):FullOk t:=by
 intro v w h4 hv
 have HSW:Hid (Tr.leaf a).wf:=(hs ▸ t.strip_wf ht:(Tr.leaf a).wf)
 have h4':(Tr.leaf a).toks.length≤400:=by rw[← hs];exact Nat.le_trans t.strip_len h4
 have h0:0<(Tr.leaf a).toks.length:=by simp[Tr.toks_leaf]
 have HRT:Hid (rootR (Tr.leaf a).toks=-1):=root_none _ HSW.out rfl
 rw[full_strip,hs,full_leaf]
 have HV:Hid (Reads w v t.toks.length (cellsR t.toks)):=hv
 have HS:Hid (t.strip=.leaf a):=hs
 clear hs hv
 go_enter Tryz.func62,Tryz.ntmps62
 go_wp2_with (first | (go_at_call 100;refine (inside_any t ht _ _ h4 HV.out).mono ?_;rintro e wz ⟨⟨v',rfl,hr'⟩,hwz⟩;subst wz;rw[HS.out]at hr';have HR':Hid (Reads _ v' _ _):=hr';clear hr';obtain ⟨g,o,cap,rfl,hncap,hlt,hc0⟩:=HR'.out.pos h0;have tx:w.cell? ⟨g,o,none⟩=some (.string (bsOf a.text)):=hc0 0 _ (cellsR_get (Tr.leaf a).toks 0 h0).1;clear hc0) | (go_at_call 101;refine (root_any (Tr.leaf a).toks _ _ h0 h4' HR'.out).mono ?_;rintro e wz ⟨rfl,hwz⟩;subst wz;rw[HRT.out]) | (go_at_call 102;refine (one_any (Tr.leaf a) HSW.out rfl (by intro _ _ _ h;cases h) _ _ h4' HR'.out).mono ?_;rintro e wz ⟨rfl,hwz⟩;subst wz;simp only[Tr.isUn_leaf]))
 go_ret
 exact ⟨rfl,Below.refl _ _⟩
set_option maxHeartbeats 1000000 in
theorem fullR_un(t:Tr)(ht:t.wf)(op:RTok)(a:Tr)(hs:t.strip=.un op a)(IA:FullOk a)(hop:op.text.length≤18)(hA:a.full.length≤12000):FullOk t:=by
 intro v w h4 hv
 have HSW:Hid (Tr.un op a).wf:=(hs ▸ t.strip_wf ht:(Tr.un op a).wf)
 have hlen:(Tr.un op a).toks.length=a.toks.length+1:=by simp[Tr.toks_un]
 have h4':(Tr.un op a).toks.length≤400:=by rw[← hs];exact Nat.le_trans t.strip_len h4
 have hap:=a.toks_pos
 have h0:0<(Tr.un op a).toks.length:=by omega
 have h0':(0:Int)<(Tr.un op a).toks.length:=by omega
 have HRT:Hid (rootR (Tr.un op a).toks=-1):=root_none _ HSW.out rfl
 rw[full_strip,hs,full_un]
 have HX:Hid (bsOf (40 :: (op.text++32 :: (a.full++[41])))=⟨#[40]⟩++bsOf op.text++⟨#[32]⟩++bsOf a.full++⟨#[41]⟩):=by
  have e1:(⟨#[40]⟩:ByteArray)=bsOf [40]:=rfl
  have e2:(⟨#[32]⟩:ByteArray)=bsOf [32]:=rfl
  have e3:(⟨#[41]⟩:ByteArray)=bsOf [41]:=rfl
  rw[Hid,e1,e2,e3,← bsOf_cat,← bsOf_cat,← bsOf_cat,← bsOf_cat]
  congr 1
  simp
 have he1:(bsOf a.full).size≤12000:=by rw[bsOf_size];exact hA
 have he2:(bsOf op.text).size≤18:=by rw[bsOf_size];exact hop
 have HL:Hid ((Tr.un op a).toks.length=a.toks.length+1):=hlen
 have HV:Hid (Reads w v t.toks.length (cellsR t.toks)):=hv
 have HS:Hid (t.strip=.un op a):=hs
 have HIA:Hid (∀ vx wx,Reads wx vx a.toks.length (cellsR a.toks)→Calls Tryz.prog 62 #[vx] wx fun e w'=>e=.returned (.string (bsOf a.full))∧Below wx.heap.size wx w'):=fun vx wx h=>IA vx wx (by omega) h
 clear hs hv hlen IA hop hA
 generalize bsOf (40 :: (op.text++32 :: (a.full++[41])))=XX at *
 generalize bsOf a.full=fa at *
 obtain ⟨tx,htx⟩:∃ tx,tx=bsOf op.text:=⟨_,rfl⟩
 rw[← htx]at HX he2
 have HTX:=mH htx
 clear htx
 have z1:(9223372036854775807<1+tx.size)=False:=by simp;omega
 have z2:(9223372036854775807<1+tx.size+1)=False:=by simp;omega
 have z3:(9223372036854775807<1+tx.size+1+fa.size)=False:=by simp;omega
 have z4:(9223372036854775807<1+tx.size+1+fa.size+1)=False:=by simp;omega
 go_enter Tryz.func62,Tryz.ntmps62
 go_upto_region 9 with (first | (go_at_call 100;refine (inside_any t ht _ _ h4 HV.out).mono ?_;rintro e wz ⟨⟨v',rfl,hr'⟩,hwz⟩;subst wz;rw[HS.out]at hr';have HR':Hid (Reads _ v' _ _):=hr';clear hr';obtain ⟨g,o,cap,rfl,hncap,hlt,hc0⟩:=HR'.out.pos h0;have HC:Hid (∀ j u,(cellsR (Tr.un op a).toks)[j]?=some u→w.cell? ⟨g,o+j,none⟩=some u):=hc0;clear hc0) | (go_at_call 101;refine (root_any (Tr.un op a).toks _ _ h0 h4' HR'.out).mono ?_;rintro e wz ⟨rfl,hwz⟩;subst wz;rw[HRT.out]) | (go_at_call 102;refine (one_any (Tr.un op a) HSW.out rfl (by intro _ _ _ h;cases h) _ _ h4' HR'.out).mono ?_;rintro e wz ⟨rfl,hwz⟩;subst wz;simp only[Tr.isUn_un]))
 have hsl2:=fun wx=>sl_l g o (Tr.un op a).toks.length cap 1 1 (by omega) (by have:=HL.out;omega) (by have:=HL.out;omega) wx
 have HRA:Hid (Reads w (.slice (some ⟨g,o+1*2,none⟩) ((Tr.un op a).toks.length-1) (cap-1)) a.toks.length (cellsR a.toks)):=by
  unfold Hid
  have:=reads_mid [op] a.toks [] (by simp[Tr.toks_un]) hlt (cap:=cap-1) (by have:=HL.out;omega) HC.out
  rw[show (Tr.un op a).toks.length-1=a.toks.length by have:=HL.out;omega]
  exact this
 have HOP:Hid (w.cell? ⟨g,o,none⟩=some (.string tx)):=by
  unfold Hid
  rw[HTX.out]
  exact HC.out 0 _ (cellsR_get (Tr.un op a).toks 0 h0).1
 go_wp2_with (go_at_call 62;refine (HIA.out _ _ HRA.out).mono ?_;rintro e w1 ⟨rfl,hb1⟩;have cx:=(hb1.cell (p:=⟨g,o,none⟩) hlt).trans HOP.out)
 go_ret
 exact ⟨by rw[HX.out];rfl,hb1⟩
set_option maxHeartbeats 1000000 in
theorem fullR_bin(t:Tr)(ht:t.wf)(op:RTok)(a b:Tr)(hs:t.strip=.bin op a b)(IA:FullOk a)(IB:FullOk b)(hop:op.text.length≤18)(hA:a.full.length≤12000)(hB:b.full.length≤12000):FullOk t:=by
 intro v w h4 hv
 have HSW:Hid (Tr.bin op a b).wf:=(hs ▸ t.strip_wf ht:(Tr.bin op a b).wf)
 have hlen:(Tr.bin op a b).toks.length=a.toks.length+b.toks.length+1:=by simp[Tr.toks_bin];omega
 have h4':(Tr.bin op a b).toks.length≤400:=by rw[← hs];exact Nat.le_trans t.strip_len h4
 have hap:=a.toks_pos
 have hbp:=b.toks_pos
 have hab:a.toks.length<(Tr.bin op a b).toks.length:=by omega
 have hab':(a.toks.length:Int)<(Tr.bin op a b).toks.length:=by omega
 have HRT:Hid (rootR (Tr.bin op a b).toks=a.toks.length):=root_bin op a b HSW.out
 rw[full_strip,hs,full_bin]
 have HX:Hid (bsOf (40 :: (a.full++32 :: (op.text++32 :: (b.full++[41]))))=⟨#[40]⟩++bsOf a.full++⟨#[32]⟩++bsOf op.text++⟨#[32]⟩++bsOf b.full++⟨#[41]⟩):=by
  have e1:(⟨#[40]⟩:ByteArray)=bsOf [40]:=rfl
  have e2:(⟨#[32]⟩:ByteArray)=bsOf [32]:=rfl
  have e3:(⟨#[41]⟩:ByteArray)=bsOf [41]:=rfl
  rw[Hid,e1,e2,e3,← bsOf_cat,← bsOf_cat,← bsOf_cat,← bsOf_cat,← bsOf_cat,← bsOf_cat]
  congr 1
  simp
 have he1:(bsOf a.full).size≤12000:=by rw[bsOf_size];exact hA
 have he3:(bsOf b.full).size≤12000:=by rw[bsOf_size];exact hB
 have he2:(bsOf op.text).size≤18:=by rw[bsOf_size];exact hop
 have HL:Hid ((Tr.bin op a b).toks.length=a.toks.length+b.toks.length+1):=hlen
 have HV:Hid (Reads w v t.toks.length (cellsR t.toks)):=hv
 have HS:Hid (t.strip=.bin op a b):=hs
 have HIA:Hid (∀ vx wx,Reads wx vx a.toks.length (cellsR a.toks)→Calls Tryz.prog 62 #[vx] wx fun e w'=>e=.returned (.string (bsOf a.full))∧Below wx.heap.size wx w'):=fun vx wx h=>IA vx wx (by omega) h
 have HIB:Hid (∀ vx wx,Reads wx vx b.toks.length (cellsR b.toks)→Calls Tryz.prog 62 #[vx] wx fun e w'=>e=.returned (.string (bsOf b.full))∧Below wx.heap.size wx w'):=fun vx wx h=>IB vx wx (by omega) h
 clear hs hv hlen IA IB hop hA hB
 generalize bsOf (40 :: (a.full++32 :: (op.text++32 :: (b.full++[41]))))=XX at *
 generalize bsOf a.full=fa at *
 generalize bsOf b.full=fb at *
 obtain ⟨tx,htx⟩:∃ tx,tx=bsOf op.text:=⟨_,rfl⟩
 rw[← htx]at HX he2
 have HTX:=mH htx
 clear htx
 have z1:(9223372036854775807<1+fa.size)=False:=by simp;omega
 have z2:(9223372036854775807<1+fa.size+1)=False:=by simp;omega
 have z3:(9223372036854775807<1+fa.size+1+tx.size)=False:=by simp;omega
 have z4:(9223372036854775807<1+fa.size+1+tx.size+1)=False:=by simp;omega
 have z5:(9223372036854775807<1+fa.size+1+tx.size+1+fb.size)=False:=by simp;omega
 have z6:(9223372036854775807<1+fa.size+1+tx.size+1+fb.size+1)=False:=by simp;omega
 go_enter Tryz.func62,Tryz.ntmps62
 go_upto_region 4 with (first | (go_at_call 100;refine (inside_any t ht _ _ h4 HV.out).mono ?_;rintro e wz ⟨⟨v',rfl,hr'⟩,hwz⟩;subst wz;rw[HS.out]at hr';have HR':Hid (Reads _ v' _ _):=hr';clear hr';obtain ⟨g,o,cap,rfl,hncap,hlt,hc0⟩:=HR'.out.pos (by have:=HL.out;omega);have HC:Hid (∀ j u,(cellsR (Tr.bin op a b).toks)[j]?=some u→w.cell? ⟨g,o+j,none⟩=some u):=hc0;clear hc0) | (go_at_call 101;refine (root_any (Tr.bin op a b).toks _ _ (by have:=HL.out;omega) h4' HR'.out).mono ?_;rintro e wz ⟨rfl,hwz⟩;subst wz;rw[HRT.out]))
 have hsl:=fun wx=>sl_h g o (Tr.bin op a b).toks.length cap a.toks.length a.toks.length rfl (by have:=HL.out;omega) (by have:=HL.out;omega) wx
 have hwr:IntKind.i64.wrap ((a.toks.length:Int)+1)=(a.toks.length:Int)+1:=IntWalk.i64_in _ ⟨by omega,by have:=HL.out;omega⟩
 have hsl2:=fun wx=>sl_l g o (Tr.bin op a b).toks.length cap (a.toks.length+1) ((a.toks.length:Int)+1) (by omega) (by have:=HL.out;omega) (by have:=HL.out;omega) wx
 have HRA:Hid (Reads w (.slice (some ⟨g,o,none⟩) a.toks.length cap) a.toks.length (cellsR a.toks)):=reads_mid [] a.toks (op :: b.toks) (by simp[Tr.toks_bin]) hlt (by have:=HL.out;omega) HC.out
 have HRB:Hid (Reads w (.slice (some ⟨g,o+(a.toks.length+1)*2,none⟩) ((Tr.bin op a b).toks.length-(a.toks.length+1)) (cap-(a.toks.length+1))) b.toks.length (cellsR b.toks)):=by
  unfold Hid
  have:=reads_mid (a.toks++[op]) b.toks [] (by simp[Tr.toks_bin]) hlt (cap:=cap-(a.toks.length+1)) (by have:=HL.out;omega) HC.out
  rw[show (Tr.bin op a b).toks.length-(a.toks.length+1)=b.toks.length by have:=HL.out;omega]
  simpa using this
 have HOP:Hid (w.cell? ⟨g,o+a.toks.length*2,none⟩=some (.string tx)):=by
  unfold Hid
  rw[HTX.out]
  have:=HC.out _ _ (cellsR_get (Tr.bin op a b).toks a.toks.length (by have:=HL.out;omega)).1
  simpa[Tr.toks_bin] using this
 go_upto_region 5 with (go_at_call 62;refine (HIA.out _ _ HRA.out).mono ?_;rintro e w1 ⟨rfl,hb1⟩)
 have hlt1:g<w1.heap.size:=Nat.lt_of_lt_of_le hlt hb1.size
 go_wp2_with (go_at_call 62;refine (HIB.out _ _ (HRB.out.below hb1)).mono ?_;rintro e w2 ⟨rfl,hb2⟩;have cx:=((hb2.cell (p:=⟨g,o+a.toks.length*2,none⟩) hlt1).trans (hb1.cell (p:=⟨g,o+a.toks.length*2,none⟩) hlt)).trans HOP.out)
 go_ret
 exact ⟨by rw[HX.out];rfl,hb1.trans (hb2.mono hb1.size)⟩
theorem full_all:∀ (n:Nat) (t:Tr),t.toks.length≤n→t.toks.length≤400→t.wf→(∀ x∈t.toks,x.text.length≤18)→FullOk t
 | 0,t,hn,_,_,_=>by have:=t.toks_pos;omega
 | n+1,t,hn,h4,hw,ht=>by
  have hsw:=t.strip_wf hw
  have hsl:=t.strip_len
  have hst:∀ x∈t.strip.toks,x.text.length≤18:=fun x hx=>ht x (t.strip_sub x hx)
  rcases t.strip.cases hsw with ⟨a,hs⟩ | ⟨op,e,hs⟩ | ⟨op,a,b,hs⟩ | ⟨o,e,c,hs⟩
  ·exact fullR_leaf t hw a hs
  ·rw[hs]at hsw hsl hst
   have hwe:=(Tr.wf_un hsw).2.2
   have hte:∀ x∈e.toks,x.text.length≤18:=fun x hx=>hst x (by simp[Tr.toks_un,hx])
   simp[Tr.toks_un]at hsl
   have:=full_len e hwe hte
   exact fullR_un t hw op e hs (full_all n e (by omega) (by omega) hwe hte) (hst op (by simp[Tr.toks_un])) (by omega)
  ·rw[hs]at hsw hsl hst
   have hpa:=a.toks_pos
   have hpb:=b.toks_pos
   simp[Tr.toks_bin]at hsl
   have hwa:=(Tr.wf_bin hsw).2.2.2.2.2.1
   have hwb:=(Tr.wf_bin hsw).2.2.2.2.2.2
   have hta:∀ x∈a.toks,x.text.length≤18:=fun x hx=>hst x (by simp[Tr.toks_bin,hx])
   have htb:∀ x∈b.toks,x.text.length≤18:=fun x hx=>hst x (by simp[Tr.toks_bin,hx])
   have la:=full_len a hwa hta
   have lb:=full_len b hwb htb
   exact fullR_bin t hw op a b hs (full_all n a (by omega) (by omega) hwa hta) (full_all n b (by omega) (by omega) hwb htb) (hst op (by simp[Tr.toks_bin])) (by omega) (by omega)
  ·exact absurd hs (t.strip_not_par hw o e c)
theorem full_any(t:Tr)(hw:t.wf)(h4:t.toks.length≤400)(ht:∀ x∈t.toks,x.text.length≤18)(v:Value)(w:World)(hv:Reads w v t.toks.length (cellsR t.toks)) :
  Calls Tryz.prog 62 #[v] w fun e w'=>e=.returned (.string (bsOf t.full))∧Below w.heap.size w w':=full_all _ t (Nat.le_refl _) h4 hw ht v w h4 hv
end Go.Proofs.YtgfnkeiigjholaaGreatDoor
