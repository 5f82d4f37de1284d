/-
  The program's reader: an OPERAND.
-/
import Derived.Test.YtgfnkeiigjholaaGreatDoorQ21
set_option linter.unusedVariables false
set_option linter.unusedSimpArgs false
namespace Go.Proofs.YtgfnkeiigjholaaGreatDoor
open Go.RowKit Go.Deep
def OpOk(n:Nat):Prop:=∀ (B:Nat) (S:RS) (w:World) (l:List RTok),RdAt w B S→S.f=false→LeftR S l→l.length≤n →
 Calls Tryz.prog 180 #[.pointer (some ⟨B,0,none⟩)] w fun e w'=>OutE (fun t _=>t.level=6) B S l w w' e
def BiOk(n:Nat):Prop:=∀ (B:Nat) (S:RS) (w:World) (l:List RTok) (least:Nat),1≤least→least≤6→RdAt w B S→S.f=false→LeftR S l→l.length≤n →
 Calls Tryz.prog 160 #[.pointer (some ⟨B,0,none⟩),.int .i64 least] w fun e w'=>OutE (fun t rest=>least≤t.level∧stops least rest) B S l w w' e
def BrOk(n:Nat):Prop:=∀ (B:Nat) (S:RS) (w:World) (o:RTok) (r:List RTok),RdAt w B S→S.f=false→S.d<8→o.text=cOpen→LeftR S (o :: r)→r.length≤n →
 Calls Tryz.prog 199 #[.pointer (some ⟨B,0,none⟩)] w fun e w'=>OutE (fun t _=>t.level=6) B S (o :: r) w w' e
theorem rd_cast{w:World}{B:Nat}{S:RS}(h:RdAt w B S){k:Nat}{ns:List PNode}(hk:S.k=k)(hn:S.ns=ns):RdAt w B { S with k:=k,ns:=ns }:=by subst hk hn;exact h
theorem GotO.here{d:Nat}{l rest:List RTok}{t:Tr}(g:GotO d l t rest):l.length=t.toks.length+rest.length:=by rw[g.eq];simp
set_option maxHeartbeats 2000000 in
set_option maxRecDepth 100000 in
theorem operand_none{B:Nat}{S:RS}{w:World}{l:List RTok}{t:RTok}(h:RdAt w B S)(hf:S.f=false)(ht:S.T[S.k]?=some t)(h1:singleK (kindP t.text)=false)(h2:kindP t.text≠28)(h3:kindP t.text≠9)(h4:kindP t.text=32→8≤S.d)(hb:BadV S.d l 0) :
  Calls Tryz.prog 180 #[.pointer (some ⟨B,0,none⟩)] w fun e w'=>OutE (fun t _=>t.level=6) B S l w w' e:=by
 have HR:=hideP h
 have HT:=hideP ht
 have hB:=h.blk.lt
 have HF:=hideP hf
 have HBV:=hideP hb
 clear h ht hf hb
 have e1:((kindP t.text:Int)==28)=false:=by simp;omega
 have e2:((kindP t.text:Int)==9)=false:=by simp;omega
 have hdl:((kindP t.text:Int)==32)=true→decide ((S.d:Int)<8)=false:=by intro e;simp at e ⊢;omega
 generalize hkd:kindP t.text=kd at *
 have HKD:=hideP hkd
 clear hkd h2 h3 h4
 have HS:=hideP h1
 clear h1
 by_cases e3:((kd:Int)==32)=true
 all_goals
  first | (have e4:=hdl e3) | (have e4:((kd:Int)==32)=false:=by simpa using e3)
  clear hdl
  go_enter Tryz.func180,Tryz.ntmps180
  go_wp2_with (first | (go_at_call 55;refine (current_at HR.out HT.out).mono ?_;rintro e w1 ⟨rfl,hb1⟩;unfold tokA;rw[HKD.out];have HW:=hideP (RdW.start (HR.out.below hb1) hb1 t);have hB1:=(HR.out.below hb1).blk.lt;have c3:=(HR.out.below hb1).blk.cell 3;have c2:=(HR.out.below hb1).blk.cell 2;have f3:=(HR.out.below hb1).blk.free 3;simp only[List.getElem?_toArray,List.getElem?_cons_zero,List.getElem?_cons_succ]at c3 c2;rw[HF.out]at c3) | (go_at_call 198;refine (isSingle_any _ _).mono ?_;rintro e w2 ⟨rfl,rfl⟩;rw[HS.out]))
  go_ret
  exact ⟨(KeepN.of hb1).trans ((KeepN.set B 3 _).trans (KeepN.of (new_below _ _))),.inr ⟨0,S.nv,S.ns,0,HBV.out,Nat.le_refl _,((HR.out.below hb1).setF true).alloc _,rfl⟩⟩
theorem add_at{B:Nat}{S:RS}{w:World}(h:RdAt w B S)(n:PNode)(a b c:Int)(ha:(n.ops:Int)=a)(hb:(n.left:Int)=b)(hc:(n.right:Int)=c)(hn:S.ns.length+1≤S.k) :
  Calls Tryz.prog 182 #[.pointer (some ⟨B,0,none⟩),.agg #[.int .i64 (kindP n.tok.text),.int .i64 n.tok.at',.string (bsOf n.tok.text),.int .i64 a,.int .i64 b,.int .i64 c]] w fun e w'=>e=.returned (.int .i64 (S.ns.length:Nat))∧(∃ nv,RdAt w' B { S with nv:=nv,ns:=S.ns++[n] })∧KeepN B w w':=by
 subst ha hb hc
 exact add_any B S w h n hn
set_option maxHeartbeats 2000000 in
set_option maxRecDepth 100000 in
theorem operand_single{B:Nat}{S:RS}{w:World}{a:RTok}{r:List RTok}(h:RdAt w B S)(hf:S.f=false)(hl:LeftR S (a :: r))(h1:singleK (kindP a.text)=true) :
  Calls Tryz.prog 180 #[.pointer (some ⟨B,0,none⟩)] w fun e w'=>OutE (fun t _=>t.level=6) B S (a :: r) w w' e:=by
 have HR:=hideP h
 have HL:=hideP hl
 have hB:=h.blk.lt
 have HF:=hideP hf
 have HS:=hideP h1
 have hma:=hl.may a (by simp)
 have HG:Hid (GotO S.d (a :: r) (Tr.leaf a) r):=GotO.leaf hma (by rw[← (kindOf _ hma).single];exact h1) S.d
 have hnk:=h.nk
 clear h hl hf h1 hma
 go_enter Tryz.func180,Tryz.ntmps180
 go_wp2_with (first | (go_at_call 55;refine (current_at HR.out HL.out.head).mono ?_;rintro e w1 ⟨rfl,hb1⟩;unfold tokA;have HW:=hideP (RdW.start (HR.out.below hb1) hb1 a);have hB1:=(HR.out.below hb1).blk.lt;have c3:=(HR.out.below hb1).blk.cell 3;simp only[List.getElem?_toArray,List.getElem?_cons_zero,List.getElem?_cons_succ]at c3;rw[HF.out]at c3) | (go_at_call 198;refine (isSingle_any _ _).mono ?_;rintro e w2 ⟨rfl,rfl⟩;rw[HS.out]) | (go_at_call 136;refine (take_at HW.out.rd HL.out _ HF.out rfl).mono ?_;rintro e w3 ⟨rfl,hR3,hK3⟩;replace HW:=hideP (HW.out.step hR3 hK3);clear hR3 hK3;obtain ⟨q0,q1,q2,_⟩:=HW.out.cells) | (go_at_call 182;refine (add_at HW.out.rd ⟨a,0,0,0⟩ 0 0 0 rfl rfl rfl (by simp only;omega)).mono ?_;rintro e w4 ⟨rfl,⟨nv,hR4⟩,hK4⟩;replace HW:=hideP (HW.out.step hR4 hK4);clear hR4 hK4))
 go_ret
 exact ⟨HW.out.kp,.inl ⟨Tr.leaf a,r,nv,HG.out,rfl,HW.out.rd,rfl⟩⟩
theorem un_kind{a:RTok}(hm:mayT a.text=true)(hu:unT a.text=true):singleK (kindP a.text)=false∧(kindP a.text=28∨kindP a.text=9):=by
 simp only[unT,Bool.or_eq_true,beq_iff_eq]at hu
 rcases hu with e | e <;> rw[e] <;> decide
set_option maxHeartbeats 4000000 in
set_option maxRecDepth 100000 in
theorem operand_un{n:Nat}(IH:OpOk n){B:Nat}{S:RS}{w:World}{a:RTok}{r:List RTok}(h:RdAt w B S)(hf:S.f=false)(hl:LeftR S (a :: r))(hr:r.length≤n)(hu:unT a.text=true) :
  Calls Tryz.prog 180 #[.pointer (some ⟨B,0,none⟩)] w fun e w'=>OutE (fun t _=>t.level=6) B S (a :: r) w w' e:=by
 have HR:=hideP h
 have HL:=hideP hl
 have hB:=h.blk.lt
 have HF:=hideP hf
 have HU:=hideP hu
 have hma:=hl.may a (by simp)
 obtain ⟨h1,h2⟩:=un_kind hma hu
 have HS:=hideP h1
 have hnk:=h.nk
 have HIH:=hideP IH
 have hun:(((kindP a.text:Int)==28)=true)∨(((kindP a.text:Int)==28)=false∧((kindP a.text:Int)==9)=true):=by
  rcases h2 with e | e <;> rw[e] <;> decide
 clear h hl hf h1 hma hu IH h2
 rcases hun with e1 | ⟨e1,e2⟩
 all_goals
  go_enter Tryz.func180,Tryz.ntmps180
  go_wp2_with (first | (go_at_call 55;refine (current_at HR.out HL.out.head).mono ?_;rintro e w1 ⟨rfl,hb1⟩;unfold tokA;have HW:=hideP (RdW.start (HR.out.below hb1) hb1 a);have hB1:=(HR.out.below hb1).blk.lt;have c3:=(HR.out.below hb1).blk.cell 3;simp only[List.getElem?_toArray,List.getElem?_cons_zero,List.getElem?_cons_succ]at c3;rw[HF.out]at c3) | (go_at_call 198;refine (isSingle_any _ _).mono ?_;rintro e w2 ⟨rfl,rfl⟩;rw[HS.out]) | (go_at_call 136;refine (take_at HW.out.rd HL.out _ HF.out rfl).mono ?_;rintro e w3 ⟨rfl,hR3,hK3⟩;replace HW:=hideP (HW.out.step hR3 hK3);clear hR3 hK3;obtain ⟨q0,q1,q2,_⟩:=HW.out.cells) | (go_at_call 180;refine (HIH.out B _ _ r HW.out.rd HF.out (HL.out.next _ rfl rfl) hr).mono ?_;rintro e w4 ⟨hK4,⟨t,rest,nv,hG,hlv,hR4,rfl⟩ | ⟨j,nv,ns,x,hbad,hnl,hR4,rfl⟩⟩ <;> (replace HW:=hideP (HW.out.step hR4 hK4);clear hR4 hK4 q0 q1 q2;obtain ⟨q0,q1,q2,_⟩:=HW.out.cells)))
  ·have hn1:=t.num_le hG.wf
   have hn2:=t.flat_len hG.wf S.ns.length
   have hn3:=t.num_pos hG.wf
   have HG:=hideP hG
   clear hG
   have HLV:=hideP hlv
   clear hlv
   go_wp2_with (go_at_call 182;refine (add_at HW.out.rd ⟨a,1,S.ns.length+t.num-1,0⟩ 1 _ 0 rfl rfl rfl (by simp only[List.length_append];omega)).mono ?_;rintro e w5 ⟨rfl,⟨nv5,hR5⟩,hK5⟩;replace HW:=hideP (HW.out.step hR5 hK5);clear hR5 hK5)
   go_ret
   exact ⟨HW.out.kp,.inl ⟨Tr.un a t,rest,nv5,GotO.un HU.out HG.out HLV.out,rfl,rd_cast HW.out.rd (by rw[Tr.toks_un];simp <;> omega) (by rw[Tr.flat_un];simp),ret_int (by rw[Tr.num_un];simp <;> omega)⟩⟩
  ·have HBD:=hideP hbad
   clear hbad
   go_wp2_with (go_at_call 182;refine (add_at HW.out.rd ⟨a,1,x,0⟩ 1 _ 0 rfl rfl rfl (by simp only;omega)).mono ?_;rintro e w5 ⟨rfl,⟨nv5,hR5⟩,hK5⟩;replace HW:=hideP (HW.out.step hR5 hK5);clear hR5 hK5)
   go_ret
   exact ⟨HW.out.kp,.inr ⟨j+1,nv5,_,_,BadV.un HU.out HBD.out,by simp;omega,rd_cast HW.out.rd (by simp;omega) rfl,rfl⟩⟩
theorem RdAt.setDI{w:World}{B:Nat}{S:RS}(h:RdAt w B S)(d:Nat)(v:Int)(hv:v=(d:Int))(hd:d≤8):RdAt (w.setCell ⟨B,2,none⟩ (.int .i64 v)) B { S with d:=d }:=by subst hv;exact h.setD d hd
theorem kind_end(E n:Nat)(h:n≠0):kindP (⟨[],E⟩:RTok).text≠n:=by
 rw[show (⟨[],E⟩:RTok).text=[] from rfl,kindP_nil];omega
set_option maxHeartbeats 1000000 in
set_option maxRecDepth 100000 in
theorem brackets_any{n:Nat}(IH:BiOk n):BrOk n:=by
 intro B S w o r h hf hd ho hl hr
 have HR:=hideP h
 have HL:=hideP hl
 have hB:=h.blk.lt
 have HF:=hideP hf
 have HO:=hideP ho
 have HD:=hideP hd
 have hko:kindP o.text=32:=by rw[ho];decide
 have HK:=hideP hko
 have hdl:=h.dl
 have HIH:=hideP IH
 clear h hl hf ho IH hko
 go_enter Tryz.func199,Tryz.ntmps199
 go_wp2_with (go_at_call 136;refine (take_at HR.out HL.out 32 HF.out HK.out).mono ?_;rintro e w1 ⟨rfl,hR1,hK1⟩;have c2:=hR1.blk.cell 2;have f2:=hR1.blk.free 2;simp only[List.getElem?_toArray,List.getElem?_cons_zero,List.getElem?_cons_succ]at c2;have hR2:=hR1.setDI (S.d+1) ((S.d:Int)+1) (by simp) (by omega);have HR2:=hideP hR2;have HK2:=hideP (hK1.trans (KeepN.set B 2 (.int .i64 ((S.d:Int)+1))));clear hR1 hR2 hK1)
 go_wp2_with (go_at_call 160;refine (HIH.out B _ _ r 1 (by omega) (by omega) HR2.out HF.out (HL.out.next _ rfl rfl) hr).mono ?_;rintro e w4 ⟨hK4,⟨t,rest,nv,hG,hlv,hR4,rfl⟩ | ⟨j,nv,ns,x,hbad,hnl,hR4,rfl⟩⟩)
 ·have HG:=hideP hG
  have HLV:=hideP hlv
  have HK4:=hideP (HK2.out.trans hK4)
  have HR4:=hideP hR4
  have hLr:=(HL.out.next ({ S with k:=S.k+1,d:=S.d+1 }:RS) rfl rfl).behind hG ({ S with k:=S.k+1+t.toks.length,d:=S.d+1,nv:=nv,ns:=S.ns++t.flat S.ns.length }:RS) rfl rfl
  clear hG hlv hK4 hR4 HR2 HK2 c2 f2
    -- is the bracket closed?
  rcases rest with _ | ⟨c,rest⟩
  ·obtain ⟨E,hE⟩:=hLr.nil
   have HE:=hideP hE
   clear hE hLr
   go_wp2_with (go_at_call 136;refine (take_not HR4.out HE.out 33 (.inr (kind_end E 33 (by omega)))).mono ?_;rintro e w5 ⟨rfl,hR5,hK5⟩;have c2:=hR5.blk.cell 2;have f2:=hR5.blk.free 2;simp only[List.getElem?_toArray,List.getElem?_cons_zero,List.getElem?_cons_succ]at c2;have HR5:=hideP hR5;have HK5:=hideP hK5;clear hR5 hK5)
   go_ret
   have R:=HR5.out.setDI S.d (S.d:Int) rfl (by omega)
   exact ⟨HK4.out.trans (HK5.out.trans (KeepN.set B 2 _)),.inr ⟨t.toks.length+1,nv,S.ns++t.flat S.ns.length,_,BadV.close HO.out HD.out HG.out HLV.out.2 (fun a r' e=>by cases e),(by rw[List.length_append,t.flat_len HG.out.wf];have:=t.num_le HG.out.wf;omega),rd_cast R (by simp only;omega) rfl,rfl⟩⟩
  ·by_cases hc:c.text=cClose
   ·have hkc:kindP c.text=33:=by rw[hc];decide
    have HKC:=hideP hkc
    have HC:=hideP hc
    have HLr:=hideP hLr
    clear hc hkc hLr
    go_wp2_with (go_at_call 136;refine (take_at HR4.out HLr.out 33 HF.out HKC.out).mono ?_;rintro e w5 ⟨rfl,hR5,hK5⟩;have c2:=hR5.blk.cell 2;have f2:=hR5.blk.free 2;simp only[List.getElem?_toArray,List.getElem?_cons_zero,List.getElem?_cons_succ]at c2;have HR5:=hideP hR5;have HK5:=hideP hK5;clear hR5 hK5)
    go_ret
    have R:=HR5.out.setDI S.d (S.d:Int) rfl (by omega)
    exact ⟨HK4.out.trans (HK5.out.trans (KeepN.set B 2 _)),.inl ⟨Tr.par o t c,rest,nv,GotO.par HO.out HC.out HD.out HG.out,rfl,rd_cast R (by simp only[Tr.toks_par,List.length_cons,List.length_append,List.length_nil];omega) (by rw[Tr.flat_par]),rfl⟩⟩
   ·have hmc:=hLr.may c (by simp)
    have hkc:kindP c.text≠33:=fun e=>hc ((kindOf _ hmc).kclose.1 e)
    have HKC:=hideP hkc
    have HC:=hideP hc
    have HE:=hideP hLr.head
    clear hc hkc hLr hmc
    go_wp2_with (go_at_call 136;refine (take_not HR4.out HE.out 33 (.inr HKC.out)).mono ?_;rintro e w5 ⟨rfl,hR5,hK5⟩;have c2:=hR5.blk.cell 2;have f2:=hR5.blk.free 2;simp only[List.getElem?_toArray,List.getElem?_cons_zero,List.getElem?_cons_succ]at c2;have HR5:=hideP hR5;have HK5:=hideP hK5;clear hR5 hK5)
    go_ret
    have R:=HR5.out.setDI S.d (S.d:Int) rfl (by omega)
    exact ⟨HK4.out.trans (HK5.out.trans (KeepN.set B 2 _)),.inr ⟨t.toks.length+1,nv,S.ns++t.flat S.ns.length,_,BadV.close HO.out HD.out HG.out HLV.out.2 (fun a r' e=>by cases e;exact HC.out),(by rw[List.length_append,t.flat_len HG.out.wf];have:=t.num_le HG.out.wf;omega),rd_cast R (by simp only;omega) rfl,rfl⟩⟩
 ·have HBD:=hideP hbad
  have HK4:=hideP (HK2.out.trans hK4)
  have HR4:=hideP hR4
  obtain ⟨tc,htc⟩:=hR4.cur
  have HTC:=hideP htc
  clear hbad hK4 hR4 htc HR2 HK2 c2 f2
  go_wp2_with (go_at_call 136;refine (take_not HR4.out HTC.out 33 (.inl rfl)).mono ?_;rintro e w5 ⟨rfl,hR5,hK5⟩;have c2:=hR5.blk.cell 2;have f2:=hR5.blk.free 2;simp only[List.getElem?_toArray,List.getElem?_cons_zero,List.getElem?_cons_succ]at c2;have HR5:=hideP hR5;have HK5:=hideP hK5;clear hR5 hK5)
  go_ret
  have R:=HR5.out.setDI S.d (S.d:Int) rfl (by omega)
  exact ⟨HK4.out.trans (HK5.out.trans (KeepN.set B 2 _)),.inr ⟨j+1,nv,ns,x,BadV.par HO.out HD.out HBD.out,(by have:ns.length≤S.ns.length+j:=hnl;omega),rd_cast R (by simp only;omega) rfl,rfl⟩⟩
end Go.Proofs.YtgfnkeiigjholaaGreatDoor
