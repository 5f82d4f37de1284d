/-
  The program's reader: what is left to read; what a call finds.
-/
import Derived.Test.YtpcjadaeolkngaaGreatDoorJ08
set_option linter.unusedVariables false
set_option linter.unusedSimpArgs false
namespace Go.Proofs.YtpcjadaeolkngaaGreatDoor
open Go.RowKit Go.Deep
structure LeftR(S:RS)(l:List RTok):Prop where
  eq:∃ E,S.T.drop S.k=l++[⟨[],E⟩]
  may:∀ t∈l,mayT t.text=true
theorem LeftR.len{S:RS}{l:List RTok}(h:LeftR S l)(hk:S.k<S.T.length):S.k+l.length+1=S.T.length:=by
  obtain ⟨E,e⟩:=h.eq
  have:=congrArg List.length e
  simp at this
  omega
theorem LeftR.head{S:RS}{a:RTok}{r:List RTok}(h:LeftR S (a :: r)):S.T[S.k]?=some a:=by
  obtain ⟨E,e⟩:=h.eq
  have:=congrArg (fun x=>x[0]?) e
  simpa using this
theorem LeftR.nil{S:RS}(h:LeftR S []):∃ E,S.T[S.k]?=some ⟨[],E⟩:=by
  obtain ⟨E,e⟩:=h.eq
  have:=congrArg (fun x=>x[0]?) e
  exact ⟨E,by simpa using this⟩
theorem LeftR.drop{S:RS}{l:List RTok}(h:LeftR S l){j:Nat}(hj:j≤l.length)(S':RS)(hT:S'.T=S.T)(hk:S'.k=S.k+j):LeftR S' (l.drop j):=by
  obtain ⟨E,e⟩:=h.eq
  refine ⟨⟨E, ?_⟩,fun t ht=>h.may t (List.mem_of_mem_drop ht)⟩
  rw[hT,hk,← List.drop_drop,e,List.drop_append_of_le_length hj]
theorem LeftR.next{S:RS}{a:RTok}{r:List RTok}(h:LeftR S (a :: r))(S':RS)(hT:S'.T=S.T)(hk:S'.k=S.k+1):LeftR S' r:=by
  have:=h.drop (j:=1) (by simp) S' hT hk
  simpa using this
theorem LeftR.behind{S:RS}{l rest:List RTok}{t:Tr}{d:Nat}(h:LeftR S l)(g:GotO d l t rest)(S':RS)(hT:S'.T=S.T)(hk:S'.k=S.k+t.toks.length):LeftR S' rest:=by
  have:=h.drop (j:=t.toks.length) (by rw[g.eq];simp) S' hT hk
  rw[g.eq]at this
  simpa using this
theorem kindP_nil:kindP []=0:=by decide
theorem cur_at{S:RS}{t:RTok}(ht:S.T[S.k]?=some t):∃ hk:S.k<S.T.length,S.T[S.k]=t:=by
  rw[List.getElem?_eq_some_iff]at ht;exact ht
theorem current_at{B:Nat}{S:RS}{w:World}(h:RdAt w B S){t:RTok}(ht:S.T[S.k]?=some t) :
    Calls Tryz.prog 43 #[.pointer (some ⟨B,0,none⟩)] w fun e w'=>e=.returned (tokA t)∧Below w.heap.size w w':=by
  obtain ⟨hk,rfl⟩:=cur_at ht
  exact current_any B S w h hk
theorem sees_at{B:Nat}{S:RS}{w:World}(h:RdAt w B S){t:RTok}(ht:S.T[S.k]?=some t)(n:Nat) :
    Calls Tryz.prog 67 #[.pointer (some ⟨B,0,none⟩),.int .i64 n] w fun e w'=>e=.returned (.bool (!S.f&&kindP t.text==n))∧Below w.heap.size w w':=by
  obtain ⟨hk,rfl⟩:=cur_at ht
  exact sees_any B S w h hk n
theorem take_at{B:Nat}{S:RS}{w:World}(h:RdAt w B S){a:RTok}{r:List RTok}(hl:LeftR S (a :: r))(n:Nat)(hs:S.f=false)(hn:kindP a.text=n) :
    Calls Tryz.prog 102 #[.pointer (some ⟨B,0,none⟩),.int .i64 n] w fun e w'=>e=.returned (.tuple #[])∧RdAt w' B { S with k:=S.k+1 }∧KeepN B w w':=by
  obtain ⟨hk,he⟩:=cur_at hl.head
  have hlen:=hl.len hk
  exact take_yes B S w h hk n hs (by rw[he];exact hn) (by simp at hlen;omega)
theorem take_not{B:Nat}{S:RS}{w:World}(h:RdAt w B S){t:RTok}(ht:S.T[S.k]?=some t)(n:Nat)(hs:S.f=true∨kindP t.text≠n) :
    Calls Tryz.prog 102 #[.pointer (some ⟨B,0,none⟩),.int .i64 n] w fun e w'=>e=.returned (.tuple #[])∧RdAt w' B { S with f:=true }∧KeepN B w w':=by
  obtain ⟨hk,rfl⟩:=cur_at ht
  exact take_no B S w h hk n hs
theorem binding_at{B:Nat}{S:RS}{w:World}(h:RdAt w B S){t:RTok}(ht:S.T[S.k]?=some t) :
    Calls Tryz.prog 141 #[.pointer (some ⟨B,0,none⟩)] w fun e w'=>e=.returned (.int .i64 ((if S.f then 0 else bindK (kindP t.text):Nat):Int))∧Below w.heap.size w w':=by
  obtain ⟨hk,rfl⟩:=cur_at ht
  exact currentBinding_any B S w h hk
theorem RdAt.cur{w:World}{B:Nat}{S:RS}(h:RdAt w B S):∃ t,S.T[S.k]?=some t:=⟨_,List.getElem?_eq_getElem h.kt⟩
def OutE(P:Tr→List RTok→Prop)(B:Nat)(S:RS)(l:List RTok)(w w':World)(e:Ending):Prop :=
  KeepN B w w' ∧
  ((∃ t rest nv,GotO S.d l t rest∧P t rest∧RdAt w' B { S with k:=S.k+t.toks.length,nv:=nv,ns:=S.ns++t.flat S.ns.length }∧e=.returned (.int .i64 ((S.ns.length+t.num-1:Nat):Int))) ∨
   (∃ j nv ns x,BadV S.d l j∧ns.length≤S.ns.length+j∧RdAt w' B { S with k:=S.k+j,f:=true,nv:=nv,ns:=ns }∧e=.returned (.int .i64 ((x:Nat):Int))))
structure RdW(w0 w:World)(B:Nat)(S:RS)(nb:Nat)(t:RTok):Prop where
  rd:RdAt w B S
  tk:Blk w nb #[.int .i64 (kindP t.text),.int .i64 t.at',.string (bsOf t.text)] 101
  ne:nb≠B
  kp:KeepN B w0 w
theorem RdW.step{w0 w w':World}{B nb:Nat}{S S':RS}{t:RTok}(h:RdW w0 w B S nb t)(hr:RdAt w' B S')(hk:KeepN B w w'):RdW w0 w' B S' nb t :=
  ⟨hr,h.tk.keepN hk h.ne (by decide),h.ne,h.kp.trans hk⟩
theorem RdW.start{w w1:World}{B:Nat}{S:RS}(h:RdAt w1 B S)(hb:Below w.heap.size w w1)(t:RTok):RdW w (w1.alloc (.cells #[.int .i64 (kindP t.text),.int .i64 t.at',.string (bsOf t.text)] 101)) B S w1.heap.size t :=
  ⟨h.alloc _,Blk.new _ _ _,by have:=h.blk.lt;omega,(KeepN.of hb).trans (KeepN.of (new_below _ _))⟩
theorem RdW.cells{w0 w:World}{B nb:Nat}{S:RS}{t:RTok}(h:RdW w0 w B S nb t):w.cell? ⟨nb,0,none⟩=some (.int .i64 (kindP t.text))∧w.cell? ⟨nb,1,none⟩=some (.int .i64 t.at')∧w.cell? ⟨nb,2,none⟩=some (.string (bsOf t.text))∧w.cell? ⟨B,2,none⟩=some (.int .i64 S.d)∧w.cell? ⟨B,3,none⟩=some (.bool S.f)∧w.frozen? ⟨B,3,none⟩=false :=
  ⟨h.tk.cell 0,h.tk.cell 1,h.tk.cell 2,h.rd.blk.cell 2,h.rd.blk.cell 3,h.rd.blk.free 3⟩
set_option maxHeartbeats 1000000 in
theorem operand_failed{B:Nat}{S:RS}{w:World}(h:RdAt w B S)(hf:S.f=true) :
    Calls Tryz.prog 140 #[.pointer (some ⟨B,0,none⟩)] w fun e w'=>e=.returned (.int .i64 0)∧Below w.heap.size w w':=by
  obtain ⟨t,ht⟩:=h.cur
  have HR:=hideP h
  have HT:=hideP ht
  have hB:=h.blk.lt
  have HF:=hideP hf
  clear h ht hf
  go_enter Tryz.func140,Tryz.ntmps140
  go_wp2_with (go_at_call 43;refine (current_at HR.out HT.out).mono ?_;rintro e w1 ⟨rfl,hb1⟩;unfold tokA;have hB1:=(HR.out.below hb1).blk.lt;have c3:=(HR.out.below hb1).blk.cell 3;simp only[List.getElem?_toArray,List.getElem?_cons_zero,List.getElem?_cons_succ]at c3;rw[HF.out]at c3)
  go_ret
  exact ⟨rfl,hb1.alloc (by have:=hb1.size;omega) _⟩
set_option maxHeartbeats 1000000 in
theorem binding_failed{B:Nat}{S:RS}{w:World}(h:RdAt w B S)(hf:S.f=true)(n:Nat) :
    Calls Tryz.prog 122 #[.pointer (some ⟨B,0,none⟩),.int .i64 n] w fun e w'=>e=.returned (.int .i64 0)∧Below w.heap.size w w':=by
  obtain ⟨t,ht⟩:=h.cur
  have HR:=hideP h
  have HT:=hideP ht
  have hB:=h.blk.lt
  have HF:=hideP hf
  clear h ht hf
  go_enter Tryz.func122,Tryz.ntmps122
  go_wp2_with (first | (go_at_call 140;refine (operand_failed HR.out HF.out).mono ?_;rintro e w1 ⟨rfl,hb1⟩;replace HR:=hideP (HR.out.below hb1)) | (go_at_call 141;refine (binding_at HR.out HT.out).mono ?_;rintro e w2 ⟨rfl,hb2⟩;rw[HF.out];simp only[if_true];replace HR:=hideP (HR.out.below hb2)))
  go_loopw [5,6] (fun vl vb wr=>vl=.int .i64 0∧vb=.int .i64 0∧Below w.heap.size w wr) (fun _ _ _=>0)
  case atStart=>exact ⟨rfl,rfl,hb1.trans (hb2.mono hb1.size)⟩
  case round =>
    obtain ⟨rfl,rfl,hbw⟩:=hrel
    go_wp2
    go_ret
    exact ⟨rfl,hbw⟩
def OpOk(n:Nat):Prop:=∀ (B:Nat) (S:RS) (w:World) (l:List RTok),RdAt w B S→S.f=false→LeftR S l→l.length≤n →
 Calls Tryz.prog 140 #[.pointer (some ⟨B,0,none⟩)] w fun e w'=>OutE (fun t _=>t.level=6) B S l w w' e
def BiOk(n:Nat):Prop:=∀ (B:Nat) (S:RS) (w:World) (l:List RTok) (least:Nat),1≤least→least≤6→RdAt w B S→S.f=false→LeftR S l→l.length≤n →
 Calls Tryz.prog 122 #[.pointer (some ⟨B,0,none⟩),.int .i64 least] w fun e w'=>OutE (fun t rest=>least≤t.level∧stops least rest) B S l w w' e
def BrOk(n:Nat):Prop:=∀ (B:Nat) (S:RS) (w:World) (o:RTok) (r:List RTok),RdAt w B S→S.f=false→S.d<8→o.text=cOpen→LeftR S (o :: r)→r.length≤n →
 Calls Tryz.prog 154 #[.pointer (some ⟨B,0,none⟩)] w fun e w'=>OutE (fun t _=>t.level=6) B S (o :: r) w w' e
theorem rd_cast{w:World}{B:Nat}{S:RS}(h:RdAt w B S){k:Nat}{ns:List PNode}(hk:S.k=k)(hn:S.ns=ns):RdAt w B { S with k:=k,ns:=ns }:=by subst hk hn;exact h
theorem GotO.here{d:Nat}{l rest:List RTok}{t:Tr}(g:GotO d l t rest):l.length=t.toks.length+rest.length:=by rw[g.eq];simp
set_option maxHeartbeats 2000000 in
set_option maxRecDepth 100000 in
theorem operand_none{B:Nat}{S:RS}{w:World}{l:List RTok}{t:RTok}(h:RdAt w B S)(hf:S.f=false)(ht:S.T[S.k]?=some t)(h1:singleK (kindP t.text)=false)(h2:kindP t.text≠28)(h3:kindP t.text≠9)(h4:kindP t.text=32→8≤S.d)(hb:BadV S.d l 0) :
  Calls Tryz.prog 140 #[.pointer (some ⟨B,0,none⟩)] w fun e w'=>OutE (fun t _=>t.level=6) B S l w w' e:=by
 have HR:=hideP h
 have HT:=hideP ht
 have hB:=h.blk.lt
 have HF:=hideP hf
 have HBV:=hideP hb
 clear h ht hf hb
 have e1:((kindP t.text:Int)==28)=false:=by simp;omega
 have e2:((kindP t.text:Int)==9)=false:=by simp;omega
 have hdl:((kindP t.text:Int)==32)=true→decide ((S.d:Int)<8)=false:=by intro e;simp at e ⊢;omega
 generalize hkd:kindP t.text=kd at *
 have HKD:=hideP hkd
 clear hkd h2 h3 h4
 have HS:=hideP h1
 clear h1
 by_cases e3:((kd:Int)==32)=true
 all_goals
  first | (have e4:=hdl e3) | (have e4:((kd:Int)==32)=false:=by simpa using e3)
  clear hdl
  go_enter Tryz.func140,Tryz.ntmps140
  go_wp2_with (first | (go_at_call 43;refine (current_at HR.out HT.out).mono ?_;rintro e w1 ⟨rfl,hb1⟩;unfold tokA;rw[HKD.out];have HW:=hideP (RdW.start (HR.out.below hb1) hb1 t);have hB1:=(HR.out.below hb1).blk.lt;have c3:=(HR.out.below hb1).blk.cell 3;have c2:=(HR.out.below hb1).blk.cell 2;have f3:=(HR.out.below hb1).blk.free 3;simp only[List.getElem?_toArray,List.getElem?_cons_zero,List.getElem?_cons_succ]at c3 c2;rw[HF.out]at c3) | (go_at_call 153;refine (isSingle_any _ _).mono ?_;rintro e w2 ⟨rfl,rfl⟩;rw[HS.out]))
  go_ret
  exact ⟨(KeepN.of hb1).trans ((KeepN.set B 3 _).trans (KeepN.of (new_below _ _))),.inr ⟨0,S.nv,S.ns,0,HBV.out,Nat.le_refl _,((HR.out.below hb1).setF true).alloc _,rfl⟩⟩
theorem add_at{B:Nat}{S:RS}{w:World}(h:RdAt w B S)(n:PNode)(a b c:Int)(ha:(n.ops:Int)=a)(hb:(n.left:Int)=b)(hc:(n.right:Int)=c)(hn:S.ns.length+1≤S.k) :
  Calls Tryz.prog 142 #[.pointer (some ⟨B,0,none⟩),.agg #[.int .i64 (kindP n.tok.text),.int .i64 n.tok.at',.string (bsOf n.tok.text),.int .i64 a,.int .i64 b,.int .i64 c]] w fun e w'=>e=.returned (.int .i64 (S.ns.length:Nat))∧(∃ nv,RdAt w' B { S with nv:=nv,ns:=S.ns++[n] })∧KeepN B w w':=by
 subst ha hb hc
 exact add_any B S w h n hn
set_option maxHeartbeats 2000000 in
set_option maxRecDepth 100000 in
theorem operand_single{B:Nat}{S:RS}{w:World}{a:RTok}{r:List RTok}(h:RdAt w B S)(hf:S.f=false)(hl:LeftR S (a :: r))(h1:singleK (kindP a.text)=true) :
  Calls Tryz.prog 140 #[.pointer (some ⟨B,0,none⟩)] w fun e w'=>OutE (fun t _=>t.level=6) B S (a :: r) w w' e:=by
 have HR:=hideP h
 have HL:=hideP hl
 have hB:=h.blk.lt
 have HF:=hideP hf
 have HS:=hideP h1
 have hma:=hl.may a (by simp)
 have HG:Hid (GotO S.d (a :: r) (Tr.leaf a) r):=GotO.leaf hma (by rw[← (kindOf _ hma).single];exact h1) S.d
 have hnk:=h.nk
 clear h hl hf h1 hma
 go_enter Tryz.func140,Tryz.ntmps140
 go_wp2_with (first | (go_at_call 43;refine (current_at HR.out HL.out.head).mono ?_;rintro e w1 ⟨rfl,hb1⟩;unfold tokA;have HW:=hideP (RdW.start (HR.out.below hb1) hb1 a);have hB1:=(HR.out.below hb1).blk.lt;have c3:=(HR.out.below hb1).blk.cell 3;simp only[List.getElem?_toArray,List.getElem?_cons_zero,List.getElem?_cons_succ]at c3;rw[HF.out]at c3) | (go_at_call 153;refine (isSingle_any _ _).mono ?_;rintro e w2 ⟨rfl,rfl⟩;rw[HS.out]) | (go_at_call 102;refine (take_at HW.out.rd HL.out _ HF.out rfl).mono ?_;rintro e w3 ⟨rfl,hR3,hK3⟩;replace HW:=hideP (HW.out.step hR3 hK3);clear hR3 hK3;obtain ⟨q0,q1,q2,_⟩:=HW.out.cells) | (go_at_call 142;refine (add_at HW.out.rd ⟨a,0,0,0⟩ 0 0 0 rfl rfl rfl (by simp only;omega)).mono ?_;rintro e w4 ⟨rfl,⟨nv,hR4⟩,hK4⟩;replace HW:=hideP (HW.out.step hR4 hK4);clear hR4 hK4))
 go_ret
 exact ⟨HW.out.kp,.inl ⟨Tr.leaf a,r,nv,HG.out,rfl,HW.out.rd,rfl⟩⟩
theorem un_kind{a:RTok}(hm:mayT a.text=true)(hu:unT a.text=true):singleK (kindP a.text)=false∧(kindP a.text=28∨kindP a.text=9):=by
 simp only[unT,Bool.or_eq_true,beq_iff_eq]at hu
 rcases hu with e | e <;> rw[e] <;> decide
set_option maxHeartbeats 4000000 in
set_option maxRecDepth 100000 in
theorem operand_un{n:Nat}(IH:OpOk n){B:Nat}{S:RS}{w:World}{a:RTok}{r:List RTok}(h:RdAt w B S)(hf:S.f=false)(hl:LeftR S (a :: r))(hr:r.length≤n)(hu:unT a.text=true) :
  Calls Tryz.prog 140 #[.pointer (some ⟨B,0,none⟩)] w fun e w'=>OutE (fun t _=>t.level=6) B S (a :: r) w w' e:=by
 have HR:=hideP h
 have HL:=hideP hl
 have hB:=h.blk.lt
 have HF:=hideP hf
 have HU:=hideP hu
 have hma:=hl.may a (by simp)
 obtain ⟨h1,h2⟩:=un_kind hma hu
 have HS:=hideP h1
 have hnk:=h.nk
 have HIH:=hideP IH
 have hun:(((kindP a.text:Int)==28)=true)∨(((kindP a.text:Int)==28)=false∧((kindP a.text:Int)==9)=true):=by
  rcases h2 with e | e <;> rw[e] <;> decide
 clear h hl hf h1 hma hu IH h2
 rcases hun with e1 | ⟨e1,e2⟩
 all_goals
  go_enter Tryz.func140,Tryz.ntmps140
  go_wp2_with (first | (go_at_call 43;refine (current_at HR.out HL.out.head).mono ?_;rintro e w1 ⟨rfl,hb1⟩;unfold tokA;have HW:=hideP (RdW.start (HR.out.below hb1) hb1 a);have hB1:=(HR.out.below hb1).blk.lt;have c3:=(HR.out.below hb1).blk.cell 3;simp only[List.getElem?_toArray,List.getElem?_cons_zero,List.getElem?_cons_succ]at c3;rw[HF.out]at c3) | (go_at_call 153;refine (isSingle_any _ _).mono ?_;rintro e w2 ⟨rfl,rfl⟩;rw[HS.out]) | (go_at_call 102;refine (take_at HW.out.rd HL.out _ HF.out rfl).mono ?_;rintro e w3 ⟨rfl,hR3,hK3⟩;replace HW:=hideP (HW.out.step hR3 hK3);clear hR3 hK3;obtain ⟨q0,q1,q2,_⟩:=HW.out.cells) | (go_at_call 140;refine (HIH.out B _ _ r HW.out.rd HF.out (HL.out.next _ rfl rfl) hr).mono ?_;rintro e w4 ⟨hK4,⟨t,rest,nv,hG,hlv,hR4,rfl⟩ | ⟨j,nv,ns,x,hbad,hnl,hR4,rfl⟩⟩ <;> (replace HW:=hideP (HW.out.step hR4 hK4);clear hR4 hK4 q0 q1 q2;obtain ⟨q0,q1,q2,_⟩:=HW.out.cells)))
  ·have hn1:=t.num_le hG.wf
   have hn2:=t.flat_len hG.wf S.ns.length
   have hn3:=t.num_pos hG.wf
   have HG:=hideP hG
   clear hG
   have HLV:=hideP hlv
   clear hlv
   go_wp2_with (go_at_call 142;refine (add_at HW.out.rd ⟨a,1,S.ns.length+t.num-1,0⟩ 1 _ 0 rfl rfl rfl (by simp only[List.length_append];omega)).mono ?_;rintro e w5 ⟨rfl,⟨nv5,hR5⟩,hK5⟩;replace HW:=hideP (HW.out.step hR5 hK5);clear hR5 hK5)
   go_ret
   exact ⟨HW.out.kp,.inl ⟨Tr.un a t,rest,nv5,GotO.un HU.out HG.out HLV.out,rfl,rd_cast HW.out.rd (by rw[Tr.toks_un];simp <;> omega) (by rw[Tr.flat_un];simp),ret_int (by rw[Tr.num_un];simp <;> omega)⟩⟩
  ·have HBD:=hideP hbad
   clear hbad
   go_wp2_with (go_at_call 142;refine (add_at HW.out.rd ⟨a,1,x,0⟩ 1 _ 0 rfl rfl rfl (by simp only;omega)).mono ?_;rintro e w5 ⟨rfl,⟨nv5,hR5⟩,hK5⟩;replace HW:=hideP (HW.out.step hR5 hK5);clear hR5 hK5)
   go_ret
   exact ⟨HW.out.kp,.inr ⟨j+1,nv5,_,_,BadV.un HU.out HBD.out,by simp;omega,rd_cast HW.out.rd (by simp;omega) rfl,rfl⟩⟩
theorem RdAt.setDI{w:World}{B:Nat}{S:RS}(h:RdAt w B S)(d:Nat)(v:Int)(hv:v=(d:Int))(hd:d≤8):RdAt (w.setCell ⟨B,2,none⟩ (.int .i64 v)) B { S with d:=d }:=by subst hv;exact h.setD d hd
theorem kind_end(E n:Nat)(h:n≠0):kindP (⟨[],E⟩:RTok).text≠n:=by
 rw[show (⟨[],E⟩:RTok).text=[] from rfl,kindP_nil];omega
set_option maxHeartbeats 1000000 in
set_option maxRecDepth 100000 in
theorem brackets_any{n:Nat}(IH:BiOk n):BrOk n:=by
 intro B S w o r h hf hd ho hl hr
 have HR:=hideP h
 have HL:=hideP hl
 have hB:=h.blk.lt
 have HF:=hideP hf
 have HO:=hideP ho
 have HD:=hideP hd
 have hko:kindP o.text=32:=by rw[ho];decide
 have HK:=hideP hko
 have hdl:=h.dl
 have HIH:=hideP IH
 clear h hl hf ho IH hko
 go_enter Tryz.func154,Tryz.ntmps154
 go_wp2_with (go_at_call 102;refine (take_at HR.out HL.out 32 HF.out HK.out).mono ?_;rintro e w1 ⟨rfl,hR1,hK1⟩;have c2:=hR1.blk.cell 2;have f2:=hR1.blk.free 2;simp only[List.getElem?_toArray,List.getElem?_cons_zero,List.getElem?_cons_succ]at c2;have hR2:=hR1.setDI (S.d+1) ((S.d:Int)+1) (by simp) (by omega);have HR2:=hideP hR2;have HK2:=hideP (hK1.trans (KeepN.set B 2 (.int .i64 ((S.d:Int)+1))));clear hR1 hR2 hK1)
 go_wp2_with (go_at_call 122;refine (HIH.out B _ _ r 1 (by omega) (by omega) HR2.out HF.out (HL.out.next _ rfl rfl) hr).mono ?_;rintro e w4 ⟨hK4,⟨t,rest,nv,hG,hlv,hR4,rfl⟩ | ⟨j,nv,ns,x,hbad,hnl,hR4,rfl⟩⟩)
 ·have HG:=hideP hG
  have HLV:=hideP hlv
  have HK4:=hideP (HK2.out.trans hK4)
  have HR4:=hideP hR4
  have hLr:=(HL.out.next ({ S with k:=S.k+1,d:=S.d+1 }:RS) rfl rfl).behind hG ({ S with k:=S.k+1+t.toks.length,d:=S.d+1,nv:=nv,ns:=S.ns++t.flat S.ns.length }:RS) rfl rfl
  clear hG hlv hK4 hR4 HR2 HK2 c2 f2
    -- is the bracket closed?
  rcases rest with _ | ⟨c,rest⟩
  ·obtain ⟨E,hE⟩:=hLr.nil
   have HE:=hideP hE
   clear hE hLr
   go_wp2_with (go_at_call 102;refine (take_not HR4.out HE.out 33 (.inr (kind_end E 33 (by omega)))).mono ?_;rintro e w5 ⟨rfl,hR5,hK5⟩;have c2:=hR5.blk.cell 2;have f2:=hR5.blk.free 2;simp only[List.getElem?_toArray,List.getElem?_cons_zero,List.getElem?_cons_succ]at c2;have HR5:=hideP hR5;have HK5:=hideP hK5;clear hR5 hK5)
   go_ret
   have R:=HR5.out.setDI S.d (S.d:Int) rfl (by omega)
   exact ⟨HK4.out.trans (HK5.out.trans (KeepN.set B 2 _)),.inr ⟨t.toks.length+1,nv,S.ns++t.flat S.ns.length,_,BadV.close HO.out HD.out HG.out HLV.out.2 (fun a r' e=>by cases e),(by rw[List.length_append,t.flat_len HG.out.wf];have:=t.num_le HG.out.wf;omega),rd_cast R (by simp only;omega) rfl,rfl⟩⟩
  ·by_cases hc:c.text=cClose
   ·have hkc:kindP c.text=33:=by rw[hc];decide
    have HKC:=hideP hkc
    have HC:=hideP hc
    have HLr:=hideP hLr
    clear hc hkc hLr
    go_wp2_with (go_at_call 102;refine (take_at HR4.out HLr.out 33 HF.out HKC.out).mono ?_;rintro e w5 ⟨rfl,hR5,hK5⟩;have c2:=hR5.blk.cell 2;have f2:=hR5.blk.free 2;simp only[List.getElem?_toArray,List.getElem?_cons_zero,List.getElem?_cons_succ]at c2;have HR5:=hideP hR5;have HK5:=hideP hK5;clear hR5 hK5)
    go_ret
    have R:=HR5.out.setDI S.d (S.d:Int) rfl (by omega)
    exact ⟨HK4.out.trans (HK5.out.trans (KeepN.set B 2 _)),.inl ⟨Tr.par o t c,rest,nv,GotO.par HO.out HC.out HD.out HG.out,rfl,rd_cast R (by simp only[Tr.toks_par,List.length_cons,List.length_append,List.length_nil];omega) (by rw[Tr.flat_par]),rfl⟩⟩
   ·have hmc:=hLr.may c (by simp)
    have hkc:kindP c.text≠33:=fun e=>hc ((kindOf _ hmc).kclose.1 e)
    have HKC:=hideP hkc
    have HC:=hideP hc
    have HE:=hideP hLr.head
    clear hc hkc hLr hmc
    go_wp2_with (go_at_call 102;refine (take_not HR4.out HE.out 33 (.inr HKC.out)).mono ?_;rintro e w5 ⟨rfl,hR5,hK5⟩;have c2:=hR5.blk.cell 2;have f2:=hR5.blk.free 2;simp only[List.getElem?_toArray,List.getElem?_cons_zero,List.getElem?_cons_succ]at c2;have HR5:=hideP hR5;have HK5:=hideP hK5;clear hR5 hK5)
    go_ret
    have R:=HR5.out.setDI S.d (S.d:Int) rfl (by omega)
    exact ⟨HK4.out.trans (HK5.out.trans (KeepN.set B 2 _)),.inr ⟨t.toks.length+1,nv,S.ns++t.flat S.ns.length,_,BadV.close HO.out HD.out HG.out HLV.out.2 (fun a r' e=>by cases e;exact HC.out),(by rw[List.length_append,t.flat_len HG.out.wf];have:=t.num_le HG.out.wf;omega),rd_cast R (by simp only;omega) rfl,rfl⟩⟩
 ·have HBD:=hideP hbad
  have HK4:=hideP (HK2.out.trans hK4)
  have HR4:=hideP hR4
  obtain ⟨tc,htc⟩:=hR4.cur
  have HTC:=hideP htc
  clear hbad hK4 hR4 htc HR2 HK2 c2 f2
  go_wp2_with (go_at_call 102;refine (take_not HR4.out HTC.out 33 (.inl rfl)).mono ?_;rintro e w5 ⟨rfl,hR5,hK5⟩;have c2:=hR5.blk.cell 2;have f2:=hR5.blk.free 2;simp only[List.getElem?_toArray,List.getElem?_cons_zero,List.getElem?_cons_succ]at c2;have HR5:=hideP hR5;have HK5:=hideP hK5;clear hR5 hK5)
  go_ret
  have R:=HR5.out.setDI S.d (S.d:Int) rfl (by omega)
  exact ⟨HK4.out.trans (HK5.out.trans (KeepN.set B 2 _)),.inr ⟨j+1,nv,ns,x,BadV.par HO.out HD.out HBD.out,(by have:ns.length≤S.ns.length+j:=hnl;omega),rd_cast R (by simp only;omega) rfl,rfl⟩⟩
theorem OutE.pre{P:Tr→List RTok→Prop}{B:Nat}{S:RS}{l:List RTok}{w w1 w':World}{e:Ending}(h:KeepN B w w1)(g:OutE P B S l w1 w' e):OutE P B S l w w' e:=⟨h.trans g.1,g.2⟩
theorem open_kind:singleK (kindP cOpen)=false∧((kindP cOpen:Int)==28)=false∧((kindP cOpen:Int)==9)=false∧((kindP cOpen:Int)==32)=true:=by decide
set_option maxHeartbeats 1000000 in
set_option maxRecDepth 100000 in
theorem operand_par{n:Nat}(IH:BrOk n){B:Nat}{S:RS}{w:World}{a:RTok}{r:List RTok}(h:RdAt w B S)(hf:S.f=false)(hl:LeftR S (a :: r))(hr:r.length≤n)(ho:a.text=cOpen)(hd:S.d<8) :
    Calls Tryz.prog 140 #[.pointer (some ⟨B,0,none⟩)] w fun e w'=>OutE (fun t _=>t.level=6) B S (a :: r) w w' e:=by
  have HR:=hideP h
  have HL:=hideP hl
  have hB:=h.blk.lt
  have HF:=hideP hf
  have HO:=hideP ho
  have HIH:=hideP IH
  obtain ⟨h1,e1,e2,e3⟩:=open_kind
  rw[← ho]at h1 e1 e2 e3
  have HS:=hideP h1
  clear h hl hf h1 IH ho
  have e4:decide ((S.d:Int)<8)=true:=by simp;omega
  go_enter Tryz.func140,Tryz.ntmps140
  go_wp2_with (first | (go_at_call 43;refine (current_at HR.out HL.out.head).mono ?_;rintro e w1 ⟨rfl,hb1⟩;unfold tokA;have HW:=hideP (RdW.start (HR.out.below hb1) hb1 a);have hB1:=(HR.out.below hb1).blk.lt;have c2:=(HR.out.below hb1).blk.cell 2;have c3:=(HR.out.below hb1).blk.cell 3;simp only[List.getElem?_toArray,List.getElem?_cons_zero,List.getElem?_cons_succ]at c2 c3;rw[HF.out]at c3) | (go_at_call 153;refine (isSingle_any _ _).mono ?_;rintro e w2 ⟨rfl,rfl⟩;rw[HS.out]) | (go_at_call 154;refine (HIH.out B S _ a r HW.out.rd HF.out hd HO.out HL.out hr).mono ?_;rintro e w3 hout;obtain ⟨v,hv⟩:∃ v:Int,e=.returned (.int .i64 v):=by { obtain ⟨_,⟨_,_,_,_,_,_,h⟩ | ⟨_,_,_,_,_,_,_,h⟩⟩:=hout;exact ⟨_,h⟩;exact ⟨_,h⟩ };subst hv;have HOUT:=hideP hout;clear hout))
  go_ret
  exact HOUT.out.pre HW.out.kp
theorem operand_step{n:Nat}(IHo:OpOk n)(IHb:BrOk n):OpOk (n+1):=by
  intro B S w l h hf hl hn
  rcases l with _ | ⟨a,r⟩
  · obtain ⟨E,hE⟩:=hl.nil
    exact operand_none h hf hE (by rw[show (⟨[],E⟩:RTok).text=[] from rfl,kindP_nil];decide) (kind_end E 28 (by omega)) (kind_end E 9 (by omega)) (fun e=>absurd e (kind_end E 32 (by omega))) (BadV.none fun a r e=>by cases e)
  · have hma:=hl.may a (by simp)
    have K:=kindOf _ hma
    have hr:r.length≤n:=by simpa using hn
    cases hs:singleT a.text with
    | true=>exact operand_single h hf hl (by rw[K.single];exact hs)
    | false =>
      cases hu:unT a.text with
      | true=>exact operand_un IHo h hf hl hr hu
      | false =>
        by_cases ho:a.text=cOpen∧S.d<8
        · exact operand_par IHb h hf hl hr ho.1 ho.2
        · have hu':a.text≠cMinus∧a.text≠cNot:=by simpa[unT] using hu
          refine operand_none h hf hl.head (by rw[K.single];exact hs) (fun e=>hu'.1 (K.kminus.1 e)) (fun e=>hu'.2 (K.knot.1 e)) (fun e=>?_) (BadV.none fun a' r' e=>?_)
          · have:=K.kopen.1 e
            apply Nat.le_of_not_lt
            exact fun hd=>ho ⟨this,hd⟩
          · cases e
            refine ⟨hma,hs,hu,fun e=>?_⟩
            apply Nat.le_of_not_lt
            exact fun hd=>ho ⟨e,hd⟩
def bindsHd:List RTok→Nat
  | []=>0
  | a :: _=>bindsT a.text
theorem binding_left{B:Nat}{S:RS}{w:World}{l:List RTok}(h:RdAt w B S)(hf:S.f=false)(hl:LeftR S l) :
    Calls Tryz.prog 141 #[.pointer (some ⟨B,0,none⟩)] w fun e w'=>e=.returned (.int .i64 (bindsHd l:Nat))∧Below w.heap.size w w':=by
  rcases l with _ | ⟨a,r⟩
  · obtain ⟨E,hE⟩:=hl.nil
    have:=binding_at h hE
    rw[hf,show (⟨[],E⟩:RTok).text=[] from rfl,kindP_nil]at this
    exact this
  · have:=binding_at h hl.head
    rw[hf,(kindOf _ (hl.may a (by simp))).binds]at this
    exact this
theorem stops_of{l:List RTok}{n:Nat}(h:bindsHd l<n∨bindsHd l=0):stops n l:=by
  intro a r e
  subst e
  exact h
def nextOf(w:World)(B:Nat):Nat:=match w.cell? ⟨B,1,none⟩ with
  | some v=>(intOf v).toNat
  | none=>0
theorem RdAt.nextOf{w:World}{B:Nat}{S:RS}(h:RdAt w B S):nextOf w B=S.k:=by
  have:=h.blk.cell 1
  simp only[List.getElem?_toArray,List.getElem?_cons_zero,List.getElem?_cons_succ]at this
  unfold Go.Proofs.YtpcjadaeolkngaaGreatDoor.nextOf
  rw[this]
  simp[intOf]
structure BiPre(B:Nat)(S:RS)(l:List RTok)(least:Nat)(w wr:World)(vl:Int):Prop where
  kp:KeepN B w wr
  ok:(∃ t rest nv,GotO S.d l t rest∧least≤t.level∧stops (t.level+1) rest∧RdAt wr B { S with k:=S.k+t.toks.length,nv:=nv,ns:=S.ns++t.flat S.ns.length }∧vl=((S.ns.length+t.num-1:Nat):Int)) ∨
   (∃ j nv ns x,BadV S.d l j∧ns.length≤S.ns.length+j∧RdAt wr B { S with k:=S.k+j,f:=true,nv:=nv,ns:=ns }∧vl=((x:Nat):Int))
structure BiIn(B:Nat)(S:RS)(l:List RTok)(least:Nat)(w wr:World)(vl b:Int):Prop where
  kp:KeepN B w wr
  ok:(∃ t rest nv,GotO S.d l t rest∧least≤t.level∧stops (t.level+1) rest∧RdAt wr B { S with k:=S.k+t.toks.length,nv:=nv,ns:=S.ns++t.flat S.ns.length }∧vl=((S.ns.length+t.num-1:Nat):Int)∧b=(bindsHd rest:Nat)) ∨
   (∃ j nv ns x,BadV S.d l j∧ns.length≤S.ns.length+j∧RdAt wr B { S with k:=S.k+j,f:=true,nv:=nv,ns:=ns }∧vl=((x:Nat):Int)∧b=0)
theorem OutE.val{P:Tr→List RTok→Prop}{B:Nat}{S:RS}{l:List RTok}{w w':World}{e:Ending}(h:OutE P B S l w w' e):∃ v:Int,e=.returned (.int .i64 v):=by
  obtain ⟨_,⟨_,_,_,_,_,_,h⟩ | ⟨_,_,_,_,_,_,_,h⟩⟩:=h
  · exact ⟨_,h⟩
  · exact ⟨_,h⟩
theorem ret_inj{a b:Int}(h:Ending.returned (.int .i64 a)=.returned (.int .i64 b)):a=b:=by
  simpa using h
theorem bi_start{B:Nat}{S:RS}{l:List RTok}{least:Nat}{w w1:World}{v:Int}(h6:least≤6)(h:OutE (fun t _=>t.level=6) B S l w w1 (.returned (.int .i64 v))):BiPre B S l least w w1 v:=by
  obtain ⟨hk,⟨t,rest,nv,hG,hlv,hR,he⟩ | ⟨j,nv,ns,x,hb,hn,hR,he⟩⟩:=h
  · refine ⟨hk,.inl ⟨t,rest,nv,hG,by rw[hlv];exact h6, ?_,hR,ret_inj he⟩⟩
    intro a r e
    have:=bindsT_le a.text
    rw[hlv]
    omega
  · exact ⟨hk,.inr ⟨j,nv,ns,x,hb,hn,hR,ret_inj he⟩⟩
theorem binding_in{B:Nat}{S:RS}{l:List RTok}{least:Nat}{w w1:World}{v:Int}(hf:S.f=false)(hl:LeftR S l)(h:BiPre B S l least w w1 v) :
    Calls Tryz.prog 141 #[.pointer (some ⟨B,0,none⟩)] w1 fun e w2=>∃ b:Int,e=.returned (.int .i64 b)∧BiIn B S l least w w2 v b∧nextOf w2 B=nextOf w1 B:=by
  obtain ⟨hk,⟨t,rest,nv,hG,hlv,hs,hR,he⟩ | ⟨j,nv,ns,x,hb,hn,hR,he⟩⟩:=h
  · refine (binding_left hR hf (hl.behind hG _ rfl rfl)).mono ?_
    rintro e w2 ⟨rfl,hb2⟩
    exact ⟨_,rfl,⟨hk.trans (KeepN.of hb2),.inl ⟨t,rest,nv,hG,hlv,hs,hR.below hb2,he,rfl⟩⟩,by rw[hR.nextOf,(hR.below hb2).nextOf]⟩
  · obtain ⟨tk,htk⟩:=hR.cur
    refine (binding_at hR htk).mono ?_
    rintro e w2 ⟨rfl,hb2⟩
    exact ⟨_,rfl,⟨hk.trans (KeepN.of hb2),.inr ⟨j,nv,ns,x,hb,hn,hR.below hb2,he,rfl⟩⟩,by rw[hR.nextOf,(hR.below hb2).nextOf]⟩
theorem BiIn.out{B:Nat}{S:RS}{l:List RTok}{least:Nat}{w wr:World}{vl b:Int}(h:BiIn B S l least w wr vl b)(hb:b=0∨b<(least:Int)):OutE (fun t rest=>least≤t.level∧stops least rest) B S l w wr (.returned (.int .i64 vl)):=by
  obtain ⟨hk,⟨t,rest,nv,hG,hlv,hs,hR,rfl,rfl⟩ | ⟨j,nv,ns,x,hbd,hn,hR,rfl,rfl⟩⟩:=h
  · exact ⟨hk,.inl ⟨t,rest,nv,hG,⟨hlv,stops_of (by omega)⟩,hR,rfl⟩⟩
  · exact ⟨hk,.inr ⟨j,nv,ns,x,hbd,hn,hR,rfl⟩⟩
theorem BiIn.more{B:Nat}{S:RS}{l:List RTok}{least:Nat}{w wr:World}{vl b:Int}(h:BiIn B S l least w wr vl b)(hb:b≠0):∃ t a r nv,GotO S.d l t (a :: r)∧least≤t.level∧bindsT a.text≤t.level∧0<bindsT a.text∧RdAt wr B { S with k:=S.k+t.toks.length,nv:=nv,ns:=S.ns++t.flat S.ns.length }∧vl=((S.ns.length+t.num-1:Nat):Int)∧b=(bindsT a.text:Nat):=by
  obtain ⟨hk,⟨t,rest,nv,hG,hlv,hs,hR,rfl,rfl⟩ | ⟨j,nv,ns,x,hbd,hn,hR,rfl,rfl⟩⟩:=h
  · rcases rest with _ | ⟨a,r⟩
    · exact absurd rfl hb
    · have h1:=hs a r rfl
      have hb':bindsT a.text≠0:=fun e=>hb (by show ((bindsT a.text:Nat):Int)=0;rw[e];rfl)
      exact ⟨t,a,r,nv,hG,hlv,by omega,by omega,hR,rfl,rfl⟩
  · exact absurd rfl hb
theorem add_in{B:Nat}{S:RS}{l r:List RTok}{least:Nat}{w w3 w4:World}{t:Tr}{a:RTok}{nv:Value}{v:Int}(hl:LeftR S l)(hnk:S.ns.length≤S.k)(hG:GotO S.d l t (a :: r))(hle:(least:Int)≤(bindsT a.text:Nat))(hbl:bindsT a.text≤t.level)(hb0:0<bindsT a.text)(hk:KeepN B w w3)
    (h:OutE (fun u rest=>bindsT a.text+1≤u.level∧stops (bindsT a.text+1) rest) B { S with k:=S.k+t.toks.length+1,nv:=nv,ns:=S.ns++t.flat S.ns.length } r w3 w4 (.returned (.int .i64 v))) :
    Calls Tryz.prog 142 #[.pointer (some ⟨B,0,none⟩),.agg #[.int .i64 (kindP a.text),.int .i64 a.at',.string (bsOf a.text),.int .i64 2,.int .i64 ((S.ns.length+t.num-1:Nat):Int),.int .i64 v]] w4 fun e w5=>∃ x:Int,e=.returned (.int .i64 x)∧BiPre B S l least w w5 x∧S.k+t.toks.length<nextOf w5 B:=by
  have hma:mayT a.text=true:=hl.may a (by rw[hG.eq];simp)
  have n1:=t.num_le hG.wf
  have n2:=t.flat_len hG.wf S.ns.length
  have n3:=t.num_pos hG.wf
  obtain ⟨hk4,⟨u,rest,nv4,hG4,⟨hlv,hs⟩,hR,he⟩ | ⟨j,nv4,ns4,x,hb,hn,hR,he⟩⟩:=h
  · have m1:=u.num_le hG4.wf
    have m2:=u.flat_len hG4.wf (S.ns++t.flat S.ns.length).length
    have m3:=u.num_pos hG4.wf
    have ev:=ret_inj he
    have hlen:(S.ns++t.flat S.ns.length).length=S.ns.length+t.num:=by rw[List.length_append,n2]
    refine (add_at hR ⟨a,2,S.ns.length+t.num-1,S.ns.length+t.num+u.num-1⟩ 2 _ v rfl rfl (by rw[ev];simp only[hlen]) (by simp only[List.length_append]at m2 ⊢;omega)).mono ?_
    rintro e w5 ⟨rfl,⟨nv5,hR5⟩,hK5⟩
    refine ⟨_,rfl,⟨(hk.trans hk4).trans hK5,.inl ⟨Tr.bin a t u,rest,nv5,GotO.bin hma hG hb0 hbl hG4 (by omega),by rw[Tr.level_bin];omega,by rw[Tr.level_bin];exact hs, ?_, ?_⟩⟩,by rw[hR5.nextOf];simp only;omega⟩
    · refine rd_cast hR5 (by simp only[Tr.toks_bin,List.length_append,List.length_cons];omega) ?_
      rw[Tr.flat_bin]
      simp only[hlen,List.append_assoc]
    · rw[Tr.num_bin]
      simp only[List.length_append]at m2 ⊢
      omega
  · have ev:=ret_inj he
    have hn':ns4.length≤(S.ns++t.flat S.ns.length).length+j:=hn
    rw[List.length_append,n2]at hn'
    refine (add_at hR ⟨a,2,S.ns.length+t.num-1,x⟩ 2 _ v rfl rfl ev.symm (by simp only;omega)).mono ?_
    rintro e w5 ⟨rfl,⟨nv5,hR5⟩,hK5⟩
    refine ⟨_,rfl,⟨(hk.trans hk4).trans hK5,.inr ⟨t.toks.length+(j+1),nv5,_,_,BadV.right hG hb0 hb, ?_,rd_cast hR5 (by simp only;omega) rfl,rfl⟩⟩,by rw[hR5.nextOf];simp only;omega⟩
    simp only[List.length_append,List.length_cons,List.length_nil]
    omega
end Go.Proofs.YtpcjadaeolkngaaGreatDoor
