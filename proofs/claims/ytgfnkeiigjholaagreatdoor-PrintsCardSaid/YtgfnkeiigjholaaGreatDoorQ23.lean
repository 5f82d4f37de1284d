/-
  The program's reader: an OPERAND whole; an operand and what is tied to it.
-/
import Derived.Test.YtgfnkeiigjholaaGreatDoorQ22
set_option linter.unusedVariables false
set_option linter.unusedSimpArgs false
namespace Go.Proofs.YtgfnkeiigjholaaGreatDoor
open Go.RowKit Go.Deep
theorem OutE.pre{P:Tr→List RTok→Prop}{B:Nat}{S:RS}{l:List RTok}{w w1 w':World}{e:Ending}(h:KeepN B w w1)(g:OutE P B S l w1 w' e):OutE P B S l w w' e:=⟨h.trans g.1,g.2⟩
theorem open_kind:singleK (kindP cOpen)=false∧((kindP cOpen:Int)==28)=false∧((kindP cOpen:Int)==9)=false∧((kindP cOpen:Int)==32)=true:=by decide
set_option maxHeartbeats 1000000 in
set_option maxRecDepth 100000 in
theorem operand_par{n:Nat}(IH:BrOk n){B:Nat}{S:RS}{w:World}{a:RTok}{r:List RTok}(h:RdAt w B S)(hf:S.f=false)(hl:LeftR S (a :: r))(hr:r.length≤n)(ho:a.text=cOpen)(hd:S.d<8) :
    Calls Tryz.prog 180 #[.pointer (some ⟨B,0,none⟩)] w fun e w'=>OutE (fun t _=>t.level=6) B S (a :: r) w w' e:=by
  have HR:=hideP h
  have HL:=hideP hl
  have hB:=h.blk.lt
  have HF:=hideP hf
  have HO:=hideP ho
  have HIH:=hideP IH
  obtain ⟨h1,e1,e2,e3⟩:=open_kind
  rw[← ho]at h1 e1 e2 e3
  have HS:=hideP h1
  clear h hl hf h1 IH ho
  have e4:decide ((S.d:Int)<8)=true:=by simp;omega
  go_enter Tryz.func180,Tryz.ntmps180
  go_wp2_with (first | (go_at_call 55;refine (current_at HR.out HL.out.head).mono ?_;rintro e w1 ⟨rfl,hb1⟩;unfold tokA;have HW:=hideP (RdW.start (HR.out.below hb1) hb1 a);have hB1:=(HR.out.below hb1).blk.lt;have c2:=(HR.out.below hb1).blk.cell 2;have c3:=(HR.out.below hb1).blk.cell 3;simp only[List.getElem?_toArray,List.getElem?_cons_zero,List.getElem?_cons_succ]at c2 c3;rw[HF.out]at c3) | (go_at_call 198;refine (isSingle_any _ _).mono ?_;rintro e w2 ⟨rfl,rfl⟩;rw[HS.out]) | (go_at_call 199;refine (HIH.out B S _ a r HW.out.rd HF.out hd HO.out HL.out hr).mono ?_;rintro e w3 hout;obtain ⟨v,hv⟩:∃ v:Int,e=.returned (.int .i64 v):=by { obtain ⟨_,⟨_,_,_,_,_,_,h⟩ | ⟨_,_,_,_,_,_,_,h⟩⟩:=hout;exact ⟨_,h⟩;exact ⟨_,h⟩ };subst hv;have HOUT:=hideP hout;clear hout))
  go_ret
  exact HOUT.out.pre HW.out.kp
theorem operand_step{n:Nat}(IHo:OpOk n)(IHb:BrOk n):OpOk (n+1):=by
  intro B S w l h hf hl hn
  rcases l with _ | ⟨a,r⟩
  · obtain ⟨E,hE⟩:=hl.nil
    exact operand_none h hf hE (by rw[show (⟨[],E⟩:RTok).text=[] from rfl,kindP_nil];decide) (kind_end E 28 (by omega)) (kind_end E 9 (by omega)) (fun e=>absurd e (kind_end E 32 (by omega))) (BadV.none fun a r e=>by cases e)
  · have hma:=hl.may a (by simp)
    have K:=kindOf _ hma
    have hr:r.length≤n:=by simpa using hn
    cases hs:singleT a.text with
    | true=>exact operand_single h hf hl (by rw[K.single];exact hs)
    | false =>
      cases hu:unT a.text with
      | true=>exact operand_un IHo h hf hl hr hu
      | false =>
        by_cases ho:a.text=cOpen∧S.d<8
        · exact operand_par IHb h hf hl hr ho.1 ho.2
        · have hu':a.text≠cMinus∧a.text≠cNot:=by simpa[unT] using hu
          refine operand_none h hf hl.head (by rw[K.single];exact hs) (fun e=>hu'.1 (K.kminus.1 e)) (fun e=>hu'.2 (K.knot.1 e)) (fun e=>?_) (BadV.none fun a' r' e=>?_)
          · have:=K.kopen.1 e
            apply Nat.le_of_not_lt
            exact fun hd=>ho ⟨this,hd⟩
          · cases e
            refine ⟨hma,hs,hu,fun e=>?_⟩
            apply Nat.le_of_not_lt
            exact fun hd=>ho ⟨e,hd⟩
def bindsHd:List RTok→Nat
  | []=>0
  | a :: _=>bindsT a.text
theorem binding_left{B:Nat}{S:RS}{w:World}{l:List RTok}(h:RdAt w B S)(hf:S.f=false)(hl:LeftR S l) :
    Calls Tryz.prog 181 #[.pointer (some ⟨B,0,none⟩)] w fun e w'=>e=.returned (.int .i64 (bindsHd l:Nat))∧Below w.heap.size w w':=by
  rcases l with _ | ⟨a,r⟩
  · obtain ⟨E,hE⟩:=hl.nil
    have:=binding_at h hE
    rw[hf,show (⟨[],E⟩:RTok).text=[] from rfl,kindP_nil]at this
    exact this
  · have:=binding_at h hl.head
    rw[hf,(kindOf _ (hl.may a (by simp))).binds]at this
    exact this
theorem stops_of{l:List RTok}{n:Nat}(h:bindsHd l<n∨bindsHd l=0):stops n l:=by
  intro a r e
  subst e
  exact h
def nextOf(w:World)(B:Nat):Nat:=match w.cell? ⟨B,1,none⟩ with
  | some v=>(intOf v).toNat
  | none=>0
theorem RdAt.nextOf{w:World}{B:Nat}{S:RS}(h:RdAt w B S):nextOf w B=S.k:=by
  have:=h.blk.cell 1
  simp only[List.getElem?_toArray,List.getElem?_cons_zero,List.getElem?_cons_succ]at this
  unfold Go.Proofs.YtgfnkeiigjholaaGreatDoor.nextOf
  rw[this]
  simp[intOf]
structure BiPre(B:Nat)(S:RS)(l:List RTok)(least:Nat)(w wr:World)(vl:Int):Prop where
  kp:KeepN B w wr
  ok:(∃ t rest nv,GotO S.d l t rest∧least≤t.level∧stops (t.level+1) rest∧RdAt wr B { S with k:=S.k+t.toks.length,nv:=nv,ns:=S.ns++t.flat S.ns.length }∧vl=((S.ns.length+t.num-1:Nat):Int)) ∨
   (∃ j nv ns x,BadV S.d l j∧ns.length≤S.ns.length+j∧RdAt wr B { S with k:=S.k+j,f:=true,nv:=nv,ns:=ns }∧vl=((x:Nat):Int))
structure BiIn(B:Nat)(S:RS)(l:List RTok)(least:Nat)(w wr:World)(vl b:Int):Prop where
  kp:KeepN B w wr
  ok:(∃ t rest nv,GotO S.d l t rest∧least≤t.level∧stops (t.level+1) rest∧RdAt wr B { S with k:=S.k+t.toks.length,nv:=nv,ns:=S.ns++t.flat S.ns.length }∧vl=((S.ns.length+t.num-1:Nat):Int)∧b=(bindsHd rest:Nat)) ∨
   (∃ j nv ns x,BadV S.d l j∧ns.length≤S.ns.length+j∧RdAt wr B { S with k:=S.k+j,f:=true,nv:=nv,ns:=ns }∧vl=((x:Nat):Int)∧b=0)
theorem OutE.val{P:Tr→List RTok→Prop}{B:Nat}{S:RS}{l:List RTok}{w w':World}{e:Ending}(h:OutE P B S l w w' e):∃ v:Int,e=.returned (.int .i64 v):=by
  obtain ⟨_,⟨_,_,_,_,_,_,h⟩ | ⟨_,_,_,_,_,_,_,h⟩⟩:=h
  · exact ⟨_,h⟩
  · exact ⟨_,h⟩
theorem ret_inj{a b:Int}(h:Ending.returned (.int .i64 a)=.returned (.int .i64 b)):a=b:=by
  simpa using h
theorem bi_start{B:Nat}{S:RS}{l:List RTok}{least:Nat}{w w1:World}{v:Int}(h6:least≤6)(h:OutE (fun t _=>t.level=6) B S l w w1 (.returned (.int .i64 v))):BiPre B S l least w w1 v:=by
  obtain ⟨hk,⟨t,rest,nv,hG,hlv,hR,he⟩ | ⟨j,nv,ns,x,hb,hn,hR,he⟩⟩:=h
  · refine ⟨hk,.inl ⟨t,rest,nv,hG,by rw[hlv];exact h6, ?_,hR,ret_inj he⟩⟩
    intro a r e
    have:=bindsT_le a.text
    rw[hlv]
    omega
  · exact ⟨hk,.inr ⟨j,nv,ns,x,hb,hn,hR,ret_inj he⟩⟩
theorem binding_in{B:Nat}{S:RS}{l:List RTok}{least:Nat}{w w1:World}{v:Int}(hf:S.f=false)(hl:LeftR S l)(h:BiPre B S l least w w1 v) :
    Calls Tryz.prog 181 #[.pointer (some ⟨B,0,none⟩)] w1 fun e w2=>∃ b:Int,e=.returned (.int .i64 b)∧BiIn B S l least w w2 v b∧nextOf w2 B=nextOf w1 B:=by
  obtain ⟨hk,⟨t,rest,nv,hG,hlv,hs,hR,he⟩ | ⟨j,nv,ns,x,hb,hn,hR,he⟩⟩:=h
  · refine (binding_left hR hf (hl.behind hG _ rfl rfl)).mono ?_
    rintro e w2 ⟨rfl,hb2⟩
    exact ⟨_,rfl,⟨hk.trans (KeepN.of hb2),.inl ⟨t,rest,nv,hG,hlv,hs,hR.below hb2,he,rfl⟩⟩,by rw[hR.nextOf,(hR.below hb2).nextOf]⟩
  · obtain ⟨tk,htk⟩:=hR.cur
    refine (binding_at hR htk).mono ?_
    rintro e w2 ⟨rfl,hb2⟩
    exact ⟨_,rfl,⟨hk.trans (KeepN.of hb2),.inr ⟨j,nv,ns,x,hb,hn,hR.below hb2,he,rfl⟩⟩,by rw[hR.nextOf,(hR.below hb2).nextOf]⟩
theorem BiIn.out{B:Nat}{S:RS}{l:List RTok}{least:Nat}{w wr:World}{vl b:Int}(h:BiIn B S l least w wr vl b)(hb:b=0∨b<(least:Int)):OutE (fun t rest=>least≤t.level∧stops least rest) B S l w wr (.returned (.int .i64 vl)):=by
  obtain ⟨hk,⟨t,rest,nv,hG,hlv,hs,hR,rfl,rfl⟩ | ⟨j,nv,ns,x,hbd,hn,hR,rfl,rfl⟩⟩:=h
  · exact ⟨hk,.inl ⟨t,rest,nv,hG,⟨hlv,stops_of (by omega)⟩,hR,rfl⟩⟩
  · exact ⟨hk,.inr ⟨j,nv,ns,x,hbd,hn,hR,rfl⟩⟩
theorem BiIn.more{B:Nat}{S:RS}{l:List RTok}{least:Nat}{w wr:World}{vl b:Int}(h:BiIn B S l least w wr vl b)(hb:b≠0):∃ t a r nv,GotO S.d l t (a :: r)∧least≤t.level∧bindsT a.text≤t.level∧0<bindsT a.text∧RdAt wr B { S with k:=S.k+t.toks.length,nv:=nv,ns:=S.ns++t.flat S.ns.length }∧vl=((S.ns.length+t.num-1:Nat):Int)∧b=(bindsT a.text:Nat):=by
  obtain ⟨hk,⟨t,rest,nv,hG,hlv,hs,hR,rfl,rfl⟩ | ⟨j,nv,ns,x,hbd,hn,hR,rfl,rfl⟩⟩:=h
  · rcases rest with _ | ⟨a,r⟩
    · exact absurd rfl hb
    · have h1:=hs a r rfl
      have hb':bindsT a.text≠0:=fun e=>hb (by show ((bindsT a.text:Nat):Int)=0;rw[e];rfl)
      exact ⟨t,a,r,nv,hG,hlv,by omega,by omega,hR,rfl,rfl⟩
  · exact absurd rfl hb
theorem add_in{B:Nat}{S:RS}{l r:List RTok}{least:Nat}{w w3 w4:World}{t:Tr}{a:RTok}{nv:Value}{v:Int}(hl:LeftR S l)(hnk:S.ns.length≤S.k)(hG:GotO S.d l t (a :: r))(hle:(least:Int)≤(bindsT a.text:Nat))(hbl:bindsT a.text≤t.level)(hb0:0<bindsT a.text)(hk:KeepN B w w3)
    (h:OutE (fun u rest=>bindsT a.text+1≤u.level∧stops (bindsT a.text+1) rest) B { S with k:=S.k+t.toks.length+1,nv:=nv,ns:=S.ns++t.flat S.ns.length } r w3 w4 (.returned (.int .i64 v))) :
    Calls Tryz.prog 182 #[.pointer (some ⟨B,0,none⟩),.agg #[.int .i64 (kindP a.text),.int .i64 a.at',.string (bsOf a.text),.int .i64 2,.int .i64 ((S.ns.length+t.num-1:Nat):Int),.int .i64 v]] w4 fun e w5=>∃ x:Int,e=.returned (.int .i64 x)∧BiPre B S l least w w5 x∧S.k+t.toks.length<nextOf w5 B:=by
  have hma:mayT a.text=true:=hl.may a (by rw[hG.eq];simp)
  have n1:=t.num_le hG.wf
  have n2:=t.flat_len hG.wf S.ns.length
  have n3:=t.num_pos hG.wf
  obtain ⟨hk4,⟨u,rest,nv4,hG4,⟨hlv,hs⟩,hR,he⟩ | ⟨j,nv4,ns4,x,hb,hn,hR,he⟩⟩:=h
  · have m1:=u.num_le hG4.wf
    have m2:=u.flat_len hG4.wf (S.ns++t.flat S.ns.length).length
    have m3:=u.num_pos hG4.wf
    have ev:=ret_inj he
    have hlen:(S.ns++t.flat S.ns.length).length=S.ns.length+t.num:=by rw[List.length_append,n2]
    refine (add_at hR ⟨a,2,S.ns.length+t.num-1,S.ns.length+t.num+u.num-1⟩ 2 _ v rfl rfl (by rw[ev];simp only[hlen]) (by simp only[List.length_append]at m2 ⊢;omega)).mono ?_
    rintro e w5 ⟨rfl,⟨nv5,hR5⟩,hK5⟩
    refine ⟨_,rfl,⟨(hk.trans hk4).trans hK5,.inl ⟨Tr.bin a t u,rest,nv5,GotO.bin hma hG hb0 hbl hG4 (by omega),by rw[Tr.level_bin];omega,by rw[Tr.level_bin];exact hs, ?_, ?_⟩⟩,by rw[hR5.nextOf];simp only;omega⟩
    · refine rd_cast hR5 (by simp only[Tr.toks_bin,List.length_append,List.length_cons];omega) ?_
      rw[Tr.flat_bin]
      simp only[hlen,List.append_assoc]
    · rw[Tr.num_bin]
      simp only[List.length_append]at m2 ⊢
      omega
  · have ev:=ret_inj he
    have hn':ns4.length≤(S.ns++t.flat S.ns.length).length+j:=hn
    rw[List.length_append,n2]at hn'
    refine (add_at hR ⟨a,2,S.ns.length+t.num-1,x⟩ 2 _ v rfl rfl ev.symm (by simp only;omega)).mono ?_
    rintro e w5 ⟨rfl,⟨nv5,hR5⟩,hK5⟩
    refine ⟨_,rfl,⟨(hk.trans hk4).trans hK5,.inr ⟨t.toks.length+(j+1),nv5,_,_,BadV.right hG hb0 hb, ?_,rd_cast hR5 (by simp only;omega) rfl,rfl⟩⟩,by rw[hR5.nextOf];simp only;omega⟩
    simp only[List.length_append,List.length_cons,List.length_nil]
    omega
end Go.Proofs.YtgfnkeiigjholaaGreatDoor
