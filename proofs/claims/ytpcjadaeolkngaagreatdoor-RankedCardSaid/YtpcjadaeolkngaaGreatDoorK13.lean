/-
  The program's reader: the walk of readPolicy.
-/
import Derived.Test.YtpcjadaeolkngaaGreatDoorK12
set_option linter.unusedVariables false
set_option linter.unusedSimpArgs false
namespace Go.Proofs.YtpcjadaeolkngaaGreatDoor
open Go.RowKit Go.Deep
def leftOf (w:World) (B:Nat):Nat:=2 * (500 - nextOf w B)+(match w.cell? ⟨B,3,none⟩ with
 | some (.bool true)=>0
 | _=>1)
theorem RdAt.leftOf {w:World} {B:Nat} {S:RS} (h:RdAt w B S):leftOf w B=2 * (500 - S.k)+(if S.f then 0 else 1):=by
 have:=h.blk.cell 3
 simp only[List.getElem?_toArray,List.getElem?_cons_zero,List.getElem?_cons_succ] at this
 unfold Go.Proofs.YtpcjadaeolkngaaGreatDoor.leftOf
 rw[this,h.nextOf]
 cases S.f <;> rfl
structure Whole (T l:List RTok):Prop where
 eq:∃ E,T=l++[⟨[],E⟩]
 may:∀ t∈l,mayT t.text=true
theorem Whole.left {T l rest:List RTok} {L:List RSt} (h:Whole T l) (he:l=toksL L++rest) (S:RS) (hT:S.T=T) (hk:S.k=(toksL L).length):LeftR S rest:=by
 obtain ⟨E,e⟩:=h.eq
 refine ⟨⟨E, ?_⟩,fun t ht=>h.may t (by rw[he];simp[ht])⟩
 rw[hT,hk,e,he,List.append_assoc,List.drop_left]
theorem PolOk.lt {B:Nat} {tv:Value} {T l:List RTok} {wr:World} {L R:List RSt} {rest:List RTok} {q:Spot} (h:PolOk B tv T l wr L R rest q):B < wr.heap.size:=by
 obtain ⟨nv,lv,rv,hR⟩:=h.rd
 exact hR.blk.lt
def PolB1 (B:Nat) (tv:Value) (T l:List RTok) (wr:World):Prop:=∃ j nv lv rv ns ls rs,BadS ⟨0,0,0⟩ l j∧ls.length≤402∧rs.length≤401∧RdAt wr B ⟨tv,T,j,0,true,nv,lv,rv,ns,ls,rs⟩
theorem PolB1.below {B:Nat} {tv:Value} {T l:List RTok} {wr w':World} (h:PolB1 B tv T l wr) (hb:Below wr.heap.size wr w'):PolB1 B tv T l w':=by
 obtain ⟨j,nv,lv,rv,ns,ls,rs,h1,h2,h3,hR⟩:=h
 exact ⟨j,nv,lv,rv,ns,ls,rs,h1,h2,h3,hR.below hb⟩
def PolL (B:Nat) (tv:Value) (T l:List RTok) (wr:World):Prop:=(∃ L rest,PolOk B tv T l wr L [] rest ⟨0,0,0⟩)∨PolB1 B tv T l wr
def PolR (B:Nat) (tv:Value) (T l:List RTok) (wr:World):Prop:=(∃ L R rest q,R≠[]∧PolOk B tv T l wr L R rest q)∨PolBad B tv T l wr
theorem pol_sees_let {B:Nat} {tv:Value} {T l:List RTok} {wr:World} (hW:Whole T l) (h:PolL B tv T l wr) :
  Calls Tryz.prog 67 #[.pointer (some ⟨B,0,none⟩),.int .i64 3] wr fun e w'=>∃ b,e=.returned (.bool b)∧Below wr.heap.size wr w'∧leftOf w' B=leftOf wr B ∧
   (b=true→∃ L kw r,kw.text=cLet∧PolOk B tv T l w' L [] (kw :: r) ⟨0,0,0⟩)∧(b=false→(∃ L rest,(∀ a r,rest=a :: r→a.text≠cLet)∧PolOk B tv T l w' L [] rest ⟨0,0,0⟩)∨PolB1 B tv T l w'):=by
 rcases h with ⟨L,rest,h⟩ | h
 ·obtain ⟨nv,lv,rv,hR⟩:=h.rd
  have hl:=hW.left h.eq _ rfl rfl |> fun (x:LeftR ⟨tv,T,(toksL (L++[])).length,0,false,nv,lv,rv,nodesS 0 (L++[]),letsS 0 (L++[]),rulesS 0 (L++[])⟩ rest)=>x
  rcases rest with _ | ⟨a,r⟩
  ·obtain ⟨E,hE⟩:=hl.nil
   refine (sees_at hR hE 3).mono ?_
   rintro e w' ⟨rfl,hb⟩
   refine ⟨_,rfl,hb,(by rw[hR.leftOf,(hR.below hb).leftOf]),fun e=>?_,fun _=>.inl ⟨L,[],fun a r e=>(by cases e),h.below hb⟩⟩
   exact absurd (by simpa using e) (kind_end E 3 (by omega))
  ·refine (sees_at hR hl.head 3).mono ?_
   rintro e w' ⟨rfl,hb⟩
   have K:=kindOf _ (hl.may a (by simp))
   refine ⟨_,rfl,hb,(by rw[hR.leftOf,(hR.below hb).leftOf]),fun e=>⟨L,a,r,K.klet.1 (by simpa using e),h.below hb⟩,fun e=>.inl ⟨L,a :: r,fun a' r' e'=>?_,h.below hb⟩⟩
   cases e'
   intro hx
   rw[K.klet.2 hx] at e
   simp at e
 ·obtain ⟨j,nv,lv,rv,ns,ls,rs,h1,h2,h3,hR⟩:=id h
  obtain ⟨t,ht⟩:=hR.cur
  refine (sees_at hR ht 3).mono ?_
  rintro e w' ⟨rfl,hb⟩
  refine ⟨_,rfl,hb,(by rw[hR.leftOf,(hR.below hb).leftOf]),fun e=>?_,fun _=>.inr (h.below hb)⟩
  simp at e
theorem pol_let {B:Nat} {tv:Value} {T l:List RTok} {wr:World} (hW:Whole T l) {L:List RSt} {kw:RTok} {r:List RTok} (hk:kw.text=cLet) (h:PolOk B tv T l wr L [] (kw :: r) ⟨0,0,0⟩) :
  Calls Tryz.prog 68 #[.pointer (some ⟨B,0,none⟩)] wr fun e w'=>e=.returned (.tuple #[])∧Below B wr w'∧PolL B tv T l w'∧leftOf w' B < leftOf wr B:=by
 obtain ⟨nv,lv,rv,hR⟩:=h.rd
 have hl:LeftR ⟨tv,T,(toksL (L++[])).length,0,false,nv,lv,rv,nodesS 0 (L++[]),letsS 0 (L++[]),rulesS 0 (L++[])⟩ (kw :: r):=hW.left h.eq _ rfl rfl
 have hkt:=hR.kt
 have htl:=hR.tl
 have h1:=letsS_le (L++[]) 0
 have h2:=toksL_le (L++[])
 simp only at hkt htl
 refine (readLet_any hR rfl rfl hl hk (by simp only;omega)).mono ?_
 rintro e w' ⟨rfl,hb,⟨s,rest,nv',lv',g1,g2,hR'⟩ | ⟨j,nv',lv',ns,n,hbad,hR'⟩⟩
 ·refine ⟨rfl,hb,.inl ⟨L++[s],rest, ?_⟩, ?_⟩
  ·have hn:=nodesS_len (L++[]) h.wf 0
   have hgo:=h.go
   simp only[List.append_nil] at hR' hn hgo ⊢
   have ht:toksL (L++[s])=toksL L++s.toks:=by rw[toksL_append];simp[toksL_cons,toksL]
   refine ⟨?_,fun x hx=>(by cases hx), ?_, ?_, ?_,h.at',fun _=>rfl,fun hx=>absurd rfl hx,nv',lv',rv, ?_⟩
   ·intro x hx
    rw[List.mem_append] at hx
    rcases hx with hx | hx
    ·exact h.lets x hx
    ·simp at hx;subst hx;exact g2
   ·intro x hx
    simp only[List.append_nil,List.mem_append] at hx
    rcases hx with hx | hx
    ·exact h.wf x (by simp[hx])
    ·simp at hx;subst hx;exact g1.wf
   ·have:=h.eq
    simp only[List.append_nil] at this ⊢
    rw[this,g1.eq,ht,List.append_assoc]
   ·simp only[List.append_nil]
    rw[ht,goS_ok hgo];exact g1.go
   ·simp only[List.append_nil]
    have e1:nodesS 0 (L++[s])=nodesS 0 L++s.nodes (nodesS 0 L).length:=by rw[nodesS_append,hn];simp[nodesS]
    have e2:letsS 0 (L++[s])=letsS 0 L++s.lets (nodesS 0 L).length:=by rw[letsS_append,hn];simp[letsS]
    have e3:rulesS 0 (L++[s])=rulesS 0 L:=by
     rw[rulesS_append]
     rcases s.cases with ⟨kw',name,eq,e,semi,rfl⟩ | ⟨wh,act,sc,semi,rfl⟩
     ·simp[rulesS,RSt.rules_let]
     ·cases g2
    rw[e1,e2,e3,ht,List.length_append]
    exact hR'
  ·rw[hR'.leftOf,hR.leftOf]
   have:=s.toks_length
   simp only
   omega
 ·have hj:j≠0:=by
   rintro rfl
   obtain ⟨q,k1,_,k3⟩:=hbad.ex
   cases k1
   have:=k3 (by simp)
   rw[show (kw :: r)[0]=kw from rfl,let_one hk] at this
   cases this
  refine ⟨rfl,hb,.inr ⟨_,nv',lv',rv,ns,letsS 0 (L++[])++[n],rulesS 0 (L++[]),hbad.behind (p:=⟨0,0,0⟩) h.go |> fun x=>(by rw[← h.eq] at x;exact x), ?_, ?_,hR'⟩, ?_⟩
  ·simp only[List.length_append,List.length_cons,List.length_nil];omega
  ·have:=rulesS_le (L++[]) 0
   omega
  ·rw[hR'.leftOf,hR.leftOf]
   simp only[if_true,Bool.false_eq_true,if_false]
   omega
theorem pol_rule {B:Nat} {tv:Value} {T l:List RTok} {wr:World} (hW:Whole T l) {L R:List RSt} {rest:List RTok} {q:Spot} (h:PolOk B tv T l wr L R rest q) (h0:q.next=0→∀ a r,rest=a :: r→a.text≠cLet) (h6:rest=[]→q.next≠6) :
  Calls Tryz.prog 69 #[.pointer (some ⟨B,0,none⟩)] wr fun e w'=>e=.returned (.tuple #[])∧Below B wr w'∧PolR B tv T l w'∧leftOf w' B < leftOf wr B:=by
 obtain ⟨nv,lv,rv,hR⟩:=h.rd
 have hl:LeftR ⟨tv,T,(toksL (L++R)).length,0,false,nv,lv,rv,nodesS 0 (L++R),letsS 0 (L++R),rulesS 0 (L++R)⟩ rest:=hW.left h.eq _ rfl rfl
 have hkt:=hR.kt
 have htl:=hR.tl
 have h1:=letsS_le (L++R) 0
 have h1':=rulesS_le (L++R) 0
 have h2:=toksL_le (L++R)
 simp only at hkt htl
 refine (readRule_any hR rfl rfl hl h.at' h0 h6 (by simp only;omega)).mono ?_
 rintro e w' ⟨rfl,hb,⟨s,rest',nv',rv',q',g1,g2,g3,g4,hR'⟩ | ⟨j,nv',rv',ns,n,hbad,hR'⟩⟩
 ·refine ⟨rfl,hb,.inl ⟨L,R++[s],rest',q',by simp, ?_⟩, ?_⟩
  ·have hn:=nodesS_len (L++R) h.wf 0
   have ht:toksL (L++(R++[s]))=toksL (L++R)++s.toks:=by rw[← List.append_assoc,toksL_append];simp[toksL_cons,toksL]
   refine ⟨h.lets, ?_, ?_, ?_, ?_,⟨.inr g3,g4⟩,fun hx=>(by simp at hx),fun _=>g3,nv',lv,rv', ?_⟩
   ·intro x hx
    rw[List.mem_append] at hx
    rcases hx with hx | hx
    ·exact h.rules x hx
    ·simp at hx;subst hx;exact g2
   ·intro x hx
    rw[← List.append_assoc,List.mem_append] at hx
    rcases hx with hx | hx
    ·exact h.wf x hx
    ·simp at hx;subst hx;exact g1.wf
   ·rw[h.eq,g1.eq,ht,List.append_assoc]
   ·rw[ht,goS_ok h.go];exact g1.go
   ·have e1:nodesS 0 (L++(R++[s]))=nodesS 0 (L++R)++s.nodes (nodesS 0 (L++R)).length:=by rw[← List.append_assoc,nodesS_append,hn];simp[nodesS]
    have e2:rulesS 0 (L++(R++[s]))=rulesS 0 (L++R)++s.rules (nodesS 0 (L++R)).length:=by rw[← List.append_assoc,rulesS_append,hn];simp[rulesS]
    have e3:letsS 0 (L++(R++[s]))=letsS 0 (L++R):=by
     rw[← List.append_assoc,letsS_append]
     rcases s.cases with ⟨kw',name,eq,e,semi,rfl⟩ | ⟨wh,act,sc,semi,rfl⟩
     ·cases g2
     ·simp[letsS,RSt.lets_rule]
    rw[e1,e2,e3,ht,List.length_append]
    exact hR'
  ·rw[hR'.leftOf,hR.leftOf]
   have:=s.toks_length
   simp only
   omega
 ·refine ⟨rfl,hb,.inr ⟨_,nv',lv,rv',ns,letsS 0 (L++R),rulesS 0 (L++R)++[n],hbad.behind (p:=⟨0,0,0⟩) h.go |> fun x=>(by rw[← h.eq] at x;exact x), ?_, ?_,hR'⟩, ?_⟩
  ·omega
  ·simp only[List.length_append,List.length_cons,List.length_nil];omega
  ·rw[hR'.leftOf,hR.leftOf]
   simp only[if_true,Bool.false_eq_true,if_false]
   omega
theorem pol_rule_bad {B:Nat} {tv:Value} {T l:List RTok} {wr:World} (hr:PolB1 B tv T l wr) :
  Calls Tryz.prog 69 #[.pointer (some ⟨B,0,none⟩)] wr fun e w'=>e=.returned (.tuple #[])∧Below B wr w'∧PolR B tv T l w':=by
 obtain ⟨j,nv,lv,rv,ns,ls,rs,h1,h2,h3,hR⟩:=hr
 refine (readRule_failed hR rfl h3).mono ?_
 rintro e w' ⟨rfl,hb,rv',hR'⟩
 exact ⟨rfl,hb,.inr ⟨j,nv,lv,rv',ns,ls,_,h1,h2,by simp;omega,hR'⟩⟩
theorem pol_first {B:Nat} {tv:Value} {T l:List RTok} {wr:World} (hW:Whole T l) (h:(∃ L rest,(∀ a r,rest=a :: r→a.text≠cLet)∧PolOk B tv T l wr L [] rest ⟨0,0,0⟩)∨PolB1 B tv T l wr) :
  Calls Tryz.prog 69 #[.pointer (some ⟨B,0,none⟩)] wr fun e w'=>e=.returned (.tuple #[])∧Below B wr w'∧PolR B tv T l w':=by
 rcases h with ⟨L,rest,h1,h2⟩ | h
 ·refine (pol_rule hW h2 (fun _=>h1) (fun _=>by decide)).mono ?_
  rintro e w' ⟨rfl,hb,hp,_⟩
  exact ⟨rfl,hb,hp⟩
 ·exact pol_rule_bad h
end Go.Proofs.YtpcjadaeolkngaaGreatDoor
namespace Go.Proofs.YtpcjadaeolkngaaGreatDoor
open Go.RowKit Go.Deep
theorem PolR.cell {B:Nat} {tv:Value} {T l:List RTok} {wr:World} (h:PolR B tv T l wr):B < wr.heap.size∧((wr.cell? ⟨B,3,none⟩=some (.bool false)∧∃ L R rest q,R≠[]∧PolOk B tv T l wr L R rest q)∨(wr.cell? ⟨B,3,none⟩=some (.bool true)∧PolBad B tv T l wr)):=by
 rcases h with ⟨L,R,rest,q,hn,h⟩ | h
 ·obtain ⟨nv,lv,rv,hR⟩:=h.rd
  exact ⟨hR.blk.lt,.inl ⟨hR.blk.cell 3,L,R,rest,q,hn,h⟩⟩
 ·obtain ⟨j,nv,lv,rv,ns,ls,rs,h1,h2,h3,hR⟩:=h.rd
  exact ⟨hR.blk.lt,.inr ⟨hR.blk.cell 3,h⟩⟩
theorem pol_sees_end {B:Nat} {tv:Value} {T l:List RTok} {wr:World} (hW:Whole T l) {L R:List RSt} {rest:List RTok} {q:Spot} (h:PolOk B tv T l wr L R rest q) :
  Calls Tryz.prog 67 #[.pointer (some ⟨B,0,none⟩),.int .i64 0] wr fun e w'=>e=.returned (.bool (decide (rest=[])))∧Below wr.heap.size wr w'∧PolOk B tv T l w' L R rest q∧leftOf w' B=leftOf wr B:=by
 obtain ⟨nv,lv,rv,hR⟩:=h.rd
 have hl:LeftR ⟨tv,T,(toksL (L++R)).length,0,false,nv,lv,rv,nodesS 0 (L++R),letsS 0 (L++R),rulesS 0 (L++R)⟩ rest:=hW.left h.eq _ rfl rfl
 rcases rest with _ | ⟨a,r⟩
 ·obtain ⟨E,hE⟩:=hl.nil
  refine (sees_at hR hE 0).mono ?_
  rintro e w' ⟨rfl,hb⟩
  refine ⟨?_,hb,h.below hb,by rw[hR.leftOf,(hR.below hb).leftOf]⟩
  rw[show (⟨[],E⟩:RTok).text=[] from rfl,kindP_nil];rfl
 ·refine (sees_at hR hl.head 0).mono ?_
  rintro e w' ⟨rfl,hb⟩
  refine ⟨?_,hb,h.below hb,by rw[hR.leftOf,(hR.below hb).leftOf]⟩
  have:=(kindOf _ (hl.may a (by simp))).pos
  refine ret_bool ?_
  simpa using this
set_option maxHeartbeats 1000000 in
set_option maxRecDepth 100000 in
theorem readPolicy_any {B:Nat} {tv:Value} {T l:List RTok} {w:World} (hW:Whole T l) (h:RdAt w B (RS.zero tv T)) :
  Calls Tryz.prog 42 #[.pointer (some ⟨B,0,none⟩)] w fun e w'=>e=.returned (.tuple #[])∧Below B w w'∧((∃ L R q,R≠[]∧PolOk B tv T l w' L R [] q)∨PolBad B tv T l w'):=by
 have HWh:=hideP hW
 have hB:=h.blk.lt
 have H0:Hid (PolL B tv T l w):=.inl ⟨[],l,fun x hx=>(by cases hx),fun x hx=>(by cases hx),fun x hx=>(by cases hx),rfl,rfl,⟨.inl rfl,rfl⟩,fun _=>rfl,fun hx=>absurd rfl hx,_,_,_,h⟩
 clear hW h
 go_enter Tryz.func42,Tryz.ntmps42
 go_wp2_with fail
 go_loopw [] (fun wr=>Below B w wr∧PolL B tv T l wr) (fun wr=>leftOf wr B)
 case atStart=>exact ⟨Below.refl _ _,H0.out⟩
 case round =>
  obtain ⟨hbw,hpl⟩:=hrel
  have HPL:=hideP hpl
  have HBW:=hideP hbw
  clear H0 hpl hbw
  go_wp2_with (go_at_call 67;refine (pol_sees_let HWh.out HPL.out).mono ?_;rintro e w1 ⟨b,rfl,hb1,hlo,hyes,hno⟩;have HLO:=hideP hlo;have HYES:=hideP hyes;have HNO:=hideP hno;have hBr:B≤wr.heap.size:=by { rcases HPL.out with ⟨L,rest,h⟩ | ⟨j,nv,lv,rv,ns,ls,rs,h1,h2,h3,hR⟩;exact Nat.le_of_lt h.lt;exact Nat.le_of_lt hR.blk.lt };replace HBW:=hideP (HBW.out.trans (hb1.mono hBr));clear hb1 hlo hyes hno;cases b)
  ·have hc:=HNO.out trivial
   have HC:=hideP hc
   clear hc HYES HNO
   go_wp2_with (go_at_call 69;refine (pol_first HWh.out HC.out).mono ?_;rintro e w2 ⟨rfl,hb2,hpr⟩;have HPR:=hideP hpr;have HBW2:=hideP (HBW.out.trans hb2);clear hpr hb2)
   clear HPL HLO HC HBW
   go_loopw [] (fun wr=>Below B w wr∧PolR B tv T l wr) (fun wr=>leftOf wr B)
   case atStart=>exact ⟨HBW2.out,HPR.out⟩
   case round =>
    obtain ⟨hbw,hpr⟩:=hrel
    clear HBW2 HPR
    have HBW:=hideP hbw
    obtain ⟨hBr,⟨c3,L,R,rest,q,hne,hok⟩ | ⟨c3,hbad⟩⟩:=hpr.cell
    ·have HOK:=hideP hok
     have HNE:=hideP hne
     clear hpr hok hne hbw
     by_cases hr:rest=[]
     ·subst hr
      go_wp2_with (go_at_call 67;refine (pol_sees_end HWh.out HOK.out).mono ?_;rintro e w3 ⟨rfl,hb3,hok3,_⟩;have HOK3:=hideP hok3;replace HBW:=hideP (HBW.out.trans (hb3.mono (Nat.le_of_lt hBr)));clear hok3 hb3)
      refine bodyPost_end (results_none rfl _ _ _) rfl ⟨rfl,HBW.out,.inl ⟨L,R,q,HNE.out,HOK3.out⟩⟩
     ·have hd:decide (rest=[])=false:=by simpa using hr
      have HRE:=hideP hr
      have HDE:=hideP hd
      clear hr hd
      go_wp2_with (first | (go_at_call 67;refine (pol_sees_end HWh.out HOK.out).mono ?_;rintro e w3 ⟨rfl,hb3,hok3,hlo3⟩;rw[HDE.out];have HOK3:=hideP hok3;have HLO3:=hideP hlo3;replace HBW:=hideP (HBW.out.trans (hb3.mono (Nat.le_of_lt hBr)));clear hok3 hb3 hlo3) | (go_at_call 69;refine (pol_rule HWh.out HOK3.out (fun e=>absurd e (by rw[HOK3.out.q6 HNE.out];decide)) (fun e=>absurd e HRE.out)).mono ?_;rintro e w4 ⟨rfl,hb4,hpr4,hlo4⟩;have HPR4:=hideP hpr4;have HLO4:=hideP hlo4;replace HBW:=hideP (HBW.out.trans hb4);clear hpr4 hb4 hlo4))
      go_roundw
      case rel=>exact ⟨HBW.out,HPR4.out⟩
      case measure =>
       have g1:=HLO4.out
       have g2:=HLO3.out
       omega
    ·have HBAD:=hideP hbad
     clear hpr hbad hbw
     go_wp2
     refine bodyPost_end (results_none rfl _ _ _) rfl ⟨rfl,HBW.out,.inr HBAD.out⟩
  ·obtain ⟨L,kw,r,hkw,hok⟩:=HYES.out trivial
   have HKW:=hideP hkw
   have HOK:=hideP hok
   clear HYES HNO hkw hok
   go_wp2_with (go_at_call 68;refine (pol_let HWh.out HKW.out HOK.out).mono ?_;rintro e w2 ⟨rfl,hb2,hpl2,hlo2⟩;have HPL2:=hideP hpl2;have HLO2:=hideP hlo2;replace HBW:=hideP (HBW.out.trans hb2);clear hb2 hpl2 hlo2)
   go_roundw
   case rel=>exact ⟨HBW.out,HPL2.out⟩
   case measure =>
    have g1:=HLO2.out
    have g2:=HLO.out
    omega
end Go.Proofs.YtpcjadaeolkngaaGreatDoor
namespace Go.Proofs.YtpcjadaeolkngaaGreatDoor
open Go.RowKit Go.Deep
theorem toks_may_aux:∀ (n:Nat) (s:Txt) (p:Nat) (l:List RTok),s.length≤n→toksR s p=.ok l→∀ t∈l,mayT t.text=true
  | n,[],p,l,_,h=>by
    rw[toksR_nil] at h
    cases h
    simp
  | 0,c :: r,_,_,hn,_=>by simp at hn
  | n+1,c :: r,p,l,hn,h=>by
    rw[toksR_cons] at h
    split at h
    · exact toks_may_aux n r (p+1) l (by simpa using hn) h
    · split at h
      · rename_i hm
        have hp:=runLen_pos c r
        split at h
        · rename_i l' he
          cases h
          intro t ht
          simp only[List.mem_cons] at ht
          rcases ht with rfl | ht
          · exact hm
          · refine toks_may_aux n _ _ l' ?_ he t ht
            simp at hn ⊢
            omega
        · cases h
      · cases h
theorem toks_may {s:Txt} {p:Nat} {l:List RTok} (h:toksR s p=.ok l):∀ t∈l,mayT t.text=true:=toks_may_aux s.length s p l (Nat.le_refl _) h
theorem goS_error {p q:Spot} {l:List RTok} {k:Nat} (h:goS p (l.take k)=.ok q) (hk:k < l.length) (hs:(stepS q l[k].text).2=false):goS p l=.error l[k].at':=by
  have e:l=l.take k++l[k] :: l.drop (k+1):=by rw[List.getElem_cons_drop,List.take_append_drop]
  conv=>lhs;rw[e]
  rw[goS_ok h]
  simp only[goS,hs]
  rfl
theorem tokened_bad {s:Txt} {l:List RTok} {j:Nat} {t:RTok} (hn:s.length≤400) (hl:toksR s 0=.ok l) (hb:BadS ⟨0,0,0⟩ l j) (ht:(l++[(⟨[],s.length⟩:RTok)])[j]?=some t):tokened s=.bad 3 t.at':=by
  obtain ⟨hle,q,h1,h2,h3⟩:=hb
  unfold tokened
  rw[if_neg (by omega),hl]
  simp only
  by_cases hk:j < l.length
  · rw[goS_error h1 hk (h3 hk)]
    rw[List.getElem?_append_left hk,List.getElem?_eq_getElem hk] at ht
    cases ht
    rfl
  · have hj:j=l.length:=by omega
    subst hj
    rw[List.take_length] at h1
    rw[h1]
    simp only
    rw[if_neg (h2 (Nat.le_refl _))]
    rw[List.getElem?_append_right (Nat.le_refl _),Nat.sub_self] at ht
    cases ht
    rfl
theorem tokened_fine {s:Txt} {l:List RTok} {q:Spot} (hn:s.length≤400) (hl:toksR s 0=.ok l) (hg:goS ⟨0,0,0⟩ l=.ok q) (h6:q.next=6):tokened s=.fine l:=by
  unfold tokened
  rw[if_neg (by omega),hl]
  simp only
  rw[hg]
  simp only
  rw[if_pos h6]
structure PolicyOf (s:Txt) (L R:List RSt):Prop where
  fine:tokened s=.fine (toksL (L++R))
  lets:isLetL' L
  rules:isRuleL' R
  wf:∀ x∈L++R,x.wf
  may:∀ t∈toksL (L++R),mayT t.text=true
  ne:R≠[]
  short:(toksL (L++R)).length≤400
structure PolMem (w:World) (base:Nat) (nv lv rv:Value) (L R:List RSt):Prop where
  ond:w.ownsRow base 154 6 nv (nodesS 0 (L++R)).length (cellsN (nodesS 0 (L++R)))
  olt:w.ownsRow base 107 6 lv (letsS 0 (L++R)).length (cellsLt (letsS 0 (L++R)))
  orl:w.ownsRow base 110 8 rv (rulesS 0 (L++R)).length (cellsU (rulesS 0 (L++R)))
theorem own_base {w:World} {base base':Nat} {e:TypeId} {s n:Nat} {v:Value} {xs:List Value} (h:w.ownsRow base e s v n xs) (hb:base'≤base):w.ownsRow base' e s v n xs:=by
  refine ⟨h.1, ?_⟩
  rcases h.2 with hn | ⟨g,cap,cur,rfl,hbg,r⟩
  · exact .inl hn
  · exact .inr ⟨g,cap,cur,rfl,by omega,r⟩
theorem PolMem.below {w w':World} {base:Nat} {nv lv rv:Value} {L R:List RSt} (h:PolMem w base nv lv rv L R) (hb:Below w.heap.size w w'):PolMem w' base nv lv rv L R:=⟨own_below h.ond hb,own_below h.olt hb,own_below h.orl hb⟩
abbrev nilS:Value:=.slice none 0 0
theorem own_nil (w:World) (base:Nat) (e:TypeId) (s:Nat):w.ownsRow base e s nilS 0 []:=World.ownsRow_nil _ _ _ _
theorem rd_start {w1:World} {v:Value} {T:List RTok} {b n:Nat} {xs:List Value} (ho:w1.ownsRow b 101 3 v n xs) (hn:n=T.length) (hx:xs=cellsT T) (h1:0 < T.length) (h2:T.length≤401) :
    RdAt (w1.alloc (.cells #[v,.int .i64 0,.int .i64 0,.bool false,nilS,nilS,nilS] 99)) w1.heap.size (RS.zero v T):=by
  subst hn hx
  exact ⟨Blk.new _ _ _,own_base (ho.alloc _) (Nat.zero_le _),own_nil _ _ _ _,own_nil _ _ _ _,own_nil _ _ _ _,h1,h2,Nat.le_refl _,Nat.zero_le _⟩
theorem lp_eq {s:Txt} {lp:List PTok} (h1:toksP s 0=.ok lp) (h2:toksP s 0=outP s.length (toksR s 0)):∃ l,toksR s 0=.ok l∧lp=(l++[(⟨[],s.length⟩:RTok)]).map toP:=by
  rw[h1] at h2
  cases h:toksR s 0 with
  | error e=>rw[h] at h2;cases h2
  | ok l =>
    rw[h] at h2
    simp only[outP,Except.ok.injEq] at h2
    refine ⟨l,rfl, ?_⟩
    rw[h2,List.map_append]
    simp only[List.map_cons,List.map_nil,toP]
    rw[show kindP []=0 by decide]
theorem Scan_two (s:ByteArray) (hs:s.size≤400) (w:World) (hg:GlobT w) (hsm:toksP s.toList 0=outP s.toList.length (toksR s.toList 0)) :
    Calls Tryz.prog 41 #[.string s] w fun e w'=>Below w.heap.size w w' ∧
      ((∃ l va vc,toksR s.toList 0=.ok l∧l.length≤400∧e=.returned (.tuple #[.slice va (l.length+1) vc,.bool true,.int .i64 0])∧w'.ownsRow w.heap.size 101 3 (.slice va (l.length+1) vc) (l.length+1) (cellsT (l++[(⟨[],s.toList.length⟩:RTok)]))) ∨
       (∃ p,toksR s.toList 0=.error p∧e=.returned (.tuple #[.slice none 0 0,.bool false,.int .i64 p]))):=by
  refine (Scan_any s hs w hg).mono ?_
  rintro e w1 ⟨hb1,⟨lp,v,hlp,hlen,rfl,hown⟩ | ⟨p,hlp,rfl⟩⟩
  · obtain ⟨l,hl,rfl⟩:=lp_eq hlp hsm
    rw[cellsT_toP] at hown
    have hlen':((l++[(⟨[],s.toList.length⟩:RTok)]).map toP).length=l.length+1:=by simp
    rw[hlen'] at hown hlen
    obtain ⟨va,vc,rfl⟩:=(reads_of_own hown).shape
    exact ⟨hb1,.inl ⟨l,va,vc,hl,by omega,rfl,hown⟩⟩
  · refine ⟨hb1,.inr ⟨p, ?_,rfl⟩⟩
    rw[hlp] at hsm
    cases h:toksR s.toList 0 with
    | ok l=>rw[h] at hsm;cases hsm
    | error q=>rw[h] at hsm;cases hsm;rfl
theorem own_three {w:World} {base b s n:Nat} {e t:TypeId} {v x y z:Value} {xs:List Value} {cs:Array Value} (h:w.ownsRow base e s v n xs) (hb:Blk w b cs t) (hne:t≠e):(((w.setCell ⟨b,0,none⟩ x).setCell ⟨b,1,none⟩ y).setCell ⟨b,2,none⟩ z).ownsRow base e s v n xs :=
  own_set (own_set (own_set h hb hne) (hb.set 0 x) hne) ((hb.set 0 x).set 1 y) hne
theorem three_cells {w W:World} {b:Nat} {cs:Array Value} {t:TypeId} (h:Blk W b cs t) (hs:cs.size=3) (x y z:Value):Blk (((W.setCell ⟨b,0,none⟩ x).setCell ⟨b,1,none⟩ y).setCell ⟨b,2,none⟩ z) b #[x,y,z] t:=by
  have:=((h.set 0 x).set 1 y).set 2 z
  rcases cs with ⟨l⟩
  match l,hs with
  | [a,b',c],_=>exact this
set_option maxHeartbeats 1000000 in
set_option maxRecDepth 100000 in
theorem Read_any (s:ByteArray) (w:World) (hg:GlobT w) (hz:s.size≤maxLen) :
    Calls Tryz.prog 22 #[.string s] w fun e w'=>Below w.heap.size w w' ∧
      ((∃ c p,tokened s.toList=.bad c p∧c≠0∧e=.returned (.tuple #[.agg #[nilS,nilS,nilS],.int .i64 c,.int .i64 (p:Nat)])) ∨
       (∃ L R nv lv rv,PolicyOf s.toList L R∧e=.returned (.tuple #[.agg #[nv,lv,rv],.int .i64 0,.int .i64 0])∧PolMem w' w.heap.size nv lv rv L R)):=by
  unfold maxLen at hz
  by_cases hlong:400 < s.size
  · have ht:Hid (tokened s.toList=.bad 1 0):=by rw[Hid,tokened,if_pos (by rw[toList_length];omega)]
    have hl2:(400:Int) < s.size:=by omega
    go_enter Tryz.func22,Tryz.ntmps22
    go_wp2
    exact bodyPost_ret (v:=.tuple #[.agg #[nilS,nilS,nilS],.int .i64 1,.int .i64 0]) (by simp[results,Tryz.results22,go_sem]) rfl ⟨by first | exact new_below w _ | exact tok_end (new_below w _) _ _ _,.inl ⟨1,0,ht.out,by decide,rfl⟩⟩
  · have hs4:s.size≤400:=by omega
    have hl2:¬ ((400:Int) < s.size):=by omega
    have hsl:s.toList.length≤400:=by rw[toList_length];exact hs4
    have HSL:=hideP hsl
    have HG:=hideP (hg.below (new_below w (.cells #[nilS,nilS,nilS] 73)))
    have hsame:=toks_same s.toList.length s.toList 0 (Nat.le_refl _)
    rw[Nat.zero_add] at hsame
    have HSM:=hideP hsame
    clear hg hlong hsl hsame
    go_enter Tryz.func22,Tryz.ntmps22
    go_upto_region 4 with (go_at_call 41;refine (Scan_two s hs4 _ HG.out HSM.out).mono ?_;rintro e w1 ⟨hb1,⟨l,va,vc,hl,hll,rfl,hown⟩ | ⟨p,hl,rfl⟩⟩)
    · have HLt:=hideP hl
      have HWh:Hid (Whole (l++[(⟨[],s.toList.length⟩:RTok)]) l):=⟨⟨_,rfl⟩,toks_may hl⟩
      have HRD:=hideP (rd_start (T:=l++[(⟨[],s.toList.length⟩:RTok)]) hown (by simp) rfl (by simp) (by simp;omega))
      have hb0:Below w.heap.size w w1:=(new_below w _).trans (hb1.mono (by simp))
      have HB1:=hideP (hb0.trans ((new_below w1 (.cells #[.slice va (l.length+1) vc,.int .i64 0,.int .i64 0,.bool false,nilS,nilS,nilS] 99)).mono hb0.size))
      have HRB:=hideP (((Blk.new w #[nilS,nilS,nilS] 73).below hb1 (by simp)).alloc (.cells #[.slice va (l.length+1) vc,.int .i64 0,.int .i64 0,.bool false,nilS,nilS,nilS] 99))
      have hlt1:w.heap.size < w1.heap.size:=by have:=hb1.size;simp at this;omega
      clear hl hown hb1 hb0 HG HSM
      go_upto_region 8 with (go_at_call 42;refine (readPolicy_any HWh.out HRD.out).mono ?_;rintro e w2 ⟨rfl,hb2,⟨L,R,q,hne,hok⟩ | hbad⟩)
      · have HOK:=hideP hok
        have HNE:=hideP hne
        obtain ⟨nv,lv,rv,hR⟩:=hok.rd
        obtain ⟨na,nc,hnv⟩:=(reads_of_own hR.ond).shape
        obtain ⟨la,lc,hlv⟩:=(reads_of_own hR.olt).shape
        obtain ⟨ra,rc,hrv⟩:=(reads_of_own hR.orl).shape
        simp only at hnv hlv hrv
        subst hnv hlv hrv
        have HR:=hideP hR
        have hB2:=hR.blk.lt
        have c3:=hR.blk.cell 3
        have c4:=hR.blk.cell 4
        have c5:=hR.blk.cell 5
        have c6:=hR.blk.cell 6
        simp only[List.getElem?_toArray,List.getElem?_cons_zero,List.getElem?_cons_succ] at c3 c4 c5 c6
        have HB2:=hideP (HB1.out.trans (hb2.mono (Nat.le_of_lt hlt1)))
        have HRB2:=hideP (HRB.out.below hb2 hlt1)
        have x0:=HRB2.out.cell 0
        have x1:=HRB2.out.cell 1
        have x2:=HRB2.out.cell 2
        have xf:=HRB2.out.free
        simp only[List.getElem?_toArray,List.getElem?_cons_zero,List.getElem?_cons_succ] at x0 x1 x2
        have hPO:Hid (PolicyOf s.toList L R):=by
          have heq:=HOK.out.eq
          rw[List.append_nil] at heq
          exact ⟨by rw[← heq];exact tokened_fine HSL.out HLt.out (by rw[heq];exact HOK.out.go) (HOK.out.q6 HNE.out),HOK.out.lets,HOK.out.rules,HOK.out.wf,by rw[← heq];exact HWh.out.may,HNE.out,by rw[← heq];exact hll⟩
        clear hok hne hR hb2 HRD HRB
        have hbx:=three_cells (w:=w) HRB2.out rfl (.slice na (nodesS 0 (L++R)).length nc) (.slice la (letsS 0 (L++R)).length lc) (.slice ra (rulesS 0 (L++R)).length rc)
        have g0:=hbx.cell 0
        have g1:=hbx.cell 1
        have g2:=hbx.cell 2
        clear hbx
        go_wp2
        exact bodyPost_ret (v:=.tuple #[.agg #[.slice na (nodesS 0 (L++R)).length nc,.slice la (letsS 0 (L++R)).length lc,.slice ra (rulesS 0 (L++R)).length rc],.int .i64 0,.int .i64 0]) (by simp[results,Tryz.results22,go_sem,g0,g1,g2]) rfl ⟨tok_end HB2.out _ _ _,.inr ⟨L,R,_,_,_,hPO.out,rfl,own_three (own_base HR.out.ond (by omega)) HRB2.out (by decide),own_three (own_base HR.out.olt (by omega)) HRB2.out (by decide),own_three (own_base HR.out.orl (by omega)) HRB2.out (by decide)⟩⟩
      · obtain ⟨j,nv,lv,rv,ns,ls,rs,h1,h2,h3,hR⟩:=hbad.rd
        obtain ⟨tk,htk⟩:=hR.cur
        have HTK:=hideP htk
        have HTB:Hid (tokened s.toList=.bad 3 tk.at'):=tokened_bad HSL.out HLt.out h1 htk
        have HR:=hideP hR
        have hB2:=hR.blk.lt
        have c3:=hR.blk.cell 3
        simp only[List.getElem?_toArray,List.getElem?_cons_zero,List.getElem?_cons_succ] at c3
        have HB2:=hideP (HB1.out.trans (hb2.mono (Nat.le_of_lt hlt1)))
        have HRB2:=hideP (HRB.out.below hb2 hlt1)
        clear hbad h1 h2 h3 hR hb2 HRD HRB htk
        go_wp2_with (go_at_call 43;refine (current_at HR.out HTK.out).mono ?_;rintro e w3 ⟨rfl,hb3⟩;unfold tokA;have HB3:=hideP (HB2.out.trans ((hb3.trans ((new_below w3 (.cells #[.int .i64 (kindP tk.text),.int .i64 tk.at',.string (bsOf tk.text)] 101)).mono hb3.size)).mono HB2.out.size));have HRB3:=hideP ((HRB2.out.below hb3 HRB2.out.lt).alloc (.cells #[.int .i64 (kindP tk.text),.int .i64 tk.at',.string (bsOf tk.text)] 101));have HY3:=hideP (HRB2.out.below hb3 HRB2.out.lt);have HZ3:=hideP (HB2.out.trans (hb3.mono HB2.out.size));have hlt3:w.heap.size < w3.heap.size:=(HRB2.out.below hb3 HRB2.out.lt).lt;have y0:=(HRB2.out.below hb3 HRB2.out.lt).cell 0;have y1:=(HRB2.out.below hb3 HRB2.out.lt).cell 1;have y2:=(HRB2.out.below hb3 HRB2.out.lt).cell 2;have yf:=(HRB2.out.below hb3 HRB2.out.lt).free;simp only[List.getElem?_toArray,List.getElem?_cons_zero,List.getElem?_cons_succ] at y0 y1 y2;clear hb3)
        go_region
        all_goals
          have hbx:=((three_cells (w:=w) HY3.out rfl nilS nilS nilS).alloc (.cells #[.int .i64 (kindP tk.text),.int .i64 tk.at',.string (bsOf tk.text)] 101)).drew
          have g0:=hbx.cell 0
          have g1:=hbx.cell 1
          have g2:=hbx.cell 2
          clear hbx
          go_wp2
          exact bodyPost_ret (v:=.tuple #[.agg #[nilS,nilS,nilS],.int .i64 3,.int .i64 (tk.at':Nat)]) (by simp[results,Tryz.results22,go_sem,g0,g1,g2]) rfl ⟨below_drewN ((tok_end HZ3.out nilS nilS nilS).alloc (by simp;omega) _) 1,.inl ⟨3,tk.at',HTB.out,by decide,rfl⟩⟩
    · have HTB:Hid (tokened s.toList=.bad 2 p):=by
        have:=HSL.out
        rw[Hid,tokened,if_neg (by omega),hl]
      have hb0:Below w.heap.size w w1:=(new_below w _).trans (hb1.mono (by simp))
      have HB1:=hideP hb0
      have HRB:=hideP ((Blk.new w #[nilS,nilS,nilS] 73).below hb1 (by simp))
      have y0:=HRB.out.cell 0
      have y1:=HRB.out.cell 1
      have y2:=HRB.out.cell 2
      have yf:=HRB.out.free
      simp only[List.getElem?_toArray,List.getElem?_cons_zero,List.getElem?_cons_succ] at y0 y1 y2
      have hbx:=three_cells (w:=w) HRB.out rfl nilS nilS nilS
      have g0:=hbx.cell 0
      have g1:=hbx.cell 1
      have g2:=hbx.cell 2
      clear hbx hl hb1 hb0 HG HSM
      go_wp2
      exact bodyPost_ret (v:=.tuple #[.agg #[nilS,nilS,nilS],.int .i64 2,.int .i64 (p:Nat)]) (by simp[results,Tryz.results22,go_sem,g0,g1,g2]) rfl ⟨tok_end HB1.out _ _ _,.inl ⟨2,p,HTB.out,by decide,rfl⟩⟩
end Go.Proofs.YtpcjadaeolkngaaGreatDoor
