/-
  The program's reader: the walk of readPolicy.
-/
import Derived.Test.YtgfnkeiigjholaaGreatDoorQ30
set_option linter.unusedVariables false
set_option linter.unusedSimpArgs false
namespace Go.Proofs.YtgfnkeiigjholaaGreatDoor
open Go.RowKit Go.Deep
def leftOf(w:World)(B:Nat):Nat:=2*(500-nextOf w B)+(match w.cell? ⟨B,3,none⟩ with
 | some (.bool true)=>0
 | _=>1)
theorem RdAt.leftOf{w:World}{B:Nat}{S:RS}(h:RdAt w B S):leftOf w B=2*(500-S.k)+(if S.f then 0 else 1):=by
 have:=h.blk.cell 3
 simp only[List.getElem?_toArray,List.getElem?_cons_zero,List.getElem?_cons_succ]at this
 unfold Go.Proofs.YtgfnkeiigjholaaGreatDoor.leftOf
 rw[this,h.nextOf]
 cases S.f <;> rfl
structure Whole(T l:List RTok):Prop where
 eq:∃ E,T=l++[⟨[],E⟩]
 may:∀ t∈l,mayT t.text=true
theorem Whole.left{T l rest:List RTok}{L:List RSt}(h:Whole T l)(he:l=toksL L++rest)(S:RS)(hT:S.T=T)(hk:S.k=(toksL L).length):LeftR S rest:=by
 obtain ⟨E,e⟩:=h.eq
 refine ⟨⟨E, ?_⟩,fun t ht=>h.may t (by rw[he];simp[ht])⟩
 rw[hT,hk,e,he,List.append_assoc,List.drop_left]
theorem PolOk.lt{B:Nat}{tv:Value}{T l:List RTok}{wr:World}{L R:List RSt}{rest:List RTok}{q:Spot}(h:PolOk B tv T l wr L R rest q):B<wr.heap.size:=by
 obtain ⟨nv,lv,rv,hR⟩:=h.rd
 exact hR.blk.lt
theorem PolBad.lt{B:Nat}{tv:Value}{T l:List RTok}{wr:World}(h:PolBad B tv T l wr):B<wr.heap.size:=by
 obtain ⟨j,nv,lv,rv,ns,ls,rs,h1,h2,h3,hR⟩:=h.rd
 exact hR.blk.lt
def PolB1(B:Nat)(tv:Value)(T l:List RTok)(wr:World):Prop:=∃ j nv lv rv ns ls rs,BadS ⟨0,0,0⟩ l j∧ls.length≤402∧rs.length≤401∧RdAt wr B ⟨tv,T,j,0,true,nv,lv,rv,ns,ls,rs⟩
theorem PolB1.below{B:Nat}{tv:Value}{T l:List RTok}{wr w':World}(h:PolB1 B tv T l wr)(hb:Below wr.heap.size wr w'):PolB1 B tv T l w':=by
 obtain ⟨j,nv,lv,rv,ns,ls,rs,h1,h2,h3,hR⟩:=h
 exact ⟨j,nv,lv,rv,ns,ls,rs,h1,h2,h3,hR.below hb⟩
def PolL(B:Nat)(tv:Value)(T l:List RTok)(wr:World):Prop:=(∃ L rest,PolOk B tv T l wr L [] rest ⟨0,0,0⟩)∨PolB1 B tv T l wr
def PolR(B:Nat)(tv:Value)(T l:List RTok)(wr:World):Prop:=(∃ L R rest q,R≠[]∧PolOk B tv T l wr L R rest q)∨PolBad B tv T l wr
theorem pol_sees_let{B:Nat}{tv:Value}{T l:List RTok}{wr:World}(hW:Whole T l)(h:PolL B tv T l wr) :
  Calls Tryz.prog 91 #[.pointer (some ⟨B,0,none⟩),.int .i64 3] wr fun e w'=>∃ b,e=.returned (.bool b)∧Below wr.heap.size wr w'∧leftOf w' B=leftOf wr B ∧
   (b=true→∃ L kw r,kw.text=cLet∧PolOk B tv T l w' L [] (kw :: r) ⟨0,0,0⟩)∧(b=false→(∃ L rest,(∀ a r,rest=a :: r→a.text≠cLet)∧PolOk B tv T l w' L [] rest ⟨0,0,0⟩)∨PolB1 B tv T l w'):=by
 rcases h with ⟨L,rest,h⟩ | h
 ·obtain ⟨nv,lv,rv,hR⟩:=h.rd
  have hl:=hW.left h.eq _ rfl rfl |> fun (x:LeftR ⟨tv,T,(toksL (L++[])).length,0,false,nv,lv,rv,nodesS 0 (L++[]),letsS 0 (L++[]),rulesS 0 (L++[])⟩ rest)=>x
  rcases rest with _ | ⟨a,r⟩
  ·obtain ⟨E,hE⟩:=hl.nil
   refine (sees_at hR hE 3).mono ?_
   rintro e w' ⟨rfl,hb⟩
   refine ⟨_,rfl,hb,(by rw[hR.leftOf,(hR.below hb).leftOf]),fun e=>?_,fun _=>.inl ⟨L,[],fun a r e=>(by cases e),h.below hb⟩⟩
   exact absurd (by simpa using e) (kind_end E 3 (by omega))
  ·refine (sees_at hR hl.head 3).mono ?_
   rintro e w' ⟨rfl,hb⟩
   have K:=kindOf _ (hl.may a (by simp))
   refine ⟨_,rfl,hb,(by rw[hR.leftOf,(hR.below hb).leftOf]),fun e=>⟨L,a,r,K.klet.1 (by simpa using e),h.below hb⟩,fun e=>.inl ⟨L,a :: r,fun a' r' e'=>?_,h.below hb⟩⟩
   cases e'
   intro hx
   rw[K.klet.2 hx]at e
   simp at e
 ·obtain ⟨j,nv,lv,rv,ns,ls,rs,h1,h2,h3,hR⟩:=id h
  obtain ⟨t,ht⟩:=hR.cur
  refine (sees_at hR ht 3).mono ?_
  rintro e w' ⟨rfl,hb⟩
  refine ⟨_,rfl,hb,(by rw[hR.leftOf,(hR.below hb).leftOf]),fun e=>?_,fun _=>.inr (h.below hb)⟩
  simp at e
theorem pol_let{B:Nat}{tv:Value}{T l:List RTok}{wr:World}(hW:Whole T l){L:List RSt}{kw:RTok}{r:List RTok}(hk:kw.text=cLet)(h:PolOk B tv T l wr L [] (kw :: r) ⟨0,0,0⟩) :
  Calls Tryz.prog 92 #[.pointer (some ⟨B,0,none⟩)] wr fun e w'=>e=.returned (.tuple #[])∧Below B wr w'∧PolL B tv T l w'∧leftOf w' B<leftOf wr B:=by
 obtain ⟨nv,lv,rv,hR⟩:=h.rd
 have hl:LeftR ⟨tv,T,(toksL (L++[])).length,0,false,nv,lv,rv,nodesS 0 (L++[]),letsS 0 (L++[]),rulesS 0 (L++[])⟩ (kw :: r):=hW.left h.eq _ rfl rfl
 have hkt:=hR.kt
 have htl:=hR.tl
 have h1:=letsS_le (L++[]) 0
 have h2:=toksL_le (L++[])
 simp only at hkt htl
 refine (readLet_any hR rfl rfl hl hk (by simp only;omega)).mono ?_
 rintro e w' ⟨rfl,hb,⟨s,rest,nv',lv',g1,g2,hR'⟩ | ⟨j,nv',lv',ns,n,hbad,hR'⟩⟩
 ·refine ⟨rfl,hb,.inl ⟨L++[s],rest, ?_⟩, ?_⟩
  ·have hn:=nodesS_len (L++[]) h.wf 0
   have hgo:=h.go
   simp only[List.append_nil]at hR' hn hgo ⊢
   have ht:toksL (L++[s])=toksL L++s.toks:=by rw[toksL_append];simp[toksL_cons,toksL]
   refine ⟨?_,fun x hx=>(by cases hx), ?_, ?_, ?_,h.at',fun _=>rfl,fun hx=>absurd rfl hx,nv',lv',rv, ?_⟩
   ·intro x hx
    rw[List.mem_append]at hx
    rcases hx with hx | hx
    ·exact h.lets x hx
    ·simp at hx;subst hx;exact g2
   ·intro x hx
    simp only[List.append_nil,List.mem_append]at hx
    rcases hx with hx | hx
    ·exact h.wf x (by simp[hx])
    ·simp at hx;subst hx;exact g1.wf
   ·have:=h.eq
    simp only[List.append_nil]at this ⊢
    rw[this,g1.eq,ht,List.append_assoc]
   ·simp only[List.append_nil]
    rw[ht,goS_ok hgo];exact g1.go
   ·simp only[List.append_nil]
    have e1:nodesS 0 (L++[s])=nodesS 0 L++s.nodes (nodesS 0 L).length:=by rw[nodesS_append,hn];simp[nodesS]
    have e2:letsS 0 (L++[s])=letsS 0 L++s.lets (nodesS 0 L).length:=by rw[letsS_append,hn];simp[letsS]
    have e3:rulesS 0 (L++[s])=rulesS 0 L:=by
     rw[rulesS_append]
     rcases s.cases with ⟨kw',name,eq,e,semi,rfl⟩ | ⟨wh,act,sc,semi,rfl⟩
     ·simp[rulesS,RSt.rules_let]
     ·cases g2
    rw[e1,e2,e3,ht,List.length_append]
    exact hR'
  ·rw[hR'.leftOf,hR.leftOf]
   have:=s.toks_length
   simp only
   omega
 ·have hj:j≠0:=by
   rintro rfl
   obtain ⟨q,k1,_,k3⟩:=hbad.ex
   cases k1
   have:=k3 (by simp)
   rw[show (kw :: r)[0]=kw from rfl,let_one hk]at this
   cases this
  refine ⟨rfl,hb,.inr ⟨_,nv',lv',rv,ns,letsS 0 (L++[])++[n],rulesS 0 (L++[]),hbad.behind (p:=⟨0,0,0⟩) h.go |> fun x=>(by rw[← h.eq]at x;exact x), ?_, ?_,hR'⟩, ?_⟩
  ·simp only[List.length_append,List.length_cons,List.length_nil];omega
  ·have:=rulesS_le (L++[]) 0
   omega
  ·rw[hR'.leftOf,hR.leftOf]
   simp only[if_true,Bool.false_eq_true,if_false]
   omega
theorem pol_rule{B:Nat}{tv:Value}{T l:List RTok}{wr:World}(hW:Whole T l){L R:List RSt}{rest:List RTok}{q:Spot}(h:PolOk B tv T l wr L R rest q)(h0:q.next=0→∀ a r,rest=a :: r→a.text≠cLet)(h6:rest=[]→q.next≠6) :
  Calls Tryz.prog 93 #[.pointer (some ⟨B,0,none⟩)] wr fun e w'=>e=.returned (.tuple #[])∧Below B wr w'∧PolR B tv T l w'∧leftOf w' B<leftOf wr B:=by
 obtain ⟨nv,lv,rv,hR⟩:=h.rd
 have hl:LeftR ⟨tv,T,(toksL (L++R)).length,0,false,nv,lv,rv,nodesS 0 (L++R),letsS 0 (L++R),rulesS 0 (L++R)⟩ rest:=hW.left h.eq _ rfl rfl
 have hkt:=hR.kt
 have htl:=hR.tl
 have h1:=letsS_le (L++R) 0
 have h1':=rulesS_le (L++R) 0
 have h2:=toksL_le (L++R)
 simp only at hkt htl
 refine (readRule_any hR rfl rfl hl h.at' h0 h6 (by simp only;omega)).mono ?_
 rintro e w' ⟨rfl,hb,⟨s,rest',nv',rv',q',g1,g2,g3,g4,hR'⟩ | ⟨j,nv',rv',ns,n,hbad,hR'⟩⟩
 ·refine ⟨rfl,hb,.inl ⟨L,R++[s],rest',q',by simp, ?_⟩, ?_⟩
  ·have hn:=nodesS_len (L++R) h.wf 0
   have ht:toksL (L++(R++[s]))=toksL (L++R)++s.toks:=by rw[← List.append_assoc,toksL_append];simp[toksL_cons,toksL]
   refine ⟨h.lets, ?_, ?_, ?_, ?_,⟨.inr g3,g4⟩,fun hx=>(by simp at hx),fun _=>g3,nv',lv,rv', ?_⟩
   ·intro x hx
    rw[List.mem_append]at hx
    rcases hx with hx | hx
    ·exact h.rules x hx
    ·simp at hx;subst hx;exact g2
   ·intro x hx
    rw[← List.append_assoc,List.mem_append]at hx
    rcases hx with hx | hx
    ·exact h.wf x hx
    ·simp at hx;subst hx;exact g1.wf
   ·rw[h.eq,g1.eq,ht,List.append_assoc]
   ·rw[ht,goS_ok h.go];exact g1.go
   ·have e1:nodesS 0 (L++(R++[s]))=nodesS 0 (L++R)++s.nodes (nodesS 0 (L++R)).length:=by rw[← List.append_assoc,nodesS_append,hn];simp[nodesS]
    have e2:rulesS 0 (L++(R++[s]))=rulesS 0 (L++R)++s.rules (nodesS 0 (L++R)).length:=by rw[← List.append_assoc,rulesS_append,hn];simp[rulesS]
    have e3:letsS 0 (L++(R++[s]))=letsS 0 (L++R):=by
     rw[← List.append_assoc,letsS_append]
     rcases s.cases with ⟨kw',name,eq,e,semi,rfl⟩ | ⟨wh,act,sc,semi,rfl⟩
     ·cases g2
     ·simp[letsS,RSt.lets_rule]
    rw[e1,e2,e3,ht,List.length_append]
    exact hR'
  ·rw[hR'.leftOf,hR.leftOf]
   have:=s.toks_length
   simp only
   omega
 ·refine ⟨rfl,hb,.inr ⟨_,nv',lv,rv',ns,letsS 0 (L++R),rulesS 0 (L++R)++[n],hbad.behind (p:=⟨0,0,0⟩) h.go |> fun x=>(by rw[← h.eq]at x;exact x), ?_, ?_,hR'⟩, ?_⟩
  ·omega
  ·simp only[List.length_append,List.length_cons,List.length_nil];omega
  ·rw[hR'.leftOf,hR.leftOf]
   simp only[if_true,Bool.false_eq_true,if_false]
   omega
theorem pol_rule_bad{B:Nat}{tv:Value}{T l:List RTok}{wr:World}(hr:PolB1 B tv T l wr) :
  Calls Tryz.prog 93 #[.pointer (some ⟨B,0,none⟩)] wr fun e w'=>e=.returned (.tuple #[])∧Below B wr w'∧PolR B tv T l w':=by
 obtain ⟨j,nv,lv,rv,ns,ls,rs,h1,h2,h3,hR⟩:=hr
 refine (readRule_failed hR rfl h3).mono ?_
 rintro e w' ⟨rfl,hb,rv',hR'⟩
 exact ⟨rfl,hb,.inr ⟨j,nv,lv,rv',ns,ls,_,h1,h2,by simp;omega,hR'⟩⟩
theorem pol_first{B:Nat}{tv:Value}{T l:List RTok}{wr:World}(hW:Whole T l)(h:(∃ L rest,(∀ a r,rest=a :: r→a.text≠cLet)∧PolOk B tv T l wr L [] rest ⟨0,0,0⟩)∨PolB1 B tv T l wr) :
  Calls Tryz.prog 93 #[.pointer (some ⟨B,0,none⟩)] wr fun e w'=>e=.returned (.tuple #[])∧Below B wr w'∧PolR B tv T l w':=by
 rcases h with ⟨L,rest,h1,h2⟩ | h
 ·refine (pol_rule hW h2 (fun _=>h1) (fun _=>by decide)).mono ?_
  rintro e w' ⟨rfl,hb,hp,_⟩
  exact ⟨rfl,hb,hp⟩
 ·exact pol_rule_bad h
end Go.Proofs.YtgfnkeiigjholaaGreatDoor
