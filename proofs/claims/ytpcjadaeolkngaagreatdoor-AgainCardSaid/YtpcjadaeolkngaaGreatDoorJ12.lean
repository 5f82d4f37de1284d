/-
  The program's reader: readRule in a state that has failed; a policy.
-/
import Derived.Test.YtpcjadaeolkngaaGreatDoorJ11
set_option linter.unusedVariables false
set_option linter.unusedSimpArgs false
namespace Go.Proofs.YtpcjadaeolkngaaGreatDoor
open Go.RowKit Go.Deep
def zeroR:PRule:=⟨false,noExp,false,noExp⟩
set_option maxHeartbeats 2000000 in
set_option maxRecDepth 100000 in
theorem readRule_failed{B:Nat}{S:RS}{w:World}(h:RdAt w B S)(hf:S.f=true)(hrs:S.rs.length≤401) :
  Calls Tryz.prog 69 #[.pointer (some ⟨B,0,none⟩)] w fun e w'=>e=.returned (.tuple #[])∧Below B w w'∧∃ rv,RdAt w' B { S with rv:=rv,rs:=S.rs++[zeroR] }:=by
 obtain ⟨i0,hi,hz0,hz1,hz2⟩:=info_parts Tryz.infoRule
 obtain ⟨tk,htk⟩:=h.cur
 have HTK:=hideP htk
 have HF:=hideP hf
 have hB:=h.blk.lt
 have hS:({ S with f:=true }:RS)=S:=by rw[← hf]
 have HS:=hideP hS
 have HR:=hideP (h.alloc (.cells #[.bool false,.int .i64 0,.int .i64 0,.int .i64 0,.bool false,.int .i64 0,.int .i64 0,.int .i64 0] 110))
 have HK:=hideP (KeepN.of (B:=B) (new_below w (.cells #[.bool false,.int .i64 0,.int .i64 0,.int .i64 0,.bool false,.int .i64 0,.int .i64 0,.int .i64 0] 110)))
 have HBK:=hideP (Blk.new w #[.bool false,.int .i64 0,.int .i64 0,.int .i64 0,.bool false,.int .i64 0,.int .i64 0,.int .i64 0] 110)
 have hneB:w.heap.size≠B:=by omega
 clear h hf htk hS
 go_enter Tryz.func69,Tryz.ntmps69
 go_wp2_with (go_at_call_of 67 (Value.int IntKind.i64 4);refine (sees_at HR.out HTK.out 4).mono ?_;rintro e w1 ⟨rfl,hb1⟩;rw[HF.out];simp only[Bool.not_true,Bool.false_and];replace HR:=hideP (HR.out.below hb1);replace HBK:=hideP (HBK.out.below hb1 HBK.out.lt);replace HK:=hideP (HK.out.trans (KeepN.of hb1));clear hb1)
 go_wp2_with (go_at_call_of 67 (Value.int IntKind.i64 5);refine (sees_at HR.out HTK.out 5).mono ?_;rintro e w2 ⟨rfl,hb2⟩;rw[HF.out];simp only[Bool.not_true,Bool.false_and];replace HR:=hideP (HR.out.below hb2);replace HBK:=hideP (HBK.out.below hb2 HBK.out.lt);replace HK:=hideP (HK.out.trans (KeepN.of hb2));clear hb2)
 go_wp2_with (go_at_call_of 102 (Value.int IntKind.i64 6);refine (take_not HR.out HTK.out 6 (.inl HF.out)).mono ?_;rintro e w3 ⟨rfl,hR3,hk3⟩;rw[HS.out]at hR3;replace HR:=hideP hR3;replace HBK:=hideP (HBK.out.keepN hk3 hneB (by decide));replace HK:=hideP (HK.out.trans hk3);clear hR3 hk3)
 go_wp2_with (go_at_call_of 102 (Value.int IntKind.i64 22);refine (take_not HR.out HTK.out 22 (.inl HF.out)).mono ?_;rintro e w6 ⟨rfl,hR3,hk3⟩;rw[HS.out]at hR3;replace HR:=hideP hR3;replace HBK:=hideP (HBK.out.keepN hk3 hneB (by decide));replace HK:=hideP (HK.out.trans hk3);clear hR3 hk3)
 have hB6:=HR.out.blk.lt
 have c6:=HR.out.blk.cell 6
 have f6:=HR.out.blk.free 6
 have t0:=HBK.out.cell 0
 have t1:=HBK.out.cell 1
 have t2:=HBK.out.cell 2
 have t3:=HBK.out.cell 3
 have t4:=HBK.out.cell 4
 have t5:=HBK.out.cell 5
 have t6:=HBK.out.cell 6
 have t7:=HBK.out.cell 7
 simp only[List.getElem?_toArray,List.getElem?_cons_zero,List.getElem?_cons_succ]at c6 t0 t1 t2 t3 t4 t5 t6 t7
 have hBKl:=HBK.out.lt
 have hneB2:S.rv.ownBlock≠some B:=by intro e;have:=(HR.out.orl.lt B e).1;omega
 have HW:=hideP ((HR.out.alloc (.cells #[.bool false,.int .i64 0,.int .i64 0,.int .i64 0,.bool false,.int .i64 0,.int .i64 0,.int .i64 0] 110)).drew)
 have hone:∀ u∈[Value.bool false,.int .i64 0,.int .i64 0,.int .i64 0,.bool false,.int .i64 0,.int .i64 0,.int .i64 0],u.oneCell'=true:=one_rule zeroR
 have h63:S.rs.length+1≤maxLen:=by unfold maxLen;omega
 have hnb:=Blk.new w6 #[.bool false,.int .i64 0,.int .i64 0,.int .i64 0,.bool false,.int .i64 0,.int .i64 0,.int .i64 0] 110
 have hnews:∀ j u,[Value.bool false,.int .i64 0,.int .i64 0,.int .i64 0,.bool false,.int .i64 0,.int .i64 0,.int .i64 0][j]?=some u→((w6.alloc (.cells #[.bool false,.int .i64 0,.int .i64 0,.int .i64 0,.bool false,.int .i64 0,.int .i64 0,.int .i64 0] 110)).drew).cell? ((⟨w6.heap.size,0,none⟩:Addr).add j)=some u:=World.news_of_block (cs:=#[.bool false,.int .i64 0,.int .i64 0,.int .i64 0,.bool false,.int .i64 0,.int .i64 0,.int .i64 0]) (t:=110) (fr:=(0,0)) hnb
 go_region_law ((refine step_append_lies _ (by rfl) _ _ _ (by rfl) (B+1) 110 i0 _ 8 64 Tryz.underlying71 hi hz0 hz1 hz2 rfl (by omega) S.rv S.rs.length (cellsU S.rs) (by rfl) HW.out.orl ⟨w6.heap.size,0,none⟩ 1 1 [.bool false,.int .i64 0,.int .i64 0,.int .i64 0,.bool false,.int .i64 0,.int .i64 0,.int .i64 0] (by rfl) (by rfl) hnews hone (by omega) h63 (by omega) (by simp <;> omega) (w6.heap.size+1) (by simp) ?_;intro gg cap w7 hown7 hgrow hat hlt7;have f7:w7.frozen? ⟨B,6,none⟩=false:=(hgrow.frozen_far _ (by simp <;> omega) (Ne.symm hneB2)).trans (HW.out.blk.free 6);have c7:w7.cell? ⟨B,6,none⟩=some S.rv:=(hgrow.cell_far _ (by simp <;> omega) (Ne.symm hneB2)).trans (HW.out.blk.cell 6)))
 all_goals
  have R:=rd_rule (n:=zeroR) HW.out hown7 hgrow
  have HB7:=hideP ((HK.out.below (by omega)).trans ((below_drewN ((Below.refl B w6).alloc (Nat.le_of_lt hB6) _) 1).trans R.2))
  have HRR:=hideP R.1
  clear R hnews hnb hone hown7 hgrow
  go_wp2
  exact bodyPost_end (results_none rfl _ _ _) rfl ⟨rfl,HB7.out,_,HRR.out⟩
def RS.zero(tv:Value)(T:List RTok):RS:=⟨tv,T,0,0,false,.slice none 0 0,.slice none 0 0,.slice none 0 0,[],[],[]⟩
structure PolOk(B:Nat)(tv:Value)(T l:List RTok)(wr:World)(L R:List RSt)(rest:List RTok)(q:Spot):Prop where
 lets:isLetL' L
 rules:isRuleL' R
 wf:∀ s∈L++R,s.wf
 eq:l=toksL (L++R)++rest
 go:goS ⟨0,0,0⟩ (toksL (L++R))=.ok q
 at':RuleAt q
 q0:R=[]→q=⟨0,0,0⟩
 q6:R≠[]→q.next=6
 rd:∃ nv lv rv,RdAt wr B ⟨tv,T,(toksL (L++R)).length,0,false,nv,lv,rv,nodesS 0 (L++R),letsS 0 (L++R),rulesS 0 (L++R)⟩
structure PolBad(B:Nat)(tv:Value)(T l:List RTok)(wr:World):Prop where
 rd:∃ j nv lv rv ns ls rs,BadS ⟨0,0,0⟩ l j∧ls.length≤402∧rs.length≤402∧RdAt wr B ⟨tv,T,j,0,true,nv,lv,rv,ns,ls,rs⟩
theorem PolOk.below{B:Nat}{tv:Value}{T l:List RTok}{wr w':World}{L R:List RSt}{rest:List RTok}{q:Spot}(h:PolOk B tv T l wr L R rest q)(hb:Below wr.heap.size wr w'):PolOk B tv T l w' L R rest q:=by
 obtain ⟨nv,lv,rv,hR⟩:=h.rd
 exact ⟨h.lets,h.rules,h.wf,h.eq,h.go,h.at',h.q0,h.q6,nv,lv,rv,hR.below hb⟩
theorem letsS_le:∀ (L:List RSt) (b:Nat),(letsS b L).length≤L.length
 | [],_=>Nat.le_refl _
 | s :: r,b=>by
  rw[letsS,List.length_append,List.length_cons]
  have:=letsS_le r (b+s.num)
  have h1:(s.lets b).length≤1:=by
   rcases s.cases with ⟨kw,name,eq,e,semi,rfl⟩ | ⟨wh,act,sc,semi,rfl⟩
   ·exact Nat.le_refl _
   ·exact Nat.zero_le _
  omega
theorem rulesS_le:∀ (L:List RSt) (b:Nat),(rulesS b L).length≤L.length
 | [],_=>Nat.le_refl _
 | s :: r,b=>by
  rw[rulesS,List.length_append,List.length_cons]
  have:=rulesS_le r (b+s.num)
  have h1:(s.rules b).length≤1:=by
   rcases s.cases with ⟨kw,name,eq,e,semi,rfl⟩ | ⟨wh,act,sc,semi,rfl⟩
   ·exact Nat.zero_le _
   ·exact Nat.le_refl _
  omega
theorem toksL_le(L:List RSt):L.length≤(toksL L).length:=by
 induction L with
 | nil=>exact Nat.le_refl _
 | cons s r ih=>rw[toksL_cons,List.length_append,List.length_cons,RSt.toks_length];omega
def leftOf(w:World)(B:Nat):Nat:=2*(500-nextOf w B)+(match w.cell? ⟨B,3,none⟩ with
 | some (.bool true)=>0
 | _=>1)
theorem RdAt.leftOf{w:World}{B:Nat}{S:RS}(h:RdAt w B S):leftOf w B=2*(500-S.k)+(if S.f then 0 else 1):=by
 have:=h.blk.cell 3
 simp only[List.getElem?_toArray,List.getElem?_cons_zero,List.getElem?_cons_succ]at this
 unfold Go.Proofs.YtpcjadaeolkngaaGreatDoor.leftOf
 rw[this,h.nextOf]
 cases S.f <;> rfl
structure Whole(T l:List RTok):Prop where
 eq:∃ E,T=l++[⟨[],E⟩]
 may:∀ t∈l,mayT t.text=true
theorem Whole.left{T l rest:List RTok}{L:List RSt}(h:Whole T l)(he:l=toksL L++rest)(S:RS)(hT:S.T=T)(hk:S.k=(toksL L).length):LeftR S rest:=by
 obtain ⟨E,e⟩:=h.eq
 refine ⟨⟨E, ?_⟩,fun t ht=>h.may t (by rw[he];simp[ht])⟩
 rw[hT,hk,e,he,List.append_assoc,List.drop_left]
theorem PolOk.lt{B:Nat}{tv:Value}{T l:List RTok}{wr:World}{L R:List RSt}{rest:List RTok}{q:Spot}(h:PolOk B tv T l wr L R rest q):B<wr.heap.size:=by
 obtain ⟨nv,lv,rv,hR⟩:=h.rd
 exact hR.blk.lt
def PolB1(B:Nat)(tv:Value)(T l:List RTok)(wr:World):Prop:=∃ j nv lv rv ns ls rs,BadS ⟨0,0,0⟩ l j∧ls.length≤402∧rs.length≤401∧RdAt wr B ⟨tv,T,j,0,true,nv,lv,rv,ns,ls,rs⟩
theorem PolB1.below{B:Nat}{tv:Value}{T l:List RTok}{wr w':World}(h:PolB1 B tv T l wr)(hb:Below wr.heap.size wr w'):PolB1 B tv T l w':=by
 obtain ⟨j,nv,lv,rv,ns,ls,rs,h1,h2,h3,hR⟩:=h
 exact ⟨j,nv,lv,rv,ns,ls,rs,h1,h2,h3,hR.below hb⟩
def PolL(B:Nat)(tv:Value)(T l:List RTok)(wr:World):Prop:=(∃ L rest,PolOk B tv T l wr L [] rest ⟨0,0,0⟩)∨PolB1 B tv T l wr
def PolR(B:Nat)(tv:Value)(T l:List RTok)(wr:World):Prop:=(∃ L R rest q,R≠[]∧PolOk B tv T l wr L R rest q)∨PolBad B tv T l wr
theorem pol_sees_let{B:Nat}{tv:Value}{T l:List RTok}{wr:World}(hW:Whole T l)(h:PolL B tv T l wr) :
  Calls Tryz.prog 67 #[.pointer (some ⟨B,0,none⟩),.int .i64 3] wr fun e w'=>∃ b,e=.returned (.bool b)∧Below wr.heap.size wr w'∧leftOf w' B=leftOf wr B ∧
   (b=true→∃ L kw r,kw.text=cLet∧PolOk B tv T l w' L [] (kw :: r) ⟨0,0,0⟩)∧(b=false→(∃ L rest,(∀ a r,rest=a :: r→a.text≠cLet)∧PolOk B tv T l w' L [] rest ⟨0,0,0⟩)∨PolB1 B tv T l w'):=by
 rcases h with ⟨L,rest,h⟩ | h
 ·obtain ⟨nv,lv,rv,hR⟩:=h.rd
  have hl:=hW.left h.eq _ rfl rfl |> fun (x:LeftR ⟨tv,T,(toksL (L++[])).length,0,false,nv,lv,rv,nodesS 0 (L++[]),letsS 0 (L++[]),rulesS 0 (L++[])⟩ rest)=>x
  rcases rest with _ | ⟨a,r⟩
  ·obtain ⟨E,hE⟩:=hl.nil
   refine (sees_at hR hE 3).mono ?_
   rintro e w' ⟨rfl,hb⟩
   refine ⟨_,rfl,hb,(by rw[hR.leftOf,(hR.below hb).leftOf]),fun e=>?_,fun _=>.inl ⟨L,[],fun a r e=>(by cases e),h.below hb⟩⟩
   exact absurd (by simpa using e) (kind_end E 3 (by omega))
  ·refine (sees_at hR hl.head 3).mono ?_
   rintro e w' ⟨rfl,hb⟩
   have K:=kindOf _ (hl.may a (by simp))
   refine ⟨_,rfl,hb,(by rw[hR.leftOf,(hR.below hb).leftOf]),fun e=>⟨L,a,r,K.klet.1 (by simpa using e),h.below hb⟩,fun e=>.inl ⟨L,a :: r,fun a' r' e'=>?_,h.below hb⟩⟩
   cases e'
   intro hx
   rw[K.klet.2 hx]at e
   simp at e
 ·obtain ⟨j,nv,lv,rv,ns,ls,rs,h1,h2,h3,hR⟩:=id h
  obtain ⟨t,ht⟩:=hR.cur
  refine (sees_at hR ht 3).mono ?_
  rintro e w' ⟨rfl,hb⟩
  refine ⟨_,rfl,hb,(by rw[hR.leftOf,(hR.below hb).leftOf]),fun e=>?_,fun _=>.inr (h.below hb)⟩
  simp at e
theorem pol_let{B:Nat}{tv:Value}{T l:List RTok}{wr:World}(hW:Whole T l){L:List RSt}{kw:RTok}{r:List RTok}(hk:kw.text=cLet)(h:PolOk B tv T l wr L [] (kw :: r) ⟨0,0,0⟩) :
  Calls Tryz.prog 68 #[.pointer (some ⟨B,0,none⟩)] wr fun e w'=>e=.returned (.tuple #[])∧Below B wr w'∧PolL B tv T l w'∧leftOf w' B<leftOf wr B:=by
 obtain ⟨nv,lv,rv,hR⟩:=h.rd
 have hl:LeftR ⟨tv,T,(toksL (L++[])).length,0,false,nv,lv,rv,nodesS 0 (L++[]),letsS 0 (L++[]),rulesS 0 (L++[])⟩ (kw :: r):=hW.left h.eq _ rfl rfl
 have hkt:=hR.kt
 have htl:=hR.tl
 have h1:=letsS_le (L++[]) 0
 have h2:=toksL_le (L++[])
 simp only at hkt htl
 refine (readLet_any hR rfl rfl hl hk (by simp only;omega)).mono ?_
 rintro e w' ⟨rfl,hb,⟨s,rest,nv',lv',g1,g2,hR'⟩ | ⟨j,nv',lv',ns,n,hbad,hR'⟩⟩
 ·refine ⟨rfl,hb,.inl ⟨L++[s],rest, ?_⟩, ?_⟩
  ·have hn:=nodesS_len (L++[]) h.wf 0
   have hgo:=h.go
   simp only[List.append_nil]at hR' hn hgo ⊢
   have ht:toksL (L++[s])=toksL L++s.toks:=by rw[toksL_append];simp[toksL_cons,toksL]
   refine ⟨?_,fun x hx=>(by cases hx), ?_, ?_, ?_,h.at',fun _=>rfl,fun hx=>absurd rfl hx,nv',lv',rv, ?_⟩
   ·intro x hx
    rw[List.mem_append]at hx
    rcases hx with hx | hx
    ·exact h.lets x hx
    ·simp at hx;subst hx;exact g2
   ·intro x hx
    simp only[List.append_nil,List.mem_append]at hx
    rcases hx with hx | hx
    ·exact h.wf x (by simp[hx])
    ·simp at hx;subst hx;exact g1.wf
   ·have:=h.eq
    simp only[List.append_nil]at this ⊢
    rw[this,g1.eq,ht,List.append_assoc]
   ·simp only[List.append_nil]
    rw[ht,goS_ok hgo];exact g1.go
   ·simp only[List.append_nil]
    have e1:nodesS 0 (L++[s])=nodesS 0 L++s.nodes (nodesS 0 L).length:=by rw[nodesS_append,hn];simp[nodesS]
    have e2:letsS 0 (L++[s])=letsS 0 L++s.lets (nodesS 0 L).length:=by rw[letsS_append,hn];simp[letsS]
    have e3:rulesS 0 (L++[s])=rulesS 0 L:=by
     rw[rulesS_append]
     rcases s.cases with ⟨kw',name,eq,e,semi,rfl⟩ | ⟨wh,act,sc,semi,rfl⟩
     ·simp[rulesS,RSt.rules_let]
     ·cases g2
    rw[e1,e2,e3,ht,List.length_append]
    exact hR'
  ·rw[hR'.leftOf,hR.leftOf]
   have:=s.toks_length
   simp only
   omega
 ·have hj:j≠0:=by
   rintro rfl
   obtain ⟨q,k1,_,k3⟩:=hbad.ex
   cases k1
   have:=k3 (by simp)
   rw[show (kw :: r)[0]=kw from rfl,let_one hk]at this
   cases this
  refine ⟨rfl,hb,.inr ⟨_,nv',lv',rv,ns,letsS 0 (L++[])++[n],rulesS 0 (L++[]),hbad.behind (p:=⟨0,0,0⟩) h.go |> fun x=>(by rw[← h.eq]at x;exact x), ?_, ?_,hR'⟩, ?_⟩
  ·simp only[List.length_append,List.length_cons,List.length_nil];omega
  ·have:=rulesS_le (L++[]) 0
   omega
  ·rw[hR'.leftOf,hR.leftOf]
   simp only[if_true,Bool.false_eq_true,if_false]
   omega
theorem pol_rule{B:Nat}{tv:Value}{T l:List RTok}{wr:World}(hW:Whole T l){L R:List RSt}{rest:List RTok}{q:Spot}(h:PolOk B tv T l wr L R rest q)(h0:q.next=0→∀ a r,rest=a :: r→a.text≠cLet)(h6:rest=[]→q.next≠6) :
  Calls Tryz.prog 69 #[.pointer (some ⟨B,0,none⟩)] wr fun e w'=>e=.returned (.tuple #[])∧Below B wr w'∧PolR B tv T l w'∧leftOf w' B<leftOf wr B:=by
 obtain ⟨nv,lv,rv,hR⟩:=h.rd
 have hl:LeftR ⟨tv,T,(toksL (L++R)).length,0,false,nv,lv,rv,nodesS 0 (L++R),letsS 0 (L++R),rulesS 0 (L++R)⟩ rest:=hW.left h.eq _ rfl rfl
 have hkt:=hR.kt
 have htl:=hR.tl
 have h1:=letsS_le (L++R) 0
 have h1':=rulesS_le (L++R) 0
 have h2:=toksL_le (L++R)
 simp only at hkt htl
 refine (readRule_any hR rfl rfl hl h.at' h0 h6 (by simp only;omega)).mono ?_
 rintro e w' ⟨rfl,hb,⟨s,rest',nv',rv',q',g1,g2,g3,g4,hR'⟩ | ⟨j,nv',rv',ns,n,hbad,hR'⟩⟩
 ·refine ⟨rfl,hb,.inl ⟨L,R++[s],rest',q',by simp, ?_⟩, ?_⟩
  ·have hn:=nodesS_len (L++R) h.wf 0
   have ht:toksL (L++(R++[s]))=toksL (L++R)++s.toks:=by rw[← List.append_assoc,toksL_append];simp[toksL_cons,toksL]
   refine ⟨h.lets, ?_, ?_, ?_, ?_,⟨.inr g3,g4⟩,fun hx=>(by simp at hx),fun _=>g3,nv',lv,rv', ?_⟩
   ·intro x hx
    rw[List.mem_append]at hx
    rcases hx with hx | hx
    ·exact h.rules x hx
    ·simp at hx;subst hx;exact g2
   ·intro x hx
    rw[← List.append_assoc,List.mem_append]at hx
    rcases hx with hx | hx
    ·exact h.wf x hx
    ·simp at hx;subst hx;exact g1.wf
   ·rw[h.eq,g1.eq,ht,List.append_assoc]
   ·rw[ht,goS_ok h.go];exact g1.go
   ·have e1:nodesS 0 (L++(R++[s]))=nodesS 0 (L++R)++s.nodes (nodesS 0 (L++R)).length:=by rw[← List.append_assoc,nodesS_append,hn];simp[nodesS]
    have e2:rulesS 0 (L++(R++[s]))=rulesS 0 (L++R)++s.rules (nodesS 0 (L++R)).length:=by rw[← List.append_assoc,rulesS_append,hn];simp[rulesS]
    have e3:letsS 0 (L++(R++[s]))=letsS 0 (L++R):=by
     rw[← List.append_assoc,letsS_append]
     rcases s.cases with ⟨kw',name,eq,e,semi,rfl⟩ | ⟨wh,act,sc,semi,rfl⟩
     ·cases g2
     ·simp[letsS,RSt.lets_rule]
    rw[e1,e2,e3,ht,List.length_append]
    exact hR'
  ·rw[hR'.leftOf,hR.leftOf]
   have:=s.toks_length
   simp only
   omega
 ·refine ⟨rfl,hb,.inr ⟨_,nv',lv,rv',ns,letsS 0 (L++R),rulesS 0 (L++R)++[n],hbad.behind (p:=⟨0,0,0⟩) h.go |> fun x=>(by rw[← h.eq]at x;exact x), ?_, ?_,hR'⟩, ?_⟩
  ·omega
  ·simp only[List.length_append,List.length_cons,List.length_nil];omega
  ·rw[hR'.leftOf,hR.leftOf]
   simp only[if_true,Bool.false_eq_true,if_false]
   omega
theorem pol_rule_bad{B:Nat}{tv:Value}{T l:List RTok}{wr:World}(hr:PolB1 B tv T l wr) :
  Calls Tryz.prog 69 #[.pointer (some ⟨B,0,none⟩)] wr fun e w'=>e=.returned (.tuple #[])∧Below B wr w'∧PolR B tv T l w':=by
 obtain ⟨j,nv,lv,rv,ns,ls,rs,h1,h2,h3,hR⟩:=hr
 refine (readRule_failed hR rfl h3).mono ?_
 rintro e w' ⟨rfl,hb,rv',hR'⟩
 exact ⟨rfl,hb,.inr ⟨j,nv,lv,rv',ns,ls,_,h1,h2,by simp;omega,hR'⟩⟩
theorem pol_first{B:Nat}{tv:Value}{T l:List RTok}{wr:World}(hW:Whole T l)(h:(∃ L rest,(∀ a r,rest=a :: r→a.text≠cLet)∧PolOk B tv T l wr L [] rest ⟨0,0,0⟩)∨PolB1 B tv T l wr) :
  Calls Tryz.prog 69 #[.pointer (some ⟨B,0,none⟩)] wr fun e w'=>e=.returned (.tuple #[])∧Below B wr w'∧PolR B tv T l w':=by
 rcases h with ⟨L,rest,h1,h2⟩ | h
 ·refine (pol_rule hW h2 (fun _=>h1) (fun _=>by decide)).mono ?_
  rintro e w' ⟨rfl,hb,hp,_⟩
  exact ⟨rfl,hb,hp⟩
 ·exact pol_rule_bad h
theorem PolR.cell{B:Nat}{tv:Value}{T l:List RTok}{wr:World}(h:PolR B tv T l wr):B<wr.heap.size∧((wr.cell? ⟨B,3,none⟩=some (.bool false)∧∃ L R rest q,R≠[]∧PolOk B tv T l wr L R rest q)∨(wr.cell? ⟨B,3,none⟩=some (.bool true)∧PolBad B tv T l wr)):=by
 rcases h with ⟨L,R,rest,q,hn,h⟩ | h
 ·obtain ⟨nv,lv,rv,hR⟩:=h.rd
  exact ⟨hR.blk.lt,.inl ⟨hR.blk.cell 3,L,R,rest,q,hn,h⟩⟩
 ·obtain ⟨j,nv,lv,rv,ns,ls,rs,h1,h2,h3,hR⟩:=h.rd
  exact ⟨hR.blk.lt,.inr ⟨hR.blk.cell 3,h⟩⟩
theorem pol_sees_end{B:Nat}{tv:Value}{T l:List RTok}{wr:World}(hW:Whole T l){L R:List RSt}{rest:List RTok}{q:Spot}(h:PolOk B tv T l wr L R rest q) :
  Calls Tryz.prog 67 #[.pointer (some ⟨B,0,none⟩),.int .i64 0] wr fun e w'=>e=.returned (.bool (decide (rest=[])))∧Below wr.heap.size wr w'∧PolOk B tv T l w' L R rest q∧leftOf w' B=leftOf wr B:=by
 obtain ⟨nv,lv,rv,hR⟩:=h.rd
 have hl:LeftR ⟨tv,T,(toksL (L++R)).length,0,false,nv,lv,rv,nodesS 0 (L++R),letsS 0 (L++R),rulesS 0 (L++R)⟩ rest:=hW.left h.eq _ rfl rfl
 rcases rest with _ | ⟨a,r⟩
 ·obtain ⟨E,hE⟩:=hl.nil
  refine (sees_at hR hE 0).mono ?_
  rintro e w' ⟨rfl,hb⟩
  refine ⟨?_,hb,h.below hb,by rw[hR.leftOf,(hR.below hb).leftOf]⟩
  rw[show (⟨[],E⟩:RTok).text=[] from rfl,kindP_nil];rfl
 ·refine (sees_at hR hl.head 0).mono ?_
  rintro e w' ⟨rfl,hb⟩
  refine ⟨?_,hb,h.below hb,by rw[hR.leftOf,(hR.below hb).leftOf]⟩
  have:=(kindOf _ (hl.may a (by simp))).pos
  refine ret_bool ?_
  simpa using this
set_option maxHeartbeats 1000000 in
set_option maxRecDepth 100000 in
theorem readPolicy_any{B:Nat}{tv:Value}{T l:List RTok}{w:World}(hW:Whole T l)(h:RdAt w B (RS.zero tv T)) :
  Calls Tryz.prog 42 #[.pointer (some ⟨B,0,none⟩)] w fun e w'=>e=.returned (.tuple #[])∧Below B w w'∧((∃ L R q,R≠[]∧PolOk B tv T l w' L R [] q)∨PolBad B tv T l w'):=by
 have HWh:=hideP hW
 have hB:=h.blk.lt
 have H0:Hid (PolL B tv T l w):=.inl ⟨[],l,fun x hx=>(by cases hx),fun x hx=>(by cases hx),fun x hx=>(by cases hx),rfl,rfl,⟨.inl rfl,rfl⟩,fun _=>rfl,fun hx=>absurd rfl hx,_,_,_,h⟩
 clear hW h
 go_enter Tryz.func42,Tryz.ntmps42
 go_wp2_with fail
 go_loopw [] (fun wr=>Below B w wr∧PolL B tv T l wr) (fun wr=>leftOf wr B)
 case atStart=>exact ⟨Below.refl _ _,H0.out⟩
 case round =>
  obtain ⟨hbw,hpl⟩:=hrel
  have HPL:=hideP hpl
  have HBW:=hideP hbw
  clear H0 hpl hbw
  go_wp2_with (go_at_call 67;refine (pol_sees_let HWh.out HPL.out).mono ?_;rintro e w1 ⟨b,rfl,hb1,hlo,hyes,hno⟩;have HLO:=hideP hlo;have HYES:=hideP hyes;have HNO:=hideP hno;have hBr:B≤wr.heap.size:=by { rcases HPL.out with ⟨L,rest,h⟩ | ⟨j,nv,lv,rv,ns,ls,rs,h1,h2,h3,hR⟩;exact Nat.le_of_lt h.lt;exact Nat.le_of_lt hR.blk.lt };replace HBW:=hideP (HBW.out.trans (hb1.mono hBr));clear hb1 hlo hyes hno;cases b)
  ·have hc:=HNO.out trivial
   have HC:=hideP hc
   clear hc HYES HNO
   go_wp2_with (go_at_call 69;refine (pol_first HWh.out HC.out).mono ?_;rintro e w2 ⟨rfl,hb2,hpr⟩;have HPR:=hideP hpr;have HBW2:=hideP (HBW.out.trans hb2);clear hpr hb2)
   clear HPL HLO HC HBW
   go_loopw [] (fun wr=>Below B w wr∧PolR B tv T l wr) (fun wr=>leftOf wr B)
   case atStart=>exact ⟨HBW2.out,HPR.out⟩
   case round =>
    obtain ⟨hbw,hpr⟩:=hrel
    clear HBW2 HPR
    have HBW:=hideP hbw
    obtain ⟨hBr,⟨c3,L,R,rest,q,hne,hok⟩ | ⟨c3,hbad⟩⟩:=hpr.cell
    ·have HOK:=hideP hok
     have HNE:=hideP hne
     clear hpr hok hne hbw
     by_cases hr:rest=[]
     ·subst hr
      go_wp2_with (go_at_call 67;refine (pol_sees_end HWh.out HOK.out).mono ?_;rintro e w3 ⟨rfl,hb3,hok3,_⟩;have HOK3:=hideP hok3;replace HBW:=hideP (HBW.out.trans (hb3.mono (Nat.le_of_lt hBr)));clear hok3 hb3)
      refine bodyPost_end (results_none rfl _ _ _) rfl ⟨rfl,HBW.out,.inl ⟨L,R,q,HNE.out,HOK3.out⟩⟩
     ·have hd:decide (rest=[])=false:=by simpa using hr
      have HRE:=hideP hr
      have HDE:=hideP hd
      clear hr hd
      go_wp2_with (first | (go_at_call 67;refine (pol_sees_end HWh.out HOK.out).mono ?_;rintro e w3 ⟨rfl,hb3,hok3,hlo3⟩;rw[HDE.out];have HOK3:=hideP hok3;have HLO3:=hideP hlo3;replace HBW:=hideP (HBW.out.trans (hb3.mono (Nat.le_of_lt hBr)));clear hok3 hb3 hlo3) | (go_at_call 69;refine (pol_rule HWh.out HOK3.out (fun e=>absurd e (by rw[HOK3.out.q6 HNE.out];decide)) (fun e=>absurd e HRE.out)).mono ?_;rintro e w4 ⟨rfl,hb4,hpr4,hlo4⟩;have HPR4:=hideP hpr4;have HLO4:=hideP hlo4;replace HBW:=hideP (HBW.out.trans hb4);clear hpr4 hb4 hlo4))
      go_roundw
      case rel=>exact ⟨HBW.out,HPR4.out⟩
      case measure =>
       have g1:=HLO4.out
       have g2:=HLO3.out
       omega
    ·have HBAD:=hideP hbad
     clear hpr hbad hbw
     go_wp2
     refine bodyPost_end (results_none rfl _ _ _) rfl ⟨rfl,HBW.out,.inr HBAD.out⟩
  ·obtain ⟨L,kw,r,hkw,hok⟩:=HYES.out trivial
   have HKW:=hideP hkw
   have HOK:=hideP hok
   clear HYES HNO hkw hok
   go_wp2_with (go_at_call 68;refine (pol_let HWh.out HKW.out HOK.out).mono ?_;rintro e w2 ⟨rfl,hb2,hpl2,hlo2⟩;have HPL2:=hideP hpl2;have HLO2:=hideP hlo2;replace HBW:=hideP (HBW.out.trans hb2);clear hb2 hpl2 hlo2)
   go_roundw
   case rel=>exact ⟨HBW.out,HPL2.out⟩
   case measure =>
    have g1:=HLO2.out
    have g2:=HLO.out
    omega
end Go.Proofs.YtpcjadaeolkngaaGreatDoor
