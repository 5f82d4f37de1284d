/-
  The program's reader: readRule in a state that has failed; a policy.
-/
import Derived.Test.YtgfnkeiigjholaaGreatDoorQ29
set_option linter.unusedVariables false
set_option linter.unusedSimpArgs false
namespace Go.Proofs.YtgfnkeiigjholaaGreatDoor
open Go.RowKit Go.Deep
def zeroR:PRule:=⟨false,noExp,false,noExp⟩
set_option maxHeartbeats 2000000 in
set_option maxRecDepth 100000 in
theorem readRule_failed{B:Nat}{S:RS}{w:World}(h:RdAt w B S)(hf:S.f=true)(hrs:S.rs.length≤401) :
  Calls Tryz.prog 93 #[.pointer (some ⟨B,0,none⟩)] w fun e w'=>e=.returned (.tuple #[])∧Below B w w'∧∃ rv,RdAt w' B { S with rv:=rv,rs:=S.rs++[zeroR] }:=by
 obtain ⟨i0,hi,hz0,hz1,hz2⟩:=info_parts Tryz.infoRule
 obtain ⟨tk,htk⟩:=h.cur
 have HTK:=hideP htk
 have HF:=hideP hf
 have hB:=h.blk.lt
 have hS:({ S with f:=true }:RS)=S:=by rw[← hf]
 have HS:=hideP hS
 have HR:=hideP (h.alloc (.cells #[.bool false,.int .i64 0,.int .i64 0,.int .i64 0,.bool false,.int .i64 0,.int .i64 0,.int .i64 0] 116))
 have HK:=hideP (KeepN.of (B:=B) (new_below w (.cells #[.bool false,.int .i64 0,.int .i64 0,.int .i64 0,.bool false,.int .i64 0,.int .i64 0,.int .i64 0] 116)))
 have HBK:=hideP (Blk.new w #[.bool false,.int .i64 0,.int .i64 0,.int .i64 0,.bool false,.int .i64 0,.int .i64 0,.int .i64 0] 116)
 have hneB:w.heap.size≠B:=by omega
 clear h hf htk hS
 go_enter Tryz.func93,Tryz.ntmps93
 go_wp2_with (go_at_call_of 91 (Value.int IntKind.i64 4);refine (sees_at HR.out HTK.out 4).mono ?_;rintro e w1 ⟨rfl,hb1⟩;rw[HF.out];simp only[Bool.not_true,Bool.false_and];replace HR:=hideP (HR.out.below hb1);replace HBK:=hideP (HBK.out.below hb1 HBK.out.lt);replace HK:=hideP (HK.out.trans (KeepN.of hb1));clear hb1)
 go_wp2_with (go_at_call_of 91 (Value.int IntKind.i64 5);refine (sees_at HR.out HTK.out 5).mono ?_;rintro e w2 ⟨rfl,hb2⟩;rw[HF.out];simp only[Bool.not_true,Bool.false_and];replace HR:=hideP (HR.out.below hb2);replace HBK:=hideP (HBK.out.below hb2 HBK.out.lt);replace HK:=hideP (HK.out.trans (KeepN.of hb2));clear hb2)
 go_wp2_with (go_at_call_of 136 (Value.int IntKind.i64 6);refine (take_not HR.out HTK.out 6 (.inl HF.out)).mono ?_;rintro e w3 ⟨rfl,hR3,hk3⟩;rw[HS.out]at hR3;replace HR:=hideP hR3;replace HBK:=hideP (HBK.out.keepN hk3 hneB (by decide));replace HK:=hideP (HK.out.trans hk3);clear hR3 hk3)
 go_wp2_with (go_at_call_of 136 (Value.int IntKind.i64 22);refine (take_not HR.out HTK.out 22 (.inl HF.out)).mono ?_;rintro e w6 ⟨rfl,hR3,hk3⟩;rw[HS.out]at hR3;replace HR:=hideP hR3;replace HBK:=hideP (HBK.out.keepN hk3 hneB (by decide));replace HK:=hideP (HK.out.trans hk3);clear hR3 hk3)
 have hB6:=HR.out.blk.lt
 have c6:=HR.out.blk.cell 6
 have f6:=HR.out.blk.free 6
 have t0:=HBK.out.cell 0
 have t1:=HBK.out.cell 1
 have t2:=HBK.out.cell 2
 have t3:=HBK.out.cell 3
 have t4:=HBK.out.cell 4
 have t5:=HBK.out.cell 5
 have t6:=HBK.out.cell 6
 have t7:=HBK.out.cell 7
 simp only[List.getElem?_toArray,List.getElem?_cons_zero,List.getElem?_cons_succ]at c6 t0 t1 t2 t3 t4 t5 t6 t7
 have hBKl:=HBK.out.lt
 have hneB2:S.rv.ownBlock≠some B:=by intro e;have:=(HR.out.orl.lt B e).1;omega
 have HW:=hideP ((HR.out.alloc (.cells #[.bool false,.int .i64 0,.int .i64 0,.int .i64 0,.bool false,.int .i64 0,.int .i64 0,.int .i64 0] 116)).drew)
 have hone:∀ u∈[Value.bool false,.int .i64 0,.int .i64 0,.int .i64 0,.bool false,.int .i64 0,.int .i64 0,.int .i64 0],u.oneCell'=true:=one_rule zeroR
 have h63:S.rs.length+1≤maxLen:=by unfold maxLen;omega
 have hnb:=Blk.new w6 #[.bool false,.int .i64 0,.int .i64 0,.int .i64 0,.bool false,.int .i64 0,.int .i64 0,.int .i64 0] 116
 have hnews:∀ j u,[Value.bool false,.int .i64 0,.int .i64 0,.int .i64 0,.bool false,.int .i64 0,.int .i64 0,.int .i64 0][j]?=some u→((w6.alloc (.cells #[.bool false,.int .i64 0,.int .i64 0,.int .i64 0,.bool false,.int .i64 0,.int .i64 0,.int .i64 0] 116)).drew).cell? ((⟨w6.heap.size,0,none⟩:Addr).add j)=some u:=World.news_of_block (cs:=#[.bool false,.int .i64 0,.int .i64 0,.int .i64 0,.bool false,.int .i64 0,.int .i64 0,.int .i64 0]) (t:=116) (fr:=(0,0)) hnb
 go_region_law ((refine step_append_lies _ (by rfl) _ _ _ (by rfl) (B+1) 116 i0 _ 8 64 Tryz.underlying62 hi hz0 hz1 hz2 rfl (by omega) S.rv S.rs.length (cellsU S.rs) (by rfl) HW.out.orl ⟨w6.heap.size,0,none⟩ 1 1 [.bool false,.int .i64 0,.int .i64 0,.int .i64 0,.bool false,.int .i64 0,.int .i64 0,.int .i64 0] (by rfl) (by rfl) hnews hone (by omega) h63 (by omega) (by simp <;> omega) (w6.heap.size+1) (by simp) ?_;intro gg cap w7 hown7 hgrow hat hlt7;have f7:w7.frozen? ⟨B,6,none⟩=false:=(hgrow.frozen_far _ (by simp <;> omega) (Ne.symm hneB2)).trans (HW.out.blk.free 6);have c7:w7.cell? ⟨B,6,none⟩=some S.rv:=(hgrow.cell_far _ (by simp <;> omega) (Ne.symm hneB2)).trans (HW.out.blk.cell 6)))
 all_goals
  have R:=rd_rule (n:=zeroR) HW.out hown7 hgrow
  have HB7:=hideP ((HK.out.below (by omega)).trans ((below_drewN ((Below.refl B w6).alloc (Nat.le_of_lt hB6) _) 1).trans R.2))
  have HRR:=hideP R.1
  clear R hnews hnb hone hown7 hgrow
  go_wp2
  exact bodyPost_end (results_none rfl _ _ _) rfl ⟨rfl,HB7.out,_,HRR.out⟩
def RS.zero(tv:Value)(T:List RTok):RS:=⟨tv,T,0,0,false,.slice none 0 0,.slice none 0 0,.slice none 0 0,[],[],[]⟩
structure PolOk(B:Nat)(tv:Value)(T l:List RTok)(wr:World)(L R:List RSt)(rest:List RTok)(q:Spot):Prop where
 lets:isLetL' L
 rules:isRuleL' R
 wf:∀ s∈L++R,s.wf
 eq:l=toksL (L++R)++rest
 go:goS ⟨0,0,0⟩ (toksL (L++R))=.ok q
 at':RuleAt q
 q0:R=[]→q=⟨0,0,0⟩
 q6:R≠[]→q.next=6
 rd:∃ nv lv rv,RdAt wr B ⟨tv,T,(toksL (L++R)).length,0,false,nv,lv,rv,nodesS 0 (L++R),letsS 0 (L++R),rulesS 0 (L++R)⟩
structure PolBad(B:Nat)(tv:Value)(T l:List RTok)(wr:World):Prop where
 rd:∃ j nv lv rv ns ls rs,BadS ⟨0,0,0⟩ l j∧ls.length≤402∧rs.length≤402∧RdAt wr B ⟨tv,T,j,0,true,nv,lv,rv,ns,ls,rs⟩
theorem PolOk.below{B:Nat}{tv:Value}{T l:List RTok}{wr w':World}{L R:List RSt}{rest:List RTok}{q:Spot}(h:PolOk B tv T l wr L R rest q)(hb:Below wr.heap.size wr w'):PolOk B tv T l w' L R rest q:=by
 obtain ⟨nv,lv,rv,hR⟩:=h.rd
 exact ⟨h.lets,h.rules,h.wf,h.eq,h.go,h.at',h.q0,h.q6,nv,lv,rv,hR.below hb⟩
theorem letsS_le:∀ (L:List RSt) (b:Nat),(letsS b L).length≤L.length
 | [],_=>Nat.le_refl _
 | s :: r,b=>by
  rw[letsS,List.length_append,List.length_cons]
  have:=letsS_le r (b+s.num)
  have h1:(s.lets b).length≤1:=by
   rcases s.cases with ⟨kw,name,eq,e,semi,rfl⟩ | ⟨wh,act,sc,semi,rfl⟩
   ·exact Nat.le_refl _
   ·exact Nat.zero_le _
  omega
theorem rulesS_le:∀ (L:List RSt) (b:Nat),(rulesS b L).length≤L.length
 | [],_=>Nat.le_refl _
 | s :: r,b=>by
  rw[rulesS,List.length_append,List.length_cons]
  have:=rulesS_le r (b+s.num)
  have h1:(s.rules b).length≤1:=by
   rcases s.cases with ⟨kw,name,eq,e,semi,rfl⟩ | ⟨wh,act,sc,semi,rfl⟩
   ·exact Nat.zero_le _
   ·exact Nat.le_refl _
  omega
theorem toksL_le(L:List RSt):L.length≤(toksL L).length:=by
 induction L with
 | nil=>exact Nat.le_refl _
 | cons s r ih=>rw[toksL_cons,List.length_append,List.length_cons,RSt.toks_length];omega
end Go.Proofs.YtgfnkeiigjholaaGreatDoor
