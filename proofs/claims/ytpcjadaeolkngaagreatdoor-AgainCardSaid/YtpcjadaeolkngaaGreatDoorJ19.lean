/-
  Compile: the facts of single tokens and of operators.
-/
import Derived.Test.YtpcjadaeolkngaaGreatDoorJ18
import Derived.Test.YtpcjadaeolkngaaGreatDoorJ16
import Derived.BigQuiet
import Derived.Deep.RegionWith
set_option linter.unusedVariables false
set_option linter.unusedSimpArgs false
namespace Go.Proofs.YtpcjadaeolkngaaGreatDoor
open Go.RowKit Go.Deep
def FactIn(f:Fact):Prop:=∀ v,f=some v→In64 v
theorem FactIn.none:FactIn none:=by intro v h;cases h
theorem oneF_in{c:Nat}{f:Fact}:FactIn (oneF c f):=by
 intro v h
 cases f with
 | none=>cases h
 | some a =>
  simp only[oneF]at h
  split at h
  ·cases h
   unfold oneN
   split
   ·exact neg_in _
   ·show In64 (bitN _);unfold bitN;split <;> decide
  ·cases h
theorem twoF_in{c:Nat}{f g:Fact}(hf:FactIn f)(hg:FactIn g):FactIn (twoF c f g):=by
 intro v h
 cases f with
 | none=>cases h
 | some a =>
  cases g with
  | none=>cases h
  | some b =>
   simp only[twoF]at h
   split at h
   ·cases h
    exact join_in _ _ _ (hf a rfl) (hg b rfl)
   ·cases h
theorem choiceF_in{k:Nat}{f g:Fact}(hf:FactIn f)(hg:FactIn g):FactIn (choiceF k f g):=by
 intro v h
 cases f with
 | none=>cases h
 | some a =>
  simp only[choiceF]at h
  split at h
  ·cases h;exact hf _ rfl
  ·exact hg v h
theorem join_flt0{c:Nat}{a b:Int}(h:(joinN c a b).2≠0):(joinN c a b).1=0:=by
 have e2:∀ v,(exact64 v).2≠0→(exact64 v).1=0:=fun v=>by unfold exact64;split <;> simp
 revert h
 unfold joinN
 (repeat' split) <;> first | exact e2 _ | simp
theorem one_flt0{c:Nat}{a:Int}(h:(oneN c a).2≠0):(oneN c a).1=0:=by
 revert h
 unfold oneN negN exact64
 (repeat' split) <;> simp
set_option maxHeartbeats 1000000 in
theorem factOfOne_any(c:Nat)(hc:c=2∨c=3)(f:Fact)(hf:FactIn f)(w:World) :
  Calls Tryz.prog 111 #[.int .i64 c,factA f] w fun e w'=>e=.returned (factA (oneF c f))∧Below w.heap.size w w':=by
 unfold factA
 cases f with
 | none =>
  simp only[Option.isSome_none,Option.getD_none,oneF]
  go_enter Tryz.func111,Tryz.ntmps111
  go_wp2
  refine bodyPost_ret (v:=.agg #[.bool false,.int .i64 0]) (by simp[results,Tryz.results111,go_sem]) rfl ⟨rfl,two_below w _ _⟩
 | some a =>
  simp only[Option.isSome_some,Option.getD_some]
  have ha:=hf a rfl
  have HO:Hid (oneF c (some a)=if (oneN c a).2=0 then some (oneN c a).1 else none):=rfl
  have HF:Hid ((oneN c a).2≠0→(oneN c a).1=0):=one_flt0
  obtain ⟨u,hu⟩:∃ u,oneN c a=u:=⟨_,rfl⟩
  obtain ⟨v,q⟩:=u
  have HU:=hideP hu
  clear hu hf
  by_cases hq:q=0
  ·subst hq
   have HE:Hid (oneF c (some a)=some v):=by rw[Hid,HO.out,HU.out];rfl
   clear HO
   go_enter Tryz.func111,Tryz.ntmps111
   go_wp2_with (go_at_call 119;refine (One_any c hc a ha _).mono ?_;rintro e' w4 ⟨rfl,rfl⟩;rw[HU.out];dsimp only)
   refine bodyPost_ret (v:=.agg #[.bool true,.int .i64 v]) (by simp[results,Tryz.results111,go_sem]) rfl ⟨by rw[HE.out];rfl,two_below w _ _⟩
  ·have HE:Hid (oneF c (some a)=none):=by rw[Hid,HO.out,HU.out];exact if_neg hq
   have hv:v=0:=by have:=HF.out;rw[HU.out]at this;exact this hq
   subst hv
   have e0:((q:Int)==0)=false:=by simp;omega
   clear HO
   go_enter Tryz.func111,Tryz.ntmps111
   go_wp2_with (go_at_call 119;refine (One_any c hc a ha _).mono ?_;rintro e' w4 ⟨rfl,rfl⟩;rw[HU.out];dsimp only)
   refine bodyPost_ret (v:=.agg #[.bool false,.int .i64 0]) (by simp[results,Tryz.results111,go_sem]) rfl ⟨by rw[HE.out];rfl,two_below w _ _⟩
set_option maxHeartbeats 1000000 in
theorem factOfTwo_any(c:Nat)(hc:4≤c∧c≤12)(f g:Fact)(hf:FactIn f)(hg:FactIn g)(w:World) :
  Calls Tryz.prog 115 #[.int .i64 c,factA f,factA g] w fun e w'=>e=.returned (factA (twoF c f g))∧Below w.heap.size w w':=by
 unfold factA
 cases f with
 | none =>
  have HE:Hid (twoF c none g=none):=rfl
  simp only[Option.isSome_none,Option.getD_none]
  generalize g.isSome=gs
  generalize g.getD 0=gv
  go_enter Tryz.func115,Tryz.ntmps115
  go_wp2
  refine bodyPost_ret (v:=.agg #[.bool false,.int .i64 0]) (by simp[results,Tryz.results115,go_sem]) rfl ⟨by rw[HE.out];rfl,three_below w _ _ _⟩
 | some a =>
  cases g with
  | none =>
   simp only[Option.isSome_none,Option.getD_none,Option.isSome_some,Option.getD_some,twoF]
   go_enter Tryz.func115,Tryz.ntmps115
   go_wp2
   refine bodyPost_ret (v:=.agg #[.bool false,.int .i64 0]) (by simp[results,Tryz.results115,go_sem]) rfl ⟨rfl,three_below w _ _ _⟩
  | some b =>
   simp only[Option.isSome_some,Option.getD_some]
   have ha:=hf a rfl
   have hb:=hg b rfl
   have HO:Hid (twoF c (some a) (some b)=if (joinN c a b).2=0 then some (joinN c a b).1 else none):=rfl
   have HF:Hid ((joinN c a b).2≠0→(joinN c a b).1=0):=join_flt0
   obtain ⟨u,hu⟩:∃ u,joinN c a b=u:=⟨_,rfl⟩
   obtain ⟨v,q⟩:=u
   have HU:=hideP hu
   clear hu hf hg
   by_cases hq:q=0
   ·subst hq
    have HE:Hid (twoF c (some a) (some b)=some v):=by rw[Hid,HO.out,HU.out];rfl
    clear HO
    go_enter Tryz.func115,Tryz.ntmps115
    go_wp2_with (go_at_call 121;refine (Two_any c hc a b ha hb _).mono ?_;rintro e' w4 ⟨rfl,rfl⟩;rw[HU.out];dsimp only)
    refine bodyPost_ret (v:=.agg #[.bool true,.int .i64 v]) (by simp[results,Tryz.results115,go_sem]) rfl ⟨by rw[HE.out];rfl,three_below w _ _ _⟩
   ·have HE:Hid (twoF c (some a) (some b)=none):=by rw[Hid,HO.out,HU.out];exact if_neg hq
    have hv:v=0:=by have:=HF.out;rw[HU.out]at this;exact this hq
    subst hv
    have e0:((q:Int)==0)=false:=by simp;omega
    clear HO
    go_enter Tryz.func115,Tryz.ntmps115
    go_wp2_with (go_at_call 121;refine (Two_any c hc a b ha hb _).mono ?_;rintro e' w4 ⟨rfl,rfl⟩;rw[HU.out];dsimp only)
    refine bodyPost_ret (v:=.agg #[.bool false,.int .i64 0]) (by simp[results,Tryz.results115,go_sem]) rfl ⟨by rw[HE.out];rfl,three_below w _ _ _⟩
theorem sets2{B rb:Nat}{w w1:World}(h:Below B w w1)(hB:B≤rb)(a b:Value):Below B w ((w1.setCell ⟨rb,0,none⟩ a).setCell ⟨rb,1,none⟩ b):=(h.setCell (p:=⟨rb,0,none⟩) hB a).setCell (p:=⟨rb,1,none⟩) hB b
set_option maxHeartbeats 2000000 in
theorem factOfChoice_any(k:Nat)(f g:Fact)(w:World) :
  Calls Tryz.prog 114 #[.int .i64 k,factA f,factA g] w fun e w'=>e=.returned (factA (choiceF k f g))∧Below w.heap.size w w':=by
 unfold factA
 cases f with
 | none =>
  have HE:Hid (choiceF k none g=none):=rfl
  simp only[Option.isSome_none,Option.getD_none]
  generalize g.isSome=gs
  generalize g.getD 0=gv
  go_enter Tryz.func114,Tryz.ntmps114
  go_wp2
  go_quiet (fail)
  go_wp2
  refine bodyPost_ret (v:=.agg #[.bool false,.int .i64 0]) (by simp[results,Tryz.results114,go_sem]) rfl ⟨by rw[HE.out];rfl,sets2 (below_drewN (three_below w _ _ _) _) (by omega) _ _⟩
 | some a =>
  simp only[Option.isSome_some,Option.getD_some]
  have HO:Hid (choiceF k (some a) g=if a=decK k then some a else g):=rfl
  obtain ⟨dk,hdk⟩:∃ dk,decK k=dk:=⟨_,rfl⟩
  have HD:=hideP hdk
  rw[hdk]at HO
  have HX:Hid (∀ wx:World,Calls Tryz.prog 129 #[.int .i64 k] wx fun e w'=>e=.returned (.int .i64 dk)∧w'=wx):=by intro wx;rw[← hdk];exact decides_any k wx
  clear hdk
  by_cases hq:a=dk
  ·have HE:Hid (choiceF k (some a) g=some a):=by rw[Hid,HO.out];exact if_pos hq
   clear HO
   have HQ:=hideP hq
   have e0:(a==dk)=true:=by simpa using hq
   clear hq
   generalize g.isSome=gs
   generalize g.getD 0=gv
   go_enter Tryz.func114,Tryz.ntmps114
   go_wp2
   go_quiet ((go_at_call 129;exact Calls.quiet_of_same (HX.out _)))
   go_wp2
   all_goals refine bodyPost_ret (v:=.agg #[.bool true,.int .i64 a]) (by simp[results,Tryz.results114,go_sem]) rfl ⟨by rw[HE.out];rfl,sets2 (below_drewN (three_below w _ _ _) _) (by omega) _ _⟩
  ·have HE:Hid (choiceF k (some a) g=g):=by rw[Hid,HO.out];exact if_neg hq
   clear HO
   have e0:(a==dk)=false:=by simpa using hq
   have HQ:=hideP hq
   clear hq
   rw[HE.out]
   generalize g.isSome=gs
   generalize g.getD 0=gv
   go_enter Tryz.func114,Tryz.ntmps114
   go_wp2
   go_quiet ((go_at_call 129;exact Calls.quiet_of_same (HX.out _)))
   go_wp2
   all_goals refine bodyPost_ret (v:=.agg #[.bool gs,.int .i64 gv]) (by simp[results,Tryz.results114,go_sem]) rfl ⟨rfl,sets2 (below_drewN (three_below w _ _ _) _) (by omega) _ _⟩
def NumOk(t:RTok):Prop:=kindP t.text=1→t.text.length≤18∧∀ c∈t.text,isDig c=true
theorem singleF_in{t:RTok}(h:NumOk t):FactIn (singleF t):=by
 intro v hv
 unfold singleF at hv
 split at hv
 ·rename_i h1
  cases hv
  obtain ⟨h2,h3⟩:=h h1
  have h4:=numT_bound t.text h3
  have:(10:Int) ^ t.text.length≤1000000000000000000:=by
   have:(10:Nat) ^ t.text.length≤10 ^ 18:=Nat.pow_le_pow_right (by omega) h2
   have h2:((10 ^ t.text.length:Nat):Int)≤((10 ^ 18:Nat):Int):=Int.ofNat_le.2 this
   simpa using h2
  unfold In64
  omega
 ·split at hv
  ·cases hv;decide
  ·split at hv
   ·cases hv;decide
   ·split at hv
    ·cases hv;unfold In64;omega
    ·cases hv
set_option maxHeartbeats 4000000 in
set_option maxRecDepth 100000 in
theorem factOfSingle_any(t:RTok)(h:NumOk t)(w:World) :
  Calls Tryz.prog 117 #[tokV t] w fun e w'=>e=.returned (factA (singleF t))∧Below w.heap.size w w':=by
 unfold tokV
 by_cases h1:kindP t.text=1
 ·have HE:Hid (singleF t=some (numT t.text)):=by rw[Hid,singleF,if_pos h1]
  have hn:=h h1
  have hz:(bsOf t.text).size≤18:=by rw[bsOf_size];exact hn.1
  have HD:Hid (∀ c∈(bsOf t.text).toList,isDig c=true):=by rw[Hid,bsOf_toList];exact hn.2
  have HT:Hid ((bsOf t.text).toList=t.text):=bsOf_toList _
  rw[h1]
  clear h hn h1
  generalize bsOf t.text=d at *
  go_enter Tryz.func117,Tryz.ntmps117
  go_wp2_with (go_at_call 130;refine (numberOf_any d _ hz HD.out).mono ?_;rintro e' w4 ⟨rfl,rfl⟩)
  all_goals refine bodyPost_ret (v:=.agg #[.bool true,.int .i64 (numT d.toList)]) (by simp[results,Tryz.results117,go_sem]) rfl ⟨by rw[HE.out,HT.out];rfl,two_below w _ _⟩
 ·clear h
  have hs:singleF t=if kindP t.text=10 then some 1 else if kindP t.text=11 then some 0 else if kindP t.text=12∨kindP t.text=13∨kindP t.text=14 then some ((kindP t.text:Int)-12) else none:=by rw[singleF,if_neg h1]
  rw[hs]
  clear hs
  generalize kindP t.text=k at *
  have hd:(k=10∨k=11∨k=12∨k=13∨k=14)∨(k≠10∧k≠11∧k≠12∧k≠13∧k≠14):=by omega
  rcases hd with (rfl | rfl | rfl | rfl | rfl) | ⟨h2,h3,h4,h5,h6⟩
  ·go_enter Tryz.func117,Tryz.ntmps117
   go_wp2
   refine bodyPost_ret (v:=.agg #[.bool true,.int .i64 1]) (by simp[results,Tryz.results117,go_sem]) rfl ⟨rfl,two_below w _ _⟩
  ·go_enter Tryz.func117,Tryz.ntmps117
   go_wp2
   refine bodyPost_ret (v:=.agg #[.bool true,.int .i64 0]) (by simp[results,Tryz.results117,go_sem]) rfl ⟨rfl,two_below w _ _⟩
  ·go_enter Tryz.func117,Tryz.ntmps117
   go_wp2
   refine bodyPost_ret (v:=.agg #[.bool true,.int .i64 0]) (by simp[results,Tryz.results117,go_sem]) rfl ⟨rfl,two_below w _ _⟩
  ·go_enter Tryz.func117,Tryz.ntmps117
   go_wp2
   refine bodyPost_ret (v:=.agg #[.bool true,.int .i64 1]) (by simp[results,Tryz.results117,go_sem]) rfl ⟨rfl,two_below w _ _⟩
  ·go_enter Tryz.func117,Tryz.ntmps117
   go_wp2
   refine bodyPost_ret (v:=.agg #[.bool true,.int .i64 2]) (by simp[results,Tryz.results117,go_sem]) rfl ⟨rfl,two_below w _ _⟩
  ·have e1:((k:Int)==1)=false:=by simp;omega
   have e2:((k:Int)==10)=false:=by simp;omega
   have e3:((k:Int)==11)=false:=by simp;omega
   have e4:((k:Int)==12)=false:=by simp;omega
   have e5:((k:Int)==13)=false:=by simp;omega
   have e6:((k:Int)==14)=false:=by simp;omega
   rw[if_neg h2,if_neg h3,if_neg (by omega)]
   go_enter Tryz.func117,Tryz.ntmps117
   go_wp2
   refine bodyPost_ret (v:=.agg #[.bool false,.int .i64 0]) (by simp[results,Tryz.results117,go_sem]) rfl ⟨rfl,two_below w _ _⟩
def nodC(n:PNode):Array Value:=#[.int .i64 (kindP n.tok.text),.int .i64 n.tok.at',.string (bsOf n.tok.text),.int .i64 n.ops,.int .i64 n.left,.int .i64 n.right]
structure NodeOk(n:PNode):Prop where
 one:n.ops=1→opK (kindP n.tok.text) n.ops=2∨opK (kindP n.tok.text) n.ops=3
 two:isChK (kindP n.tok.text)=false→n.ops=2→4≤opK (kindP n.tok.text) n.ops∧opK (kindP n.tok.text) n.ops≤12
 num:NumOk n.tok
 left:n.left≤1000
 right:n.right≤1000
 ops:n.ops≤2
structure FoSt(w wx:World)(n:PNode)(lv fv:Value)(ls:List PLet)(gs:List Fact):Prop where
 nd:Blk wx w.heap.size (nodC n) 154
 rs:Blk wx (w.heap.size+1) #[.bool false,.int .i64 0] 151
 l:Reads wx lv ls.length (cellsLt ls)
 f:Reads wx fv gs.length (cellsF gs)
 bl:Below w.heap.size w wx
theorem FoSt.below{w wx w':World}{n:PNode}{lv fv:Value}{ls:List PLet}{gs:List Fact}(h:FoSt w wx n lv fv ls gs)(hb:Below wx.heap.size wx w'):FoSt w w' n lv fv ls gs :=
 ⟨h.nd.below hb h.nd.lt,h.rs.below hb h.rs.lt,h.l.below hb,h.f.below hb,h.bl.trans (hb.mono h.bl.size)⟩
theorem FoSt.al{w wx:World}{n:PNode}{lv fv:Value}{ls:List PLet}{gs:List Fact}(h:FoSt w wx n lv fv ls gs)(o:Obj):FoSt w (wx.alloc o) n lv fv ls gs:=h.below (box3 wx o)
theorem FoSt.dr{w wx:World}{n:PNode}{lv fv:Value}{ls:List PLet}{gs:List Fact}(h:FoSt w wx n lv fv ls gs):FoSt w wx.drew n lv fv ls gs:=h.below (below_drewN (Below.refl _ wx) 1)
theorem FoSt.start{w:World}{n:PNode}{lv fv:Value}{ls:List PLet}{gs:List Fact}(hl:Reads w lv ls.length (cellsLt ls))(hf:Reads w fv gs.length (cellsF gs)) :
  FoSt w ((w.alloc (.cells (nodC n) 154)).alloc (.cells #[.bool false,.int .i64 0] 151)) n lv fv ls gs:=by
 have h1:=Blk.new w (nodC n) 154
 have h2:=Blk.new (w.alloc (.cells (nodC n) 154)) #[.bool false,.int .i64 0] 151
 have hb:=two_below w (.cells (nodC n) 154) (.cells #[.bool false,.int .i64 0] 151)
 refine ⟨h1.below (box3 _ _) h1.lt, ?_,hl.below hb,hf.below hb,hb⟩
 simpa using h2
set_option maxHeartbeats 4000000 in
set_option maxRecDepth 100000 in
theorem factOf_one(n:PNode)(hn:NodeOk n)(h1:n.ops=1)(lv fv:Value)(ls:List PLet)(gs:List Fact)(w:World)(hl:Reads w lv ls.length (cellsLt ls))(hf:Reads w fv gs.length (cellsF gs))(hgb:gs.length≤401)(hgi:∀ i,FactIn (atF gs i)) :
  Calls Tryz.prog 74 #[nodA n,lv,fv] w fun e w'=>e=.returned (factA (factN ls gs n))∧Below w.heap.size w w':=by
 have HM:=mH (FoSt.start (n:=n) hl hf)
 have HON:=mH (hn.one h1)
 have hnl:=hn.left
 have hnr:=hn.right
 have HE:Hid (factN ls gs n=oneF (opK (kindP n.tok.text) n.ops) (atF gs n.left)):=by rw[Hid,factN,if_pos h1]
 rw[HE.out]
 have e1:((n.ops:Int)==1)=true:=by simp;omega
 have HGI:=mH hgi
 have hfi:=hgi n.left
 obtain ⟨f1,hf1⟩:∃ f,atF gs n.left=f:=⟨_,rfl⟩
 obtain ⟨f2,hf2⟩:∃ f,atF gs n.right=f:=⟨_,rfl⟩
 rw[hf1]at hfi ⊢
 have HI1:=mH hfi
 have HF1:=mH hf1
 have HF2:=mH hf2
 clear hl hf hn hgi h1 hf1 hf2 hfi HE
 obtain ⟨op,hop⟩:∃ op,opK (kindP n.tok.text) n.ops=op:=⟨_,rfl⟩
 rw[hop]at HON ⊢
 have HOP:=mH hop
 clear hop
 unfold nodA
 go_enter Tryz.func74,Tryz.ntmps74
 go_upto_region 4 with (first
  | (go_at_call_of 110 (Value.int IntKind.i64 (n.left:Int));refine (factAt_any gs _ (n.left:Int) _ HM.out.f hgb ⟨by omega,by omega⟩).mono ?_;rintro e w1 ⟨rfl,hb1⟩;rw[HF1.out];unfold factA;replace HM:=mH (HM.out.below hb1);clear hb1;have n0:=HM.out.nd.cell 0;have n1:=HM.out.nd.cell 1;have n2:=HM.out.nd.cell 2;have n3:=HM.out.nd.cell 3;have n4:=HM.out.nd.cell 4;have n5:=HM.out.nd.cell 5;have r0:=HM.out.rs.cell 0;have r1:=HM.out.rs.cell 1;have fr0:=HM.out.rs.free 0;have fr1:=HM.out.rs.free 1;have hlw:=HM.out.bl.size;have hlr:=HM.out.rs.lt;have hln:=HM.out.nd.lt;simp only[nodC,List.getElem?_toArray,List.getElem?_cons_zero,List.getElem?_cons_succ]at n0 n1 n2 n3 n4 n5 r0 r1)
  | (go_at_call_of 110 (Value.int IntKind.i64 (n.right:Int));refine (factAt_any gs _ (n.right:Int) _ (HM.out.al _).f hgb ⟨by omega,by omega⟩).mono ?_;rintro e w2 ⟨rfl,hb2⟩;rw[HF2.out];unfold factA;clear n0 n1 n2 n3 n4 n5 r0 r1 fr0 fr1 hlw hlr hln;have H7:=mH ((Blk.new w1 #[.bool f1.isSome,.int .i64 (f1.getD 0)] 151).below hb2 (Blk.new w1 #[.bool f1.isSome,.int .i64 (f1.getD 0)] 151).lt);replace HM:=mH ((HM.out.al _).below hb2);clear hb2;have n0:=HM.out.nd.cell 0;have n1:=HM.out.nd.cell 1;have n2:=HM.out.nd.cell 2;have n3:=HM.out.nd.cell 3;have n4:=HM.out.nd.cell 4;have n5:=HM.out.nd.cell 5;have r0:=HM.out.rs.cell 0;have r1:=HM.out.rs.cell 1;have fr0:=HM.out.rs.free 0;have fr1:=HM.out.rs.free 1;have hlw:=HM.out.bl.size;have hlr:=HM.out.rs.lt;have hln:=HM.out.nd.lt;simp only[nodC,List.getElem?_toArray,List.getElem?_cons_zero,List.getElem?_cons_succ]at n0 n1 n2 n3 n4 n5 r0 r1;have t70:=H7.out.cell 0;have t71:=H7.out.cell 1;simp only[List.getElem?_toArray,List.getElem?_cons_zero,List.getElem?_cons_succ]at t70 t71;have hl7:=H7.out.lt))
 replace H7:=mH (H7.out.alloc (.cells #[.bool f2.isSome,.int .i64 (f2.getD 0)] 151))
 replace HM:=mH (HM.out.al (.cells #[.bool f2.isSome,.int .i64 (f2.getD 0)] 151))
 clear n0 n1 n2 n3 n4 n5 r0 r1 fr0 fr1 hlw hlr hln t70 t71 hl7
 generalize w2.alloc (.cells #[.bool f2.isSome,.int .i64 (f2.getD 0)] 151)=w3 at *
 have n0:=HM.out.nd.cell 0;have n1:=HM.out.nd.cell 1;have n2:=HM.out.nd.cell 2;have n3:=HM.out.nd.cell 3;have n4:=HM.out.nd.cell 4;have n5:=HM.out.nd.cell 5
 have t70:=H7.out.cell 0;have t71:=H7.out.cell 1
 simp only[nodC,List.getElem?_toArray,List.getElem?_cons_zero,List.getElem?_cons_succ]at n0 n1 n2 n3 n4 n5 t70 t71
 go_region_with (first
  | (go_at_call 112;refine (operationOf_any n _).mono ?_;rintro e w4 ⟨rfl,hb4⟩;rw[HOP.out];replace HM:=mH (HM.out.dr.below hb4);replace H7:=mH (H7.out.drew.below hb4 H7.out.lt);have u0:=H7.out.cell 0;have u1:=H7.out.cell 1;simp only[List.getElem?_toArray,List.getElem?_cons_zero,List.getElem?_cons_succ]at u0 u1;clear hb4)
  | (go_at_call 111;refine (factOfOne_any op HON.out f1 HI1.out _).mono ?_;rintro e w5 ⟨rfl,hb5⟩;unfold factA;replace HM:=mH (HM.out.below hb5);have r0:=HM.out.rs.cell 0;have r1:=HM.out.rs.cell 1;have fr0:=HM.out.rs.free 0;have fr1:=HM.out.rs.free 1;clear hb5))
 all_goals
  go_wp2
  have hfb:=(HM.out.rs.set 0 (.bool (oneF op f1).isSome)).set 1 (.int .i64 ((oneF op f1).getD 0))
  have g0:=hfb.cell 0
  have g1:=hfb.cell 1
  refine bodyPost_ret (v:=.agg #[.bool (oneF op f1).isSome,.int .i64 ((oneF op f1).getD 0)]) (by simp[results,Tryz.results74,go_sem,g0,g1]) rfl ⟨rfl,sets2 HM.out.bl (by omega) _ _⟩
set_option maxHeartbeats 4000000 in
set_option maxRecDepth 100000 in
theorem factOf_choice(n:PNode)(hn:NodeOk n)(h1:n.ops≠1)(hc:isChK (kindP n.tok.text)=true)(lv fv:Value)(ls:List PLet)(gs:List Fact)(w:World)(hl:Reads w lv ls.length (cellsLt ls))(hlb:ls.length≤401)(hx:∀ p∈ls,1≤p.val.behind∧p.val.behind≤401)(hf:Reads w fv gs.length (cellsF gs))(hgb:gs.length≤401)(hgi:∀ i,FactIn (atF gs i)) :
  Calls Tryz.prog 74 #[nodA n,lv,fv] w fun e w'=>e=.returned (factA (factN ls gs n))∧Below w.heap.size w w':=by
 have HM:=mH (FoSt.start (n:=n) hl hf)
 have hnl:=hn.left
 have hnr:=hn.right
 have HE:Hid (factN ls gs n=choiceF (kindP n.tok.text) (atF gs n.left) (atF gs n.right)):=by rw[Hid,factN,if_neg h1,if_pos hc]
 rw[HE.out]
 have e1:((n.ops:Int)==1)=false:=by simp;omega
 have HGI:=mH hgi
 have HXS:=mH hx
 have hfi1:=hgi n.left
 have hfi2:=hgi n.right
 obtain ⟨f1,hf1⟩:∃ f,atF gs n.left=f:=⟨_,rfl⟩
 obtain ⟨f2,hf2⟩:∃ f,atF gs n.right=f:=⟨_,rfl⟩
 rw[hf1]at hfi1
 rw[hf2]at hfi2
 have HI1:=mH hfi1
 have HI2:=mH hfi2
 have HF1:=mH hf1
 have HF2:=mH hf2
 rw[hf1,hf2]
 have HCH:=mH hc
 clear hl hf hn hgi h1 hf1 hf2 hfi1 hfi2 HE hx hc
 unfold nodA
 go_enter Tryz.func74,Tryz.ntmps74
 go_upto_region 5 with (first
  | (go_at_call_of 110 (Value.int IntKind.i64 (n.left:Int));refine (factAt_any gs _ (n.left:Int) _ HM.out.f hgb ⟨by omega,by omega⟩).mono ?_;rintro e w1 ⟨rfl,hb1⟩;rw[HF1.out];unfold factA;replace HM:=mH (HM.out.below hb1);clear hb1;have n0:=HM.out.nd.cell 0;have n1:=HM.out.nd.cell 1;have n2:=HM.out.nd.cell 2;have n3:=HM.out.nd.cell 3;have n4:=HM.out.nd.cell 4;have n5:=HM.out.nd.cell 5;have r0:=HM.out.rs.cell 0;have r1:=HM.out.rs.cell 1;have fr0:=HM.out.rs.free 0;have fr1:=HM.out.rs.free 1;have hlw:=HM.out.bl.size;have hlr:=HM.out.rs.lt;have hln:=HM.out.nd.lt;simp only[nodC,List.getElem?_toArray,List.getElem?_cons_zero,List.getElem?_cons_succ]at n0 n1 n2 n3 n4 n5 r0 r1)
  | (go_at_call_of 110 (Value.int IntKind.i64 (n.right:Int));refine (factAt_any gs _ (n.right:Int) _ (HM.out.al _).f hgb ⟨by omega,by omega⟩).mono ?_;rintro e w2 ⟨rfl,hb2⟩;rw[HF2.out];unfold factA;clear n0 n1 n2 n3 n4 n5 r0 r1 fr0 fr1 hlw hlr hln;have H7:=mH ((Blk.new w1 #[.bool f1.isSome,.int .i64 (f1.getD 0)] 151).below hb2 (Blk.new w1 #[.bool f1.isSome,.int .i64 (f1.getD 0)] 151).lt);replace HM:=mH ((HM.out.al _).below hb2);clear hb2;have n0:=HM.out.nd.cell 0;have n1:=HM.out.nd.cell 1;have n2:=HM.out.nd.cell 2;have n3:=HM.out.nd.cell 3;have n4:=HM.out.nd.cell 4;have n5:=HM.out.nd.cell 5;have r0:=HM.out.rs.cell 0;have r1:=HM.out.rs.cell 1;have fr0:=HM.out.rs.free 0;have fr1:=HM.out.rs.free 1;have hlw:=HM.out.bl.size;have hlr:=HM.out.rs.lt;have hln:=HM.out.nd.lt;simp only[nodC,List.getElem?_toArray,List.getElem?_cons_zero,List.getElem?_cons_succ]at n0 n1 n2 n3 n4 n5 r0 r1;have t70:=H7.out.cell 0;have t71:=H7.out.cell 1;simp only[List.getElem?_toArray,List.getElem?_cons_zero,List.getElem?_cons_succ]at t70 t71;have hl7:=H7.out.lt))
 have H8:=mH (Blk.new w2 #[.bool f2.isSome,.int .i64 (f2.getD 0)] 151)
 replace H7:=mH (H7.out.alloc (.cells #[.bool f2.isSome,.int .i64 (f2.getD 0)] 151))
 replace HM:=mH (HM.out.al (.cells #[.bool f2.isSome,.int .i64 (f2.getD 0)] 151))
 clear n0 n1 n2 n3 n4 n5 r0 r1 fr0 fr1 hlw hlr hln t70 t71 hl7
 generalize w2.alloc (.cells #[.bool f2.isSome,.int .i64 (f2.getD 0)] 151)=w3 at *
 have h7n:=H7.out.lt
 have h8n:=H8.out.lt
 have n0:=HM.out.nd.cell 0;have n1:=HM.out.nd.cell 1;have n2:=HM.out.nd.cell 2;have n3:=HM.out.nd.cell 3;have n4:=HM.out.nd.cell 4;have n5:=HM.out.nd.cell 5;have r0:=HM.out.rs.cell 0;have r1:=HM.out.rs.cell 1;have fr0:=HM.out.rs.free 0;have fr1:=HM.out.rs.free 1;have hlw:=HM.out.bl.size;have hlr:=HM.out.rs.lt;have hln:=HM.out.nd.lt
 have t70:=H7.out.cell 0;have t71:=H7.out.cell 1;have t80:=H8.out.cell 0;have t81:=H8.out.cell 1
 simp only[nodC,List.getElem?_toArray,List.getElem?_cons_zero,List.getElem?_cons_succ]at n0 n1 n2 n3 n4 n5 r0 r1 t70 t71 t80 t81
 go_wp2_with (first
  | (go_at_call 113;refine (isChoice_any n _).mono ?_;rintro e w4 ⟨rfl,hb4⟩;rw[HCH.out];replace HM:=mH (HM.out.below hb4);replace H7:=mH (H7.out.below hb4 H7.out.lt);replace H8:=mH (H8.out.below hb4 H8.out.lt);have u0:=H7.out.cell 0;have u1:=H7.out.cell 1;have u2:=H8.out.cell 0;have u3:=H8.out.cell 1;simp only[List.getElem?_toArray,List.getElem?_cons_zero,List.getElem?_cons_succ]at u0 u1 u2 u3;have m0:=HM.out.nd.cell 0;simp only[nodC,List.getElem?_toArray,List.getElem?_cons_zero,List.getElem?_cons_succ]at m0;clear hb4)
  | (go_at_call 114;refine (factOfChoice_any (kindP n.tok.text) f1 f2 _).mono ?_;rintro e w5 ⟨rfl,hb5⟩;unfold factA;replace HM:=mH (HM.out.below hb5);have r0:=HM.out.rs.cell 0;have r1:=HM.out.rs.cell 1;have fr0:=HM.out.rs.free 0;have fr1:=HM.out.rs.free 1;clear hb5))
 all_goals
  have hfb:=(HM.out.rs.set 0 (.bool (choiceF (kindP n.tok.text) f1 f2).isSome)).set 1 (.int .i64 ((choiceF (kindP n.tok.text) f1 f2).getD 0))
  have g0:=hfb.cell 0
  have g1:=hfb.cell 1
  refine bodyPost_ret (v:=.agg #[.bool (choiceF (kindP n.tok.text) f1 f2).isSome,.int .i64 ((choiceF (kindP n.tok.text) f1 f2).getD 0)]) (by simp[results,Tryz.results74,go_sem,g0,g1]) rfl ⟨rfl,sets2 HM.out.bl (by omega) _ _⟩
set_option maxHeartbeats 4000000 in
set_option maxRecDepth 100000 in
theorem factOf_two(n:PNode)(hn:NodeOk n)(h1:n.ops=2)(hc:isChK (kindP n.tok.text)=false)(lv fv:Value)(ls:List PLet)(gs:List Fact)(w:World)(hl:Reads w lv ls.length (cellsLt ls))(hlb:ls.length≤401)(hx:∀ p∈ls,1≤p.val.behind∧p.val.behind≤401)(hf:Reads w fv gs.length (cellsF gs))(hgb:gs.length≤401)(hgi:∀ i,FactIn (atF gs i)) :
  Calls Tryz.prog 74 #[nodA n,lv,fv] w fun e w'=>e=.returned (factA (factN ls gs n))∧Below w.heap.size w w':=by
 have HM:=mH (FoSt.start (n:=n) hl hf)
 have hnl:=hn.left
 have hnr:=hn.right
 have HTW:=mH (hn.two hc h1)
 have HE:Hid (factN ls gs n=twoF (opK (kindP n.tok.text) n.ops) (atF gs n.left) (atF gs n.right)):=by rw[Hid,factN,if_neg (by omega),hc,if_neg (by simp),if_pos h1]
 rw[HE.out]
 have e1:((n.ops:Int)==1)=false:=by simp;omega
 have e2:((n.ops:Int)==2)=true:=by simp;omega
 have HGI:=mH hgi
 have HXS:=mH hx
 have hfi1:=hgi n.left
 have hfi2:=hgi n.right
 obtain ⟨f1,hf1⟩:∃ f,atF gs n.left=f:=⟨_,rfl⟩
 obtain ⟨f2,hf2⟩:∃ f,atF gs n.right=f:=⟨_,rfl⟩
 rw[hf1]at hfi1
 rw[hf2]at hfi2
 have HI1:=mH hfi1
 have HI2:=mH hfi2
 have HF1:=mH hf1
 have HF2:=mH hf2
 rw[hf1,hf2]
 have HCH:=mH hc
 clear hl hf hn hgi h1 hf1 hf2 hfi1 hfi2 HE hx hc
 obtain ⟨op,hop⟩:∃ op,opK (kindP n.tok.text) n.ops=op:=⟨_,rfl⟩
 rw[hop]at HTW ⊢
 have HOP:=mH hop
 clear hop
 unfold nodA
 go_enter Tryz.func74,Tryz.ntmps74
 go_upto_region 5 with (first
  | (go_at_call_of 110 (Value.int IntKind.i64 (n.left:Int));refine (factAt_any gs _ (n.left:Int) _ HM.out.f hgb ⟨by omega,by omega⟩).mono ?_;rintro e w1 ⟨rfl,hb1⟩;rw[HF1.out];unfold factA;replace HM:=mH (HM.out.below hb1);clear hb1;have n0:=HM.out.nd.cell 0;have n1:=HM.out.nd.cell 1;have n2:=HM.out.nd.cell 2;have n3:=HM.out.nd.cell 3;have n4:=HM.out.nd.cell 4;have n5:=HM.out.nd.cell 5;have r0:=HM.out.rs.cell 0;have r1:=HM.out.rs.cell 1;have fr0:=HM.out.rs.free 0;have fr1:=HM.out.rs.free 1;have hlw:=HM.out.bl.size;have hlr:=HM.out.rs.lt;have hln:=HM.out.nd.lt;simp only[nodC,List.getElem?_toArray,List.getElem?_cons_zero,List.getElem?_cons_succ]at n0 n1 n2 n3 n4 n5 r0 r1)
  | (go_at_call_of 110 (Value.int IntKind.i64 (n.right:Int));refine (factAt_any gs _ (n.right:Int) _ (HM.out.al _).f hgb ⟨by omega,by omega⟩).mono ?_;rintro e w2 ⟨rfl,hb2⟩;rw[HF2.out];unfold factA;clear n0 n1 n2 n3 n4 n5 r0 r1 fr0 fr1 hlw hlr hln;have H7:=mH ((Blk.new w1 #[.bool f1.isSome,.int .i64 (f1.getD 0)] 151).below hb2 (Blk.new w1 #[.bool f1.isSome,.int .i64 (f1.getD 0)] 151).lt);replace HM:=mH ((HM.out.al _).below hb2);clear hb2;have n0:=HM.out.nd.cell 0;have n1:=HM.out.nd.cell 1;have n2:=HM.out.nd.cell 2;have n3:=HM.out.nd.cell 3;have n4:=HM.out.nd.cell 4;have n5:=HM.out.nd.cell 5;have r0:=HM.out.rs.cell 0;have r1:=HM.out.rs.cell 1;have fr0:=HM.out.rs.free 0;have fr1:=HM.out.rs.free 1;have hlw:=HM.out.bl.size;have hlr:=HM.out.rs.lt;have hln:=HM.out.nd.lt;simp only[nodC,List.getElem?_toArray,List.getElem?_cons_zero,List.getElem?_cons_succ]at n0 n1 n2 n3 n4 n5 r0 r1;have t70:=H7.out.cell 0;have t71:=H7.out.cell 1;simp only[List.getElem?_toArray,List.getElem?_cons_zero,List.getElem?_cons_succ]at t70 t71;have hl7:=H7.out.lt))
 have H8:=mH (Blk.new w2 #[.bool f2.isSome,.int .i64 (f2.getD 0)] 151)
 replace H7:=mH (H7.out.alloc (.cells #[.bool f2.isSome,.int .i64 (f2.getD 0)] 151))
 replace HM:=mH (HM.out.al (.cells #[.bool f2.isSome,.int .i64 (f2.getD 0)] 151))
 clear n0 n1 n2 n3 n4 n5 r0 r1 fr0 fr1 hlw hlr hln t70 t71 hl7
 generalize w2.alloc (.cells #[.bool f2.isSome,.int .i64 (f2.getD 0)] 151)=w3 at *
 have h7n:=H7.out.lt
 have h8n:=H8.out.lt
 have n0:=HM.out.nd.cell 0;have n1:=HM.out.nd.cell 1;have n2:=HM.out.nd.cell 2;have n3:=HM.out.nd.cell 3;have n4:=HM.out.nd.cell 4;have n5:=HM.out.nd.cell 5;have r0:=HM.out.rs.cell 0;have r1:=HM.out.rs.cell 1;have fr0:=HM.out.rs.free 0;have fr1:=HM.out.rs.free 1;have hlw:=HM.out.bl.size;have hlr:=HM.out.rs.lt;have hln:=HM.out.nd.lt
 have t70:=H7.out.cell 0;have t71:=H7.out.cell 1;have t80:=H8.out.cell 0;have t81:=H8.out.cell 1
 simp only[nodC,List.getElem?_toArray,List.getElem?_cons_zero,List.getElem?_cons_succ]at n0 n1 n2 n3 n4 n5 r0 r1 t70 t71 t80 t81
 go_upto_region 8 with (go_at_call 113;refine (isChoice_any n _).mono ?_;rintro e w4 ⟨rfl,hb4⟩;rw[HCH.out];replace HM:=mH (HM.out.below hb4);replace H7:=mH (H7.out.below hb4 H7.out.lt);replace H8:=mH (H8.out.below hb4 H8.out.lt);have u0:=H7.out.cell 0;have u1:=H7.out.cell 1;have u2:=H8.out.cell 0;have u3:=H8.out.cell 1;simp only[List.getElem?_toArray,List.getElem?_cons_zero,List.getElem?_cons_succ]at u0 u1 u2 u3;have m0:=HM.out.nd.cell 0;have m1:=HM.out.nd.cell 1;have m2:=HM.out.nd.cell 2;have m3:=HM.out.nd.cell 3;have m4:=HM.out.nd.cell 4;have m5:=HM.out.nd.cell 5;have r0:=HM.out.rs.cell 0;have r1:=HM.out.rs.cell 1;have fr0:=HM.out.rs.free 0;have fr1:=HM.out.rs.free 1;have hlw:=HM.out.bl.size;have hlr:=HM.out.rs.lt;have hln:=HM.out.nd.lt;simp only[nodC,List.getElem?_toArray,List.getElem?_cons_zero,List.getElem?_cons_succ]at m0 m1 m2 m3 m4 m5;clear hb4)
 go_region_with (first
  | (go_at_call 112;refine (operationOf_any n _).mono ?_;rintro e w6 ⟨rfl,hb6⟩;rw[HOP.out];replace HM:=mH (HM.out.dr.below hb6);clear u0 u1 u2 u3;replace H7:=mH (H7.out.drew.below hb6 H7.out.lt);replace H8:=mH (H8.out.drew.below hb6 H8.out.lt);have u0:=H7.out.cell 0;have u1:=H7.out.cell 1;have u2:=H8.out.cell 0;have u3:=H8.out.cell 1;simp only[List.getElem?_toArray,List.getElem?_cons_zero,List.getElem?_cons_succ]at u0 u1 u2 u3;clear hb6)
  | (go_at_call 115;refine (factOfTwo_any op HTW.out f1 f2 HI1.out HI2.out _).mono ?_;rintro e w7 ⟨rfl,hb7⟩;unfold factA;replace HM:=mH (HM.out.below hb7);have r0:=HM.out.rs.cell 0;have r1:=HM.out.rs.cell 1;have fr0:=HM.out.rs.free 0;have fr1:=HM.out.rs.free 1;clear hb7))
 all_goals
  go_wp2
  have hfb:=(HM.out.rs.set 0 (.bool (twoF op f1 f2).isSome)).set 1 (.int .i64 ((twoF op f1 f2).getD 0))
  have g0:=hfb.cell 0
  have g1:=hfb.cell 1
  refine bodyPost_ret (v:=.agg #[.bool (twoF op f1 f2).isSome,.int .i64 ((twoF op f1 f2).getD 0)]) (by simp[results,Tryz.results74,go_sem,g0,g1]) rfl ⟨rfl,sets2 HM.out.bl (by omega) _ _⟩
end Go.Proofs.YtpcjadaeolkngaaGreatDoor
