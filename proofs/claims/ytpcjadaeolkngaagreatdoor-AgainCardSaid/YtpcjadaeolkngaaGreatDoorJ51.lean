/-
  The plain form of a policy out of raw bytes is hardly longer than its text; plain.
-/
import Derived.Test.YtpcjadaeolkngaaGreatDoorJ38
import Derived.Test.YtpcjadaeolkngaaGreatDoorJ50
set_option linter.unusedVariables false
set_option linter.unusedSimpArgs false
namespace Go.Proofs.YtpcjadaeolkngaaGreatDoor
open Go.Deep
def IsB(txt:Txt)(lev:Nat):Prop:=∀ pos,∃ t:Tr,t.wf∧lev≤t.level∧Toks txt pos t.toks∧∀ lv2,(t.plainT lv2).length≤txt.length+(if t.level<lv2 then 2 else 0)
theorem IsB.mono{txt:Txt}{lev lev':Nat}(h:IsB txt lev)(hl:lev'≤lev):IsB txt lev':=fun pos=>by
 obtain ⟨t,h1,h2,h3,h4⟩:=h pos
 exact ⟨t,h1,by omega,h3,h4⟩
theorem IsB.leaf{t:Txt}(h0:t≠[])(hbl:blankC (headC t)=false)(hl:runLen t=t.length)(hm:mayT t=true)(hs:singleT t=true)(ho:t≠cOpen)(hc:t≠cClose)(hu:unT t=false)(hb:bindsT t=0):IsB t 6:=fun pos =>
 ⟨Tr.leaf ⟨t,pos⟩,⟨⟨rfl,rfl,rfl,rfl⟩,hs,ho,hc,hu,hb⟩,by rw[Tr.level_leaf];omega,toks_one pos h0 hbl hl hm,fun lv2=>by rw[plainT_leaf];exact Nat.le_trans (shortN_le t) (Nat.le_add_right _ _)⟩
theorem IsB.brack{s:Txt}{lev:Nat}(h:IsB s lev):IsB (40 :: (s++[41])) 6:=fun pos=>by
 obtain ⟨t,h1,h2,h3,h4⟩:=h (pos+1)
 refine ⟨Tr.par ⟨[40],pos⟩ t ⟨[41],pos+1+s.length⟩,⟨⟨rfl,rfl⟩,rfl,rfl,h1⟩,by rw[Tr.level_par];omega,toks_brack h3,fun lv2=>?_⟩
 have:=h4 lv2
 rw[plainT_par,List.length_cons,List.length_append,List.length_cons,List.length_nil]
 split at this <;> omega
theorem IsB.brack2{s:Txt}{lev:Nat}(h:IsB s lev):IsB (40 :: 32 :: (s++[41])) 6:=fun pos=>by
 obtain ⟨t,h1,h2,h3,h4⟩:=h (pos+2)
 refine ⟨Tr.par ⟨[40],pos⟩ t ⟨[41],pos+2+s.length⟩,⟨⟨rfl,rfl⟩,rfl,rfl,h1⟩,by rw[Tr.level_par];omega,toks_brack2 h3,fun lv2=>?_⟩
 have:=h4 lv2
 rw[plainT_par,List.length_cons,List.length_cons,List.length_append,List.length_cons,List.length_nil]
 split at this <;> omega
theorem IsB.minus{s:Txt}(h:IsB s 6):IsB (45 :: s) 6:=fun pos=>by
 obtain ⟨t,h1,h2,h3,h4⟩:=h (pos+1)
 have hl6:t.level=6:=by have:=t.level_le;omega
 refine ⟨Tr.un ⟨cMinus,pos⟩ t,⟨⟨rfl,rfl,rfl⟩,(show unT cMinus=true by decide),hl6,h1⟩,by rw[Tr.level_un];omega,toks_sign (by decide) h3,fun lv2=>?_⟩
 have:=h4 6
 rw[if_neg (by omega)]at this
 rw[plainT_un,if_pos (show (cMinus==cMinus)=true by decide),List.length_append,List.length_cons]
 have e:cMinus.length=1:=rfl
 omega
theorem IsB.nott{s:Txt}(h:IsB s 6):IsB (110 :: 111 :: 116 :: 32 :: s) 6:=fun pos=>by
 obtain ⟨t,h1,h2,h3,h4⟩:=h (pos+4)
 have hl6:t.level=6:=by have:=t.level_le;omega
 have hk:Toks ([110,111,116]++32 :: s) pos ([⟨[110,111,116],pos⟩]++t.toks):=toks_app (toks_one pos (by decide) (by decide) (by decide) (by decide)) (toks_blank1 h3) ⟨32,s,rfl,rfl⟩
 refine ⟨Tr.un ⟨cNot,pos⟩ t,⟨⟨rfl,rfl,rfl⟩,(show unT cNot=true by decide),hl6,h1⟩,by rw[Tr.level_un];omega,hk,fun lv2=>?_⟩
 have:=h4 6
 rw[if_neg (by omega)]at this
 rw[plainT_un,if_neg (show ¬ ((cNot==cMinus)=true) by decide),List.length_append,List.length_append]
 have e:cNot.length=3:=rfl
 simp only[List.length_cons,List.length_nil]
 omega
theorem IsB.two{a b op:Txt}{l1 l2:Nat}(ha:IsB a l1)(hb:IsB b l2)(h0:op≠[])(hbl:blankC (headC op)=false)(hl:runLen op=op.length)(hm:mayT op=true)(hp:0<bindsT op)(hc1:op≠cOpen)(hc2:op≠cClose)(hl1:bindsT op≤l1)(hl2:bindsT op<l2) :
  IsB (a++32 :: (op++32 :: b)) (bindsT op):=fun pos=>by
 obtain ⟨t,t1,t2,t3,t4⟩:=ha pos
 obtain ⟨u,u1,u2,u3,u4⟩:=hb (pos+a.length+1+op.length+1)
 refine ⟨Tr.bin ⟨op,pos+a.length+1⟩ t u,⟨⟨rfl,rfl⟩,hp,hc1,hc2,by show bindsT op≤t.level;omega,by show bindsT op<u.level;omega,t1,u1⟩,by rw[Tr.level_bin];exact Nat.le_refl _,by rw[Tr.toks_bin];exact toks_join t3 h0 hbl hl hm u3,fun lv2=>?_⟩
 have g1:=t4 (bindsT op)
 have g2:=u4 (bindsT op+1)
 rw[if_neg (by omega)]at g1 g2
 rw[plainT_bin,Tr.level_bin]
 by_cases hh:bindsT op<lv2
 ·rw[decide_eq_true hh,if_pos hh]
  refine Nat.le_trans (brk_len _ _) ?_
  simp only[List.length_append,List.length_cons]
  omega
 ·rw[decide_eq_false hh,if_neg hh]
  show (t.plainT (bindsT op)++32 :: (op++32 :: u.plainT (bindsT op+1))).length≤_
  simp only[List.length_append,List.length_cons]
  omega
structure PtB(p:PT):Prop where
 is:IsB p.1.toList p.2.1
 pos:1≤p.2.1
 le:p.2.1≤6
theorem tied_b{t:ByteArray}{b lv:Nat}(h:IsB t.toList b)(hl:lv≤6):IsB (tiedT t b lv).toList lv:=by
 unfold tiedT
 split
 ·rw[toL_app,toL_app,tl40,tl41]
  exact (IsB.brack h).mono hl
 ·exact h.mono (by omega)
theorem join_b{o t1 t2:ByteArray}{b1 b2 lv:Nat}{op:Txt}(ho:o.toList=op)(h1:IsB t1.toList b1)(h2:IsB t2.toList b2)(hlv:bindsT op=lv)(h0:op≠[])(hbl:blankC (headC op)=false)(hl:runLen op=op.length)(hm:mayT op=true)(hp:0<lv)(hc1:op≠cOpen)(hc2:op≠cClose):IsB (joinT o t1 b1 t2 b2 lv).toList lv:=by
 have h5:=bindsT_le op
 have:=IsB.two (tied_b h1 (lv:=bindsT op) (by omega)) (tied_b h2 (lv:=bindsT op+1) (by omega)) h0 hbl hl hm (by omega) hc1 hc2 (Nat.le_refl _) (Nat.lt_succ_self _)
 rw[hlv]at this
 unfold joinT
 rw[toL_app,toL_app,toL_app,toL_app,ho,show (⟨#[32]⟩:ByteArray).toList=[32] from toL_mk [32]]
 simpa using this
theorem turn_neg{p:PT}(h:PtB p):PtB (turnG ⟨#[45]⟩ p):=by
 unfold turnG
 split
 ·refine ⟨?_,by simp,by simp⟩
  show IsB (⟨#[45]⟩++tiedT p.1 p.2.1 6).toList 6
  rw[toL_app,tl45]
  exact IsB.minus (tied_b h.is (Nat.le_refl _))
 ·exact ⟨h.is,h.pos,h.le⟩
theorem turn_not{p:PT}(h:PtB p):PtB (turnG ⟨#[110,111,116,32]⟩ p):=by
 unfold turnG
 split
 ·refine ⟨?_,by simp,by simp⟩
  show IsB (⟨#[110,111,116,32]⟩++tiedT p.1 p.2.1 6).toList 6
  rw[toL_app,tlnot]
  exact IsB.nott (tied_b h.is (Nat.le_refl _))
 ·exact ⟨h.is,h.pos,h.le⟩
theorem loose_b{p:PT}(h:PtB p):PtB (looseG p):=by
 unfold looseG
 split
 ·refine ⟨?_,by simp,by simp⟩
  show IsB (looseT p.1).toList 6
  unfold looseT
  rw[toL_app,toL_app,tl4032,tl41]
  exact IsB.brack2 h.is
 ·exact ⟨h.is,h.pos,h.le⟩
theorem end_neg{F:Fd→PT}(h:∀ g,PtB (F g))(g:Fd):PtB (endS ⟨#[45]⟩ F g):=loose_b (turn_neg (h g))
theorem end_not{F:Fd→PT}(h:∀ g,PtB (F g))(g:Fd):PtB (endS ⟨#[110,111,116,32]⟩ F g):=loose_b (turn_not (h g))
theorem lit_b(u:Txt)(h0:u≠[])(hbl:blankC (headC u)=false)(hl:runLen u=u.length)(hm:mayT u=true)(hs:singleT u=true)(ho:u≠cOpen)(hc:u≠cClose)(hu:unT u=false)(hb:bindsT u=0):IsB (⟨u.toArray⟩:ByteArray).toList 6:=by
 rw[toL_mk]
 exact IsB.leaf h0 hbl hl hm hs ho hc hu hb
theorem classL_b(k:Int):IsB (classL k).toList 6:=by
 unfold classL
 repeat' split
 all_goals first
  | exact lit_b [100,114,121] (by decide) (by decide) (by decide) (by decide) (by decide) (by decide) (by decide) (by decide) (by decide)
  | exact lit_b [99,111,108,100] (by decide) (by decide) (by decide) (by decide) (by decide) (by decide) (by decide) (by decide) (by decide)
  | exact lit_b [115,97,102,101] (by decide) (by decide) (by decide) (by decide) (by decide) (by decide) (by decide) (by decide) (by decide)
  | exact lit_b [110,101,101,100] (by decide) (by decide) (by decide) (by decide) (by decide) (by decide) (by decide) (by decide) (by decide)
  | exact lit_b [104,97,115] (by decide) (by decide) (by decide) (by decide) (by decide) (by decide) (by decide) (by decide) (by decide)
theorem class_b(st:Bool)(g:Fd):PtB (classG st g):=⟨classL_b _,by show 1≤6;omega,by show 6≤6;omega⟩
theorem ite_b{c:Prop} [Decidable c]{a b:ByteArray}(h1:IsB a.toList 6)(h2:IsB b.toList 6):IsB (if c then a else b).toList 6:=by split <;> assumption
theorem numL_b{lt:ByteArray}(hl:lt=⟨#[]⟩∨lt=⟨#[107,107]⟩)(k:Int):IsB (numL k lt).toList 6:=by
 have h8:IsB (if lt.size=0 then (⟨#[115,105,122,101]⟩:ByteArray) else lt).toList 6:=by
  rcases hl with rfl | rfl
  ·rw[if_pos (by decide)]
   exact lit_b [115,105,122,101] (by decide) (by decide) (by decide) (by decide) (by decide) (by decide) (by decide) (by decide) (by decide)
  ·rw[if_neg (by decide)]
   exact lit_b [107,107] (by decide) (by decide) (by decide) (by decide) (by decide) (by decide) (by decide) (by decide) (by decide)
 exact (ite_b (lit_b [48] (by decide) (by decide) (by decide) (by decide) (by decide) (by decide) (by decide) (by decide) (by decide)) (ite_b (lit_b [49] (by decide) (by decide) (by decide) (by decide) (by decide) (by decide) (by decide) (by decide) (by decide)) (ite_b (lit_b [50] (by decide) (by decide) (by decide) (by decide) (by decide) (by decide) (by decide) (by decide) (by decide)) (ite_b (lit_b [55] (by decide) (by decide) (by decide) (by decide) (by decide) (by decide) (by decide) (by decide) (by decide)) (ite_b (lit_b [49,50] (by decide) (by decide) (by decide) (by decide) (by decide) (by decide) (by decide) (by decide) (by decide)) (ite_b (lit_b [49,48,48] (by decide) (by decide) (by decide) (by decide) (by decide) (by decide) (by decide) (by decide) (by decide)) (ite_b (lit_b [52,48,48,48,48,48,48,48,48,48] (by decide) (by decide) (by decide) (by decide) (by decide) (by decide) (by decide) (by decide) (by decide)) (ite_b (lit_b [48,48,55] (by decide) (by decide) (by decide) (by decide) (by decide) (by decide) (by decide) (by decide) (by decide)) (ite_b h8 (ite_b (lit_b [115,105,122,101] (by decide) (by decide) (by decide) (by decide) (by decide) (by decide) (by decide) (by decide) (by decide)) (ite_b (lit_b [115,112,101,101,100] (by decide) (by decide) (by decide) (by decide) (by decide) (by decide) (by decide) (by decide) (by decide)) (ite_b (lit_b [122,111,110,101] (by decide) (by decide) (by decide) (by decide) (by decide) (by decide) (by decide) (by decide) (by decide)) (ite_b (lit_b [99,97,112] (by decide) (by decide) (by decide) (by decide) (by decide) (by decide) (by decide) (by decide) (by decide)) (lit_b [117,115,101,100] (by decide) (by decide) (by decide) (by decide) (by decide) (by decide) (by decide) (by decide) (by decide)))))))))))))))
theorem num_b{lt:ByteArray}(hl:lt=⟨#[]⟩∨lt=⟨#[107,107]⟩)(st:Bool)(g:Fd):PtB (numG st lt g):=⟨numL_b hl _,by show 1≤6;omega,by show 6≤6;omega⟩
theorem mid_b{F:Fd→PT}(h:∀ g,PtB (F g))(g:Fd):PtB (midS F g):=by
 have ha:=h g
 have hb:=h (F g).2.2
 unfold midS selS
 split
 ·exact ⟨join_b (op:=cPlus) (toL_mk _) ha.is hb.is (by decide) (by decide) (by decide) (by decide) (by decide) (by decide) (by decide) (by decide),by simp,by simp⟩
 split
 ·exact ⟨join_b (op:=cMinus) (toL_mk _) ha.is hb.is (by decide) (by decide) (by decide) (by decide) (by decide) (by decide) (by decide) (by decide),by simp,by simp⟩
 split
 ·exact ⟨join_b (op:=cTimes) (toL_mk _) ha.is hb.is (by decide) (by decide) (by decide) (by decide) (by decide) (by decide) (by decide) (by decide),by simp,by simp⟩
 split
 ·exact ⟨join_b (op:=cDiv) (toL_mk _) ha.is hb.is (by decide) (by decide) (by decide) (by decide) (by decide) (by decide) (by decide) (by decide),by simp,by simp⟩
 split
 ·exact ⟨join_b (op:=cMod) (toL_mk _) ha.is hb.is (by decide) (by decide) (by decide) (by decide) (by decide) (by decide) (by decide) (by decide),by simp,by simp⟩
 ·exact ⟨ha.is,ha.pos,ha.le⟩
theorem pair_b{o:ByteArray}{op:Txt}{lv:Nat}{F:Fd→PT}(h:∀ g,PtB (F g))(ho:o.toList=op)(hlv:bindsT op=lv)(h0:op≠[])(hbl:blankC (headC op)=false)(hl:runLen op=op.length)(hm:mayT op=true)(hp:0<lv)(hc1:op≠cOpen)(hc2:op≠cClose)(g:Fd):PtB (pairG o lv F g):=by
 have h5:=bindsT_le op
 exact ⟨join_b ho (h g).is (h (F g).2.2).is hlv h0 hbl hl hm hp hc1 hc2,by show 1≤lv;omega,by show lv≤6;omega⟩
theorem testZ_b{CL:Fd→PT}(h:∀ g,PtB (CL g))(g:Fd):PtB (testZ CL g):=by
 unfold testZ testZ'
 split
 ·exact ⟨lit_b [116,114,117,101] (by decide) (by decide) (by decide) (by decide) (by decide) (by decide) (by decide) (by decide) (by decide),by simp,by simp⟩
 split
 ·exact ⟨lit_b [102,97,108,115,101] (by decide) (by decide) (by decide) (by decide) (by decide) (by decide) (by decide) (by decide) (by decide),by simp,by simp⟩
 split
 ·exact pair_b (op:=cEq) h (toL_mk _) (by decide) (by decide) (by decide) (by decide) (by decide) (by decide) (by decide) (by decide) _
 ·exact pair_b (op:=cNeq) h (toL_mk _) (by decide) (by decide) (by decide) (by decide) (by decide) (by decide) (by decide) (by decide) _
theorem testS_b{CL SU TE:Fd→PT}(hc:∀ g,PtB (CL g))(hs:∀ g,PtB (SU g))(ht:∀ g,PtB (TE g))(g:Fd):PtB (testS CL SU TE g):=by
 unfold testS testS'
 split
 ·exact pair_b (op:=cEq) hc (toL_mk _) (by decide) (by decide) (by decide) (by decide) (by decide) (by decide) (by decide) (by decide) _
 split
 ·exact pair_b (op:=cLess) hs (toL_mk _) (by decide) (by decide) (by decide) (by decide) (by decide) (by decide) (by decide) (by decide) _
 split
 ·exact pair_b (op:=cMost) hs (toL_mk _) (by decide) (by decide) (by decide) (by decide) (by decide) (by decide) (by decide) (by decide) _
 split
 ·exact pair_b (op:=cEq) hs (toL_mk _) (by decide) (by decide) (by decide) (by decide) (by decide) (by decide) (by decide) (by decide) _
 split
 ·exact pair_b (op:=cNeq) hs (toL_mk _) (by decide) (by decide) (by decide) (by decide) (by decide) (by decide) (by decide) (by decide) _
 split
 ·exact pair_b (op:=cAnd) ht (toL_mk _) (by decide) (by decide) (by decide) (by decide) (by decide) (by decide) (by decide) (by decide) _
 ·exact pair_b (op:=cOr) ht (toL_mk _) (by decide) (by decide) (by decide) (by decide) (by decide) (by decide) (by decide) (by decide) _
theorem sums_b{lt:ByteArray}(hl:lt=⟨#[]⟩∨lt=⟨#[107,107]⟩):(∀ g,PtB (sumT1 false lt g))∧(∀ g,PtB (sumT2 false lt g))∧(∀ g,PtB (testT1 false lt g)):=by
 have s0:∀ g,PtB (sumT0 false lt g):=fun g=>end_neg (num_b hl false) g
 have s1:∀ g,PtB (sumT1 false lt g):=fun g=>end_neg (mid_b s0) g
 have s2:∀ g,PtB (sumT2 false lt g):=fun g=>end_neg (mid_b s1) g
 have t0:∀ g,PtB (endS ⟨#[110,111,116,32]⟩ (testZ (classG false)) g):=fun g=>end_not (testZ_b (class_b false)) g
 exact ⟨s1,s2,fun g=>end_not (testS_b (class_b false) s0 t0) g⟩
def StB(x:Txt):Prop:=∀ pos,∃ s:RSt,s.wf∧ToksH x pos s.toks∧s.plainS.length≤x.length
def StsB(x:Txt)(n:Nat):Prop:=∀ pos,∃ l:List RSt,l.length≤n∧(∀ s∈l,s.wf)∧ToksH x pos (toksL l)∧(l.map (fun s=>s.plainS.length)).sum≤x.length
theorem stsB_nil:StsB [] 0:=fun pos=>⟨[],Nat.le_refl _,(fun s h=>by cases h),toksH_nil pos,by simp⟩
theorem stsB_snoc{x y:Txt}{n:Nat}(hx:StsB x n)(hy:StB y):StsB (x++y) (n+1):=fun pos=>by
 obtain ⟨l,l1,l2,l3,l4⟩:=hx pos
 obtain ⟨s,s1,s2,s3⟩:=hy (pos+x.length)
 refine ⟨l++[s],by simp;omega,fun q hq=>?_, ?_, ?_⟩
 ·rcases List.mem_append.1 hq with hq | hq
  ·exact l2 q hq
  ·rw[List.mem_singleton.1 hq];exact s1
 ·rw[toksL_append,toksL_cons,show toksL []=([]:List RTok) from rfl,List.append_nil]
  exact toksH_app l3 s2
 ·simp only[List.map_append,List.map_cons,List.map_nil,List.sum_append,List.sum_cons,List.sum_nil,List.length_append]
  omega
theorem let_b{P:Txt}(h:IsB P 1):StB (cLet++32 :: (cKk++32 :: (cEq++32 :: (P++[59])))):=fun pos=>by
 obtain ⟨t,t1,t2,t3,t4⟩:=h (pos+4+3+2)
 have htk:Toks (cLet++32 :: (cKk++32 :: (cEq++32 :: P))) pos ([⟨cLet,pos⟩]++([⟨cKk,pos+4⟩]++([⟨cEq,pos+4+3⟩]++t.toks))) :=
  toks_app (toks_one pos (by decide) (by decide) (by decide) (by decide)) (toks_blank1 (toks_app (toks_one _ (by decide) (by decide) (by decide) (by decide)) (toks_blank1 (toks_app (toks_one _ (by decide) (by decide) (by decide) (by decide)) (toks_blank1 t3) ⟨32,_,rfl,rfl⟩)) ⟨32,_,rfl,rfl⟩)) ⟨32,_,rfl,rfl⟩
 have et:cLet++32 :: (cKk++32 :: (cEq++32 :: (P++[59])))=(cLet++32 :: (cKk++32 :: (cEq++32 :: P)))++[59]:=by simp
 have g:=t4 1
 rw[if_neg (by omega)]at g
 refine ⟨RSt.letS ⟨cLet,pos⟩ ⟨cKk,pos+4⟩ ⟨cEq,pos+4+3⟩ t ⟨cSemi,pos+(cLet++32 :: (cKk++32 :: (cEq++32 :: P))).length⟩,⟨rfl,(show nameT cKk=true by decide),rfl,t1,rfl⟩,by rw[et];exact toksH_semi htk, ?_⟩
 show (cLet++32 :: (cKk++32 :: (cEq++32 :: (t.plainT 1++[59])))).length≤_
 simp only[List.length_append,List.length_cons,List.length_nil]
 omega
def IsBO(o:Option Txt):Prop:=∀ P,o=some P→IsB P 1
theorem act_b{sc:Option Txt}(h:IsBO sc)(pos:Nat):∃ (act:RTok) (sc':Option Tr),act.text=(if sc'.isSome then cScore else cReject)∧(∀ e,sc'=some e→e.wf)∧Toks (actB sc) pos (act :: optToks sc')∧(actB (sc'.map (fun e=>e.plainT 1))).length≤(actB sc).length:=by
 cases sc with
 | none=>exact ⟨⟨cReject,pos⟩,none,rfl,(fun e he=>by cases he),toks_one pos (by decide) (by decide) (by decide) (by decide),Nat.le_refl _⟩
 | some P =>
  obtain ⟨t,t1,t2,t3,t4⟩:=h P rfl (pos+6)
  have g:=t4 1
  rw[if_neg (by omega)]at g
  refine ⟨⟨cScore,pos⟩,some t,rfl,(fun e he=>by cases he;exact t1),toks_app (l:=[⟨cScore,pos⟩]) (toks_one pos (by decide) (by decide) (by decide) (by decide)) (toks_blank1 t3) ⟨32,P,rfl,rfl⟩, ?_⟩
  show (cScore++32 :: t.plainT 1).length≤(cScore++32 :: P).length
  simp only[List.length_append,List.length_cons]
  omega
theorem rule_b{wh sc:Option Txt}(hw:IsBO wh)(hs:IsBO sc):StB (ruleB wh sc++[59]):=fun pos=>by
 cases wh with
 | none =>
  obtain ⟨act,sc',a1,a2,a3,a4⟩:=act_b hs pos
  refine ⟨RSt.rule none act sc' ⟨cSemi,pos+(actB sc).length⟩,⟨(fun k e he=>by cases he),a1,a2,rfl⟩,toksH_semi a3, ?_⟩
  rw[plainS_rule,List.length_append,List.length_append]
  show (actB (sc'.map (fun e=>e.plainT 1))).length+_≤(actB sc).length+_
  omega
 | some W =>
  obtain ⟨u,u1,u2,u3,u4⟩:=hw W rfl (pos+5)
  obtain ⟨act,sc',a1,a2,a3,a4⟩:=act_b hs (pos+5+W.length+1)
  have g:=u4 1
  rw[if_neg (by omega)]at g
  have hT:Toks (ruleB (some W) sc) pos ([⟨cWhen,pos⟩]++(u.toks++(act :: optToks sc'))) :=
   toks_app (toks_one pos (by decide) (by decide) (by decide) (by decide)) (toks_blank1 (toks_app u3 (toks_blank1 a3) ⟨32,_,rfl,rfl⟩)) ⟨32,_,rfl,rfl⟩
  refine ⟨RSt.rule (some (⟨cWhen,pos⟩,u)) act sc' ⟨cSemi,pos+(ruleB (some W) sc).length⟩,⟨(fun k e he=>by cases he;exact ⟨rfl,u1⟩),a1,a2,rfl⟩,toksH_semi hT, ?_⟩
  rw[plainS_rule]
  show ((cWhen++32 :: (u.plainT 1++32 :: actB (sc'.map (fun e:Tr=>e.plainT 1))))++([59]:Txt)).length≤((cWhen++32 :: (W++32 :: actB sc))++([59]:Txt)).length
  simp only[List.length_append,List.length_cons]
  omega
theorem rule_text{TE SU:Fd→PT}(ht:∀ g,PtB (TE g))(hs:∀ g,PtB (SU g))(T:ByteArray)(g:Fd):∃ wh sc,IsBO wh∧IsBO sc∧(ruleG TE SU T g).1.toList=T.toList++(ruleB wh sc++[59]):=by
 have hact:∀ (T1:ByteArray) (g1:Fd),∃ sc,IsBO sc∧(actG SU T1 g1).1.toList=T1.toList++(actB sc++[59]):=by
  intro T1 g1
  unfold actG
  split
  ·exact ⟨none,(fun P hP=>by cases hP),rej_txt T1⟩
  ·exact ⟨some (SU (nx 4 g1).2).1.toList,(fun P hP=>by cases hP;exact (hs _).is.mono (hs _).pos),sco_txt T1 _⟩
 unfold ruleG
 have hwhen:∃ wh,IsBO wh∧(whenG TE T g).1.toList=T.toList++(match wh with | none=>[] | some W=>cWhen++32 :: (W++[32])):=by
  unfold whenG
  split
  ·exact ⟨none,(fun P hP=>by cases hP),by simp⟩
  ·refine ⟨some (TE (nx 4 g).2).1.toList,(fun P hP=>by cases hP;exact (ht _).is.mono (ht _).pos), ?_⟩
   show (T++⟨#[119,104,101,110,32]⟩++(TE (nx 4 g).2).1++⟨#[32]⟩).toList=_
   rw[toL_app,toL_app,toL_app,show (⟨#[119,104,101,110,32]⟩:ByteArray).toList=[119,104,101,110,32] from toL_mk _,show (⟨#[32]⟩:ByteArray).toList=[32] from toL_mk _]
   simp[cWhen]
 obtain ⟨wh,h1,h2⟩:=hwhen
 obtain ⟨sc,h3,h4⟩:=hact (whenG TE T g).1 (whenG TE T g).2
 refine ⟨wh,sc,h1,h3, ?_⟩
 rw[h4,h2]
 cases wh with
 | none=>simp[ruleB]
 | some W=>simp[ruleB]
theorem head_b(s:ByteArray):((headG s).2.1=⟨#[]⟩∨(headG s).2.1=⟨#[107,107]⟩)∧StsB (headG s).1.toList 1:=by
 unfold headG
 split
 ·refine ⟨.inr rfl, ?_⟩
  have h:=((sums_b (lt:=⟨#[]⟩) (.inl rfl)).1 (nx 3 (Fd.mk s 0)).2)
  have hb:=let_b (h.is.mono h.pos)
  have e:(⟨#[108,101,116,32,107,107,32,61,32]⟩++(sumT1 false ⟨#[]⟩ (nx 3 (Fd.mk s 0)).2).1++⟨#[59]⟩:ByteArray).toList=([]:Txt)++(cLet++32 :: (cKk++32 :: (cEq++32 :: ((sumT1 false ⟨#[]⟩ (nx 3 (Fd.mk s 0)).2).1.toList++[59])))):=by
   rw[toL_app,toL_app,show (⟨#[108,101,116,32,107,107,32,61,32]⟩:ByteArray).toList=[108,101,116,32,107,107,32,61,32] from toL_mk _,show (⟨#[59]⟩:ByteArray).toList=[59] from toL_mk _]
   simp[cLet,cKk,cEq]
  show StsB (⟨#[108,101,116,32,107,107,32,61,32]⟩++(sumT1 false ⟨#[]⟩ (nx 3 (Fd.mk s 0)).2).1++⟨#[59]⟩:ByteArray).toList 1
  rw[e]
  exact stsB_snoc stsB_nil hb
 ·refine ⟨.inl rfl, ?_⟩
  show StsB (⟨#[]⟩:ByteArray).toList 1
  rw[show (⟨#[]⟩:ByteArray).toList=[] from toL_mk _]
  exact fun pos=>by
   obtain ⟨l,l1,l2⟩:=stsB_nil pos
   exact ⟨l,by omega,l2⟩
theorem polT_b(s:ByteArray):StsB (polT s).toList 3:=by
 obtain ⟨hl,h0⟩:=head_b s
 obtain ⟨b1,b2,b3⟩:=sums_b hl
 unfold polT
 obtain ⟨wh,sc,w1,w2,w3⟩:=rule_text b3 b2 (headG s).1 (nx 2 (headG s).2.2).2
 generalize (ruleG (testT1 false (headG s).2.1) (sumT2 false (headG s).2.1) (headG s).1 (nx 2 (headG s).2.2).2)=q at w3
 have k1:StsB q.1.toList 2:=by rw[w3];exact stsB_snoc h0 (rule_b w1 w2)
 unfold twoG
 split
 ·obtain ⟨wh2,sc2,v1,v2,v3⟩:=rule_text b3 b1 q.1 q.2
  rw[v3]
  exact stsB_snoc k1 (rule_b v1 v2)
 ·exact fun pos=>by
   obtain ⟨l,l1,l2⟩:=k1 pos
   exact ⟨l,by omega,l2⟩
theorem catL_sum:∀ l:List Txt,(catL l).length=(l.map List.length).sum+l.length
 | []=>rfl
 | x :: r=>by
  have e:catL (x :: r)=(x++[10])++catL r:=rfl
  rw[e,List.length_append,List.length_append,catL_sum r]
  simp only[List.length_cons,List.length_nil,List.map_cons,List.sum_cons]
  omega
theorem flat_sum:∀ l:List Txt,(l.flatMap (fun y=>10 :: y)).length=(l.map List.length).sum+l.length
 | []=>rfl
 | x :: r=>by
  rw[List.flatMap_cons,List.length_append,flat_sum r]
  simp only[List.length_cons,List.map_cons,List.sum_cons]
  omega
theorem joinR_sum(l:List Txt)(h:l≠[]):(joinR l).length+1=(l.map List.length).sum+l.length:=by
 cases l with
 | nil=>exact absurd rfl h
 | cons x r =>
  show (x++r.flatMap (fun y=>10 :: y)).length+1=_
  rw[List.length_append,flat_sum r]
  simp only[List.length_cons,List.map_cons,List.sum_cons]
  omega
theorem pol_bound{s:ByteArray}{L R:List RSt}(hp:PolicyOf (polT s).toList L R):(polQ L R).length≤(polT s).size+2:=by
 obtain ⟨l,l1,l2,l3,l4⟩:=polT_b s 0
 have h1:=l3 []
 rw[List.append_nil,toksR_nil]at h1
 obtain ⟨h2,_⟩:=tokened_toks hp.fine
 rw[h2]at h1
 have h3:toksL (L++R)=toksL l:=by
  simp only[preR,List.append_nil]at h1
  first | exact Except.ok.inj h1 | simpa using h1
 have h4:=toksL_uniq (L++R) l hp.wf l2 h3
 subst h4
 rw[toList_length]at l4
 unfold polQ
 have hj:=joinR_sum (R.map RSt.plainS) (by simpa using hp.ne)
 rw[List.length_append,catL_sum]
 simp only[List.map_map,List.length_map,List.map_append,List.sum_append,List.length_append]at *
 have e1:(List.map (List.length ∘ RSt.plainS) L)=(List.map (fun s=>s.plainS.length) L):=rfl
 have e2:(List.map (List.length ∘ RSt.plainS) R)=(List.map (fun s=>s.plainS.length) R):=rfl
 rw[e1]
 rw[e2]at hj
 omega
def dblB:Txt→Bool
 | []=>false
 | [_]=>false
 | a :: b :: r=>(a==32&&b==32)||dblB (b :: r)
def lastC:Txt→UInt8
 | []=>0
 | [a]=>a
 | _ :: b :: r=>lastC (b :: r)
structure NB(t:Txt):Prop where
 ne:t≠[]
 hd:headC t≠32
 lst:lastC t≠32
 dbl:dblB t=false
theorem lastC_app:∀ (a b:Txt),b≠[]→lastC (a++b)=lastC b
 | [],b,_=>rfl
 | [x],b,hb=>by
  cases b with
  | nil=>exact absurd rfl hb
  | cons c r=>rfl
 | x :: y :: r,b,hb=>by
  rw[List.cons_append,List.cons_append,lastC,← List.cons_append]
  exact lastC_app (y :: r) b hb
theorem headC_app(a b:Txt)(h:a≠[]):headC (a++b)=headC a:=by
 cases a with
 | nil=>exact absurd rfl h
 | cons c r=>rfl
theorem dblB_app:∀ (a b:Txt),a≠[]→b≠[]→dblB a=false→dblB b=false→(lastC a≠32∨headC b≠32)→dblB (a++b)=false
 | [],b,h,_,_,_,_=>absurd rfl h
 | [x],b,_,hb,_,h2,h3=>by
  cases b with
  | nil=>exact absurd rfl hb
  | cons c r =>
   show ((x==32&&c==32)||dblB (c :: r))=false
   rw[h2,Bool.or_false,Bool.and_eq_false_iff]
   rcases h3 with h3 | h3
   ·left;simpa[lastC] using h3
   ·right;simpa[headC] using h3
 | x :: y :: r,b,_,hb,h1,h2,h3=>by
  rw[dblB,Bool.or_eq_false_iff]at h1
  rw[List.cons_append,List.cons_append,dblB,h1.1,Bool.false_or,← List.cons_append]
  exact dblB_app (y :: r) b (by simp) hb h1.2 h2 h3
theorem NB.app{a b:Txt}(ha:NB a)(hb:NB b):NB (a++b) :=
 ⟨by simp[ha.ne],by rw[headC_app a b ha.ne];exact ha.hd,by rw[lastC_app a b hb.ne];exact hb.lst,dblB_app a b ha.ne hb.ne ha.dbl hb.dbl (.inl ha.lst)⟩
theorem NB.sp{a b:Txt}(ha:NB a)(hb:NB b):NB (a++32 :: b):=by
 have e:a++32 :: b=a++([32]++b):=rfl
 have hd:dblB ([32]++b)=false:=dblB_app [32] b (by simp) hb.ne rfl hb.dbl (.inr hb.hd)
 rw[e]
 exact ⟨by simp,by rw[headC_app a _ ha.ne];exact ha.hd,by rw[lastC_app a _ (by simp),lastC_app [32] b hb.ne];exact hb.lst,dblB_app a _ ha.ne (by simp) ha.dbl hd (.inl ha.lst)⟩
theorem nb_all:∀ (t:Txt),t≠[]→(∀ c∈t,c≠32)→NB t
 | [],h,_=>absurd rfl h
 | [a],_,h=>⟨by simp,h a (by simp),h a (by simp),rfl⟩
 | a :: b :: r,_,h=>by
  have ih:=nb_all (b :: r) (by simp) (fun c hc=>h c (List.mem_cons_of_mem _ hc))
  refine ⟨by simp,h a (by simp),ih.lst, ?_⟩
  rw[dblB,ih.dbl,Bool.or_false,Bool.and_eq_false_iff]
  left
  simpa using h a (by simp)
theorem let_all:∀ (t:Txt),t≠[]→isLet (headC t)=true→runLen t=t.length→t.all isLet=true
 | [],h,_,_=>absurd rfl h
 | [a],_,hd,_=>by
  have h:isLet a=true:=hd
  simp[h]
 | a :: b :: r,_,hd,hr=>by
  have hle:=runLen_le (b :: r)
  have hda:isLet a=true:=hd
  rw[runLen]at hr
  cases hc:sameC a b with
  | false=>rw[hc]at hr;simp at hr
  | true =>
   rw[hc]at hr
   simp only[if_true,List.length_cons]at hr hle
   have hdb:isLet b=true:=by
    have hl:isDig a=false:=by
     unfold isLet isDig at *
     simp only[Bool.and_eq_true,decide_eq_true_eq,Bool.and_eq_false_iff,decide_eq_false_iff_not]at *
     right
     intro h5
     exact absurd (UInt8.le_trans hda.1 h5) (by decide)
    have h60:(a==60)=false:=by
     cases h:a==60 with
     | false=>rfl
     | true=>
      have:a=60:=by simpa using h
      subst this;exact absurd hda (by decide)
    have h33:(a==33)=false:=by
     cases h:a==33 with
     | false=>rfl
     | true=>
      have:a=33:=by simpa using h
      subst this;exact absurd hda (by decide)
    unfold sameC at hc
    rw[hda,hl,h60,h33]at hc
    simpa using hc
   have ih:=let_all (b :: r) (by simp) hdb (by simp only[List.length_cons];omega)
   rw[List.all_cons,hda,ih]
   rfl
theorem tok_nb{t:Txt}(h:TokT t)(hm:mayT t=true):NB t:=by
 refine nb_all t h.ne (fun c hc=>?_)
 by_cases hd:isDig (headC t)=true
 ·have:=List.all_eq_true.1 (dig_all t h.ne hd h.run) c hc
  intro e;subst e;exact absurd this (by decide)
 ·by_cases hl:isLet (headC t)=true
  ·have:=List.all_eq_true.1 (let_all t h.ne hl h.run) c hc
   intro e;subst e;exact absurd this (by decide)
  ·unfold mayT at hm
   rw[if_neg hd,if_neg hl]at hm
   have hall:∀ u∈tSign,∀ c∈u,c≠(32:UInt8):=by decide
   exact hall t (List.contains_iff_mem.1 hm) c hc
theorem plainT_nb(t:Tr)(h:t.wf):(∀ a∈t.toks,TokT a.text∧mayT a.text=true)→∀ lv,NB (t.plainT lv):=by
 refine Tr.ind (P:=fun t=>(∀ a∈t.toks,TokT a.text∧mayT a.text=true)→∀ lv,NB (t.plainT lv)) t h ?_ ?_ ?_ ?_
 ·intro a hw hm lv
  obtain ⟨h1,h2⟩:=hm a (by rw[Tr.toks_leaf];simp)
  obtain ⟨s1,s2⟩:=Tr.wf_leaf hw
  have S:=short_of h1 h2 s1 s2
  rw[plainT_leaf]
  exact tok_nb S.tok S.may
 ·intro op e hw ih hm lv
  obtain ⟨h1,h2⟩:=hm op (by rw[Tr.toks_un];simp)
  have he:=ih (fun a ha=>hm a (by rw[Tr.toks_un];simp[ha])) 6
  rw[plainT_un]
  split
  ·exact NB.app (nb_all cMinus (by decide) (by decide)) he
  ·have:=NB.sp (tok_nb h1 h2) he
   simpa using this
 ·intro op l r hw ihl ihr hm lv
  obtain ⟨h1,h2⟩:=hm op (by rw[Tr.toks_bin];simp)
  have hl:=ihl (fun a ha=>hm a (by rw[Tr.toks_bin];simp[ha])) (bindsT op.text)
  have hr:=ihr (fun a ha=>hm a (by rw[Tr.toks_bin];simp[ha])) (bindsT op.text+1)
  have hx:=NB.sp hl (NB.sp (tok_nb h1 h2) hr)
  rw[plainT_bin]
  unfold brk
  split
  ·have h40:NB [40]:=nb_all [40] (by decide) (by decide)
   have h41:NB [41]:=nb_all [41] (by decide) (by decide)
   exact NB.app h40 (NB.app hx h41)
  ·exact hx
 ·intro o e c hw ih hm lv
  rw[plainT_par]
  exact ih (fun a ha=>hm a (by rw[Tr.toks_par];simp[ha])) lv
theorem plainS_nb{s:RSt}(h:FitW' s):NB s.plainS:=by
 obtain ⟨hw,hm⟩:=h
 have h59:NB [59]:=nb_all [59] (by decide) (by decide)
 rcases s.cases with ⟨kw,name,eq,e,semi,rfl⟩ | ⟨wh,act,sc,semi,rfl⟩
 ·have hn:=hm name (by rw[RSt.toks,RSt.body_let];simp)
  have he:=plainT_nb e hw.2.2.2.1 (fun a ha=>hm a (by rw[RSt.toks,RSt.body_let];simp[ha])) 1
  exact NB.sp (nb_all cLet (by decide) (by decide)) (NB.sp (tok_nb hn.1 hn.2) (NB.sp (nb_all cEq (by decide) (by decide)) (NB.app he h59)))
 ·have hact:NB (actB (sc.map (fun e=>e.plainT 1))):=by
   cases sc with
   | none=>exact nb_all cReject (by decide) (by decide)
   | some e=>exact NB.sp (nb_all cScore (by decide) (by decide)) (plainT_nb e (hw.2.2.1 e rfl) (fun a ha=>hm a (by rw[RSt.toks,RSt.body_rule];simp[optToks,ha])) 1)
  rw[plainS_rule]
  cases wh with
  | none=>exact NB.app hact h59
  | some p =>
   have hu:=plainT_nb p.2 (hw.1 p.1 p.2 rfl).2 (fun a ha=>hm a (by
    rw[RSt.toks,RSt.body_rule]
    exact List.mem_append_left _ (List.mem_append_left _ (List.mem_cons_of_mem _ ha)))) 1
   exact NB.app (NB.sp (nb_all cWhen (by decide) (by decide)) (NB.sp hu hact)) h59
theorem polQ_nb{s:Txt}{L R:List RSt}(hp:PolicyOf s L R):NB (polQ L R):=by
 have hfit:=fits_of_pol hp
 have h10:NB [10]:=nb_all [10] (by decide) (by decide)
 have hflat:∀ (l:List RSt),(∀ q∈l,FitW' q)→l≠[]→NB ((l.map RSt.plainS).flatMap (fun y=>10 :: y)):=by
  intro l
  induction l with
  | nil=>intro _ h;exact absurd rfl h
  | cons a r ih =>
   intro h _
   have ha:NB (10 :: a.plainS):=NB.app h10 (plainS_nb (h a List.mem_cons_self))
   rw[List.map_cons,List.flatMap_cons]
   by_cases hr:r=[]
   ·subst hr;simpa using ha
   ·exact NB.app ha (ih (fun q hq=>h q (List.mem_cons_of_mem _ hq)) hr)
 have hR:NB (joinR (R.map RSt.plainS)):=by
  cases hx:R with
  | nil=>exact absurd hx hp.ne
  | cons a r =>
   subst hx
   have ha:=plainS_nb (hfit a (by simp))
   show NB (a.plainS++(r.map RSt.plainS).flatMap (fun y=>10 :: y))
   by_cases hr:r=[]
   ·subst hr;simpa using ha
   ·exact NB.app ha (hflat r (fun q hq=>hfit q (by simp[hq])) hr)
 have hL:∀ (l:List RSt),(∀ q∈l,FitW' q)→NB (catL (l.map RSt.plainS)++joinR (R.map RSt.plainS)):=by
  intro l
  induction l with
  | nil=>intro _;exact hR
  | cons a r ih =>
   intro h
   have e:catL ((a :: r).map RSt.plainS)++joinR (R.map RSt.plainS)=(a.plainS++[10])++(catL (r.map RSt.plainS)++joinR (R.map RSt.plainS)):=by
    show ((a.plainS++[10])++catL (r.map RSt.plainS))++_=_
    rw[List.append_assoc]
   rw[e]
   exact NB.app (NB.app (plainS_nb (h a List.mem_cons_self)) h10) (ih (fun q hq=>h q (List.mem_cons_of_mem _ hq)))
 exact hL L (fun q hq=>hfit q (by simp[hq]))
theorem dblB_at:∀ (t:Txt) (k:Nat),dblB t=false→t[k]?=some 32→t[k+1]?≠some 32
 | [],k,_,h=>by simp at h
 | [a],0,_,_=>by simp
 | [a],k+1,_,h=>by simp at h
 | a :: b :: r,0,hd,h=>by
  rw[dblB,Bool.or_eq_false_iff,Bool.and_eq_false_iff]at hd
  simp only[List.getElem?_cons_zero,Option.some.injEq]at h
  simp only[List.getElem?_cons_succ,List.getElem?_cons_zero,ne_eq,Option.some.injEq]
  rcases hd.1 with h1 | h1
  ·rw[h]at h1;simp at h1
  ·simpa using h1
 | a :: b :: r,k+1,hd,h=>by
  rw[dblB,Bool.or_eq_false_iff]at hd
  rw[List.getElem?_cons_succ]at h ⊢
  exact dblB_at (b :: r) k hd.2 h
end Go.Proofs.YtpcjadaeolkngaaGreatDoor
