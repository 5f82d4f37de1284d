/-
  The plain form of statements, read again; the names and the brackets among them; plain.
-/
import Derived.Test.YtpcjadaeolkngaaGreatDoorJ34
import Derived.Test.YtpcjadaeolkngaaGreatDoorJ36
import Derived.Test.YtpcjadaeolkngaaGreatDoorJ24
import Derived.Test.YtpcjadaeolkngaaGreatDoorJ26
set_option linter.unusedVariables false
set_option linter.unusedSimpArgs false
namespace Go.Proofs.YtpcjadaeolkngaaGreatDoor
open Go.Deep
def FitW'(s:RSt):Prop:=s.wf∧∀ a∈s.toks,TokT a.text∧mayT a.text=true
theorem act_sim(sc:Option Tr)(hw:∀ e,sc=some e→e.wf)(hm:∀ a∈optToks sc,TokT a.text∧mayT a.text=true)(pos:Nat):∃ (act:RTok) (sc':Option Tr),act.text=(if sc'.isSome then cScore else cReject)∧(∀ e,sc'=some e→e.wf)∧SimO sc sc'∧Toks (actB (sc.map (fun e=>e.plainT 1))) pos (act :: optToks sc')∧(∀ a∈optToks sc',mayT a.text=true):=by
 cases sc with
 | none=>exact ⟨⟨cReject,pos⟩,none,rfl,(fun e he=>by cases he),trivial,toks_one pos (by decide) (by decide) (by decide) (by decide),(fun a ha=>by cases ha)⟩
 | some e =>
  obtain ⟨e',S⟩:=sim_tree e (hw e rfl) hm 1 (by omega) (pos+6)
  exact ⟨⟨cScore,pos⟩,some e',rfl,(fun q hq=>by cases hq;exact S.wf),⟨_,S⟩,toks_app (l:=[⟨cScore,pos⟩]) (toks_one pos (by decide) (by decide) (by decide) (by decide)) (toks_blank1 S.toks) ⟨32,_,rfl,rfl⟩,S.may⟩
theorem act_may{act:RTok}{b:Bool}(h:act.text=(if b then cScore else cReject)):mayT act.text=true:=by
 rw[h];cases b <;> decide
theorem sim_stmt(s:RSt)(h:FitW' s)(pos:Nat):∃ s',SimS s s'∧NewS s' s.plainS pos:=by
 obtain ⟨hw,hm⟩:=h
 rcases s.cases with ⟨kw,name,eq,e,semi,rfl⟩ | ⟨wh,act,sc,semi,rfl⟩
 ·obtain ⟨w1,w2,w3,w4,w5⟩:=hw
  have hmn:=hm name (by rw[RSt.toks,RSt.body_let];simp)
  have hme:∀ a∈e.toks,TokT a.text∧mayT a.text=true:=fun a ha=>hm a (by rw[RSt.toks,RSt.body_let];simp[ha])
  obtain ⟨e',S⟩:=sim_tree e w4 hme 1 (by omega) (pos+4+name.text.length+1+2)
  have htk:Toks (cLet++32 :: (name.text++32 :: (cEq++32 :: e.plainT 1))) pos ([⟨cLet,pos⟩]++([⟨name.text,pos+4⟩]++([⟨cEq,pos+4+name.text.length+1⟩]++e'.toks))) :=
   toks_app (toks_one pos (by decide) (by decide) (by decide) (by decide)) (toks_blank1 (toks_app (toks_one _ hmn.1.ne hmn.1.bl hmn.1.run hmn.2) (toks_blank1 (toks_app (toks_one _ (by decide) (by decide) (by decide) (by decide)) (toks_blank1 S.toks) ⟨32,_,rfl,rfl⟩)) ⟨32,_,rfl,rfl⟩)) ⟨32,_,rfl,rfl⟩
  have hts:=toksH_semi htk
  refine ⟨RSt.letS ⟨cLet,pos⟩ ⟨name.text,pos+4⟩ ⟨cEq,pos+4+name.text.length+1⟩ e' ⟨cSemi,pos+(cLet++32 :: (name.text++32 :: (cEq++32 :: e.plainT 1))).length⟩,.inl ⟨kw,name,eq,e,semi,_,_,_,e',_,_,rfl,rfl,rfl,S⟩,⟨rfl,w2,rfl,S.wf,rfl⟩, ?_, ?_⟩
  ·have et:(RSt.letS kw name eq e semi).plainS=(cLet++32 :: (name.text++32 :: (cEq++32 :: e.plainT 1)))++[59]:=by
    show cLet++32 :: (name.text++32 :: (cEq++32 :: (e.plainT 1++[59])))=_
    simp
   rw[et]
   exact hts
  ·intro a ha
   rw[RSt.toks,RSt.body_let]at ha
   simp only[List.mem_append,List.mem_cons,List.mem_nil_iff,or_false]at ha
   rcases ha with (rfl | rfl | rfl | ha) | ha
   ·exact (show mayT cLet=true by decide)
   ·exact hmn.2
   ·exact (show mayT cEq=true by decide)
   ·exact S.may a ha
   ·subst ha;exact (show mayT cSemi=true by decide)
 ·obtain ⟨w1,w2,w3,w4⟩:=hw
  have hmc:∀ a∈optToks sc,TokT a.text∧mayT a.text=true:=fun a ha=>hm a (by rw[RSt.toks,RSt.body_rule];simp[ha])
  cases wh with
  | none =>
   obtain ⟨act',sc',a1,a2,a3,a4,a5⟩:=act_sim sc w3 hmc pos
   refine ⟨RSt.rule none act' sc' ⟨cSemi,pos+(actB (sc.map (fun e=>e.plainT 1))).length⟩,.inr ⟨none,act,sc,semi,none,act',sc',_,rfl,rfl,trivial,a3⟩,⟨(fun k e he=>by cases he),a1,a2,rfl⟩, ?_, ?_⟩
   ·rw[plainS_rule]
    exact toksH_semi a4
   ·intro a ha
    rw[RSt.toks,RSt.body_rule]at ha
    simp only[whToks,List.nil_append,List.mem_append,List.mem_cons,List.mem_nil_iff,or_false]at ha
    rcases ha with (rfl | ha) | ha
    ·exact act_may a1
    ·exact a5 a ha
    ·subst ha;exact (show mayT cSemi=true by decide)
  | some p =>
   obtain ⟨k,u⟩:=p
   have hmu:∀ a∈u.toks,TokT a.text∧mayT a.text=true:=fun a ha=>hm a (by
    rw[RSt.toks,RSt.body_rule]
    exact List.mem_append_left _ (List.mem_append_left _ (List.mem_cons_of_mem _ ha)))
   obtain ⟨u',U⟩:=sim_tree u (w1 k u rfl).2 hmu 1 (by omega) (pos+5)
   obtain ⟨act',sc',a1,a2,a3,a4,a5⟩:=act_sim sc w3 hmc (pos+5+(u.plainT 1).length+1)
   refine ⟨RSt.rule (some (⟨cWhen,pos⟩,u')) act' sc' ⟨cSemi,pos+(ruleB (some (u.plainT 1)) (sc.map (fun e=>e.plainT 1))).length⟩,.inr ⟨some (k,u),act,sc,semi,some (⟨cWhen,pos⟩,u'),act',sc',_,rfl,rfl,⟨_,U⟩,a3⟩,⟨(fun k e he=>by cases he;exact ⟨rfl,U.wf⟩),a1,a2,rfl⟩, ?_, ?_⟩
   ·rw[plainS_rule]
    have hT:Toks (ruleB (some (u.plainT 1)) (sc.map (fun e=>e.plainT 1))) pos ([⟨cWhen,pos⟩]++(u'.toks++(act' :: optToks sc'))) :=
     toks_app (toks_one pos (by decide) (by decide) (by decide) (by decide)) (toks_blank1 (toks_app U.toks (toks_blank1 a4) ⟨32,_,rfl,rfl⟩)) ⟨32,_,rfl,rfl⟩
    exact toksH_semi hT
   ·intro a ha
    rw[RSt.toks,RSt.body_rule]at ha
    simp only[whToks,List.mem_append,List.mem_cons,List.mem_nil_iff,or_false]at ha
    rcases ha with ((rfl | ha) | rfl | ha) | ha
    ·exact (show mayT cWhen=true by decide)
    ·exact U.may a ha
    ·exact act_may a1
    ·exact a5 a ha
    ·subst ha;exact (show mayT cSemi=true by decide)
theorem toksH_nl{a:Txt}{pos:Nat}{l:List RTok}(h:ToksH a pos l):ToksH (a++[10]) pos l:=fun rest=>by
 rw[List.append_assoc,h,List.singleton_append,toksR_cons,if_pos (by decide),List.length_append,Nat.add_assoc]
 rfl
theorem toksH_nl0{a:Txt}{pos:Nat}{l:List RTok}(h:ToksH a (pos+1) l):ToksH (10 :: a) pos l:=fun rest=>by
 rw[List.cons_append,toksR_cons,if_pos (by decide),h rest,List.length_cons]
 congr 2
 omega
structure NewL(l':List RSt)(txt:Txt)(pos:Nat):Prop where
 wf:∀ s∈l',s.wf
 toks:ToksH txt pos (toksL l')
 may:∀ a∈toksL l',mayT a.text=true
theorem newL_cons{s':RSt}{r':List RSt}{a b:Txt}{pos:Nat}(h1:s'.wf)(h2:ToksH a pos s'.toks)(h3:∀ q∈s'.toks,mayT q.text=true)(h:NewL r' b (pos+a.length)):NewL (s' :: r') (a++b) pos:=by
 refine ⟨fun q hq=>?_, ?_,fun q hq=>?_⟩
 ·rcases List.mem_cons.1 hq with rfl | hq
  ·exact h1
  ·exact h.wf q hq
 ·rw[toksL_cons]
  exact toksH_app h2 h.toks
 ·rw[toksL_cons,List.mem_append]at hq
  exact hq.elim (h3 q) (h.may q)
theorem newL_nil(pos:Nat):NewL [] [] pos:=⟨(fun s h=>by cases h),toksH_nil pos,(fun s h=>by cases h)⟩
theorem sim_lets:∀ (l:List RSt),(∀ s∈l,FitW' s)→∀ pos,∃ l',SimL l l'∧NewL l' (catL (l.map RSt.plainS)) pos
 | [],_,pos=>⟨[],trivial,newL_nil pos⟩
 | s :: r,h,pos=>by
  obtain ⟨s',S,n⟩:=sim_stmt s (h s List.mem_cons_self) pos
  obtain ⟨r',R,m⟩:=sim_lets r (fun q hq=>h q (List.mem_cons_of_mem _ hq)) (pos+(s.plainS++[10]).length)
  refine ⟨s' :: r',⟨S,R⟩, ?_⟩
  exact newL_cons n.wf (toksH_nl n.toks) n.may m
theorem sim_flat:∀ (l:List RSt),(∀ s∈l,FitW' s)→∀ pos,∃ l',SimL l l'∧NewL l' ((l.map RSt.plainS).flatMap (fun y=>10 :: y)) pos
 | [],_,pos=>⟨[],trivial,newL_nil pos⟩
 | s :: r,h,pos=>by
  obtain ⟨s',S,n⟩:=sim_stmt s (h s List.mem_cons_self) (pos+1)
  obtain ⟨r',R,m⟩:=sim_flat r (fun q hq=>h q (List.mem_cons_of_mem _ hq)) (pos+(10 :: s.plainS).length)
  refine ⟨s' :: r',⟨S,R⟩, ?_⟩
  exact newL_cons n.wf (toksH_nl0 n.toks) n.may m
theorem sim_rules(l:List RSt)(h:∀ s∈l,FitW' s)(pos:Nat):∃ l',SimL l l'∧NewL l' (joinR (l.map RSt.plainS)) pos:=by
 cases l with
 | nil=>exact ⟨[],trivial,newL_nil pos⟩
 | cons s r =>
  obtain ⟨s',S,n⟩:=sim_stmt s (h s List.mem_cons_self) pos
  obtain ⟨r',R,m⟩:=sim_flat r (fun q hq=>h q (List.mem_cons_of_mem _ hq)) (pos+s.plainS.length)
  exact ⟨s' :: r',⟨S,R⟩,newL_cons n.wf n.toks n.may m⟩
def nmE(there:List Txt)(l:List RTok):Prop:=∀ a∈l,nameT a.text=true→there.contains a.text=true
def NamesOk:List Txt→List RSt→Prop
 | _,[]=>True
 | there,s :: r=>Sum.elim (fun d:LetD=>there.contains d.name.text=false∧nmE there d.e.toks∧NamesOk (there++[d.name.text]) r) (fun d:RuleD=>nmE there (optToks (d.wh.map Prod.snd))∧nmE there (optToks d.sc)∧NamesOk there r) s
theorem nm_expr{there:List Txt}{late:Txt}(r:List RTok):∀ (l:List RTok) (prev:Txt),prev≠cLet→(∀ a∈l,a.text≠cSemi∧a.text≠cLet)→∃ prev',prev'≠cLet∧(namesGo there late prev (l++r)=none↔(nmE there l∧namesGo there late prev' r=none))
 | [],prev,hp,_=>⟨prev,hp,by simp[nmE]⟩
 | t :: l,prev,hp,h=>by
  obtain ⟨h1,h2⟩:=h t List.mem_cons_self
  obtain ⟨p',hp',ih⟩:=nm_expr r l t.text h2 (fun a ha=>h a (List.mem_cons_of_mem _ ha))
  refine ⟨p',hp', ?_⟩
  cases hx:nameT t.text with
  | false =>
   rw[List.cons_append,names_skip hx h1,ih]
   constructor
   ·rintro ⟨g1,g2⟩
    refine ⟨fun a ha hn=>?_,g2⟩
    rcases List.mem_cons.1 ha with rfl | ha
    ·rw[hx]at hn;cases hn
    ·exact g1 a ha hn
   ·rintro ⟨g1,g2⟩
    exact ⟨fun a ha hn=>g1 a (List.mem_cons_of_mem _ ha) hn,g2⟩
  | true =>
   obtain ⟨e1,e2⟩:=thereN_no (there:=there) (late:=late) (t:=t.text) (.inl (by simpa using h1))
   have hpl:(prev==cLet)=false:=by simpa using hp
   rw[List.cons_append,namesGo,hx,if_pos rfl,e1,e2,hpl]
   cases hc:there.contains t.text with
   | false =>
    simp only[beq_self_eq_true,if_true]
    constructor
    ·intro hh;cases hh
    ·rintro ⟨g1,_⟩
     have:=g1 t List.mem_cons_self hx
     rw[hc]at this
     cases this
   | true =>
    simp only[Bool.true_eq_false,beq_false,Bool.not_true,Bool.false_eq_true,if_false]
    rw[ih]
    constructor
    ·rintro ⟨g1,g2⟩
     refine ⟨fun a ha hn=>?_,g2⟩
     rcases List.mem_cons.1 ha with rfl | ha
     ·exact hc
     ·exact g1 a ha hn
    ·rintro ⟨g1,g2⟩
     exact ⟨fun a ha hn=>g1 a (List.mem_cons_of_mem _ ha) hn,g2⟩
open Go.RowKit
def polQ(L R:List RSt):Txt:=catL (L.map RSt.plainS)++joinR (R.map RSt.plainS)
def LetOk(nv:Value)(N:List PNode)(p:PLet)(X:Txt):Prop:=∀ w,Reads w nv N.length (cellsN N)→Calls Tryz.prog 44 #[nv,letLA p] w fun e w'=>e=.returned (.string (bsOf X))∧Below w.heap.size w w'
def RulOk(nv:Value)(N:List PNode)(p:PRule)(X:Txt):Prop:=∀ w,Reads w nv N.length (cellsN N)→Calls Tryz.prog 45 #[nv,ruleLA p] w fun e w'=>e=.returned (.string (bsOf X))∧Below w.heap.size w w'
def FitS(s:RSt):Prop:=s.wf∧s.may∧s.body.length≤400
theorem tree_small{t:Tr}(h:t.wf)(hm:∀ a∈t.toks,mayT a.text=true)(hl:t.toks.length≤400)(lv:Nat):(t.plainT lv).length≤12000:=by
 have:=plainT_len t h (fun a ha=>may_18 (hm a ha)) lv
 omega
theorem let_ok(nv:Value)(N:List PNode)(hN:N.length≤401){kw name eq semi:RTok}{e:Tr}(hs:FitS (RSt.letS kw name eq e semi))(b:Nat)(hl:LiesAt N b (e.flat b))(hb:b+e.num≤N.length) :
  LetOk nv N ⟨name,layE b e⟩ (RSt.letS kw name eq e semi).plainS∧(RSt.letS kw name eq e semi).plainS.length≤40000:=by
 obtain ⟨hw,hm,hlen⟩:=hs
 have hwe:e.wf:=hw.2.2.2.1
 rw[RSt.body_let]at hlen
 simp only[List.length_cons]at hlen
 have hme:∀ a∈e.toks,mayT a.text=true:=fun a ha=>hm a (by rw[RSt.body_let];simp[ha])
 have hn:=may_18 (hm name (by rw[RSt.body_let];simp))
 have hz:=tree_small hwe hme (by omega) 1
 refine ⟨fun w hr=>letLine_any nv N ⟨name,layE b e⟩ (e.plainT 1) hn (by omega) (expr_tree nv N hN e hwe b hl hb hme (by omega)) w hr, ?_⟩
 show (cLet++32 :: (name.text++32 :: (cEq++32 :: (e.plainT 1++[59])))).length≤40000
 simp only[List.length_append,List.length_cons,List.length_nil]
 have:cLet.length=3:=rfl
 have:cEq.length=1:=rfl
 omega
theorem opt_fit{o:Option Tr}{N:List PNode}{b:Nat}{nv:Value}(hN:N.length≤401)(hw:∀ e,o=some e→e.wf)(hm:∀ a∈optToks o,mayT a.text=true)(hlen:(optToks o).length≤400)(hl:LiesAt N b (optNodes b o))(hb:b+optNum o≤N.length):∀ e,o=some e→ExprIs nv N (optE b o) (e.plainT 1)∧(e.plainT 1).length≤12000:=by
 intro e he
 subst he
 exact ⟨expr_tree nv N hN e (hw e rfl) b hl hb hm hlen,tree_small (hw e rfl) hm hlen 1⟩
theorem rule_ok(nv:Value)(N:List PNode)(hN:N.length≤401){wh:Option (RTok×Tr)}{act semi:RTok}{sc:Option Tr}(hs:FitS (RSt.rule wh act sc semi))(b:Nat)(hl:LiesAt N b ((RSt.rule wh act sc semi).nodes b))(hb:b+(RSt.rule wh act sc semi).num≤N.length) :
  RulOk nv N ⟨wh.isSome,optE b (wh.map Prod.snd),sc.isSome,optE (b+optNum (wh.map Prod.snd)) sc⟩ (RSt.rule wh act sc semi).plainS∧(RSt.rule wh act sc semi).plainS.length≤40000:=by
 obtain ⟨hw,hm,hlen⟩:=hs
 obtain ⟨hw1,_,hw2,_⟩:=hw
 rw[RSt.body_rule]at hlen
 rw[RSt.nodes_rule]at hl
 rw[RSt.num_rule]at hb
 simp only[List.length_append,List.length_cons]at hlen
 have hwo:∀ e,wh.map Prod.snd=some e→e.wf:=fun e he=>by
  cases wh with
  | none=>cases he
  | some p=>cases he;exact (hw1 p.1 p.2 rfl).2
 have hmw:∀ a∈optToks (wh.map Prod.snd),mayT a.text=true:=fun a ha=>hm a (by
  rw[RSt.body_rule]
  cases wh with
  | none=>cases ha
  | some p=>exact List.mem_append_left _ (List.mem_cons_of_mem _ ha))
 have hmc:∀ a∈optToks sc,mayT a.text=true:=fun a ha=>hm a (by rw[RSt.body_rule];simp[ha])
 have hlw:(optToks (wh.map Prod.snd)).length≤400:=by
  cases wh with
  | none=>simp[optToks]
  | some p =>
   have:(whToks (some p)).length=p.2.toks.length+1:=rfl
   show p.2.toks.length≤400
   omega
 have hl2:=hl.right
 rw[optNodes_len _ hwo]at hl2
 have fw:=opt_fit (o:=wh.map Prod.snd) (nv:=nv) (b:=b) hN hwo hmw hlw hl.left (by omega)
 have fs:=opt_fit (o:=sc) (nv:=nv) (b:=b+optNum (wh.map Prod.snd)) hN hw2 hmc (by omega) hl2 (by omega)
 have e1:cWhen.length=4:=rfl
 have e2:cScore.length=5:=rfl
 have e3:cReject.length=6:=rfl
 cases wh with
 | none =>
  cases sc with
  | none =>
   refine ⟨fun w hr=>ruleLine_nr nv N ⟨false,noExp,false,noExp⟩ rfl rfl w hr, ?_⟩
   show (([]:Txt)++(cReject++[59])).length≤40000
   simp only[List.length_append,List.length_cons,List.length_nil]
   omega
  | some f =>
   obtain ⟨g1,g2⟩:=fs f rfl
   refine ⟨fun w hr=>ruleLine_ns nv N ⟨false,noExp,true,optE (b+0) (some f)⟩ rfl rfl (f.plainT 1) (by omega) g1 w hr, ?_⟩
   show (([]:Txt)++(cScore++32 :: (f.plainT 1++[59]))).length≤40000
   simp only[List.length_append,List.length_cons,List.length_nil]
   omega
 | some p =>
  obtain ⟨k1,k2⟩:=fw p.2 rfl
  cases sc with
  | none =>
   refine ⟨fun w hr=>ruleLine_wr nv N ⟨true,optE b (some p.2),false,noExp⟩ rfl rfl (p.2.plainT 1) (by omega) k1 w hr, ?_⟩
   show ((cWhen++32 :: (p.2.plainT 1++[32]))++(cReject++[59])).length≤40000
   simp only[List.length_append,List.length_cons,List.length_nil]
   omega
  | some f =>
   obtain ⟨g1,g2⟩:=fs f rfl
   refine ⟨fun w hr=>ruleLine_ws nv N ⟨true,optE b (some p.2),true,optE (b+p.2.num) (some f)⟩ rfl rfl (p.2.plainT 1) (by omega) k1 (f.plainT 1) (by omega) g1 w hr, ?_⟩
   show ((cWhen++32 :: (p.2.plainT 1++[32]))++(cScore++32 :: (f.plainT 1++[59]))).length≤40000
   simp only[List.length_append,List.length_cons,List.length_nil]
   omega
theorem letsLn(nv:Value)(N:List PNode)(hN:N.length≤401):∀ (L:List RSt),isLetL' L→(∀ s∈L,FitS s)→∀ b,LiesAt N b (nodesS b L)→b+numS L≤N.length→∀ (i:Nat) (p:PLet),(letsS b L)[i]?=some p→∃ X,(L.map RSt.plainS)[i]?=some X∧LetOk nv N p X∧X.length≤40000
 | [],_,_,b,_,_,i,p,h=>by simp[letsS]at h
 | s :: r,hlet,hf,b,hl,hb,i,p,h=>by
  rcases s.cases with ⟨kw,name,eq,e,semi,rfl⟩ | ⟨wh,act,sc,semi,rfl⟩
  ·have hfs:=hf _ List.mem_cons_self
   rw[nodesS,RSt.nodes_let]at hl
   rw[numS,RSt.num_let]at hb
   rw[letsS,RSt.lets_let,List.singleton_append]at h
   have hl2:=hl.right
   rw[e.flat_len hfs.1.2.2.2.1]at hl2
   cases i with
   | zero =>
    simp only[List.getElem?_cons_zero,Option.some.injEq]at h
    subst h
    obtain ⟨g1,g2⟩:=let_ok nv N hN hfs b hl.left (by omega)
    exact ⟨_,rfl,g1,g2⟩
   | succ i =>
    simp only[List.getElem?_cons_succ]at h
    exact letsLn nv N hN r (fun q hq=>hlet q (List.mem_cons_of_mem _ hq)) (fun q hq=>hf q (List.mem_cons_of_mem _ hq)) (b+e.num) hl2 (by omega) i p h
  ·exact absurd (hlet _ List.mem_cons_self) (by simp[RSt.isLet,RSt.rule])
theorem rulesLn(nv:Value)(N:List PNode)(hN:N.length≤401):∀ (L:List RSt),isRuleL' L→(∀ s∈L,FitS s)→∀ b,LiesAt N b (nodesS b L)→b+numS L≤N.length→∀ (i:Nat) (p:PRule),(rulesS b L)[i]?=some p→∃ X,(L.map RSt.plainS)[i]?=some X∧RulOk nv N p X∧X.length≤40000
 | [],_,_,b,_,_,i,p,h=>by simp[rulesS]at h
 | s :: r,hlet,hf,b,hl,hb,i,p,h=>by
  rcases s.cases with ⟨kw,name,eq,e,semi,rfl⟩ | ⟨wh,act,sc,semi,rfl⟩
  ·exact absurd (hlet _ List.mem_cons_self) (by simp[RSt.isLet,RSt.letS])
  ·have hfs:=hf _ List.mem_cons_self
   rw[nodesS]at hl
   rw[numS]at hb
   rw[rulesS,RSt.rules_rule,List.singleton_append]at h
   have hl2:=hl.right
   rw[RSt.nodes_len _ hfs.1]at hl2
   cases i with
   | zero =>
    simp only[List.getElem?_cons_zero,Option.some.injEq]at h
    subst h
    obtain ⟨g1,g2⟩:=rule_ok nv N hN hfs b hl.left (by omega)
    exact ⟨_,rfl,g1,g2⟩
   | succ i =>
    simp only[List.getElem?_cons_succ]at h
    exact rulesLn nv N hN r (fun q hq=>hlet q (List.mem_cons_of_mem _ hq)) (fun q hq=>hf q (List.mem_cons_of_mem _ hq)) (b+(RSt.rule wh act sc semi).num) hl2 (by omega) i p h
theorem rules_len:∀ (L:List RSt),isRuleL' L→∀ b,(rulesS b L).length=L.length
 | [],_,_=>rfl
 | s :: r,h,b=>by
  rcases s.cases with ⟨kw,name,eq,e,semi,rfl⟩ | ⟨wh,act,sc,semi,rfl⟩
  ·exact absurd (h _ List.mem_cons_self) (by simp[RSt.isLet,RSt.letS])
  ·rw[rulesS,RSt.rules_rule,List.singleton_append,List.length_cons,List.length_cons,rules_len r (fun q hq=>h q (List.mem_cons_of_mem _ hq))]
theorem fit_all{s:Txt}{L R:List RSt}(h:PolicyOf s L R):∀ q∈L++R,FitS q:=by
 intro q hq
 refine ⟨h.wf q hq,fun t ht=>h.may t ?_, ?_⟩
 ·rw[toksL,List.mem_flatMap]
  exact ⟨q,hq,by rw[RSt.toks];simp[ht]⟩
 ·have h1:=h.short
  have:q.toks.length≤(toksL (L++R)).length:=by
   rw[toksL]
   exact List.Sublist.length_le (by
    obtain ⟨a,b,e⟩:=List.append_of_mem hq
    rw[e,List.flatMap_append,List.flatMap_cons]
    exact (List.sublist_append_left _ _).trans (List.sublist_append_right _ _))
  rw[RSt.toks_length]at this
  omega
theorem stmts_few{s:Txt}{L R:List RSt}(h:PolicyOf s L R):L.length+R.length≤400:=by
 have h1:=h.short
 have:∀ l:List RSt,l.length≤(toksL l).length:=by
  intro l
  induction l with
  | nil=>exact Nat.le_refl _
  | cons a r ih=>rw[toksL_cons,List.length_append,RSt.toks_length,List.length_cons];omega
 have:=this (L++R)
 rw[List.length_append]at this
 omega
theorem Text_pol{s:Txt}{L R:List RSt}(h:PolicyOf s L R)(hN:(nodesS 0 (L++R)).length≤401)(nv lv rv:Value)(w:World)(hn:Reads w nv (nodesS 0 (L++R)).length (cellsN (nodesS 0 (L++R))))(hl:Reads w lv (letsS 0 (L++R)).length (cellsLt (letsS 0 (L++R))))(hr:Reads w rv (rulesS 0 (L++R)).length (cellsU (rulesS 0 (L++R)))) :
  Calls Tryz.prog 23 #[.agg #[nv,lv,rv]] w fun e w'=>e=.returned (.string (bsOf (polQ L R)))∧Below w.heap.size w w':=by
 have hwL:∀ q∈L,q.wf:=fun q hq=>h.wf q (by simp[hq])
 have hwR:∀ q∈R,q.wf:=fun q hq=>h.wf q (by simp[hq])
 have hf:=fit_all h
 have h1:letsS 0 (L++R)=letsS 0 L:=by rw[letsS_append,lets_none R h.rules,List.append_nil]
 have h2:rulesS 0 (L++R)=rulesS (numS L) R:=by rw[rulesS_append,rules_none L h.lets,List.nil_append,Nat.zero_add]
 have hl0:LiesAt (nodesS 0 (L++R)) 0 (nodesS 0 (L++R)):=fun k n hk=>by rw[Nat.zero_add];exact hk
 have hl1:LiesAt (nodesS 0 (L++R)) 0 (nodesS 0 L++nodesS (numS L) R):=by
  have e:=nodesS_append L R 0
  rw[Nat.zero_add]at e
  rw[← e];exact hl0
 have hlR:=hl1.right
 rw[nodesS_len L hwL 0,Nat.zero_add]at hlR
 have hnum:(nodesS 0 (L++R)).length=numS L+numS R:=by rw[nodesS_len _ h.wf,numS_append]
 have hfew:=stmts_few h
 have kL:=letsLn nv (nodesS 0 (L++R)) hN L h.lets (fun q hq=>hf q (by simp[hq])) 0 hl1.left (by omega)
 have kR:=rulesLn nv (nodesS 0 (L++R)) hN R h.rules (fun q hq=>hf q (by simp[hq])) (numS L) hlR (by omega)
 have lL:(letsS 0 L).length=L.length:=lets_len L h.lets 0
 have lR:(rulesS (numS L) R).length=R.length:=rules_len R h.rules (numS L)
 rw[h1]at hl
 rw[h2]at hr
 refine Text_any nv lv rv (nodesS 0 (L++R)) (letsS 0 L) (rulesS (numS L) R) (L.map RSt.plainS) (R.map RSt.plainS) (by omega) (by omega) (by simp[lL]) (by simp[lR]) (fun x hx=>?_) (fun x hx=>?_) (fun i hi=>?_) (fun i hi=>?_) w hn hl hr
 ·obtain ⟨i,hi,rfl⟩:=List.getElem_of_mem hx
  obtain ⟨X,e1,_,e3⟩:=kL i _ (List.getElem?_eq_getElem (by rw[lL];simpa using hi))
  rw[List.getElem?_eq_getElem hi]at e1
  rw[Option.some.inj e1]
  exact e3
 ·obtain ⟨i,hi,rfl⟩:=List.getElem_of_mem hx
  obtain ⟨X,e1,_,e3⟩:=kR i _ (List.getElem?_eq_getElem (by rw[lR];simpa using hi))
  rw[List.getElem?_eq_getElem hi]at e1
  rw[Option.some.inj e1]
  exact e3
 ·obtain ⟨X,e1,e2,_⟩:=kL i _ (List.getElem?_eq_getElem hi)
  rw[List.getElem?_eq_getElem (by simp;omega)]at e1
  rw[Option.some.inj e1]
  exact e2
 ·obtain ⟨X,e1,e2,_⟩:=kR i _ (List.getElem?_eq_getElem hi)
  rw[List.getElem?_eq_getElem (by simp;omega)]at e1
  rw[Option.some.inj e1]
  exact e2
set_option maxHeartbeats 2000000 in
theorem Print_any(s:ByteArray)(hz:s.size≤maxLen)(w:World)(hg:GlobT w) :
  Calls Tryz.prog 7 #[.string s] w fun e w'=>Below w.heap.size w w'∧((∃ c p,tokened s.toList=.bad c p∧c≠0∧e=.returned (.tuple #[.string ⟨#[]⟩,.int .i64 c,.int .i64 (p:Nat)]))∨(∃ L R,PolicyOf s.toList L R∧e=.returned (.tuple #[.string (bsOf (polQ L R)),.int .i64 0,.int .i64 0]))):=by
 have HRD:Hid (Calls Tryz.prog 22 #[.string s] w fun e w'=>Below w.heap.size w w'∧((∃ c p,tokened s.toList=.bad c p∧c≠0∧e=.returned (.tuple #[.agg #[nilS,nilS,nilS],.int .i64 c,.int .i64 (p:Nat)]))∨(∃ L R na nc la lc ra rc,PolicyOf s.toList L R∧e=.returned (.tuple #[.agg #[.slice na (nodesS 0 (L++R)).length nc,.slice la (letsS 0 (L++R)).length lc,.slice ra (rulesS 0 (L++R)).length rc],.int .i64 0,.int .i64 0])∧PolMem w' w.heap.size (.slice na (nodesS 0 (L++R)).length nc) (.slice la (letsS 0 (L++R)).length lc) (.slice ra (rulesS 0 (L++R)).length rc) L R))):=by
  refine (Read_any s _ hg hz).mono ?_
  rintro e w1 ⟨hb1,h | ⟨L,R,nv,lv,rv,h1,rfl,h2⟩⟩
  ·exact ⟨hb1,.inl h⟩
  ·obtain ⟨na,nc,rfl⟩:=(reads_of_own h2.ond).shape
   obtain ⟨la,lc,rfl⟩:=(reads_of_own h2.olt).shape
   obtain ⟨ra,rc,rfl⟩:=(reads_of_own h2.orl).shape
   exact ⟨hb1,.inr ⟨L,R,na,nc,la,lc,ra,rc,h1,rfl,h2⟩⟩
 clear hg
 go_enter Tryz.func7,Tryz.ntmps7
 go_upto_region 2 with (go_at_call 22;refine HRD.out.mono ?_;rintro e w1 ⟨hb1,⟨c,p,h1,h2,rfl⟩ | ⟨L,R,na,nc,la,lc,ra,rc,h1,rfl,h2⟩⟩)
 ·have HBL:=mH (ag_step hb1 (box3 w1 (.cells #[nilS,nilS,nilS] 73)))
  have H1:=mH h1
  have H2:=mH h2
  have q1:(c==0)=false:=by simpa using h2
  have q2:(c != 0)=true:=by simpa using h2
  clear h1 h2 hb1
  go_wp2
  go_ret3
  exact ⟨HBL.out,.inl ⟨c,p,H1.out,H2.out,rfl⟩⟩
 ·have hnn:(nodesS 0 (L++R)).length≤401:=by
   have a1:=stmts_num (L++R) h1.wf
   have a2:=nodesS_len (L++R) h1.wf 0
   have a3:=h1.short
   omega
  have hbx:=box3 w1 (.cells #[.slice na (nodesS 0 (L++R)).length nc,.slice la (letsS 0 (L++R)).length lc,.slice ra (rulesS 0 (L++R)).length rc] 73)
  have HT:Hid (∀ wx,Below (w1.alloc (.cells #[.slice na (nodesS 0 (L++R)).length nc,.slice la (letsS 0 (L++R)).length lc,.slice ra (rulesS 0 (L++R)).length rc] 73)).heap.size (w1.alloc (.cells #[.slice na (nodesS 0 (L++R)).length nc,.slice la (letsS 0 (L++R)).length lc,.slice ra (rulesS 0 (L++R)).length rc] 73)) wx→Calls Tryz.prog 23 #[.agg #[.slice na (nodesS 0 (L++R)).length nc,.slice la (letsS 0 (L++R)).length lc,.slice ra (rulesS 0 (L++R)).length rc]] wx fun e w'=>e=.returned (.string (bsOf (polQ L R)))∧Below wx.heap.size wx w'):=mH (fun wx hb=>Text_pol h1 hnn _ _ _ wx (((reads_of_own h2.ond).alloc _).below hb) (((reads_of_own h2.olt).alloc _).below hb) (((reads_of_own h2.orl).alloc _).below hb))
  have HB:=mH (Blk.new w1 #[.slice na (nodesS 0 (L++R)).length nc,.slice la (letsS 0 (L++R)).length lc,.slice ra (rulesS 0 (L++R)).length rc] 73)
  have HBL:=mH (ag_step hb1 hbx)
  have H1:=mH h1
  clear h1 h2 hb1 hbx hnn
  generalize (nodesS 0 (L++R)).length=nn at *
  generalize (letsS 0 (L++R)).length=ln at *
  generalize (rulesS 0 (L++R)).length=rn at *
  generalize w1.alloc (.cells #[.slice na nn nc,.slice la ln lc,.slice ra rn rc] 73)=W at HT HB HBL ⊢
  have c:=HB.out.cell
  go_wp2_with (go_at_call 23;refine (HT.out _ (Below.refl _ _)).mono ?_;rintro e w2 ⟨rfl,hb⟩;replace HBL:=mH (ag_step HBL.out hb);clear hb)
  go_ret3
  exact ⟨HBL.out,.inr ⟨L,R,H1.out,rfl⟩⟩
end Go.Proofs.YtpcjadaeolkngaaGreatDoor
