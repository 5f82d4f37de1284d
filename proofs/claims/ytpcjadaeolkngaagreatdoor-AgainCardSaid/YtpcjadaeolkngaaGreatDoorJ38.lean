/-
  A policy's plain form is a policy, which says the same, and is its own plain form; plain.
-/
import Derived.Test.YtpcjadaeolkngaaGreatDoorJ37
import Derived.Test.YtpcjadaeolkngaaGreatDoorJ18
import Derived.Test.YtpcjadaeolkngaaGreatDoorJ07
import Derived.BigQuiet
set_option linter.unusedVariables false
set_option linter.unusedSimpArgs false
namespace Go.Proofs.YtpcjadaeolkngaaGreatDoor
open Go.Deep
theorem opt_plain2(o:Option Tr)(ho:∀ e,o=some e→e.wf):∀ x∈optToks o,x.text≠cSemi∧x.text≠cLet:=fun x hx=>⟨(opt_plain o ho x hx).1,(opt_plain o ho x hx).2.1⟩
theorem names_char:∀ (l:List RSt),(∀ s∈l,s.wf)→∀ (there:List Txt) (prev:Txt),prev≠cLet→(namesGo there [] prev (toksL l)=none↔NamesOk there l)
 | [],_,there,prev,_=>by simp[toksL,namesGo,NamesOk]
 | s :: r,hw,there,prev,hp=>by
  have hwr:∀ q∈r,q.wf:=fun q hq=>hw q (List.mem_cons_of_mem _ hq)
  rcases s.cases with ⟨kw,name,eq,e,semi,rfl⟩ | ⟨wh,act,sc,semi,rfl⟩
  ·obtain ⟨w1,w2,w3,w4,w5⟩:=hw _ List.mem_cons_self
   have ih:=names_char r hwr (there++[name.text]) cSemi (by decide)
   have htk:toksL (RSt.letS kw name eq e semi :: r)=kw :: name :: eq :: (e.toks++(semi :: toksL r)):=by
    rw[toksL_cons,RSt.toks,RSt.body_let]
    simp
    rfl
   have hne:(name.text==[])=false:=by
    cases hx:name.text with
    | nil=>rw[hx]at w2;exact absurd w2 (by decide)
    | cons a b=>rfl
   obtain ⟨e1,e2⟩:=thereN_no (there:=there) (late:=[]) (t:=name.text) (.inr rfl)
   rw[htk,names_skip0 (by rw[w1];decide),w1,namesGo,w2,if_pos rfl,e1,e2]
   show _↔(there.contains name.text=false∧nmE there e.toks∧NamesOk (there++[name.text]) r)
   cases hc:there.contains name.text with
   | true=>simp
   | false =>
    have q1:(false==(cLet==cLet))=false:=by decide
    have q2:(cLet==cLet)=true:=by decide
    rw[q1,q2]
    simp only[Bool.false_eq_true,if_false,if_true]
    rw[names_skip (by rw[w3];decide) (by rw[w3];decide),w3]
    obtain ⟨p',hp',h1⟩:=nm_expr (there:=there) (late:=name.text) (semi :: toksL r) e.toks cEq (by decide) (fun a ha=>⟨(e.plain w4 a ha).1,(e.plain w4 a ha).2.1⟩)
    rw[h1,namesGo,w5,if_neg (by decide)]
    obtain ⟨f1,f2⟩:=thereN_semi (there:=there) (late:=name.text) (t:=cSemi) (by decide) hne
    rw[f1,f2,ih]
    simp
  ·obtain ⟨w1,w2,w3,w4⟩:=hw _ List.mem_cons_self
   have ih:=names_char r hwr there cSemi (by decide)
   have hact:act.text=cScore∨act.text=cReject:=by rw[w2];split <;> simp
   have hna:nameT act.text=false∧act.text≠cLet:=by rcases hact with h | h <;> rw[h] <;> decide
   have tail:∀ prev,prev≠cLet→(namesGo there [] prev (act :: (optToks sc++(semi :: toksL r)))=none↔(nmE there (optToks sc)∧NamesOk there r)):=by
    intro prev hp
    rw[names_skip0 hna.1]
    obtain ⟨p',hp',h1⟩:=nm_expr (there:=there) (late:=[]) (semi :: toksL r) (optToks sc) act.text hna.2 (opt_plain2 sc w3)
    rw[h1,names_skip0 (by rw[w4];decide),w4,ih]
   show _↔(nmE there (optToks (wh.map Prod.snd))∧nmE there (optToks sc)∧NamesOk there r)
   cases wh with
   | none =>
    have htk:toksL (RSt.rule none act sc semi :: r)=act :: (optToks sc++(semi :: toksL r)):=by
     rw[toksL_cons,RSt.toks,RSt.body_rule]
     simp[whToks]
     rfl
    rw[htk,tail prev hp]
    simp[optToks,nmE]
   | some p =>
    obtain ⟨k,u⟩:=p
    obtain ⟨wk,wu⟩:=w1 k u rfl
    have htk:toksL (RSt.rule (some (k,u)) act sc semi :: r)=k :: (u.toks++(act :: (optToks sc++(semi :: toksL r)))):=by
     rw[toksL_cons,RSt.toks,RSt.body_rule]
     simp[whToks]
     rfl
    rw[htk,names_skip0 (by rw[wk];decide)]
    obtain ⟨p',hp',h1⟩:=nm_expr (there:=there) (late:=[]) (act :: (optToks sc++(semi :: toksL r))) u.toks k.text (by rw[wk];decide) (fun a ha=>⟨(u.plain wu a ha).1,(u.plain wu a ha).2.1⟩)
    rw[h1,tail p' hp']
    rfl
theorem simO_names{o o':Option Tr}(h:SimO o o'){there:List Txt}(hn:nmE there (optToks o)):nmE there (optToks o'):=by
 cases o <;> cases o' <;> first | exact hn | exact h.elim | skip
 obtain ⟨pos,S⟩:=h
 intro a ha hx
 obtain ⟨b,hb,he⟩:=S.nam a ha hx
 rw[← he]
 exact hn b hb (by rw[he];exact hx)
theorem simL_names:∀ {l l':List RSt} {there:List Txt},SimL l l'→NamesOk there l→NamesOk there l'
 | [],[],_,_,h=>h
 | s :: r,s' :: r',there,h,hn=>by
  rcases h.1 with ⟨kw,name,eq,e,semi,kw',name',eq',e',semi',pos,rfl,rfl,hname,S⟩ | ⟨wh,act,sc,semi,wh',act',sc',semi',rfl,rfl,h1,h2⟩
  ·obtain ⟨n1,n2,n3⟩:=hn
   refine ⟨by show there.contains name'.text=false;rw[hname];exact n1,simO_names (o:=some e) (o':=some e') ⟨pos,S⟩ n2, ?_⟩
   show NamesOk (there++[name'.text]) r'
   rw[hname]
   exact simL_names h.2 n3
  ·obtain ⟨n1,n2,n3⟩:=hn
   exact ⟨simO_names h1 n1,simO_names h2 n2,simL_names h.2 n3⟩
 | [],_ :: _,_,h,_=>h.elim
 | _ :: _,[],_,h,_=>h.elim
def depO(o:Option Tr):Prop:=∀ e,o=some e→depT e≤8
def DepS(s:RSt):Prop:=Sum.elim (fun d:LetD=>depT d.e≤8) (fun d:RuleD=>depO (d.wh.map Prod.snd)∧depO d.sc) s
theorem simO_dep{o o':Option Tr}(h:SimO o o')(hw:∀ e,o=some e→e.wf)(hd:depO o):depO o':=by
 cases o <;> cases o' <;> first | exact hd | exact h.elim | skip
 obtain ⟨pos,S⟩:=h
 rename_i t t'
 intro e he
 cases he
 have h1:=hd t rfl
 have h2:=S.dep
 have h3:1≤t.level:=by
  rcases Tr.cases t (hw t rfl) with ⟨a,rfl⟩ | ⟨op,e,rfl⟩ | ⟨op,l,r,rfl⟩ | ⟨o,e,c,rfl⟩
  ·rw[Tr.level_leaf];omega
  ·rw[Tr.level_un];omega
  ·rw[Tr.level_bin];exact (Tr.wf_bin (hw _ rfl)).1
  ·rw[Tr.level_par];omega
 rw[if_neg (by omega)]at h2
 omega
theorem simS_dep{s s':RSt}(h:SimS s s')(hw:s.wf)(hd:DepS s):DepS s':=by
 rcases h with ⟨kw,name,eq,e,semi,kw',name',eq',e',semi',pos,rfl,rfl,hn,S⟩ | ⟨wh,act,sc,semi,wh',act',sc',semi',rfl,rfl,h1,h2⟩
 ·exact simO_dep (o:=some e) (o':=some e') ⟨pos,S⟩ (fun q hq=>by cases hq;exact hw.2.2.2.1) (fun q hq=>by cases hq;exact hd) e' rfl
 ·exact ⟨simO_dep h1 (fun e he=>by
   cases wh with
   | none=>cases he
   | some p=>cases he;exact (hw.1 p.1 p.2 rfl).2) hd.1,simO_dep h2 hw.2.2.1 hd.2⟩
theorem simL_dep:∀ {l l':List RSt},SimL l l'→(∀ s∈l,s.wf)→(∀ s∈l,DepS s)→∀ s∈l',DepS s
 | [],[],_,_,_=>fun s hs=>by cases hs
 | s :: r,s' :: r',h,hw,hd=>fun q hq=>by
  rcases List.mem_cons.1 hq with rfl | hq
  ·exact simS_dep h.1 (hw _ List.mem_cons_self) (hd _ List.mem_cons_self)
  ·exact simL_dep h.2 (fun z hz=>hw z (List.mem_cons_of_mem _ hz)) (fun z hz=>hd z (List.mem_cons_of_mem _ hz)) q hq
 | [],_ :: _,h,_,_=>h.elim
 | _ :: _,[],h,_,_=>h.elim
theorem tree_go{t:Tr}(h:t.wf)(hm:∀ a∈t.toks,mayT a.text=true)(xx:Nat)(r:List RTok):(depT t≤8→goS ⟨3,xx,0⟩ (t.toks++r)=goS ⟨4,xx,0⟩ r)∧((∃ q,goS ⟨3,xx,0⟩ (t.toks++r)=.ok q)→depT t≤8):=by
 obtain ⟨g1,g2⟩:=go_dep t h hm xx 0
 refine ⟨fun hd=>goS_ok (g1 (by omega)),fun ⟨q,hq⟩=>?_⟩
 refine Decidable.byContradiction fun hn=>?_
 obtain ⟨p,hp⟩:=g2 (by omega) (by omega)
 rw[goS_err hp]at hq
 cases hq
theorem let_go{kw name eq semi:RTok}{e:Tr}(hw:(RSt.letS kw name eq e semi).wf)(hm:∀ a∈e.toks,mayT a.text=true)(r:List RTok):(depT e≤8→goS ⟨0,0,0⟩ ((RSt.letS kw name eq e semi).toks++r)=goS ⟨0,0,0⟩ r)∧((∃ q,goS ⟨0,0,0⟩ ((RSt.letS kw name eq e semi).toks++r)=.ok q)→depT e≤8):=by
 obtain ⟨w1,w2,w3,w4,w5⟩:=hw
 have htk:(RSt.letS kw name eq e semi).toks++r=kw :: name :: eq :: (e.toks++(semi :: r)):=by
  rw[RSt.toks,RSt.body_let]
  simp
  rfl
 obtain ⟨g1,g2⟩:=tree_go w4 hm 0 (semi :: r)
 rw[htk,goS_cons (let_one w1),goS_cons (let_two w2),goS_cons (let_three w3)]
 refine ⟨fun hd=>?_,g2⟩
 rw[g1 hd,goS_cons (let_end w5)]
theorem act_go{act semi:RTok}{sc:Option Tr}(w2:act.text=(if sc.isSome then cScore else cReject))(w3:∀ e,sc=some e→e.wf)(w4:semi.text=cSemi)(hm:∀ a∈optToks sc,mayT a.text=true)(p:Spot)(b:Bool)(ho:p.opn=0)(hst:stepS p act.text=ruleS p act.text b)(r:List RTok) :
  (depO sc→∃ q,RuleAt q∧q.next=6∧goS p (act :: (optToks sc++(semi :: r)))=goS q r)∧((∃ q,goS p (act :: (optToks sc++(semi :: r)))=.ok q)→depO sc):=by
 cases sc with
 | none =>
  refine ⟨fun _=>⟨⟨6,p.expr,0⟩,⟨.inr rfl,rfl⟩,rfl, ?_⟩,fun _ e he=>by cases he⟩
  rw[goS_cons (hst.trans (ruleS_rej w2 ho))]
  exact goS_cons (rej_end w4)
 | some e =>
  obtain ⟨g1,g2⟩:=tree_go (w3 e rfl) hm 2 (semi :: r)
  have e1:goS p (act :: (optToks (some e)++(semi :: r)))=goS ⟨3,2,0⟩ (e.toks++(semi :: r)):=goS_cons (hst.trans (ruleS_score w2 ho))
  rw[e1]
  refine ⟨fun hd=>⟨⟨6,2,0⟩,⟨.inr rfl,rfl⟩,rfl, ?_⟩,fun h q hq=>by cases hq;exact g2 h⟩
  rw[g1 (hd e rfl),goS_cons (score_end w4)]
theorem rule_go{wh:Option (RTok×Tr)}{act semi:RTok}{sc:Option Tr}(hw:(RSt.rule wh act sc semi).wf)(hm:∀ a∈(RSt.rule wh act sc semi).toks,mayT a.text=true)(p:Spot)(hp:RuleAt p)(r:List RTok) :
  (DepS (RSt.rule wh act sc semi)→∃ q,RuleAt q∧q.next=6∧goS p ((RSt.rule wh act sc semi).toks++r)=goS q r)∧((∃ q,goS p ((RSt.rule wh act sc semi).toks++r)=.ok q)→DepS (RSt.rule wh act sc semi)):=by
 obtain ⟨w1,w2,w3,w4⟩:=hw
 have hact:act.text=cScore∨act.text=cReject:=by rw[w2];split <;> simp
 have hna:act.text≠cLet∧jointT act.text=false:=by rcases hact with h | h <;> rw[h] <;> decide
 have hmc:∀ a∈optToks sc,mayT a.text=true:=fun a ha=>hm a (by rw[RSt.toks,RSt.body_rule];simp[ha])
 cases wh with
 | none =>
  have htk:(RSt.rule none act sc semi).toks++r=act :: (optToks sc++(semi :: r)):=by
   rw[RSt.toks,RSt.body_rule]
   simp[whToks]
   rfl
  obtain ⟨g1,g2⟩:=act_go w2 w3 w4 hmc p true hp.2 (rule_step hp fun _=>hna.1) r
  rw[htk]
  exact ⟨fun hd=>g1 hd.2,fun h=>⟨(fun e he=>by cases he),g2 h⟩⟩
 | some q =>
  obtain ⟨k,u⟩:=q
  obtain ⟨wk,wu⟩:=w1 k u rfl
  have hmu:∀ a∈u.toks,mayT a.text=true:=fun a ha=>hm a (by
   rw[RSt.toks,RSt.body_rule]
   exact List.mem_append_left _ (List.mem_append_left _ (List.mem_cons_of_mem _ ha)))
  have htk:(RSt.rule (some (k,u)) act sc semi).toks++r=k :: (u.toks++(act :: (optToks sc++(semi :: r)))):=by
   rw[RSt.toks,RSt.body_rule]
   simp[whToks]
   rfl
  obtain ⟨g1,g2⟩:=tree_go wu hmu 1 (act :: (optToks sc++(semi :: r)))
  obtain ⟨a1,a2⟩:=act_go w2 w3 w4 hmc ⟨4,1,0⟩ false rfl (when_rule hna.2) r
  have e1:goS p (k :: (u.toks++(act :: (optToks sc++(semi :: r)))))=goS ⟨3,1,0⟩ (u.toks++(act :: (optToks sc++(semi :: r)))):=goS_cons ((rule_step hp fun _=>by rw[wk];decide).trans (ruleS_when wk hp.2))
  rw[htk,e1]
  refine ⟨fun hd=>?_,fun h=>?_⟩
  ·rw[g1 (hd.1 u rfl)]
   exact a1 hd.2
  ·have hu:=g2 h
   rw[g1 hu]at h
   exact ⟨(fun e he=>by cases he;exact hu),a2 h⟩
theorem rules_go:∀ (R:List RSt),isRuleL' R→(∀ s∈R,s.wf)→(∀ a∈toksL R,mayT a.text=true)→∀ p,RuleAt p→((∀ s∈R,DepS s)→∃ q,RuleAt q∧(R≠[]→q.next=6)∧goS p (toksL R)=.ok q)∧((∃ q,goS p (toksL R)=.ok q)→∀ s∈R,DepS s)
 | [],_,_,_,p,hp=>⟨fun _=>⟨p,hp,fun h=>absurd rfl h,rfl⟩,fun _ s hs=>by cases hs⟩
 | s :: r,hr,hw,hm,p,hp=>by
  have hws:=hw s List.mem_cons_self
  have hms:∀ a∈s.toks,mayT a.text=true:=fun a ha=>hm a (by rw[toksL_cons];exact List.mem_append_left _ ha)
  have hmr:∀ a∈toksL r,mayT a.text=true:=fun a ha=>hm a (by rw[toksL_cons];exact List.mem_append_right _ ha)
  rcases s.cases with ⟨kw,name,eq,e,semi,rfl⟩ | ⟨wh,act,sc,semi,rfl⟩
  ·exact absurd (hr _ List.mem_cons_self) (by simp[RSt.isLet,RSt.letS])
  ·obtain ⟨g1,g2⟩:=rule_go hws hms p hp (toksL r)
   rw[toksL_cons]
   refine ⟨fun hd=>?_,fun h=>?_⟩
   ·obtain ⟨q,q1,q2,q3⟩:=g1 (hd _ List.mem_cons_self)
    obtain ⟨ih1,_⟩:=rules_go r (fun z hz=>hr z (List.mem_cons_of_mem _ hz)) (fun z hz=>hw z (List.mem_cons_of_mem _ hz)) hmr q q1
    obtain ⟨q',k1,k2,k3⟩:=ih1 (fun z hz=>hd z (List.mem_cons_of_mem _ hz))
    refine ⟨q',k1,fun _=>?_,by rw[q3,k3]⟩
    cases r with
    | nil =>
     have:Except.ok (ε:=Nat) q=.ok q':=k3
     cases this
     exact q2
    | cons a b=>exact k2 (by simp)
   ·have hd:=g2 h
    obtain ⟨q,q1,q2,q3⟩:=g1 hd
    obtain ⟨_,ih2⟩:=rules_go r (fun z hz=>hr z (List.mem_cons_of_mem _ hz)) (fun z hz=>hw z (List.mem_cons_of_mem _ hz)) hmr q q1
    rw[q3]at h
    have:=ih2 h
    intro z hz
    rcases List.mem_cons.1 hz with rfl | hz
    ·exact hd
    ·exact this z hz
theorem lets_go:∀ (L R:List RSt),isLetL' L→(∀ s∈L,s.wf)→(∀ a∈toksL L,mayT a.text=true)→((∀ s∈L,DepS s)→goS ⟨0,0,0⟩ (toksL L++toksL R)=goS ⟨0,0,0⟩ (toksL R))∧((∃ q,goS ⟨0,0,0⟩ (toksL L++toksL R)=.ok q)→∀ s∈L,DepS s)
 | [],R,_,_,_=>⟨fun _=>rfl,fun _ s hs=>by cases hs⟩
 | s :: r,R,hr,hw,hm=>by
  have hws:=hw s List.mem_cons_self
  have hms:∀ a∈s.toks,mayT a.text=true:=fun a ha=>hm a (by rw[toksL_cons];exact List.mem_append_left _ ha)
  have hmr:∀ a∈toksL r,mayT a.text=true:=fun a ha=>hm a (by rw[toksL_cons];exact List.mem_append_right _ ha)
  obtain ⟨i1,i2⟩:=lets_go r R (fun z hz=>hr z (List.mem_cons_of_mem _ hz)) (fun z hz=>hw z (List.mem_cons_of_mem _ hz)) hmr
  rcases s.cases with ⟨kw,name,eq,e,semi,rfl⟩ | ⟨wh,act,sc,semi,rfl⟩
  ·have hme:∀ a∈e.toks,mayT a.text=true:=fun a ha=>hms a (by rw[RSt.toks,RSt.body_let];simp[ha])
   obtain ⟨g1,g2⟩:=let_go hws hme (toksL r++toksL R)
   rw[toksL_cons,List.append_assoc]
   refine ⟨fun hd=>?_,fun h=>?_⟩
   ·rw[g1 (hd _ List.mem_cons_self)]
    exact i1 (fun z hz=>hd z (List.mem_cons_of_mem _ hz))
   ·have hd:=g2 h
    rw[g1 hd]at h
    have:=i2 h
    intro z hz
    rcases List.mem_cons.1 hz with rfl | hz
    ·exact hd
    ·exact this z hz
  ·exact absurd (hr _ List.mem_cons_self) (by simp[RSt.isLet,RSt.rule])
theorem simL_app:∀ {a a' b b':List RSt},SimL a a'→SimL b b'→SimL (a++b) (a'++b')
 | [],[],b,b',_,h=>h
 | s :: r,s' :: r',b,b',h,h2=>⟨h.1,simL_app h.2 h2⟩
 | [],_ :: _,_,_,h,_=>h.elim
 | _ :: _,[],_,_,h,_=>h.elim
theorem errs_parts{s:Txt}{L R:List RSt}(hp:PolicyOf s L R)(he:errsOf (nodesS 0 (L++R)) (letsS 0 (L++R)) (rulesS 0 (L++R))=(0,0)):namesGo [] [] [] (toksL (L++R))=none∧wrongT L R=none∧bigT L R=false:=by
 have hpm:∀ q∈L++R,q.wf∧q.may:=fun q hq=>⟨(fit_all hp q hq).1,(fit_all hp q hq).2.1⟩
 have hpn:=names_same L R hp.lets hp.rules hp.wf
 unfold errsOf at he
 split at he
 ·cases he
 ·rename_i h1
  have hk:=kinds_same L R hp.lets hp.rules hpm h1
  have hb:=parts_same L R hp.lets hp.rules hpm h1
  split at he
  ·cases he
  ·rename_i h2
   split at he
   ·cases he
   ·rename_i h3
    exact ⟨by rw[hpn,h1],by rw[← hk,h2],by rw[← hb];exact decide_eq_false h3⟩
theorem fits_of_pol{s:Txt}{L R:List RSt}(hp:PolicyOf s L R):∀ q∈L++R,FitW' q:=by
 obtain ⟨htk,_⟩:=tokened_toks hp.fine
 have ht:=toks_text htk
 intro q hq
 refine ⟨hp.wf q hq,fun a ha=>?_⟩
 have hm:a∈toksL (L++R):=by
  rw[toksL,List.mem_flatMap]
  exact ⟨q,hq,ha⟩
 exact ⟨ht a hm,hp.may a hm⟩
theorem plain_pol{s:Txt}{x:Itm}{y:Bn}{say:Nat×Int×Nat}{L R:List RSt}(h:FineP s x y say L R)(b:Bool)(hlen:(polQ L R).length+2≤400):∃ L' R',FineP (if b then 32 :: (polQ L R++[10]) else polQ L R) x y say L' R'∧polQ L' R'=polQ L R:=by
 have hp:=h.pol
 obtain ⟨htk,_,q0,hgo,h6⟩:=tokened_toks hp.fine
 have hfit:=fits_of_pol hp
 obtain ⟨hnm,hwr,hbg⟩:=errs_parts hp h.errs
 have hwL:∀ q∈L,q.wf:=fun q hq=>hp.wf q (by simp[hq])
 have hwR:∀ q∈R,q.wf:=fun q hq=>hp.wf q (by simp[hq])
 have hmL:∀ a∈toksL L,mayT a.text=true:=fun a ha=>hp.may a (by rw[toksL_append];exact List.mem_append_left _ ha)
 have hmR:∀ a∈toksL R,mayT a.text=true:=fun a ha=>hp.may a (by rw[toksL_append];exact List.mem_append_right _ ha)
 obtain ⟨p0,hp0⟩:∃ p0,p0=(if b then 1 else 0):=⟨_,rfl⟩
 obtain ⟨L',SL,NL⟩:=sim_lets L (fun q hq=>hfit q (by simp[hq])) p0
 obtain ⟨R',SR,NR⟩:=sim_rules R (fun q hq=>hfit q (by simp[hq])) (p0+(catL (L.map RSt.plainS)).length)
 have hT:ToksH (polQ L R) p0 (toksL (L'++R')):=by
  rw[toksL_append]
  exact toksH_app NL.toks NR.toks
 have hgo2:=hgo
 rw[toksL_append]at hgo2
 obtain ⟨l1,l2⟩:=lets_go L R hp.lets hwL hmL
 have dL:=l2 ⟨q0,hgo2⟩
 rw[l1 dL]at hgo2
 obtain ⟨_,r2⟩:=rules_go R hp.rules hwR hmR ⟨0,0,0⟩ ⟨.inl rfl,rfl⟩
 have dR:=r2 ⟨q0,hgo2⟩
 have hsame:polQ L' R'=polQ L R:=by
  unfold polQ
  rw[simL_plain SL,simL_plain SR]
 refine ⟨L',R',fine_of (simL_let SL hp.lets) (simL_rule SR hp.rules) ?_ ?_ ?_ ?_ ?_ ?_ ?_ ?_ ?_ ?_,hsame⟩
 ·intro q hq
  rcases List.mem_append.1 hq with hq | hq
  ·exact NL.wf q hq
  ·exact NR.wf q hq
 ·cases b with
  | true=>simp only[if_true,List.length_cons,List.length_append,List.length_nil];omega
  | false=>simp only[Bool.false_eq_true,if_false];omega
 ·cases b with
  | true =>
   simp only[if_true]at hp0 ⊢
   subst hp0
   have:=hT [10]
   rw[toksR_cons,if_pos (by decide),toksR_nil]at this
   rw[toksR_cons,if_pos (by decide),this]
   simp[preR]
  | false =>
   simp only[Bool.false_eq_true,if_false]at hp0 ⊢
   subst hp0
   have:=hT []
   rw[List.append_nil,toksR_nil]at this
   rw[this]
   simp[preR]
 ·have dL':=simL_dep SL hwL dL
  have dR':=simL_dep SR hwR dR
  obtain ⟨m1,_⟩:=lets_go L' R' (simL_let SL hp.lets) NL.wf NL.may
  obtain ⟨n1,_⟩:=rules_go R' (simL_rule SR hp.rules) NR.wf NR.may ⟨0,0,0⟩ ⟨.inl rfl,rfl⟩
  obtain ⟨q,q1,q2,q3⟩:=n1 dR'
  refine ⟨q,by rw[toksL_append,m1 dL',q3],q2 ?_⟩
  intro hn
  have:=simL_length SR
  rw[hn]at this
  exact hp.ne (List.length_eq_zero_iff.1 this.symm)
 ·intro hn
  have:=simL_length SR
  rw[hn]at this
  exact hp.ne (List.length_eq_zero_iff.1 this.symm)
 ·intro a ha
  rw[toksL_append]at ha
  rcases List.mem_append.1 ha with ha | ha
  ·exact NL.may a ha
  ·exact NR.may a ha
 ·rw[names_char _ (fun q hq=>by
   rcases List.mem_append.1 hq with hq | hq
   ·exact NL.wf q hq
   ·exact NR.wf q hq) [] [] (by decide)]
  exact simL_names (simL_app SL SR) ((names_char _ hp.wf [] [] (by decide)).1 hnm)
 ·cases hx:letsK [] L with
  | error p=>rw[wrongT_err hx]at hwr;cases hwr
  | ok c =>
   rw[wrongT_ok hx]at hwr
   rw[wrongT_ok (simL_kindsL SL hx)]
   exact simL_kindsR SR hp.rules hwr
 ·obtain ⟨e1,e2⟩:=simL_sizes (ps:=[]) SL hwL (fun q hq=>by cases hq)
  unfold bigT at hbg ⊢
  rw[e1,simL_parts SR e2]
  exact hbg
 ·rw[← h.says]
  unfold saysP
  rw[simL_env x y SL,simL_say _ x y SR]
open Go.RowKit
theorem quo_fine(a b:Int)(ha:In64 a)(hb:In64 b)(h0:a≠0)(h1:¬ (a=-1∧b=-9223372036854775808)):wrap64 ((wrap64 (a*b)).tdiv a)=(wrap64 (a*b)).tdiv a:=by
 refine wrap64_eq (tdiv_in _ a ?_ ha h0 ?_)
 ·rw[← wmul];exact in_wrap _
 ·rintro ⟨h2,h3⟩
  refine h1 ⟨h3, ?_⟩
  rw[h3]at h2
  unfold In64 at hb
  unfold wrap64 at h2
  omega
set_option maxHeartbeats 2000000 in
theorem crossed_any(a b:Int)(ha:In64 a)(hb:In64 b)(w:World) :
  Calls Tryz.prog 97 #[.int .i64 a,.int .i64 b] w fun e w'=>(∃ c:Int,e=.returned (.tuple #[.int .i64 c,.bool (decide (In64 (a*b)))])∧(In64 (a*b)→c=a*b))∧Below w.heap.size w w':=by
 have HA:=mH ha
 have HB:=mH hb
 obtain ⟨a1,a2⟩:=ha
 obtain ⟨b1,b2⟩:=hb
 by_cases h0:a=0
 ·subst h0
  have e:decide (In64 (0*b))=true:=by rw[Int.zero_mul];decide
  rw[e]
  go_enter Tryz.func97,Tryz.ntmps97
  go_wp2
  all_goals go_ret2
  all_goals exact ⟨⟨0,rfl,fun _=>(Int.zero_mul b).symm⟩,Below.refl _ _⟩
 have ea:(a==0)=false:=by simpa using h0
 by_cases h1:b=0
 ·subst h1
  have e:decide (In64 (a*0))=true:=by rw[Int.mul_zero];decide
  rw[e]
  go_enter Tryz.func97,Tryz.ntmps97
  go_wp2
  all_goals go_ret2
  all_goals exact ⟨⟨0,rfl,fun _=>(Int.mul_zero a).symm⟩,Below.refl _ _⟩
 have eb:(b==0)=false:=by simpa using h1
 by_cases h2:a=-9223372036854775808∧b=-1
 ·obtain ⟨rfl,rfl⟩:=h2
  have e:decide (In64 (-9223372036854775808*-1))=false:=by decide
  rw[e]
  go_enter Tryz.func97,Tryz.ntmps97
  go_wp2
  all_goals go_ret2
  all_goals exact ⟨⟨0,rfl,fun h=>absurd h (by decide)⟩,Below.refl _ _⟩
 by_cases h3:b=-9223372036854775808∧a=-1
 ·obtain ⟨rfl,rfl⟩:=h3
  have e:decide (In64 (-1*-9223372036854775808))=false:=by decide
  rw[e]
  go_enter Tryz.func97,Tryz.ntmps97
  go_wp2
  all_goals go_ret2
  all_goals exact ⟨⟨0,rfl,fun h=>absurd h (by decide)⟩,Below.refl _ _⟩
 have q1:=quo_fine a b HA.out HB.out h0 (fun h=>h3 ⟨h.2,h.1⟩)
 have q2:=quo_fine b a HB.out HA.out h1 (fun h=>h2 ⟨h.2,h.1⟩)
 have m1:=mul_test b a HB.out HA.out h0
 have m2:=mul_test a b HA.out HB.out h1
 rw[wmul]at m1 m2
 rw[Int.mul_comm b a]at m1 q2
 have g1:(wrap64 ((wrap64 (a*b)).tdiv a)==b)=decide (In64 (a*b)):=by
  rw[q1,beq_dec]
  simp only[m1]
 have g2:(wrap64 ((wrap64 (a*b)).tdiv b)==a)=decide (In64 (a*b)):=by
  rw[q2,beq_dec]
  simp only[m2]
 have g3:Hid (In64 (a*b)→wrap64 (a*b)=a*b):=fun h=>wrap64_eq h
 have t2:((a==-9223372036854775808)&&(b==-1))=false:=by
  rw[beq_dec,beq_dec];simp;exact fun h h'=>h2 ⟨h,h'⟩
 have t3:((b==-9223372036854775808)&&(a==-1))=false:=by
  rw[beq_dec,beq_dec];simp;exact fun h h'=>h3 ⟨h,h'⟩
 clear q1 q2 m1 m2 h2 h3
 by_cases hi:In64 (a*b)
 ·have e:decide (In64 (a*b))=true:=by simpa using hi
  rw[e]at g1 g2 ⊢
  have k1:(IntKind.i64.wrap ((wrap64 (a*b)).tdiv a)==b)=true:=by rw[IntWalk.i64_left];exact g1
  have k2:(IntKind.i64.wrap ((wrap64 (a*b)).tdiv b)==a)=true:=by rw[IntWalk.i64_left];exact g2
  have G:=mH (g3.out hi)
  clear hi g3 e
  cases eA:(a==-9223372036854775808) <;> cases eB:(b==-9223372036854775808)
  ·clear t2 t3
   go_enter Tryz.func97,Tryz.ntmps97
   go_wp2
   go_quiet (fail)
   go_wp2
   go_ret2
   exact ⟨⟨_,rfl,fun _=>G.out⟩,below_drewN (Below.refl _ w) _⟩
  ·have n2:(a==-1)=false:=by rw[eB]at t3;simpa using t3
   clear t2 t3
   go_enter Tryz.func97,Tryz.ntmps97
   go_wp2
   go_quiet (fail)
   go_wp2
   go_ret2
   exact ⟨⟨_,rfl,fun _=>G.out⟩,below_drewN (Below.refl _ w) _⟩
  ·have n1:(b==-1)=false:=by rw[eA]at t2;simpa using t2
   clear t2 t3
   go_enter Tryz.func97,Tryz.ntmps97
   go_wp2
   go_quiet (fail)
   go_wp2
   go_ret2
   exact ⟨⟨_,rfl,fun _=>G.out⟩,below_drewN (Below.refl _ w) _⟩
  ·have n1:(b==-1)=false:=by rw[eA]at t2;simpa using t2
   have n2:(a==-1)=false:=by rw[eB]at t3;simpa using t3
   clear t2 t3
   go_enter Tryz.func97,Tryz.ntmps97
   go_wp2
   go_quiet (fail)
   go_wp2
   go_ret2
   exact ⟨⟨_,rfl,fun _=>G.out⟩,below_drewN (Below.refl _ w) _⟩
 ·have e:decide (In64 (a*b))=false:=by simpa using hi
  rw[e]at g1 g2 ⊢
  have k1:(IntKind.i64.wrap ((wrap64 (a*b)).tdiv a)==b)=false:=by rw[IntWalk.i64_left];exact g1
  have k2:(IntKind.i64.wrap ((wrap64 (a*b)).tdiv b)==a)=false:=by rw[IntWalk.i64_left];exact g2
  have G:=mH hi
  clear hi g3 e
  cases eA:(a==-9223372036854775808) <;> cases eB:(b==-9223372036854775808)
  ·clear t2 t3
   go_enter Tryz.func97,Tryz.ntmps97
   go_wp2
   go_quiet (fail)
   go_wp2
   go_ret2
   exact ⟨⟨_,rfl,fun h=>absurd h G.out⟩,below_drewN (Below.refl _ w) _⟩
  ·have n2:(a==-1)=false:=by rw[eB]at t3;simpa using t3
   clear t2 t3
   go_enter Tryz.func97,Tryz.ntmps97
   go_wp2
   go_quiet (fail)
   go_wp2
   go_ret2
   exact ⟨⟨_,rfl,fun h=>absurd h G.out⟩,below_drewN (Below.refl _ w) _⟩
  ·have n1:(b==-1)=false:=by rw[eA]at t2;simpa using t2
   clear t2 t3
   go_enter Tryz.func97,Tryz.ntmps97
   go_wp2
   go_quiet (fail)
   go_wp2
   go_ret2
   exact ⟨⟨_,rfl,fun h=>absurd h G.out⟩,below_drewN (Below.refl _ w) _⟩
  ·have n1:(b==-1)=false:=by rw[eA]at t2;simpa using t2
   have n2:(a==-1)=false:=by rw[eB]at t3;simpa using t3
   clear t2 t3
   go_enter Tryz.func97,Tryz.ntmps97
   go_wp2
   go_quiet (fail)
   go_wp2
   go_ret2
   exact ⟨⟨_,rfl,fun h=>absurd h G.out⟩,below_drewN (Below.refl _ w) _⟩
set_option maxHeartbeats 1000000 in
theorem counted_sum(a b:Int)(ha:In64 a)(hb:In64 b)(w:World) :
  Calls Tryz.prog 61 #[.string ⟨#[43]⟩,.int .i64 a,.int .i64 b] w fun e w'=>e=.returned (.tuple #[.int .i64 (exact64 (a+b)).1,.int .i64 (exact64 (a+b)).2])∧Below w.heap.size w w':=by
 obtain ⟨ha1,ha2⟩:=ha
 obtain ⟨hb1,hb2⟩:=hb
 by_cases hi:In64 (a+b)
 ·rw[exact_in hi]
  obtain ⟨h1,h2⟩:=hi
  have t:Hid ((decide (a≤a+b)==decide (0≤b))=true):=by
   have h:a≤a+b↔0≤b:=by omega
   rw[Hid,beq_iff_eq]
   exact decide_eq_decide.2 h
  go_enter Tryz.func61,Tryz.ntmps61
  go_wp2
  all_goals go_ret2
  all_goals first | (rename_i h;rw[t.out]at h;exact absurd h (by decide)) | exact ⟨ret_two rfl rfl,Below.refl _ _⟩
 ·rw[exact_out hi]
  have hi':a+b < -9223372036854775808∨9223372036854775807<a+b:=by unfold In64 at hi;omega
  clear hi
  have t:Hid ((decide (a≤wrap64 (a+b))==decide (0≤b))=false):=by
   have h:¬ (a≤wrap64 (a+b)↔0≤b):=by unfold wrap64;omega
   rw[Hid,beq_eq_false_iff_ne]
   exact fun h'=>h (decide_eq_decide.1 h')
  go_enter Tryz.func61,Tryz.ntmps61
  go_wp2
  all_goals go_ret2
  all_goals first | (rename_i h;rw[t.out]at h;exact absurd h (by decide)) | exact ⟨ret_two rfl rfl,Below.refl _ _⟩
set_option maxHeartbeats 1000000 in
theorem counted_diff(a b:Int)(ha:In64 a)(hb:In64 b)(w:World) :
  Calls Tryz.prog 61 #[.string ⟨#[45]⟩,.int .i64 a,.int .i64 b] w fun e w'=>e=.returned (.tuple #[.int .i64 (exact64 (a-b)).1,.int .i64 (exact64 (a-b)).2])∧Below w.heap.size w w':=by
 obtain ⟨ha1,ha2⟩:=ha
 obtain ⟨hb1,hb2⟩:=hb
 by_cases hi:In64 (a-b)
 ·rw[exact_in hi]
  obtain ⟨h1,h2⟩:=hi
  have t:Hid ((decide (a-b≤a)==decide (0≤b))=true):=by
   have h:a-b≤a↔0≤b:=by omega
   rw[Hid,beq_iff_eq]
   exact decide_eq_decide.2 h
  go_enter Tryz.func61,Tryz.ntmps61
  go_wp2
  all_goals go_ret2
  all_goals first | (rename_i h;rw[t.out]at h;exact absurd h (by decide)) | exact ⟨ret_two rfl rfl,Below.refl _ _⟩
 ·rw[exact_out hi]
  have hi':a-b < -9223372036854775808∨9223372036854775807<a-b:=by unfold In64 at hi;omega
  clear hi
  have t:Hid ((decide (wrap64 (a-b)≤a)==decide (0≤b))=false):=by
   have h:¬ (wrap64 (a-b)≤a↔0≤b):=by unfold wrap64;omega
   rw[Hid,beq_eq_false_iff_ne]
   exact fun h'=>h (decide_eq_decide.1 h')
  go_enter Tryz.func61,Tryz.ntmps61
  go_wp2
  all_goals go_ret2
  all_goals first | (rename_i h;rw[t.out]at h;exact absurd h (by decide)) | exact ⟨ret_two rfl rfl,Below.refl _ _⟩
set_option maxHeartbeats 1000000 in
theorem counted_prod(a b:Int)(ha:In64 a)(hb:In64 b)(w:World) :
  Calls Tryz.prog 61 #[.string ⟨#[42]⟩,.int .i64 a,.int .i64 b] w fun e w'=>e=.returned (.tuple #[.int .i64 (exact64 (a*b)).1,.int .i64 (exact64 (a*b)).2])∧Below w.heap.size w w':=by
 have HA:=mH ha
 have HB:=mH hb
 obtain ⟨ha1,ha2⟩:=ha
 obtain ⟨hb1,hb2⟩:=hb
 by_cases hi:In64 (a*b)
 ·rw[exact_in hi]
  have HE:Hid (decide (In64 (a*b))=true):=by simpa[Hid] using hi
  have HI:=mH hi
  clear hi
  go_enter Tryz.func61,Tryz.ntmps61
  go_wp2_with (go_at_call 97;refine (crossed_any a b HA.out HB.out _).mono ?_;rintro e w1 ⟨⟨c,rfl,hc⟩,hb1⟩;rw[HE.out];have HC:=mH (hc HI.out);have HW:=mH hb1;clear hc hb1)
  all_goals go_ret2
  all_goals exact ⟨ret_two HC.out rfl,HW.out⟩
 ·rw[exact_out hi]
  have HE:Hid (decide (In64 (a*b))=false):=by simpa[Hid] using hi
  clear hi
  go_enter Tryz.func61,Tryz.ntmps61
  go_wp2_with (go_at_call 97;refine (crossed_any a b HA.out HB.out _).mono ?_;rintro e w1 ⟨⟨c,rfl,hc⟩,hb1⟩;rw[HE.out];have HW:=mH hb1;clear hc hb1)
  all_goals go_ret2
  all_goals exact ⟨ret_two rfl rfl,HW.out⟩
set_option maxHeartbeats 1000000 in
theorem counted_quo(a b:Int)(ha:In64 a)(hb:In64 b)(w:World) :
  Calls Tryz.prog 61 #[.string ⟨#[47]⟩,.int .i64 a,.int .i64 b] w fun e w'=>e=.returned (.tuple #[.int .i64 (joinN 7 a b).1,.int .i64 (joinN 7 a b).2])∧Below w.heap.size w w':=by
 rw[join7 a b ha hb]
 by_cases h0:b=0
 ·subst h0
  have e:divFault a 0=2:=by simp[divFault]
  rw[if_neg (by omega),e]
  go_enter Tryz.func61,Tryz.ntmps61
  go_wp2
  all_goals go_ret2
  all_goals exact ⟨ret_two rfl rfl,Below.refl _ _⟩
 have eb:(b==0)=false:=by simpa using h0
 by_cases h1:a=-9223372036854775808∧b=-1
 ·obtain ⟨rfl,rfl⟩:=h1
  have e:divFault (-9223372036854775808) (-1)=1:=by decide
  rw[if_neg (by omega),e]
  go_enter Tryz.func61,Tryz.ntmps61
  go_wp2
  all_goals go_ret2
  all_goals exact ⟨ret_two rfl rfl,Below.refl _ _⟩
 have e:divFault a b=0:=by simp[divFault,h0,h1]
 rw[if_pos e]
 have HI:Hid (In64 (a.tdiv b)):=tdiv_in a b ha hb h0 h1
 have t2:((a==-9223372036854775808)&&(b==-1))=false:=by
  rw[beq_dec,beq_dec];simp;exact fun h h'=>h1 ⟨h,h'⟩
 obtain ⟨ha1,ha2⟩:=ha
 obtain ⟨hb1,hb2⟩:=hb
 clear h1 e
 cases eA:(a==-9223372036854775808)
 ·clear t2
  go_enter Tryz.func61,Tryz.ntmps61
  go_wp2
  all_goals go_ret2
  all_goals exact ⟨ret_two (wrap64_eq HI.out) rfl,Below.refl _ _⟩
 ·have n1:(b==-1)=false:=by rw[eA]at t2;simpa using t2
  clear t2
  go_enter Tryz.func61,Tryz.ntmps61
  go_wp2
  all_goals go_ret2
  all_goals exact ⟨ret_two (wrap64_eq HI.out) rfl,Below.refl _ _⟩
set_option maxHeartbeats 1000000 in
theorem counted_rem(a b:Int)(ha:In64 a)(hb:In64 b)(w:World) :
  Calls Tryz.prog 61 #[.string ⟨#[37]⟩,.int .i64 a,.int .i64 b] w fun e w'=>e=.returned (.tuple #[.int .i64 (joinN 8 a b).1,.int .i64 (joinN 8 a b).2])∧Below w.heap.size w w':=by
 rw[join8 a b]
 by_cases h0:b=0
 ·subst h0
  have e:divFault a 0=2:=by simp[divFault]
  rw[if_neg (by omega),e]
  go_enter Tryz.func61,Tryz.ntmps61
  go_wp2
  all_goals go_ret2
  all_goals exact ⟨ret_two rfl rfl,Below.refl _ _⟩
 have eb:(b==0)=false:=by simpa using h0
 by_cases h1:a=-9223372036854775808∧b=-1
 ·obtain ⟨rfl,rfl⟩:=h1
  have e:divFault (-9223372036854775808) (-1)=1:=by decide
  rw[if_neg (by omega),e]
  go_enter Tryz.func61,Tryz.ntmps61
  go_wp2
  all_goals go_ret2
  all_goals exact ⟨ret_two rfl rfl,Below.refl _ _⟩
 have e:divFault a b=0:=by simp[divFault,h0,h1]
 rw[if_pos e]
 have HI:Hid (In64 (a.tmod b)):=(tmod_in a b ha).1
 have t2:((a==-9223372036854775808)&&(b==-1))=false:=by
  rw[beq_dec,beq_dec];simp;exact fun h h'=>h1 ⟨h,h'⟩
 obtain ⟨ha1,ha2⟩:=ha
 obtain ⟨hb1,hb2⟩:=hb
 clear h1 e
 cases eA:(a==-9223372036854775808)
 ·clear t2
  go_enter Tryz.func61,Tryz.ntmps61
  go_wp2
  all_goals go_ret2
  all_goals first | exact ⟨ret_two rfl rfl,Below.refl _ _⟩ | exact ⟨ret_two (wrap64_eq HI.out) rfl,Below.refl _ _⟩
 ·have n1:(b==-1)=false:=by rw[eA]at t2;simpa using t2
  clear t2
  go_enter Tryz.func61,Tryz.ntmps61
  go_wp2
  all_goals go_ret2
  all_goals first | exact ⟨ret_two rfl rfl,Below.refl _ _⟩ | exact ⟨ret_two (wrap64_eq HI.out) rfl,Below.refl _ _⟩
def signC(n:Nat):Nat:=if n=4 then 43 else if n=5 then 45 else if n=6 then 42 else if n=7 then 47 else 37
theorem counted_any(n:Nat)(hn:4≤n∧n≤8)(a b:Int)(ha:In64 a)(hb:In64 b)(w:World) :
  Calls Tryz.prog 61 #[.string ⟨#[UInt8.ofNat (signC n)]⟩,.int .i64 a,.int .i64 b] w fun e w'=>e=.returned (.tuple #[.int .i64 (joinN n a b).1,.int .i64 (joinN n a b).2])∧Below w.heap.size w w':=by
 obtain rfl | rfl | rfl | rfl | rfl:n=4∨n=5∨n=6∨n=7∨n=8:=by omega
 ·exact counted_sum a b ha hb w
 ·exact counted_diff a b ha hb w
 ·exact counted_prod a b ha hb w
 ·exact counted_quo a b ha hb w
 ·exact counted_rem a b ha hb w
end Go.Proofs.YtpcjadaeolkngaaGreatDoor
