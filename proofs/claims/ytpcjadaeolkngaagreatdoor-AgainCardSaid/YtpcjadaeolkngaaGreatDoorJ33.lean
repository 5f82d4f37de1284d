/-
  RULEs by their making.
-/
import Derived.Test.YtpcjadaeolkngaaGreatDoorJ32
import Derived.Test.YtpcjadaeolkngaaGreatDoorJ21
set_option linter.unusedVariables false
set_option linter.unusedSimpArgs false
namespace Go.Proofs.YtpcjadaeolkngaaGreatDoor
open Go.Deep
def actB:Option Txt→Txt
 | none=>cReject
 | some e=>cScore++32 :: e
def ruleB(wh sc:Option Txt):Txt:=match wh with
 | none=>actB sc
 | some w=>cWhen++32 :: (w++32 :: actB sc)
def ToksH(t:Txt)(pos:Nat)(l:List RTok):Prop:=∀ rest,toksR (t++rest) pos=preR l (toksR rest (pos+t.length))
theorem toksH_semi{a:Txt}{pos:Nat}{l:List RTok}(h:Toks a pos l):ToksH (a++[59]) pos (l++[⟨cSemi,pos+a.length⟩]):=fun rest=>by
 rw[List.append_assoc,List.singleton_append,h (59 :: rest) rfl,toks_hard (by decide),preR_app,List.length_append,Nat.add_assoc]
 rfl
theorem toksH_app{a b:Txt}{pos:Nat}{l m:List RTok}(ha:ToksH a pos l)(hb:ToksH b (pos+a.length) m):ToksH (a++b) pos (l++m):=fun rest=>by
 rw[List.append_assoc,ha,hb,preR_app,List.length_append,Nat.add_assoc]
theorem toksH_nil(pos:Nat):ToksH [] pos []:=fun rest=>by rw[preR_nil];rfl
def actO:Option Wo→Nat×Int×Nat
 | none=>(0,0,1)
 | some e=>if e.flt≠0 then (2,(e.flt:Int),e.steps) else (1,e.v,e.steps+1)
def sayO(wh sc:Option Wo)(rest:Nat×Int×Nat):Nat×Int×Nat:=match wh with
 | none=>actO sc
 | some w =>
  if w.flt≠0 then (2,(w.flt:Int),w.steps)
  else if w.v=0 then (rest.1,rest.2.1,whenW w+rest.2.2)
  else ((actO sc).1,(actO sc).2.1,whenW w+(actO sc).2.2)
structure RuleOf(E:Ctx)(txt:Txt)(wh sc:Option Wo)(prt pos:Nat)(s:RSt):Prop where
 wf:s.wf
 rule:s.isLet=false
 toks:ToksH txt pos s.toks
 may:∀ a∈s.toks,mayT a.text=true
 nam:∀ a∈s.toks,nameT a.text=true→a.text∈E.nms
 nolet:∀ a∈s.toks,a.text≠cLet
 say:∀ r,sayW (lookW E.c) E.x E.y (s :: r)=sayO wh sc (sayW (lookW E.c) E.x E.y r)
 kinds:∀ r,rulesK E.kn (s :: r)=rulesK E.kn r
 parts:∀ r,rulePartsGo E.ps (s :: r)≤prt+rulePartsGo E.ps r
 go:∀ p,RuleAt p→∃ q,goS p s.toks=.ok q∧RuleAt q∧q.next=6
def IsO(E:Ctx)(o:Option (Txt×Wo))(kd prt:Nat):Prop:=∀ p,o=some p→IsP E p.1 1 p.2 kd 8 prt
theorem act_tree{E:Ctx}{o:Option (Txt×Wo)}{prt:Nat}(h:IsO E o 1 prt)(hp:prt≤150)(pos:Nat):∃ (act:RTok) (sc:Option Tr),act.text=(if sc.isSome then cScore else cReject)∧(∀ e,sc=some e→e.wf)∧Toks (actB (o.map Prod.fst)) pos (act :: optToks sc) ∧
  (∀ a∈optToks sc,mayT a.text=true)∧(∀ a∈optToks sc,nameT a.text=true→a.text∈E.nms)∧actW (lookW E.c) E.x E.y sc=actO (o.map Prod.snd)∧exprK E.kn 1 sc=none∧partsGo E.ps 0 (optToks sc)≤prt ∧
  (∀ (p:Spot) (b:Bool) (semi:RTok),semi.text=cSemi→p.opn=0→(stepS p act.text=ruleS p act.text b)→∃ q,goS p ((act :: optToks sc)++[semi])=.ok q∧RuleAt q∧q.next=6):=by
 cases o with
 | none =>
  refine ⟨⟨cReject,pos⟩,none,rfl,(fun e he=>by cases he),toks_one pos (by decide) (by decide) (by decide) (by decide),(fun a ha=>by cases ha),(fun a ha=>by cases ha),rfl,rfl,Nat.zero_le _, ?_⟩
  intro p b semi hs ho hst
  refine ⟨⟨6,p.expr,0⟩, ?_,⟨.inr rfl,rfl⟩,rfl⟩
  show goS p [⟨cReject,pos⟩,semi]=_
  rw[goS_cons (hst.trans (ruleS_rej rfl ho))]
  exact goS_cons (rej_end hs)
 | some q =>
  obtain ⟨e,w⟩:=q
  obtain ⟨t,T⟩:=h (e,w) rfl (pos+6)
  have hpt:=T.prt
  refine ⟨⟨cScore,pos⟩,some t,rfl,(fun e he=>by cases he;exact T.wf), ?_,T.may,T.nam, ?_, ?_, ?_, ?_⟩
  ·exact toks_app (l:=[⟨cScore,pos⟩]) (toks_one pos (by decide) (by decide) (by decide) (by decide)) (toks_blank1 T.toks) ⟨32,e,rfl,rfl⟩
  ·show (if (t.wor (lookW E.c) E.x E.y).flt≠0 then _ else _)=_
   rw[T.wor]
   rfl
  ·show (match kindT E.kn t with | .error p=>some p | .ok k=>if k=1 then none else some (firstAt t))=none
   rw[T.kind]
   rfl
  ·show partsGo E.ps 0 t.toks≤prt
   rw[partsGo_sum _ _ _ (by omega)]
   omega
  ·intro p b semi hs ho hst
   refine ⟨⟨6,2,0⟩, ?_,⟨.inr rfl,rfl⟩,rfl⟩
   show goS p (⟨cScore,pos⟩ :: (t.toks++[semi]))=_
   rw[goS_cons (hst.trans (ruleS_score rfl ho)),goS_ok (T.go 2 0 (by omega))]
   exact goS_cons (score_end hs)
theorem rule_tree{E:Ctx}{wh sc:Option (Txt×Wo)}{p1 p2:Nat}(hw:IsO E wh 2 p1)(hs:IsO E sc 1 p2)(h1:p1≤150)(h2:p2≤150)(pos:Nat):∃ s,RuleOf E (ruleB (wh.map Prod.fst) (sc.map Prod.fst)++[59]) (wh.map Prod.snd) (sc.map Prod.snd) (p1+p2) pos s:=by
 cases wh with
 | none =>
  obtain ⟨act,t,a1,a2,a3,a4,a5,a6,a7,a8,a9⟩:=act_tree hs h2 pos
  have hact:act.text=cScore∨act.text=cReject:=by rw[a1];split <;> simp
  have hne:act.text≠cLet∧nameT act.text=false∧mayT act.text=true:=by rcases hact with h | h <;> rw[h] <;> decide
  have hwf:(RSt.rule none act t ⟨cSemi,pos+(actB (sc.map Prod.fst)).length⟩).wf:=⟨(fun k e he=>by cases he),a1,a2,rfl⟩
  have htk:(RSt.rule none act t ⟨cSemi,pos+(actB (sc.map Prod.fst)).length⟩).toks=(act :: optToks t)++[⟨cSemi,pos+(actB (sc.map Prod.fst)).length⟩]:=rfl
  have hpl:∀ a∈optToks t,plainE a.text:=opt_plain t a2
  refine ⟨_,hwf,rfl,by rw[htk];exact toksH_semi a3, ?_, ?_, ?_, ?_, ?_, ?_, ?_⟩
  ·intro a ha
   rw[htk]at ha
   simp only[List.mem_append,List.mem_cons,List.mem_singleton]at ha
   rcases ha with (rfl | ha) | rfl | ha
   ·exact hne.2.2
   ·exact a4 a ha
   ·rfl
   ·cases ha
  ·intro a ha hn
   rw[htk]at ha
   simp only[List.mem_append,List.mem_cons,List.mem_singleton]at ha
   rcases ha with (rfl | ha) | rfl | ha
   ·rw[hne.2.1]at hn;cases hn
   ·exact a5 a ha hn
   ·exact absurd hn (show ¬ (nameT cSemi=true) by decide)
   ·cases ha
  ·intro a ha
   rw[htk]at ha
   simp only[List.mem_append,List.mem_cons,List.mem_singleton]at ha
   rcases ha with (rfl | ha) | rfl | ha
   ·exact hne.1
   ·exact (hpl a ha).2.1
   ·exact (show cSemi≠cLet by decide)
   ·cases ha
  ·intro r
   rw[sayW_rule]
   exact a6
  ·intro r
   rw[rulesK_n rfl a7]
  ·intro r
   rw[rulePartsGo_rule]
   have:partsGo E.ps 0 (optToks (Option.map Prod.snd (none:Option (RTok×Tr))))=0:=rfl
   omega
  ·intro p hp
   rw[htk]
   exact a9 p true _ rfl hp.2 (rule_step hp fun _=>hne.1)
 | some q =>
  obtain ⟨w,ww⟩:=q
  obtain ⟨u,U⟩:=hw (w,ww) rfl (pos+5)
  obtain ⟨act,t,a1,a2,a3,a4,a5,a6,a7,a8,a9⟩:=act_tree hs h2 (pos+5+w.length+1)
  have hact:act.text=cScore∨act.text=cReject:=by rw[a1];split <;> simp
  have hne:act.text≠cLet∧nameT act.text=false∧mayT act.text=true∧jointT act.text=false:=by rcases hact with h | h <;> rw[h] <;> decide
  generalize hat:pos+(ruleB (some w) (sc.map Prod.fst)).length=at2
  have hwf:(RSt.rule (some (⟨cWhen,pos⟩,u)) act t ⟨cSemi,at2⟩).wf:=⟨(fun k e he=>by cases he;exact ⟨rfl,U.wf⟩),a1,a2,rfl⟩
  have htk:(RSt.rule (some (⟨cWhen,pos⟩,u)) act t ⟨cSemi,at2⟩).toks=([⟨cWhen,pos⟩]++(u.toks++(act :: optToks t)))++[⟨cSemi,at2⟩]:=by
   show (whToks (some (⟨cWhen,pos⟩,u))++act :: optToks t)++[_]=_
   rw[show whToks (some ((⟨cWhen,pos⟩:RTok),u))=⟨cWhen,pos⟩ :: u.toks from rfl]
   simp
   rfl
  have hpl:∀ a∈optToks t,plainE a.text:=opt_plain t a2
  have hpu:∀ a∈u.toks,plainE a.text:=u.plain U.wf
  have hmem:∀ a∈(RSt.rule (some (⟨cWhen,pos⟩,u)) act t ⟨cSemi,at2⟩).toks,a=⟨cWhen,pos⟩∨a∈u.toks∨a=act∨a∈optToks t∨a=⟨cSemi,at2⟩:=by
   intro a ha
   rw[htk]at ha
   simp only[List.mem_append,List.mem_cons,List.mem_nil_iff,or_false]at ha
   rcases ha with (ha | ha | ha | ha) | ha
   ·exact .inl ha
   ·exact .inr (.inl ha)
   ·exact .inr (.inr (.inl ha))
   ·exact .inr (.inr (.inr (.inl ha)))
   ·exact .inr (.inr (.inr (.inr ha)))
  refine ⟨_,hwf,rfl, ?_, ?_, ?_, ?_, ?_, ?_, ?_, ?_⟩
  ·rw[htk,← hat]
   exact toksH_semi (toks_app (toks_one pos (by decide) (by decide) (by decide) (by decide)) (toks_blank1 (toks_app U.toks (toks_blank1 a3) ⟨32,_,rfl,rfl⟩)) ⟨32,_,rfl,rfl⟩)
  ·intro a ha
   rcases hmem a ha with rfl | ha | rfl | ha | rfl
   ·rfl
   ·exact U.may a ha
   ·exact hne.2.2.1
   ·exact a4 a ha
   ·rfl
  ·intro a ha hn
   rcases hmem a ha with rfl | ha | rfl | ha | rfl
   ·exact absurd hn (show ¬ (nameT cWhen=true) by decide)
   ·exact U.nam a ha hn
   ·rw[hne.2.1]at hn;cases hn
   ·exact a5 a ha hn
   ·exact absurd hn (show ¬ (nameT cSemi=true) by decide)
  ·intro a ha
   rcases hmem a ha with rfl | ha | rfl | ha | rfl
   ·exact (show cWhen≠cLet by decide)
   ·exact (hpu a ha).2.1
   ·exact hne.1
   ·exact (hpl a ha).2.1
   ·exact (show cSemi≠cLet by decide)
  ·intro r
   rw[sayW_rule]
   unfold sayD sayO
   simp only[Option.map_some]
   rw[U.wor,a6]
  ·intro r
   refine rulesK_n ?_ a7
   show (match kindT E.kn u with | .error p=>some p | .ok k=>if k=2 then none else some (firstAt u))=none
   rw[U.kind]
   rfl
  ·intro r
   rw[rulePartsGo_rule]
   have h3:partsGo E.ps 0 (optToks (Option.map Prod.snd (some ((⟨cWhen,pos⟩:RTok),u))))≤p1:=by
    show partsGo E.ps 0 u.toks≤p1
    have:=U.prt
    rw[partsGo_sum _ _ _ (by omega)]
    omega
   omega
  ·intro p hp
   obtain ⟨q,hq1,hq2,hq3⟩:=a9 ⟨4,1,0⟩ false ⟨cSemi,at2⟩ rfl rfl (when_rule hne.2.2.2)
   refine ⟨q, ?_,hq2,hq3⟩
   rw[htk,List.append_assoc,List.singleton_append,goS_cons ((rule_step hp fun _=>(show cWhen≠cLet by decide)).trans (ruleS_when rfl hp.2)),List.append_assoc,goS_ok (U.go 1 0 (by omega))]
   exact hq1
theorem toks_len_aux:∀ (n:Nat) (s:Txt) (p:Nat) (l:List RTok),s.length≤n→toksR s p=.ok l→l.length≤s.length
 | _,[],p,l,_,h=>by rw[toksR_nil]at h;cases h;exact Nat.le_refl _
 | 0,c :: r,p,l,hn,_=>by simp at hn
 | n+1,c :: r,p,l,hn,h=>by
  have hp:=runLen_pos c r
  rw[toksR_cons]at h
  rw[List.length_cons]at hn
  split at h
  ·have:=toks_len_aux n r (p+1) l (by omega) h
   rw[List.length_cons];omega
  ·split at h
   ·generalize hd:(c :: r).drop (runLen (c :: r))=d at h
    have hdl:d.length≤r.length:=by rw[← hd,List.length_drop,List.length_cons];omega
    cases ht:toksR d (p+runLen (c :: r)) with
    | ok m =>
     rw[ht]at h
     cases h
     have:=toks_len_aux n d _ m (by omega) ht
     simp only[List.length_cons]
     omega
    | error e=>rw[ht]at h;cases h
   ·cases h
abbrev MadeR:=Option (Txt×Wo)×Option (Txt×Wo)
def rulesT:List MadeR→Txt
 | []=>[]
 | r :: l=>(ruleB (r.1.map Prod.fst) (r.2.map Prod.fst)++[59])++rulesT l
def rulesO:List MadeR→Nat×Int×Nat
 | []=>(0,0,1)
 | r :: l=>sayO (r.1.map Prod.snd) (r.2.map Prod.snd) (rulesO l)
structure RulesOf(E:Ctx)(txt:Txt)(say:Nat×Int×Nat)(prt pos:Nat)(R:List RSt):Prop where
 rules:isRuleL' R
 wf:∀ s∈R,s.wf
 toks:ToksH txt pos (toksL R)
 may:∀ a∈toksL R,mayT a.text=true
 nam:∀ a∈toksL R,nameT a.text=true→a.text∈E.nms
 nolet:∀ a∈toksL R,a.text≠cLet
 say:sayW (lookW E.c) E.x E.y R=say
 kinds:rulesK E.kn R=none
 parts:rulePartsGo E.ps R≤prt
theorem rules_tree{E:Ctx}:∀ (rs:List MadeR),(∀ r∈rs,IsO E r.1 2 25∧IsO E r.2 1 50)→∀ pos,∃ R,R.length=rs.length∧RulesOf E (rulesT rs) (rulesO rs) (75*rs.length) pos R∧∀ p,RuleAt p→∃ q,goS p (toksL R)=.ok q∧RuleAt q∧(rs≠[]→q.next=6)
 | [],_,pos=>⟨[],rfl,⟨(fun s h=>by cases h),(fun s h=>by cases h),toksH_nil pos,(fun s h=>by cases h),(fun s h=>by cases h),(fun s h=>by cases h),rfl,rfl,Nat.le_refl _⟩,fun p hp=>⟨p,rfl,hp,fun h=>absurd rfl h⟩⟩
 | r :: l,h,pos=>by
  obtain ⟨h1,h2⟩:=h r List.mem_cons_self
  obtain ⟨s,S⟩:=rule_tree h1 h2 (by omega) (by omega) pos
  obtain ⟨R,hlen,HR,hgo⟩:=rules_tree l (fun q hq=>h q (List.mem_cons_of_mem _ hq)) (pos+(ruleB (r.1.map Prod.fst) (r.2.map Prod.fst)++[59]).length)
  refine ⟨s :: R,by simp[hlen],⟨?_, ?_, ?_, ?_, ?_, ?_, ?_, ?_, ?_⟩, ?_⟩
  ·intro q hq
   rcases List.mem_cons.1 hq with rfl | hq
   ·exact S.rule
   ·exact HR.rules q hq
  ·intro q hq
   rcases List.mem_cons.1 hq with rfl | hq
   ·exact S.wf
   ·exact HR.wf q hq
  ·rw[toksL_cons]
   exact toksH_app S.toks HR.toks
  ·intro a ha
   rw[toksL_cons,List.mem_append]at ha
   exact ha.elim (S.may a) (HR.may a)
  ·intro a ha
   rw[toksL_cons,List.mem_append]at ha
   exact ha.elim (S.nam a) (HR.nam a)
  ·intro a ha
   rw[toksL_cons,List.mem_append]at ha
   exact ha.elim (S.nolet a) (HR.nolet a)
  ·rw[S.say,HR.say];rfl
  ·rw[S.kinds,HR.kinds]
  ·have:=S.parts R
   have:=HR.parts
   simp only[List.length_cons]
   omega
  ·intro p hp
   obtain ⟨q,q1,q2,q3⟩:=S.go p hp
   obtain ⟨q',q4,q5,q6⟩:=hgo q q2
   refine ⟨q',by rw[toksL_cons,goS_ok q1];exact q4,q5,fun _=>?_⟩
   cases l with
   | nil =>
    have:R=[]:=List.length_eq_zero_iff.1 hlen
    subst this
    have q4':Except.ok (ε:=Nat) q=.ok q':=q4
    cases q4'
    exact q3
   | cons a l=>exact q6 (by simp)
theorem names_fine{there:List Txt}:∀ (l:List RTok) (prev:Txt),prev≠cLet→(∀ a∈l,a.text≠cLet)→(∀ a∈l,nameT a.text=true→a.text∈there)→namesGo there [] prev l=none
 | [],_,_,_,_=>rfl
 | t :: r,prev,hp,hl,hn=>by
  have ih:=names_fine r t.text (hl t List.mem_cons_self) (fun a ha=>hl a (List.mem_cons_of_mem _ ha)) (fun a ha=>hn a (List.mem_cons_of_mem _ ha))
  cases hx:nameT t.text with
  | false=>rw[names_skip0 hx];exact ih
  | true =>
   obtain ⟨e1,e2⟩:=thereN_no (there:=there) (late:=[]) (t:=t.text) (.inr rfl)
   have hc:there.contains t.text=true:=by simpa using hn t List.mem_cons_self hx
   have hpl:(prev==cLet)=false:=by simpa using hp
   rw[namesGo,hx,if_pos rfl,e1,e2,hc,hpl,if_neg (by decide),if_neg (by decide)]
   exact ih
structure FineP(s:Txt)(x:Itm)(y:Bn)(say:Nat×Int×Nat)(L R:List RSt):Prop where
 pol:PolicyOf s L R
 num:(nodesS 0 (L++R)).length≤401
 errs:errsOf (nodesS 0 (L++R)) (letsS 0 (L++R)) (rulesS 0 (L++R))=(0,0)
 says:saysP x y L R=say
theorem stmts_num:∀ (l:List RSt),(∀ s∈l,s.wf)→numS l≤(toksL l).length
 | [],_=>Nat.zero_le _
 | s :: r,h=>by
  have ih:=stmts_num r (fun q hq=>h q (List.mem_cons_of_mem _ hq))
  rw[numS,toksL_cons,List.length_append]
  have:s.num≤s.toks.length:=by
   have hw:=h s List.mem_cons_self
   rw[RSt.toks_length]
   rcases s.cases with ⟨kw,name,eq,e,semi,rfl⟩ | ⟨wh,act,sc,semi,rfl⟩
   ·rw[RSt.num_let,RSt.body_let]
    have:=e.num_le hw.2.2.2.1
    simp only[List.length_cons]
    omega
   ·rw[RSt.num_rule,RSt.body_rule]
    have ho:∀ o:Option Tr,(∀ e,o=some e→e.wf)→optNum o≤(optToks o).length:=by
     intro o ho
     cases o with
     | none=>exact Nat.le_refl _
     | some e=>exact e.num_le (ho e rfl)
    have h2:=ho sc hw.2.2.1
    cases wh with
    | none=>simp only[List.length_append,List.length_cons,Option.map_none];have:optNum none=0:=rfl;omega
    | some p =>
     have h1:=p.2.num_le (hw.1 p.1 p.2 rfl).2
     have e1:(whToks (some p)).length=p.2.toks.length+1:=rfl
     have e2:optNum (Option.map Prod.snd (some p))=p.2.num:=rfl
     simp only[List.length_append,List.length_cons]
     omega
  omega
theorem fine_of{s:Txt}{x:Itm}{y:Bn}{say:Nat×Int×Nat}{L R:List RSt}(hL:isLetL' L)(hR:isRuleL' R)(hw:∀ q∈L++R,q.wf)(hlen:s.length≤400)(htk:toksR s 0=.ok (toksL (L++R)))(hgo:∃ q,goS ⟨0,0,0⟩ (toksL (L++R))=.ok q∧q.next=6)(hne:R≠[])
  (hmay:∀ a∈toksL (L++R),mayT a.text=true) (hnm:namesGo [] [] [] (toksL (L++R))=none) (hk:wrongT L R=none) (hb:bigT L R=false) (hs:saysP x y L R=say):FineP s x y say L R:=by
 have hsh:=toks_len_aux s.length s 0 _ (Nat.le_refl _) htk
 have hp:PolicyOf s L R:=by
  refine ⟨?_,hL,hR,hw,hmay,hne,by omega⟩
  obtain ⟨q,q1,q2⟩:=hgo
  unfold tokened
  rw[if_neg (by omega),htk]
  simp only
  rw[q1]
  simp only
  rw[if_pos q2]
 have hnum:=stmts_num (L++R) hw
 have hnl:=nodesS_len (L++R) hw 0
 refine ⟨hp,by omega, ?_,hs⟩
 have hpn:=names_same L R hL hR hw
 rw[hnm]at hpn
 have hpm:∀ q∈L++R,q.wf∧q.may:=by
  intro q hq
  refine ⟨hw q hq,fun t ht=>hmay t ?_⟩
  rw[toksL,List.mem_flatMap]
  exact ⟨q,hq,by rw[RSt.toks];simp[ht]⟩
 have hpk:=kinds_same L R hL hR hpm hpn.symm
 have hpp:=parts_same L R hL hR hpm hpn.symm
 unfold errsOf
 rw[← hpn]
 simp only
 rw[hpk,hk]
 simp only
 rw[hb]at hpp
 rw[if_neg (of_decide_eq_false hpp)]
def cKk:Txt:=[107,107]
def letT(e:Txt):Txt:=cLet++32 :: (cKk++32 :: (cEq++32 :: e))
def ctx0(x:Itm)(y:Bn):Ctx:=⟨[],[],[],[],x,y⟩
def ctx1(x:Itm)(y:Bn)(w:Wo)(n:Nat):Ctx:=⟨[(cKk,w)],[(cKk,1)],[cKk],[(cKk,n)],x,y⟩
theorem ctx0_ok(x:Itm)(y:Bn):(ctx0 x y).Ok:=⟨fun q hq=>by cases hq⟩
theorem ctx1_ok(x:Itm)(y:Bn)(w:Wo)(n:Nat):(ctx1 x y w n).Ok:=⟨fun q hq=>by
 rw[List.mem_singleton.1 hq]
 exact (show nameT cKk=true by decide)⟩
theorem kk_is(x:Itm)(y:Bn)(w:Wo)(n:Nat):IsP (ctx1 x y w n) cKk 6 w 1 0 n :=
 IsP.named (by decide) (by decide) (by decide) (by decide) (by decide) (by decide) (by decide) (by decide) (by decide) (by decide) (List.mem_singleton.2 rfl) rfl (by decide) rfl (Nat.le_of_eq rfl)
theorem made_none{rs:List MadeR}{x:Itm}{y:Bn}(hr:∀ r∈rs,IsO (ctx0 x y) r.1 2 25∧IsO (ctx0 x y) r.2 1 50)(hne:rs≠[])(h2:rs.length≤2)(hlen:(rulesT rs).length≤400):∃ L R,FineP (rulesT rs) x y (rulesO rs) L R:=by
 obtain ⟨R,hRl,HR,hgo⟩:=rules_tree rs hr 0
 refine ⟨[],R,fine_of (fun s h=>by cases h) HR.rules (by simpa using HR.wf) hlen ?_ ?_ ?_ (by simpa using HR.may) ?_ ?_ ?_ ?_⟩
 ·have:=HR.toks []
  rw[List.append_nil]at this
  rw[this,toksR_nil]
  simp[preR]
 ·obtain ⟨q,q1,q2,q3⟩:=hgo ⟨0,0,0⟩ ⟨.inl rfl,rfl⟩
  exact ⟨q,by rw[List.nil_append];exact q1,q3 hne⟩
 ·intro h
  rw[h]at hRl
  exact hne (List.length_eq_zero_iff.1 hRl.symm)
 ·rw[List.nil_append]
  exact names_fine _ _ (by decide) HR.nolet HR.nam
 ·exact HR.kinds
 ·unfold bigT
  have:=HR.parts
  have e:rulePartsGo (sizesGo [] []) R=rulePartsGo (ctx0 x y).ps R:=rfl
  rw[e]
  exact decide_eq_false (by omega)
 ·exact HR.say
theorem names_pass{there:List Txt}{late:Txt}(r:List RTok):∀ (l:List RTok) (prev:Txt),(∀ a∈l,nameT a.text=false∧a.text≠cSemi)→∃ prev',namesGo there late prev (l++r)=namesGo there late prev' r
 | [],prev,_=>⟨prev,rfl⟩
 | t :: l,prev,h=>by
  obtain ⟨h1,h2⟩:=h t List.mem_cons_self
  obtain ⟨p',hp⟩:=names_pass r l t.text (fun a ha=>h a (List.mem_cons_of_mem _ ha))
  exact ⟨p',by rw[List.cons_append,names_skip h1 h2];exact hp⟩
theorem made_some{rs:List MadeR}{x:Itm}{y:Bn}{e:Txt}{w:Wo}(hl:IsP (ctx0 x y) e 1 w 1 8 6)(hr:∀ n,n≤6→∀ r∈rs,IsO (ctx1 x y w n) r.1 2 25∧IsO (ctx1 x y w n) r.2 1 50)(hne:rs≠[])(h2:rs.length≤2)(hlen:((letT e++[59])++rulesT rs).length≤400) :
  ∃ L R,FineP ((letT e++[59])++rulesT rs) x y (rulesO rs) L R:=by
 obtain ⟨t,T⟩:=hl 9
 have hprt:=T.prt
 have hpg:partsGo [] 0 t.toks≤6:=by
  rw[partsGo_sum [] t.toks 0 (by have:partSum [] t.toks≤6:=hprt;omega)]
  have:partSum [] t.toks≤6:=hprt
  omega
 obtain ⟨R,hRl,HR,hgo⟩:=rules_tree rs (hr _ hpg) (0+(letT e++[59]).length)
 have hpl:=t.plain T.wf
 have hnn:∀ a∈t.toks,nameT a.text=false:=fun a ha=>by
  cases h:nameT a.text with
  | false=>rfl
  | true=>exact absurd (T.nam a ha h) (by simp[ctx0])
 have htk:Toks (letT e) 0 ([⟨cLet,0⟩]++([⟨cKk,4⟩]++([⟨cEq,7⟩]++t.toks))) :=
  toks_app (toks_one 0 (by decide) (by decide) (by decide) (by decide)) (toks_blank1 (toks_app (toks_one 4 (by decide) (by decide) (by decide) (by decide)) (toks_blank1 (toks_app (toks_one 7 (by decide) (by decide) (by decide) (by decide)) (toks_blank1 T.toks) ⟨32,_,rfl,rfl⟩)) ⟨32,_,rfl,rfl⟩)) ⟨32,_,rfl,rfl⟩
 generalize hat:0+(letT e).length=at2
 have htkL:toksL [RSt.letS ⟨cLet,0⟩ ⟨cKk,4⟩ ⟨cEq,7⟩ t ⟨cSemi,at2⟩]=([⟨cLet,0⟩]++([⟨cKk,4⟩]++([⟨cEq,7⟩]++t.toks)))++[⟨cSemi,at2⟩]:=by
  rw[toksL_cons]
  show (_++_)++toksL []=_
  rw[show toksL []=([]:List RTok) from rfl,List.append_nil]
  rfl
 refine ⟨[RSt.letS ⟨cLet,0⟩ ⟨cKk,4⟩ ⟨cEq,7⟩ t ⟨cSemi,at2⟩],R,fine_of ?_ HR.rules ?_ hlen ?_ ?_ ?_ ?_ ?_ ?_ ?_ ?_⟩
 ·intro s hs
  rw[List.mem_singleton.1 hs]
  rfl
 ·intro s hs
  rcases List.mem_append.1 hs with hs | hs
  ·rw[List.mem_singleton.1 hs]
   exact ⟨rfl,(show nameT cKk=true by decide),rfl,T.wf,rfl⟩
  ·exact HR.wf s hs
 ·rw[toksL_append,htkL]
  have h1:=toksH_app (toksH_semi htk) HR.toks []
  rw[List.append_nil,toksR_nil,hat]at h1
  rw[h1]
  simp[preR]
 ·obtain ⟨q,q1,q2,q3⟩:=hgo ⟨0,0,0⟩ ⟨.inl rfl,rfl⟩
  refine ⟨q, ?_,q3 hne⟩
  rw[toksL_append,htkL]
  simp only[List.singleton_append,List.cons_append,List.append_assoc,List.nil_append]
  rw[goS_cons (let_one rfl),goS_cons (t:=⟨cKk,4⟩) (let_two (show nameT cKk=true by decide)),goS_cons (let_three rfl),goS_ok (T.go 0 0 (by omega)),goS_cons (let_end rfl)]
  exact q1
 ·intro h
  rw[h]at hRl
  exact hne (List.length_eq_zero_iff.1 hRl.symm)
 ·intro a ha
  rw[toksL_append,htkL]at ha
  simp only[List.mem_append,List.mem_cons,List.mem_nil_iff,or_false]at ha
  rcases ha with ((rfl | rfl | rfl | ha) | rfl) | ha
  ·exact (show mayT cLet=true by decide)
  ·exact (show mayT cKk=true by decide)
  ·exact (show mayT cEq=true by decide)
  ·exact T.may a ha
  ·exact (show mayT cSemi=true by decide)
  ·exact HR.may a ha
 ·rw[toksL_append,htkL]
  simp only[List.singleton_append,List.cons_append,List.append_assoc,List.nil_append]
  rw[names_skip (show nameT cLet=false by decide) (show cLet≠cSemi by decide)]
  have e1:namesGo [] [] cLet (⟨cKk,4⟩ :: ⟨cEq,7⟩ :: (t.toks++(⟨cSemi,at2⟩ :: toksL R)))=namesGo [] cKk cKk (⟨cEq,7⟩ :: (t.toks++(⟨cSemi,at2⟩ :: toksL R))):=by
   rw[namesGo]
   rfl
  show namesGo [] [] cLet _=none
  rw[e1,names_skip (show nameT cEq=false by decide) (show cEq≠cSemi by decide)]
  obtain ⟨pr,hpr⟩:=names_pass (there:=[]) (late:=cKk) (⟨cSemi,at2⟩ :: toksL R) t.toks cEq (fun a ha=>⟨hnn a ha,(hpl a ha).1⟩)
  show namesGo [] cKk cEq _=none
  rw[hpr]
  have e2:namesGo [] cKk pr (⟨cSemi,at2⟩ :: toksL R)=namesGo [cKk] [] cSemi (toksL R):=by
   rw[namesGo]
   rfl
  rw[e2]
  exact names_fine _ _ (by decide) HR.nolet HR.nam
 ·have:letsK [] [RSt.letS ⟨cLet,0⟩ ⟨cKk,4⟩ ⟨cEq,7⟩ t ⟨cSemi,at2⟩]=.ok [(cKk,1)]:=by
   rw[letsK_ok (show kindT [] t=.ok 1 from T.kind)]
   rfl
  rw[wrongT_ok this]
  exact HR.kinds
 ·unfold bigT
  have:=HR.parts
  have e:rulePartsGo (sizesGo [] [RSt.letS ⟨cLet,0⟩ ⟨cKk,4⟩ ⟨cEq,7⟩ t ⟨cSemi,at2⟩]) R=rulePartsGo (ctx1 x y w (partsGo [] 0 t.toks)).ps R:=rfl
  rw[e]
  exact decide_eq_false (by omega)
 ·unfold saysP
  have e:envS x y [] [RSt.letS ⟨cLet,0⟩ ⟨cKk,4⟩ ⟨cEq,7⟩ t ⟨cSemi,at2⟩]=[(cKk,t.wor (lookW []) x y)]:=rfl
  rw[e,show t.wor (lookW []) x y=w from T.wor]
  exact HR.say
def strip0:Txt→Txt
 | []=>[]
 | [a]=>[a]
 | a :: b :: r=>if a==48 then strip0 (b :: r) else a :: b :: r
def shortN(t:Txt):Txt:=if isDig (headC t) then strip0 t else t
def brk(b:Bool)(t:Txt):Txt:=if b then 40 :: (t++[41]) else t
def plainB:BT (RTok×RTok)→Nat→Txt
 | .nil,_=>[]
 | .node 0 _ a _ _,_=>shortN a.1.text
 | .node 1 _ a e _,_=>(if a.1.text==cMinus then cMinus else a.1.text++[32])++plainB e 6
 | .node 2 _ a l r,lv=>brk (decide (bindsT a.1.text<lv)) (plainB l (bindsT a.1.text)++32 :: (a.1.text++32 :: plainB r (bindsT a.1.text+1)))
 | .node _ _ _ e _,lv=>plainB e lv
def Tr.plainT(t:Tr)(lv:Nat):Txt:=plainB t lv
theorem plainT_leaf(a:RTok)(lv:Nat):(Tr.leaf a).plainT lv=shortN a.text:=rfl
theorem plainT_un(op:RTok)(e:Tr)(lv:Nat):(Tr.un op e).plainT lv=(if op.text==cMinus then cMinus else op.text++[32])++e.plainT 6:=rfl
theorem plainT_bin(op:RTok)(l r:Tr)(lv:Nat):(Tr.bin op l r).plainT lv=brk (decide (bindsT op.text<lv)) (l.plainT (bindsT op.text)++32 :: (op.text++32 :: r.plainT (bindsT op.text+1))):=rfl
theorem plainT_par(o:RTok)(e:Tr)(c:RTok)(lv:Nat):(Tr.par o e c).plainT lv=e.plainT lv:=rfl
theorem strip0_le:∀ t:Txt,(strip0 t).length≤t.length
 | []=>Nat.le_refl _
 | [a]=>Nat.le_refl _
 | a :: b :: r=>by
  have:=strip0_le (b :: r)
  rw[strip0]
  split
  ·simp only[List.length_cons]at *;omega
  ·exact Nat.le_refl _
theorem shortN_le(t:Txt):(shortN t).length≤t.length:=by
 unfold shortN
 split
 ·exact strip0_le t
 ·exact Nat.le_refl _
theorem brk_len(b:Bool)(t:Txt):(brk b t).length≤t.length+2:=by
 unfold brk
 split
 ·simp
 ·omega
theorem plainT_len(t:Tr)(h:t.wf):(∀ a∈t.toks,a.text.length≤18)→∀ lv,(t.plainT lv).length≤30*t.toks.length:=by
 refine Tr.ind (P:=fun t=>(∀ a∈t.toks,a.text.length≤18)→∀ lv,(t.plainT lv).length≤30*t.toks.length) t h ?_ ?_ ?_ ?_
 ·intro a _ hm lv
  have h1:=hm a (by rw[Tr.toks_leaf];simp)
  have h2:=shortN_le a.text
  rw[plainT_leaf,Tr.toks_leaf]
  simp only[List.length_cons,List.length_nil]
  omega
 ·intro op e _ he hm lv
  have h1:=hm op (by rw[Tr.toks_un];simp)
  have h2:=he (fun a ha=>hm a (by rw[Tr.toks_un];simp[ha])) 6
  rw[plainT_un,Tr.toks_un,List.length_append,List.length_cons]
  split
  ·have:cMinus.length=1:=rfl
   omega
  ·simp only[List.length_append,List.length_cons,List.length_nil]
   omega
 ·intro op l r _ hl hr hm lv
  have h1:=hm op (by rw[Tr.toks_bin];simp)
  have h2:=hl (fun a ha=>hm a (by rw[Tr.toks_bin];simp[ha])) (bindsT op.text)
  have h3:=hr (fun a ha=>hm a (by rw[Tr.toks_bin];simp[ha])) (bindsT op.text+1)
  rw[plainT_bin,Tr.toks_bin,List.length_append,List.length_cons]
  refine Nat.le_trans (brk_len _ _) ?_
  simp only[List.length_append,List.length_cons]
  omega
 ·intro o e c _ he hm lv
  have h2:=he (fun a ha=>hm a (by rw[Tr.toks_par];simp[ha])) lv
  rw[plainT_par,Tr.toks_par,List.length_cons,List.length_append]
  omega
theorem may_18{t:Txt}(h:mayT t=true):t.length≤18:=by
 unfold mayT at h
 split at h
 ·exact of_decide_eq_true h
 ·split at h
  ·have:=of_decide_eq_true h;omega
  ·have:∀ u∈tSign,u.length≤18:=by decide
   exact this t (List.contains_iff_mem.1 h)
def actP(sc:Option Tr):Txt:=match sc with
 | none=>cReject++[59]
 | some e=>cScore++32 :: (e.plainT 1++[59])
def whenP(wh:Option Tr):Txt:=match wh with
 | none=>[]
 | some e=>cWhen++32 :: (e.plainT 1++[32])
def RSt.plainS(s:RSt):Txt:=Sum.elim (fun d:LetD=>cLet++32 :: (d.name.text++32 :: (cEq++32 :: (d.e.plainT 1++[59])))) (fun d:RuleD=>whenP (d.wh.map Prod.snd)++actP d.sc) s
end Go.Proofs.YtpcjadaeolkngaaGreatDoor
