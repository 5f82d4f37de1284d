/-
  The program's reader: a RULE's steps.
-/
import Derived.Test.YtgfnkeiigjholaaGreatDoorQ27
set_option linter.unusedVariables false
set_option linter.unusedSimpArgs false
namespace Go.Proofs.YtgfnkeiigjholaaGreatDoor
open Go.RowKit Go.Deep
def RuleOut(B:Nat)(S:RS)(p:Spot)(l:List RTok)(w w':World):Prop :=
  Below B w w' ∧
  ((∃ s rest nv rv q,GotS p l s rest q∧s.isLet=false∧q.next=6∧q.opn=0∧RdAt w' B { S with k:=S.k+s.toks.length,nv:=nv,rv:=rv,ns:=S.ns++s.nodes S.ns.length,rs:=S.rs++s.rules S.ns.length }) ∨
   (∃ j nv rv ns n,BadS p l j∧RdAt w' B { S with k:=S.k+j,f:=true,nv:=nv,rv:=rv,ns:=ns,rs:=S.rs++[n] }))
structure GW(S:RS)(p:Spot)(l:List RTok)(hw:Bool)(we:PExp)(j:Nat)(ns:List PNode):Prop where
  ex:∃ wh p1 rest,l=whToks wh++rest∧(∀ k e,wh=some (k,e)→k.text=cWhen∧e.wf)∧goS p (whToks wh)=.ok p1∧(wh=none→p1=p)∧Acts p1 (!wh.isSome) rest∧(rest=[]→p1.next≠6) ∧
    (∀ a r,rest=a :: r→wh.isSome=false→a.text≠cWhen)∧j=(whToks wh).length∧ns=S.ns++optNodes S.ns.length (wh.map Prod.snd)∧hw=wh.isSome∧we=optE S.ns.length (wh.map Prod.snd)
structure GA(S:RS)(p:Spot)(l:List RTok)(hw:Bool)(we:PExp)(hs:Bool)(se:PExp)(j:Nat)(ns:List PNode):Prop where
  ex:∃ wh act sc rest q,l=whToks wh++act :: optToks sc++rest∧(∀ k e,wh=some (k,e)→k.text=cWhen∧e.wf)∧act.text=(if sc.isSome then cScore else cReject)∧(∀ e,sc=some e→e.wf)∧goS p (whToks wh++act :: optToks sc)=.ok q∧q.next≠6 ∧
    (∀ a r,rest=a :: r→(a.text=cSemi→∃ q',stepS q a.text=(q',true)∧q'.next=6∧q'.opn=0)∧(a.text≠cSemi→(stepS q a.text).2=false)) ∧
    j=(whToks wh).length+1+(optToks sc).length∧ns=S.ns++(optNodes S.ns.length (wh.map Prod.snd)++optNodes (S.ns.length+optNum (wh.map Prod.snd)) sc)∧hw=wh.isSome∧we=optE S.ns.length (wh.map Prod.snd)∧hs=sc.isSome∧se=optE (S.ns.length+optNum (wh.map Prod.snd)) sc
structure GE(S:RS)(p:Spot)(l:List RTok)(r:PRule)(j:Nat)(ns:List PNode):Prop where
  ex:∃ s rest q,GotS p l s rest q∧s.isLet=false∧q.next=6∧q.opn=0∧j=s.toks.length∧ns=S.ns++s.nodes S.ns.length∧s.rules S.ns.length=[r]
theorem optNodes_le(o:Option Tr)(h:∀ e,o=some e→e.wf)(b:Nat):(optNodes b o).length≤(optToks o).length:=by
  cases o with
  | none=>exact Nat.le_refl _
  | some e=>show (e.flat b).length≤e.toks.length;rw[e.flat_len (h e rfl)];exact e.num_le (h e rfl)
theorem whNodes_le(wh:Option (RTok×Tr))(h:∀ k e,wh=some (k,e)→k.text=cWhen∧e.wf)(b:Nat):(optNodes b (wh.map Prod.snd)).length=optNum (wh.map Prod.snd)∧optNum (wh.map Prod.snd)≤(whToks wh).length:=by
  cases wh with
  | none=>exact ⟨rfl,Nat.le_refl _⟩
  | some p =>
    obtain ⟨k,e⟩:=p
    have hw:=(h k e rfl).2
    refine ⟨e.flat_len hw b, ?_⟩
    show e.num≤(k :: e.toks).length
    have:=e.num_le hw
    simp;omega
theorem no_when(S:RS){p:Spot}{l:List RTok}(hp:RuleAt p)(h0:p.next=0→∀ a r,l=a :: r→a.text≠cLet)(h6:l=[]→p.next≠6)(hm:∀ t∈l,mayT t.text=true):∀ j ns,((j=0∧ns=S.ns)∧∀ a,l[j]?=some a→kindP a.text≠4)→GW S p l false noExp j ns:=by
  rintro j ns ⟨⟨rfl,rfl⟩,hno⟩
  refine ⟨none,p,l,rfl,fun k e h=>(by cases h),rfl,fun _=>rfl,acts_first hp h0,h6, ?_,rfl,(by simp[optNodes]),rfl,rfl⟩
  rintro a r rfl _
  exact fun h=>hno a rfl ((kindOf _ (hm a (by simp))).kwhen.2 h)
def GW1(S:RS)(l:List RTok)(j:Nat)(ns:List PNode):Prop:=j=1∧ns=S.ns∧∃ a r,l=a :: r∧a.text=cWhen
theorem head_of{l:List RTok}{a:RTok}(h:l[0]?=some a):∃ r,l=a :: r:=by
  cases l with
  | nil=>simp at h
  | cons b r=>simp at h;subst h;exact ⟨r,rfl⟩
theorem when_one(S:RS){p:Spot}{l:List RTok}(hm:∀ t∈l,mayT t.text=true):∀ j ns,((j=0∧ns=S.ns)∧∃ a,l[j]?=some a∧kindP a.text=4)→j≤l.length∧ns.length≤S.ns.length+j∧(∀ a,l[j]?=some a→kindP a.text=4→GW1 S l (j+1) ns)∧((∀ a,l[j]?=some a→kindP a.text≠4)→BadS p l j):=by
  rintro j ns ⟨⟨rfl,rfl⟩,a,ha,hk⟩
  refine ⟨Nat.zero_le _,by omega,fun a' ha' hk'=>?_,fun hno=>absurd hk (hno a ha)⟩
  obtain ⟨r,rfl⟩:=head_of ha'
  exact ⟨rfl,rfl,a',r,rfl,(kindOf _ (hm a' (by simp))).kwhen.1 hk'⟩
theorem when_expr(S:RS){p:Spot}{l:List RTok}(hp:RuleAt p):∀ j ns,GW1 S l j ns→j≤l.length∧ns.length≤S.ns.length+j∧(∀ t rest,GotO 0 (l.drop j) t rest→stops 1 rest→GW S p l true (layE ns.length t) (j+t.toks.length) (ns++t.flat ns.length))∧(∀ i,BadV 0 (l.drop j) i→BadS p l (j+i)):=by
  rintro j ns ⟨rfl,rfl,a,r,rfl,ha⟩
  have A:Acts p true (a :: r):=acts_first hp fun _ a' r' e=>by cases e;rw[ha];decide
  refine ⟨by simp,by omega,fun t rest g1 g2=>?_,fun i hb=>?_⟩
  · have g1':GotO 0 r t rest:=g1
    refine ⟨some (a,t),⟨4,1,0⟩,rest, ?_, ?_,when_go A ha g1',fun h=>(by cases h),acts_when g2,fun _=>(by decide),fun a' r' _ h=>(by cases h), ?_,rfl,rfl,rfl⟩
    · rw[g1'.eq];rfl
    · intro k e h;cases h;exact ⟨ha,g1'.wf⟩
    · show 1+t.toks.length=(a :: t.toks).length;simp;omega
  · rw[Nat.add_comm];exact when_bad A ha hb
structure GS1(S:RS)(p:Spot)(l:List RTok)(hw:Bool)(we:PExp)(j:Nat)(ns:List PNode):Prop where
  ex:∃ wh p1 act rest,l=whToks wh++act :: rest∧(∀ k e,wh=some (k,e)→k.text=cWhen∧e.wf)∧goS p (whToks wh)=.ok p1∧Acts p1 (!wh.isSome) (act :: rest)∧act.text=cScore∧j=(whToks wh).length+1∧ns=S.ns++optNodes S.ns.length (wh.map Prod.snd)∧hw=wh.isSome∧we=optE S.ns.length (wh.map Prod.snd)
theorem at_mid{a b:List RTok}{x:RTok}(h:(a++b)[a.length]?=some x):∃ r,b=x :: r:=by
  rw[List.getElem?_append_right (Nat.le_refl _),Nat.sub_self]at h
  exact head_of h
theorem score_one(S:RS){p:Spot}{l:List RTok}{hw:Bool}{we:PExp}(hm:∀ t∈l,mayT t.text=true):∀ j ns,(GW S p l hw we j ns∧∃ a,l[j]?=some a∧kindP a.text=5)→j≤l.length∧ns.length≤S.ns.length+j∧(∀ a,l[j]?=some a→kindP a.text=5→GS1 S p l hw we (j+1) ns)∧((∀ a,l[j]?=some a→kindP a.text≠5)→BadS p l j):=by
  rintro j ns ⟨⟨wh,p1,rest,rfl,h2,h3,h3',h4,h5,h6,rfl,rfl,rfl,rfl⟩,a,ha,hk⟩
  obtain ⟨n1,n2⟩:=whNodes_le wh h2 S.ns.length
  refine ⟨by simp,by rw[List.length_append,n1];omega,fun a' ha' hk'=>?_,fun hno=>absurd hk (hno a ha)⟩
  have hs:=(kindOf _ (hm a' (List.mem_of_getElem? ha'))).kscore.1 hk'
  obtain ⟨r,rfl⟩:=at_mid ha'
  exact ⟨wh,p1,a',r,rfl,h2,h3,h4,hs,rfl,rfl,rfl,rfl⟩
theorem semi_at2{t:Txt}(h:t=cSemi):∃ q',stepS ⟨4,2,0⟩ t=(q',true)∧q'.next=6∧q'.opn=0:=⟨_,score_end h,rfl,rfl⟩
theorem score_expr(S:RS){p:Spot}{l:List RTok}{hw:Bool}{we:PExp}:∀ j ns,GS1 S p l hw we j ns→j≤l.length∧ns.length≤S.ns.length+j∧(∀ t rest,GotO 0 (l.drop j) t rest→stops 1 rest→GA S p l hw we true (layE ns.length t) (j+t.toks.length) (ns++t.flat ns.length))∧(∀ i,BadV 0 (l.drop j) i→BadS p l (j+i)):=by
  rintro j ns ⟨wh,p1,act,r,rfl,h2,h3,h4,h5,rfl,rfl,rfl,rfl⟩
  obtain ⟨n1,n2⟩:=whNodes_le wh h2 S.ns.length
  have hd:(whToks wh++act :: r).drop ((whToks wh).length+1)=r:=by
    rw[show whToks wh++act :: r=(whToks wh++[act])++r by simp,List.drop_left' (by simp)]
  have hlen:(S.ns++optNodes S.ns.length (wh.map Prod.snd)).length=S.ns.length+optNum (wh.map Prod.snd):=by rw[List.length_append,n1]
  refine ⟨by simp,by rw[hlen];omega,fun t rest g1 g2=>?_,fun i hb=>?_⟩
  · rw[hd]at g1
    refine ⟨wh,act,some t,rest,⟨4,2,0⟩, ?_,h2, ?_, ?_, ?_,by decide, ?_, ?_, ?_,rfl,rfl,rfl, ?_⟩
    · rw[g1.eq];simp[optToks]
    · simp[h5]
    · intro e he;cases he;exact g1.wf
    · rw[goS_ok h3,goS_cons ((h4.nx act r rfl).trans (ruleS_score h5 h4.opn))];exact g1.go 2
    · intro a r' e
      exact ⟨fun h=>semi_at2 h,fun h=>score_end_bad (no_joint g2 e) h⟩
    · simp[optToks]
    · rw[hlen];simp[optNodes]
    · rw[hlen];rfl
  · rw[hd]at hb
    have:=(acts_bad_score h4 h5 hb).behind h3
    rw[show (whToks wh).length+1+i=(whToks wh).length+(i+1) by omega]
    exact this
theorem reject_one(S:RS){p:Spot}{l:List RTok}{hw:Bool}{we:PExp}(hm:∀ t∈l,mayT t.text=true):∀ j ns,(GW S p l hw we j ns∧∀ a,l[j]?=some a→kindP a.text≠5)→j≤l.length∧ns.length≤S.ns.length+j∧(∀ a,l[j]?=some a→kindP a.text=6→GA S p l hw we false noExp (j+1) ns)∧((∀ a,l[j]?=some a→kindP a.text≠6)→BadS p l j):=by
  rintro j ns ⟨⟨wh,p1,rest,rfl,h2,h3,h3',h4,h5,h6,rfl,rfl,rfl,rfl⟩,hns⟩
  obtain ⟨n1,n2⟩:=whNodes_le wh h2 S.ns.length
  have hat:∀ a r,rest=a :: r→(whToks wh++rest)[(whToks wh).length]?=some a:=by
    rintro a r rfl
    rw[List.getElem?_append_right (Nat.le_refl _),Nat.sub_self];rfl
  refine ⟨by simp,by rw[List.length_append,n1];omega,fun a ha hk=>?_,fun hno=>?_⟩
  · have hs:=(kindOf _ (hm a (List.mem_of_getElem? ha))).krej.1 hk
    obtain ⟨r,rfl⟩:=at_mid ha
    refine ⟨wh,a,none,r,⟨5,p1.expr,0⟩, ?_,h2,by simp[hs],fun e he=>(by cases he), ?_,by simp, ?_, ?_, ?_,rfl,rfl,rfl,rfl⟩
    · simp[optToks]
    · rw[goS_ok h3]
      show goS p1 [a]=_
      rw[goS_cons ((h4.nx a r rfl).trans (ruleS_rej hs h4.opn))];rfl
    · intro a' r' e
      exact ⟨fun h=>⟨_,rej_end h,rfl,rfl⟩,fun h=>rej_end_bad h⟩
    · simp[optToks]
    · simp[optNodes]
  · have hb:BadS p1 rest 0:=by
      refine acts_bad_here h4 h5 fun a r e=>⟨fun hb=>?_,fun h=>?_,fun h=>?_⟩
      · exact h6 a r e (by simpa using hb)
      · exact hns a (hat a r e) ((kindOf _ (hm a (by rw[e];simp))).kscore.2 h)
      · exact hno a (hat a r e) ((kindOf _ (hm a (by rw[e];simp))).krej.2 h)
    have:=hb.behind h3
    simpa using this
theorem semi_one(S:RS){p:Spot}{l:List RTok}{hw hs:Bool}{we se:PExp}(hm:∀ t∈l,mayT t.text=true):∀ j ns,GA S p l hw we hs se j ns→j≤l.length∧ns.length≤S.ns.length+j∧(∀ a,l[j]?=some a→kindP a.text=22→GE S p l ⟨hw,we,hs,se⟩ (j+1) ns)∧((∀ a,l[j]?=some a→kindP a.text≠22)→BadS p l j):=by
  rintro j ns ⟨wh,act,sc,rest,q,rfl,h2,h3,h4,h5,h6,h7,rfl,rfl,rfl,rfl,rfl,rfl⟩
  obtain ⟨n1,n2⟩:=whNodes_le wh h2 S.ns.length
  have n3:=optNodes_le sc h4 (S.ns.length+optNum (wh.map Prod.snd))
  have hlen:(whToks wh++act :: optToks sc).length=(whToks wh).length+1+(optToks sc).length:=by simp;omega
  have hat:∀ a r,rest=a :: r→(whToks wh++act :: optToks sc++rest)[(whToks wh).length+1+(optToks sc).length]?=some a:=by
    rintro a r rfl
    rw[← hlen,List.getElem?_append_right (Nat.le_refl _),Nat.sub_self];rfl
  refine ⟨by rw[← hlen];simp,by simp only[List.length_append];omega,fun a ha hk=>?_,fun hno=>?_⟩
  · have hsm:=(kindOf _ (hm a (List.mem_of_getElem? ha))).ksemi.1 hk
    rw[← hlen]at ha
    obtain ⟨r,rfl⟩:=at_mid ha
    obtain ⟨q',k1,k2,k3⟩:=(h7 a r rfl).1 hsm
    refine ⟨RSt.rule wh act sc a,r,q',⟨?_,⟨h2,h3,h4,hsm⟩, ?_⟩,rfl,k2,k3, ?_, ?_, ?_⟩
    · rw[RSt.toks,RSt.body_rule];simp[RSt.semi,RSt.rule]
    · rw[RSt.toks,RSt.body_rule,goS_ok h5]
      show goS q [a]=_
      rw[goS_cons k1];rfl
    · rw[RSt.toks_length,RSt.body_rule,hlen]
    · rw[RSt.nodes_rule]
    · rw[RSt.rules_rule]
  · have hb:BadS q rest 0:=BadS.here h6 fun a r e=>(h7 a r e).2 fun h=>hno a (hat a r e) ((kindOf _ (hm a (by rw[e];simp))).ksemi.2 h)
    have:=hb.behind h5
    rw[hlen]at this
    simpa using this
end Go.Proofs.YtgfnkeiigjholaaGreatDoor
