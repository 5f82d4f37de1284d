/-
  The program's reader: the walk of readLet.
-/
import Derived.Test.YtpcjadaeolkngaaGreatDoorJ10
import Derived.Deep.RegionWith
import Derived.Deep.DeepCutAuto
set_option linter.unusedVariables false
set_option linter.unusedSimpArgs false
namespace Go.Proofs.YtpcjadaeolkngaaGreatDoor
open Go.RowKit Go.Deep
set_option maxHeartbeats 1000000 in
set_option maxRecDepth 100000 in
theorem readLet_any{B:Nat}{S:RS}{w:World}{kw:RTok}{l1:List RTok}(h:RdAt w B S)(hf:S.f=false)(hd:S.d=0)(hl:LeftR S (kw :: l1))(hk:kw.text=cLet)(hls:S.ls.length≤401) :
  Calls Tryz.prog 68 #[.pointer (some ⟨B,0,none⟩)] w fun e w'=>e=.returned (.tuple #[])∧LetOut B S (kw :: l1) w w':=by
 obtain ⟨i0,hi,hz0,hz1,hz2⟩:=info_parts Tryz.infoLet
 have HF:=hideP hf
 have HD:=hideP hd
 have HL:=hideP hl
 have HKW:=hideP hk
 have HRV:=hideP (fun b (e:S.rv.ownBlock=some b)=>(h.orl.lt b e).2)
 have hm:=hl.may
 have HM:=hideP hm
 have HU:=hideP (Und.start (p:=⟨0,0,0⟩) (l:=kw :: l1) h (KeepN.refl B w))
 clear h hf hd hl hk hm
 have H0:Hid (∀ j ns,(j=0∧ns=S.ns)→j≤(kw :: l1).length∧ns.length≤S.ns.length+j∧(∀ a,(kw :: l1)[j]?=some a→kindP a.text=3→(fun j ns=>j=1∧ns=S.ns) (j+1) ns)∧((∀ a,(kw :: l1)[j]?=some a→kindP a.text≠3)→BadS ⟨0,0,0⟩ (kw :: l1) j)):=by
  rintro j ns ⟨rfl,rfl⟩
  refine ⟨by simp,by omega,fun a ha hka=>⟨rfl,rfl⟩,fun hno=>?_⟩
  exact absurd (by rw[HKW.out];decide) (hno kw rfl)
 go_enter Tryz.func68,Tryz.ntmps68
 go_wp2_with (go_at_call_of 102 (Value.int IntKind.i64 3);refine (take_und (G':=fun j ns=>j=1∧ns=S.ns) 3 (by omega) HF.out HL.out HU.out H0.out).mono ?_;rintro e w1 ⟨rfl,hu1,hk1⟩;have HU1:=hideP hu1;clear hu1 hk1)
 go_wp2_with (go_at_call 43;refine (current_und HL.out HU1.out (fun j ns hG=>by obtain ⟨rfl,rfl⟩:=hG;simp)).mono ?_;rintro e w2 ⟨tk,rfl,hb2,hu2⟩;unfold tokA;have HU2:=hideP (hu2.below (new_below w2 (.cells #[.int .i64 (kindP tk.text),.int .i64 tk.at',.string (bsOf tk.text)] 101)));have HT:=hideP (Blk.new w2 #[.int .i64 (kindP tk.text),.int .i64 tk.at',.string (bsOf tk.text)] 101);have hB2:=hu2.lt;clear hb2 hu2)
 have hne:w2.heap.size≠B:=by omega
 go_wp2_with (go_at_call_of 102 (Value.int IntKind.i64 2);refine (take_und 2 (by omega) HF.out HL.out HU2.out (name_step S HKW.out HM.out)).mono ?_;rintro e w3 ⟨rfl,hu3,hk3⟩;have HU3:=hideP hu3;replace HT:=hideP (HT.out.keepN hk3 hne (by decide));clear hu3 hk3)
 go_wp2_with (go_at_call_of 102 (Value.int IntKind.i64 23);refine (take_und 23 (by omega) HF.out HL.out HU3.out (eq_step S HKW.out HM.out)).mono ?_;rintro e w4 ⟨rfl,hu4,hk4⟩;have HU4:=hideP hu4;replace HT:=hideP (HT.out.keepN hk4 hne (by decide));clear hu4 hk4)
 go_wp2_with (go_at_call 103;refine (readExpr_und (G':=G4 S (kw :: l1) tk) HRV.out HF.out HD.out HL.out HU4.out (expr_step S HKW.out)).mono ?_;rintro e w5 ⟨pe,rfl,hu5,hk5⟩;unfold expA;have HU5:=hideP (hu5.below (new_below w5 (.cells #[.int .i64 pe.place,.int .i64 pe.fr,.int .i64 pe.behind] 105)));have HX:=hideP (Blk.new w5 #[.int .i64 pe.place,.int .i64 pe.fr,.int .i64 pe.behind] 105);have hB5:=hu5.lt;replace HT:=hideP ((HT.out.keepN hk5 hne (by decide)).alloc (.cells #[.int .i64 pe.place,.int .i64 pe.fr,.int .i64 pe.behind] 105));clear hu5 hk5)
 have hne5:w5.heap.size≠B:=by omega
 go_wp2_with (go_at_call_of 102 (Value.int IntKind.i64 22);refine (take_und 22 (by omega) HF.out HL.out HU5.out (semi_step S HKW.out HM.out pe)).mono ?_;rintro e w6 ⟨rfl,hu6,hk6⟩;have HU6:=hideP hu6;replace HT:=hideP (HT.out.keepN hk6 hne (by decide));replace HX:=hideP (HX.out.keepN hk6 hne5 (by decide));clear hu6 hk6)
 obtain ⟨S',hR,hlv,hrv,hls',hrs,hcond⟩:=HU6.out.any
 have HCOND:=hideP hcond
 have HLS:=hideP hls'
 have HRS:=hideP hrs
 have HLV:=hideP hlv
 have hB6:=hR.blk.lt
 have hlen:S'.ls.length≤401:=by rw[hls'];exact hls
 have c5:=hR.blk.cell 5
 have f5:=hR.blk.free 5
 have t0:=HT.out.cell 0
 have t1:=HT.out.cell 1
 have t2:=HT.out.cell 2
 have x0:=HX.out.cell 0
 have x1:=HX.out.cell 1
 have x2:=HX.out.cell 2
 simp only[List.getElem?_toArray,List.getElem?_cons_zero,List.getElem?_cons_succ]at c5 t0 t1 t2 x0 x1 x2
 have HT6:=hideP HT.out.lt
 have hneB:S'.lv.ownBlock≠some B:=by intro e;have:=(hR.olt.lt B e).1;omega
 have HW:=hideP ((hR.alloc (.cells #[.int .i64 (kindP tk.text),.int .i64 tk.at',.string (bsOf tk.text),.int .i64 pe.place,.int .i64 pe.fr,.int .i64 pe.behind] 107)).drew)
 have hone:∀ u∈[Value.int .i64 (kindP tk.text),.int .i64 tk.at',.string (bsOf tk.text),.int .i64 pe.place,.int .i64 pe.fr,.int .i64 pe.behind],u.oneCell'=true:=one_let ⟨tk,pe⟩
 have h63:S'.ls.length+1≤maxLen:=by unfold maxLen;omega
 have hnb:=Blk.new w6 #[.int .i64 (kindP tk.text),.int .i64 tk.at',.string (bsOf tk.text),.int .i64 pe.place,.int .i64 pe.fr,.int .i64 pe.behind] 107
 have hnews:∀ j u,[Value.int .i64 (kindP tk.text),.int .i64 tk.at',.string (bsOf tk.text),.int .i64 pe.place,.int .i64 pe.fr,.int .i64 pe.behind][j]?=some u→((w6.alloc (.cells #[.int .i64 (kindP tk.text),.int .i64 tk.at',.string (bsOf tk.text),.int .i64 pe.place,.int .i64 pe.fr,.int .i64 pe.behind] 107)).drew).cell? ((⟨w6.heap.size,0,none⟩:Addr).add j)=some u:=World.news_of_block (cs:=#[.int .i64 (kindP tk.text),.int .i64 tk.at',.string (bsOf tk.text),.int .i64 pe.place,.int .i64 pe.fr,.int .i64 pe.behind]) (t:=107) (fr:=(0,0)) hnb
 clear hcond hlv hrv hls' hrs hR
 go_region_law ((refine step_append_lies _ (by rfl) _ _ _ (by rfl) (B+1) 107 i0 _ 6 56 Tryz.underlying70 hi hz0 hz1 hz2 rfl (by omega) S'.lv S'.ls.length (cellsLt S'.ls) (by rfl) HW.out.olt ⟨w6.heap.size,0,none⟩ 1 1 [.int .i64 (kindP tk.text),.int .i64 tk.at',.string (bsOf tk.text),.int .i64 pe.place,.int .i64 pe.fr,.int .i64 pe.behind] (by rfl) (by rfl) hnews hone (by omega) h63 (by omega) (by simp <;> omega) (w6.heap.size+1) (by simp) ?_;intro gg cap w7 hown7 hgrow hat hlt7;have f7:w7.frozen? ⟨B,5,none⟩=false:=(hgrow.frozen_far _ (by simp <;> omega) (Ne.symm hneB)).trans (HW.out.blk.free 5);have c7:w7.cell? ⟨B,5,none⟩=some S'.lv:=(hgrow.cell_far _ (by simp <;> omega) (Ne.symm hneB)).trans (HW.out.blk.cell 5)))
 all_goals
  have R:=rd_let (n:=⟨tk,pe⟩) HW.out hown7 hgrow
  have HB7:=hideP ((HU6.out.kp.below (by have:=HU.out.lt;omega)).trans ((below_drewN ((Below.refl B w6).alloc (Nat.le_of_lt hB6) _) 1).trans R.2))
  have HRR:=hideP R.1
  clear R hnews hnb hone hown7 hgrow
  go_wp2
  refine bodyPost_end (results_none rfl _ _ _) rfl ⟨rfl,HB7.out, ?_⟩
  rcases HCOND.out with ⟨j,nv,ns,⟨s,rest,g1,g2,rfl,rfl,g3⟩,hS⟩ | ⟨j,nv,ns,hbad,hS⟩
  ·refine .inl ⟨s,rest,nv,.slice (some ⟨gg,0,none⟩) (S'.ls.length+1) cap,g1,g2, ?_⟩
   have:=HRR.out
   rw[g3]
   subst hS
   exact this
  ·refine .inr ⟨j,nv,.slice (some ⟨gg,0,none⟩) (S'.ls.length+1) cap,ns,⟨tk,pe⟩,hbad, ?_⟩
   have:=HRR.out
   subst hS
   exact this
def RuleOut(B:Nat)(S:RS)(p:Spot)(l:List RTok)(w w':World):Prop :=
  Below B w w' ∧
  ((∃ s rest nv rv q,GotS p l s rest q∧s.isLet=false∧q.next=6∧q.opn=0∧RdAt w' B { S with k:=S.k+s.toks.length,nv:=nv,rv:=rv,ns:=S.ns++s.nodes S.ns.length,rs:=S.rs++s.rules S.ns.length }) ∨
   (∃ j nv rv ns n,BadS p l j∧RdAt w' B { S with k:=S.k+j,f:=true,nv:=nv,rv:=rv,ns:=ns,rs:=S.rs++[n] }))
structure GW(S:RS)(p:Spot)(l:List RTok)(hw:Bool)(we:PExp)(j:Nat)(ns:List PNode):Prop where
  ex:∃ wh p1 rest,l=whToks wh++rest∧(∀ k e,wh=some (k,e)→k.text=cWhen∧e.wf)∧goS p (whToks wh)=.ok p1∧(wh=none→p1=p)∧Acts p1 (!wh.isSome) rest∧(rest=[]→p1.next≠6) ∧
    (∀ a r,rest=a :: r→wh.isSome=false→a.text≠cWhen)∧j=(whToks wh).length∧ns=S.ns++optNodes S.ns.length (wh.map Prod.snd)∧hw=wh.isSome∧we=optE S.ns.length (wh.map Prod.snd)
structure GA(S:RS)(p:Spot)(l:List RTok)(hw:Bool)(we:PExp)(hs:Bool)(se:PExp)(j:Nat)(ns:List PNode):Prop where
  ex:∃ wh act sc rest q,l=whToks wh++act :: optToks sc++rest∧(∀ k e,wh=some (k,e)→k.text=cWhen∧e.wf)∧act.text=(if sc.isSome then cScore else cReject)∧(∀ e,sc=some e→e.wf)∧goS p (whToks wh++act :: optToks sc)=.ok q∧q.next≠6 ∧
    (∀ a r,rest=a :: r→(a.text=cSemi→∃ q',stepS q a.text=(q',true)∧q'.next=6∧q'.opn=0)∧(a.text≠cSemi→(stepS q a.text).2=false)) ∧
    j=(whToks wh).length+1+(optToks sc).length∧ns=S.ns++(optNodes S.ns.length (wh.map Prod.snd)++optNodes (S.ns.length+optNum (wh.map Prod.snd)) sc)∧hw=wh.isSome∧we=optE S.ns.length (wh.map Prod.snd)∧hs=sc.isSome∧se=optE (S.ns.length+optNum (wh.map Prod.snd)) sc
structure GE(S:RS)(p:Spot)(l:List RTok)(r:PRule)(j:Nat)(ns:List PNode):Prop where
  ex:∃ s rest q,GotS p l s rest q∧s.isLet=false∧q.next=6∧q.opn=0∧j=s.toks.length∧ns=S.ns++s.nodes S.ns.length∧s.rules S.ns.length=[r]
theorem optNodes_le(o:Option Tr)(h:∀ e,o=some e→e.wf)(b:Nat):(optNodes b o).length≤(optToks o).length:=by
  cases o with
  | none=>exact Nat.le_refl _
  | some e=>show (e.flat b).length≤e.toks.length;rw[e.flat_len (h e rfl)];exact e.num_le (h e rfl)
theorem whNodes_le(wh:Option (RTok×Tr))(h:∀ k e,wh=some (k,e)→k.text=cWhen∧e.wf)(b:Nat):(optNodes b (wh.map Prod.snd)).length=optNum (wh.map Prod.snd)∧optNum (wh.map Prod.snd)≤(whToks wh).length:=by
  cases wh with
  | none=>exact ⟨rfl,Nat.le_refl _⟩
  | some p =>
    obtain ⟨k,e⟩:=p
    have hw:=(h k e rfl).2
    refine ⟨e.flat_len hw b, ?_⟩
    show e.num≤(k :: e.toks).length
    have:=e.num_le hw
    simp;omega
theorem no_when(S:RS){p:Spot}{l:List RTok}(hp:RuleAt p)(h0:p.next=0→∀ a r,l=a :: r→a.text≠cLet)(h6:l=[]→p.next≠6)(hm:∀ t∈l,mayT t.text=true):∀ j ns,((j=0∧ns=S.ns)∧∀ a,l[j]?=some a→kindP a.text≠4)→GW S p l false noExp j ns:=by
  rintro j ns ⟨⟨rfl,rfl⟩,hno⟩
  refine ⟨none,p,l,rfl,fun k e h=>(by cases h),rfl,fun _=>rfl,acts_first hp h0,h6, ?_,rfl,(by simp[optNodes]),rfl,rfl⟩
  rintro a r rfl _
  exact fun h=>hno a rfl ((kindOf _ (hm a (by simp))).kwhen.2 h)
def GW1(S:RS)(l:List RTok)(j:Nat)(ns:List PNode):Prop:=j=1∧ns=S.ns∧∃ a r,l=a :: r∧a.text=cWhen
theorem head_of{l:List RTok}{a:RTok}(h:l[0]?=some a):∃ r,l=a :: r:=by
  cases l with
  | nil=>simp at h
  | cons b r=>simp at h;subst h;exact ⟨r,rfl⟩
theorem when_one(S:RS){p:Spot}{l:List RTok}(hm:∀ t∈l,mayT t.text=true):∀ j ns,((j=0∧ns=S.ns)∧∃ a,l[j]?=some a∧kindP a.text=4)→j≤l.length∧ns.length≤S.ns.length+j∧(∀ a,l[j]?=some a→kindP a.text=4→GW1 S l (j+1) ns)∧((∀ a,l[j]?=some a→kindP a.text≠4)→BadS p l j):=by
  rintro j ns ⟨⟨rfl,rfl⟩,a,ha,hk⟩
  refine ⟨Nat.zero_le _,by omega,fun a' ha' hk'=>?_,fun hno=>absurd hk (hno a ha)⟩
  obtain ⟨r,rfl⟩:=head_of ha'
  exact ⟨rfl,rfl,a',r,rfl,(kindOf _ (hm a' (by simp))).kwhen.1 hk'⟩
theorem when_expr(S:RS){p:Spot}{l:List RTok}(hp:RuleAt p):∀ j ns,GW1 S l j ns→j≤l.length∧ns.length≤S.ns.length+j∧(∀ t rest,GotO 0 (l.drop j) t rest→stops 1 rest→GW S p l true (layE ns.length t) (j+t.toks.length) (ns++t.flat ns.length))∧(∀ i,BadV 0 (l.drop j) i→BadS p l (j+i)):=by
  rintro j ns ⟨rfl,rfl,a,r,rfl,ha⟩
  have A:Acts p true (a :: r):=acts_first hp fun _ a' r' e=>by cases e;rw[ha];decide
  refine ⟨by simp,by omega,fun t rest g1 g2=>?_,fun i hb=>?_⟩
  · have g1':GotO 0 r t rest:=g1
    refine ⟨some (a,t),⟨4,1,0⟩,rest, ?_, ?_,when_go A ha g1',fun h=>(by cases h),acts_when g2,fun _=>(by decide),fun a' r' _ h=>(by cases h), ?_,rfl,rfl,rfl⟩
    · rw[g1'.eq];rfl
    · intro k e h;cases h;exact ⟨ha,g1'.wf⟩
    · show 1+t.toks.length=(a :: t.toks).length;simp;omega
  · rw[Nat.add_comm];exact when_bad A ha hb
structure GS1(S:RS)(p:Spot)(l:List RTok)(hw:Bool)(we:PExp)(j:Nat)(ns:List PNode):Prop where
  ex:∃ wh p1 act rest,l=whToks wh++act :: rest∧(∀ k e,wh=some (k,e)→k.text=cWhen∧e.wf)∧goS p (whToks wh)=.ok p1∧Acts p1 (!wh.isSome) (act :: rest)∧act.text=cScore∧j=(whToks wh).length+1∧ns=S.ns++optNodes S.ns.length (wh.map Prod.snd)∧hw=wh.isSome∧we=optE S.ns.length (wh.map Prod.snd)
theorem at_mid{a b:List RTok}{x:RTok}(h:(a++b)[a.length]?=some x):∃ r,b=x :: r:=by
  rw[List.getElem?_append_right (Nat.le_refl _),Nat.sub_self]at h
  exact head_of h
theorem score_one(S:RS){p:Spot}{l:List RTok}{hw:Bool}{we:PExp}(hm:∀ t∈l,mayT t.text=true):∀ j ns,(GW S p l hw we j ns∧∃ a,l[j]?=some a∧kindP a.text=5)→j≤l.length∧ns.length≤S.ns.length+j∧(∀ a,l[j]?=some a→kindP a.text=5→GS1 S p l hw we (j+1) ns)∧((∀ a,l[j]?=some a→kindP a.text≠5)→BadS p l j):=by
  rintro j ns ⟨⟨wh,p1,rest,rfl,h2,h3,h3',h4,h5,h6,rfl,rfl,rfl,rfl⟩,a,ha,hk⟩
  obtain ⟨n1,n2⟩:=whNodes_le wh h2 S.ns.length
  refine ⟨by simp,by rw[List.length_append,n1];omega,fun a' ha' hk'=>?_,fun hno=>absurd hk (hno a ha)⟩
  have hs:=(kindOf _ (hm a' (List.mem_of_getElem? ha'))).kscore.1 hk'
  obtain ⟨r,rfl⟩:=at_mid ha'
  exact ⟨wh,p1,a',r,rfl,h2,h3,h4,hs,rfl,rfl,rfl,rfl⟩
theorem semi_at2{t:Txt}(h:t=cSemi):∃ q',stepS ⟨4,2,0⟩ t=(q',true)∧q'.next=6∧q'.opn=0:=⟨_,score_end h,rfl,rfl⟩
theorem score_expr(S:RS){p:Spot}{l:List RTok}{hw:Bool}{we:PExp}:∀ j ns,GS1 S p l hw we j ns→j≤l.length∧ns.length≤S.ns.length+j∧(∀ t rest,GotO 0 (l.drop j) t rest→stops 1 rest→GA S p l hw we true (layE ns.length t) (j+t.toks.length) (ns++t.flat ns.length))∧(∀ i,BadV 0 (l.drop j) i→BadS p l (j+i)):=by
  rintro j ns ⟨wh,p1,act,r,rfl,h2,h3,h4,h5,rfl,rfl,rfl,rfl⟩
  obtain ⟨n1,n2⟩:=whNodes_le wh h2 S.ns.length
  have hd:(whToks wh++act :: r).drop ((whToks wh).length+1)=r:=by
    rw[show whToks wh++act :: r=(whToks wh++[act])++r by simp,List.drop_left' (by simp)]
  have hlen:(S.ns++optNodes S.ns.length (wh.map Prod.snd)).length=S.ns.length+optNum (wh.map Prod.snd):=by rw[List.length_append,n1]
  refine ⟨by simp,by rw[hlen];omega,fun t rest g1 g2=>?_,fun i hb=>?_⟩
  · rw[hd]at g1
    refine ⟨wh,act,some t,rest,⟨4,2,0⟩, ?_,h2, ?_, ?_, ?_,by decide, ?_, ?_, ?_,rfl,rfl,rfl, ?_⟩
    · rw[g1.eq];simp[optToks]
    · simp[h5]
    · intro e he;cases he;exact g1.wf
    · rw[goS_ok h3,goS_cons ((h4.nx act r rfl).trans (ruleS_score h5 h4.opn))];exact g1.go 2
    · intro a r' e
      exact ⟨fun h=>semi_at2 h,fun h=>score_end_bad (no_joint g2 e) h⟩
    · simp[optToks]
    · rw[hlen];simp[optNodes]
    · rw[hlen];rfl
  · rw[hd]at hb
    have:=(acts_bad_score h4 h5 hb).behind h3
    rw[show (whToks wh).length+1+i=(whToks wh).length+(i+1) by omega]
    exact this
theorem reject_one(S:RS){p:Spot}{l:List RTok}{hw:Bool}{we:PExp}(hm:∀ t∈l,mayT t.text=true):∀ j ns,(GW S p l hw we j ns∧∀ a,l[j]?=some a→kindP a.text≠5)→j≤l.length∧ns.length≤S.ns.length+j∧(∀ a,l[j]?=some a→kindP a.text=6→GA S p l hw we false noExp (j+1) ns)∧((∀ a,l[j]?=some a→kindP a.text≠6)→BadS p l j):=by
  rintro j ns ⟨⟨wh,p1,rest,rfl,h2,h3,h3',h4,h5,h6,rfl,rfl,rfl,rfl⟩,hns⟩
  obtain ⟨n1,n2⟩:=whNodes_le wh h2 S.ns.length
  have hat:∀ a r,rest=a :: r→(whToks wh++rest)[(whToks wh).length]?=some a:=by
    rintro a r rfl
    rw[List.getElem?_append_right (Nat.le_refl _),Nat.sub_self];rfl
  refine ⟨by simp,by rw[List.length_append,n1];omega,fun a ha hk=>?_,fun hno=>?_⟩
  · have hs:=(kindOf _ (hm a (List.mem_of_getElem? ha))).krej.1 hk
    obtain ⟨r,rfl⟩:=at_mid ha
    refine ⟨wh,a,none,r,⟨5,p1.expr,0⟩, ?_,h2,by simp[hs],fun e he=>(by cases he), ?_,by simp, ?_, ?_, ?_,rfl,rfl,rfl,rfl⟩
    · simp[optToks]
    · rw[goS_ok h3]
      show goS p1 [a]=_
      rw[goS_cons ((h4.nx a r rfl).trans (ruleS_rej hs h4.opn))];rfl
    · intro a' r' e
      exact ⟨fun h=>⟨_,rej_end h,rfl,rfl⟩,fun h=>rej_end_bad h⟩
    · simp[optToks]
    · simp[optNodes]
  · have hb:BadS p1 rest 0:=by
      refine acts_bad_here h4 h5 fun a r e=>⟨fun hb=>?_,fun h=>?_,fun h=>?_⟩
      · exact h6 a r e (by simpa using hb)
      · exact hns a (hat a r e) ((kindOf _ (hm a (by rw[e];simp))).kscore.2 h)
      · exact hno a (hat a r e) ((kindOf _ (hm a (by rw[e];simp))).krej.2 h)
    have:=hb.behind h3
    simpa using this
theorem semi_one(S:RS){p:Spot}{l:List RTok}{hw hs:Bool}{we se:PExp}(hm:∀ t∈l,mayT t.text=true):∀ j ns,GA S p l hw we hs se j ns→j≤l.length∧ns.length≤S.ns.length+j∧(∀ a,l[j]?=some a→kindP a.text=22→GE S p l ⟨hw,we,hs,se⟩ (j+1) ns)∧((∀ a,l[j]?=some a→kindP a.text≠22)→BadS p l j):=by
  rintro j ns ⟨wh,act,sc,rest,q,rfl,h2,h3,h4,h5,h6,h7,rfl,rfl,rfl,rfl,rfl,rfl⟩
  obtain ⟨n1,n2⟩:=whNodes_le wh h2 S.ns.length
  have n3:=optNodes_le sc h4 (S.ns.length+optNum (wh.map Prod.snd))
  have hlen:(whToks wh++act :: optToks sc).length=(whToks wh).length+1+(optToks sc).length:=by simp;omega
  have hat:∀ a r,rest=a :: r→(whToks wh++act :: optToks sc++rest)[(whToks wh).length+1+(optToks sc).length]?=some a:=by
    rintro a r rfl
    rw[← hlen,List.getElem?_append_right (Nat.le_refl _),Nat.sub_self];rfl
  refine ⟨by rw[← hlen];simp,by simp only[List.length_append];omega,fun a ha hk=>?_,fun hno=>?_⟩
  · have hsm:=(kindOf _ (hm a (List.mem_of_getElem? ha))).ksemi.1 hk
    rw[← hlen]at ha
    obtain ⟨r,rfl⟩:=at_mid ha
    obtain ⟨q',k1,k2,k3⟩:=(h7 a r rfl).1 hsm
    refine ⟨RSt.rule wh act sc a,r,q',⟨?_,⟨h2,h3,h4,hsm⟩, ?_⟩,rfl,k2,k3, ?_, ?_, ?_⟩
    · rw[RSt.toks,RSt.body_rule];simp[RSt.semi,RSt.rule]
    · rw[RSt.toks,RSt.body_rule,goS_ok h5]
      show goS q [a]=_
      rw[goS_cons k1];rfl
    · rw[RSt.toks_length,RSt.body_rule,hlen]
    · rw[RSt.nodes_rule]
    · rw[RSt.rules_rule]
  · have hb:BadS q rest 0:=BadS.here h6 fun a r e=>(h7 a r e).2 fun h=>hno a (hat a r e) ((kindOf _ (hm a (by rw[e];simp))).ksemi.2 h)
    have:=hb.behind h5
    rw[hlen]at this
    simpa using this
def rulC(hw:Bool)(we:PExp)(hs:Bool)(se:PExp):Array Value:=#[.bool hw,.int .i64 we.place,.int .i64 we.fr,.int .i64 we.behind,.bool hs,.int .i64 se.place,.int .i64 se.fr,.int .i64 se.behind]
structure RuIn(B:Nat)(S:RS)(w wr:World)(p:Spot)(l:List RTok)(G:Nat→List PNode→Prop)(r:PRule):Prop where
 u:Und B S w wr p l G
 blk:Blk wr w.heap.size (rulC r.hw r.when r.hs r.score) 110
theorem RuIn.set{B:Nat}{S:RS}{w wr:World}{p:Spot}{l:List RTok}{G:Nat→List PNode→Prop}{cs:Array Value}(hu:Und B S w wr p l G)(hb:Blk wr w.heap.size cs 110)(hB:B<w.heap.size)(hr:S.rv.ownBlock≠some w.heap.size)(i:Nat)(v:Value):Und B S w (wr.setCell ⟨w.heap.size,i,none⟩ v) p l G∧Blk (wr.setCell ⟨w.heap.size,i,none⟩ v) w.heap.size (cs.setIfInBounds i v) 110 :=
 ⟨hu.other hb (by omega) ⟨by decide,by decide,by decide⟩ hr (Nat.le_refl _) v,hb.set i v⟩
set_option maxHeartbeats 2000000 in
set_option maxRecDepth 100000 in
theorem readRule_any{B:Nat}{S:RS}{w:World}{p:Spot}{l:List RTok}(h:RdAt w B S)(hf:S.f=false)(hd:S.d=0)(hl:LeftR S l)(hp:RuleAt p)(h0:p.next=0→∀ a r,l=a :: r→a.text≠cLet)(h6:l=[]→p.next≠6)(hrs:S.rs.length≤401) :
  Calls Tryz.prog 69 #[.pointer (some ⟨B,0,none⟩)] w fun e w'=>e=.returned (.tuple #[])∧RuleOut B S p l w w':=by
 obtain ⟨i0,hi,hz0,hz1,hz2⟩:=info_parts Tryz.infoRule
 have HF:=hideP hf
 have HD:=hideP hd
 have HL:=hideP hl
 have HP:=hideP hp
 have HRV:=hideP (fun b (e:S.rv.ownBlock=some b)=>(h.orl.lt b e).2)
 have HNE:Hid (S.rv.ownBlock≠some w.heap.size):=fun e=>by have:=HRV.out _ e;omega
 have hm:=hl.may
 have HM:=hideP hm
 have hB:=h.blk.lt
 have HNW:=hideP (no_when S hp h0 h6 hm)
 have HU:=hideP (Und.start (p:=p) (l:=l) (h.alloc (.cells #[.bool false,.int .i64 0,.int .i64 0,.int .i64 0,.bool false,.int .i64 0,.int .i64 0,.int .i64 0] 110)) (KeepN.of (new_below w (.cells #[.bool false,.int .i64 0,.int .i64 0,.int .i64 0,.bool false,.int .i64 0,.int .i64 0,.int .i64 0] 110))))
 have HBK:=hideP (Blk.new w #[.bool false,.int .i64 0,.int .i64 0,.int .i64 0,.bool false,.int .i64 0,.int .i64 0,.int .i64 0] 110)
 have hneB:w.heap.size≠B:=by omega
 clear h hf hd hl hp hm h0 h6
 go_enter Tryz.func69,Tryz.ntmps69
 go_upto_if 5 with (go_at_call 67;refine (sees_und 4 (by omega) HF.out HL.out HU.out (fun j ns hG=>by obtain ⟨rfl,rfl⟩:=hG;simp)).mono ?_;rintro e w1 ⟨b,rfl,hb1,hyes,hno⟩;have HYES:=hideP hyes;have HNO:=hideP hno;replace HBK:=hideP (HBK.out.below hb1 HBK.out.lt);clear hb1 hyes hno)
 go_cut [] (fun wx=>∃ hw we,RuIn B S w wx p l (GW S p l hw we) ⟨hw,we,false,noExp⟩)
 case first =>
  cases b
  ·have hu:=HNO.out rfl
   go_wp2
   go_meet
   case rel=>exact ⟨false,noExp,hu.mono HNW.out,HBK.out⟩
  ·have hu:=HYES.out rfl
   have HU1:=hideP hu
   clear hu HNO HYES HNW
   go_wp2_with (go_at_call_of 102 (Value.int IntKind.i64 4);refine (take_und 4 (by omega) HF.out HL.out HU1.out (when_one S HM.out)).mono ?_;rintro e w2 ⟨rfl,hu2,hk2⟩;replace HBK:=hideP (HBK.out.keepN hk2 hneB (by decide));obtain ⟨hu3,hb3⟩:=RuIn.set hu2 HBK.out hB HNE.out 0 (.bool true);have HU3:=hideP hu3;have HB3:=hideP hb3;have q0:=HBK.out.cell 0;have f0:=HBK.out.free 0;clear hu2 hk2 hu3 hb3)
   go_wp2_with (go_at_call 103;refine (readExpr_und (G':=GW S p l true) HRV.out HF.out HD.out HL.out HU3.out (when_expr S HP.out)).mono ?_;rintro e w5 ⟨pe,rfl,hu5,hk5⟩;unfold expA;have HB5:=hideP (HB3.out.keepN hk5 hneB (by decide));have HU5:=hideP hu5;have q1:=HB5.out.cell 1;have q2:=HB5.out.cell 2;have q3:=HB5.out.cell 3;have qf:=HB5.out.free;clear hu5 hk5)
   obtain ⟨a1,b1⟩:=RuIn.set HU5.out HB5.out hB HNE.out 1 (.int .i64 pe.place)
   obtain ⟨a2,b2⟩:=RuIn.set a1 b1 hB HNE.out 2 (.int .i64 pe.fr)
   obtain ⟨a3,b3⟩:=RuIn.set a2 b2 hB HNE.out 3 (.int .i64 pe.behind)
   have HE:=hideP (RuIn.mk (r:=⟨true,pe,false,noExp⟩) a3 b3)
   clear a1 a2 a3 b1 b2 b3
   go_wp2
   go_meet
   case rel=>exact ⟨true,pe,HE.out⟩
 case rest =>
  obtain ⟨hw,we,hin⟩:=hcut
  clear HU HBK HYES HNO HNW b
  have HU:=hideP hin.u
  have HBK:=hideP hin.blk
  clear hin
  go_upto_if 13 with (go_at_call 67;refine (sees_und 5 (by omega) HF.out HL.out HU.out (fun j ns hG=>by obtain ⟨wh,p1,rest,rfl,_,_,_,_,_,_,rfl,_⟩:=hG.ex;simp)).mono ?_;rintro e w1 ⟨b,rfl,hb1,hyes,hno⟩;have HYES:=hideP hyes;have HNO:=hideP hno;replace HBK:=hideP (HBK.out.below hb1 HBK.out.lt);clear hb1 hyes hno)
  go_cut [] (fun wx=>∃ hs se,RuIn B S w wx p l (GA S p l hw we hs se) ⟨hw,we,hs,se⟩)
  case first =>
   cases b
   ·have hu:=HNO.out rfl
    have HU1:=hideP hu
    clear hu HNO HYES
    go_wp2_with (go_at_call_of 102 (Value.int IntKind.i64 6);refine (take_und 6 (by omega) HF.out HL.out HU1.out (reject_one S HM.out)).mono ?_;rintro e w2 ⟨rfl,hu2,hk2⟩;replace HBK:=hideP (HBK.out.keepN hk2 hneB (by decide));have HU2:=hideP hu2;clear hu2 hk2)
    go_meet
    case rel=>exact ⟨false,noExp,HU2.out,HBK.out⟩
   ·have hu:=HYES.out rfl
    have HU1:=hideP hu
    clear hu HNO HYES
    go_wp2_with (go_at_call_of 102 (Value.int IntKind.i64 5);refine (take_und 5 (by omega) HF.out HL.out HU1.out (score_one S HM.out)).mono ?_;rintro e w2 ⟨rfl,hu2,hk2⟩;replace HBK:=hideP (HBK.out.keepN hk2 hneB (by decide));obtain ⟨hu3,hb3⟩:=RuIn.set hu2 HBK.out hB HNE.out 4 (.bool true);have HU3:=hideP hu3;have HB3:=hideP hb3;have q0:=HBK.out.cell 4;have f0:=HBK.out.free 4;unfold rulC at q0;simp only[List.getElem?_toArray,List.getElem?_cons_zero,List.getElem?_cons_succ]at q0;clear hu2 hk2 hu3 hb3)
    go_wp2_with (go_at_call 103;refine (readExpr_und (G':=GA S p l hw we true) HRV.out HF.out HD.out HL.out HU3.out (score_expr S)).mono ?_;rintro e w5 ⟨pe,rfl,hu5,hk5⟩;unfold expA;have HB5:=hideP (HB3.out.keepN hk5 hneB (by decide));have HU5:=hideP hu5;have q1:=HB5.out.cell 5;have q2:=HB5.out.cell 6;have q3:=HB5.out.cell 7;have qf:=HB5.out.free;unfold rulC at q1 q2 q3;simp[noExp]at q1 q2 q3;clear hu5 hk5)
    obtain ⟨a1,b1⟩:=RuIn.set HU5.out HB5.out hB HNE.out 5 (.int .i64 pe.place)
    obtain ⟨a2,b2⟩:=RuIn.set a1 b1 hB HNE.out 6 (.int .i64 pe.fr)
    obtain ⟨a3,b3⟩:=RuIn.set a2 b2 hB HNE.out 7 (.int .i64 pe.behind)
    have HE:=hideP (RuIn.mk (r:=⟨hw,we,true,pe⟩) a3 b3)
    clear a1 a2 a3 b1 b2 b3
    go_wp2
    go_meet
    case rel=>exact ⟨true,pe,HE.out⟩
  case rest =>
   obtain ⟨hs,se,hin⟩:=hcut
   clear HU HBK HYES HNO b
   have HU:=hideP hin.u
   have HBK:=hideP hin.blk
   clear hin
   go_wp2_with (go_at_call_of 102 (Value.int IntKind.i64 22);refine (take_und 22 (by omega) HF.out HL.out HU.out (semi_one S HM.out)).mono ?_;rintro e w6 ⟨rfl,hu6,hk6⟩;have HU6:=hideP hu6;replace HBK:=hideP (HBK.out.keepN hk6 hneB (by decide));clear hu6 hk6)
   obtain ⟨r,hr⟩:∃ r:PRule,r=⟨hw,we,hs,se⟩:=⟨_,rfl⟩
   rw[← hr]at HU6
   have e1:hw=r.hw:=by rw[hr]
   have e2:we=r.when:=by rw[hr]
   have e3:hs=r.hs:=by rw[hr]
   have e4:se=r.score:=by rw[hr]
   rw[e1,e2,e3,e4]at HBK
   clear e1 e2 e3 e4 hr HU
   obtain ⟨S',hR,hlv,hrv,hls',hrs',hcond⟩:=HU6.out.any
   have HCOND:=hideP hcond
   have hB6:=hR.blk.lt
   have hlen:S'.rs.length≤401:=by rw[hrs'];exact hrs
   have c6:=hR.blk.cell 6
   have f6:=hR.blk.free 6
   have t0:=HBK.out.cell 0
   have t1:=HBK.out.cell 1
   have t2:=HBK.out.cell 2
   have t3:=HBK.out.cell 3
   have t4:=HBK.out.cell 4
   have t5:=HBK.out.cell 5
   have t6:=HBK.out.cell 6
   have t7:=HBK.out.cell 7
   unfold rulC at t0 t1 t2 t3 t4 t5 t6 t7
   simp only[List.getElem?_toArray,List.getElem?_cons_zero,List.getElem?_cons_succ]at c6 t0 t1 t2 t3 t4 t5 t6 t7
   have hBKl:=HBK.out.lt
   have hneB2:S'.rv.ownBlock≠some B:=by intro e;have:=(hR.orl.lt B e).1;omega
   have HW:=hideP ((hR.alloc (.cells #[.bool r.hw,.int .i64 r.when.place,.int .i64 r.when.fr,.int .i64 r.when.behind,.bool r.hs,.int .i64 r.score.place,.int .i64 r.score.fr,.int .i64 r.score.behind] 110)).drew)
   have hone:∀ u∈[Value.bool r.hw,.int .i64 r.when.place,.int .i64 r.when.fr,.int .i64 r.when.behind,.bool r.hs,.int .i64 r.score.place,.int .i64 r.score.fr,.int .i64 r.score.behind],u.oneCell'=true:=one_rule r
   have h63:S'.rs.length+1≤maxLen:=by unfold maxLen;omega
   have hnb:=Blk.new w6 #[.bool r.hw,.int .i64 r.when.place,.int .i64 r.when.fr,.int .i64 r.when.behind,.bool r.hs,.int .i64 r.score.place,.int .i64 r.score.fr,.int .i64 r.score.behind] 110
   have hnews:∀ j u,[Value.bool r.hw,.int .i64 r.when.place,.int .i64 r.when.fr,.int .i64 r.when.behind,.bool r.hs,.int .i64 r.score.place,.int .i64 r.score.fr,.int .i64 r.score.behind][j]?=some u→((w6.alloc (.cells #[.bool r.hw,.int .i64 r.when.place,.int .i64 r.when.fr,.int .i64 r.when.behind,.bool r.hs,.int .i64 r.score.place,.int .i64 r.score.fr,.int .i64 r.score.behind] 110)).drew).cell? ((⟨w6.heap.size,0,none⟩:Addr).add j)=some u:=World.news_of_block (cs:=#[.bool r.hw,.int .i64 r.when.place,.int .i64 r.when.fr,.int .i64 r.when.behind,.bool r.hs,.int .i64 r.score.place,.int .i64 r.score.fr,.int .i64 r.score.behind]) (t:=110) (fr:=(0,0)) hnb
   clear hcond hlv hrv hls' hrs' hR
   go_region_law ((refine step_append_lies _ (by rfl) _ _ _ (by rfl) (B+1) 110 i0 _ 8 64 Tryz.underlying71 hi hz0 hz1 hz2 rfl (by omega) S'.rv S'.rs.length (cellsU S'.rs) (by rfl) HW.out.orl ⟨w6.heap.size,0,none⟩ 1 1 [.bool r.hw,.int .i64 r.when.place,.int .i64 r.when.fr,.int .i64 r.when.behind,.bool r.hs,.int .i64 r.score.place,.int .i64 r.score.fr,.int .i64 r.score.behind] (by rfl) (by rfl) hnews hone (by omega) h63 (by omega) (by simp <;> omega) (w6.heap.size+1) (by simp) ?_;intro gg cap w7 hown7 hgrow hat hlt7;have f7:w7.frozen? ⟨B,6,none⟩=false:=(hgrow.frozen_far _ (by simp <;> omega) (Ne.symm hneB2)).trans (HW.out.blk.free 6);have c7:w7.cell? ⟨B,6,none⟩=some S'.rv:=(hgrow.cell_far _ (by simp <;> omega) (Ne.symm hneB2)).trans (HW.out.blk.cell 6)))
   all_goals
    have R:=rd_rule (n:=r) HW.out hown7 hgrow
    have HB7:=hideP ((HU6.out.kp.below (by omega)).trans ((below_drewN ((Below.refl B w6).alloc (Nat.le_of_lt hB6) _) 1).trans R.2))
    have HRR:=hideP R.1
    clear R hnews hnb hone hown7 hgrow
    go_wp2
    refine bodyPost_end (results_none rfl _ _ _) rfl ⟨rfl,HB7.out, ?_⟩
    rcases HCOND.out with ⟨j,nv,ns,⟨s,rest,q,g1,g2,g3,g4,rfl,rfl,g5⟩,hS⟩ | ⟨j,nv,ns,hbad,hS⟩
    ·refine .inl ⟨s,rest,nv,.slice (some ⟨gg,0,none⟩) (S'.rs.length+1) cap,q,g1,g2,g3,g4, ?_⟩
     have:=HRR.out
     rw[g5]
     subst hS
     exact this
    ·refine .inr ⟨j,nv,.slice (some ⟨gg,0,none⟩) (S'.rs.length+1) cap,ns,r,hbad, ?_⟩
     have:=HRR.out
     subst hS
     exact this
end Go.Proofs.YtpcjadaeolkngaaGreatDoor
