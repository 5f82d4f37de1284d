/-
  What an EXPR with which nothing is wrong is worth: in bounds, truths 0 or 1, its steps at most three for each part.
-/
import Derived.Test.YtldfkcpbjooemaaGreatDoorG43
set_option linter.unusedVariables false
set_option linter.unusedSimpArgs false
namespace Go.Proofs.YtldfkcpbjooemaaGreatDoor
open Go.RowKit Go.Deep
structure WoOk (w:Wo) (k n:Nat):Prop where
 in64:In64 w.v
 flt:w.flt≤2
 pos:1≤w.steps
 le:w.steps≤3 * n
 set:w.fix=true→w.flt=0→w.steps=1
 nul:w.flt≠0→w.v=0
 tru:w.flt=0→k=2→w.v=0∨w.v=1
theorem zero64:In64 0:=by decide
theorem exact64_ok (v:Int):In64 (exact64 v).1∧(exact64 v).2≤2:=by
 unfold exact64
 split
 ·exact ⟨by assumption,Nat.zero_le 2⟩
 ·exact ⟨zero64,Nat.le_succ 1⟩
theorem joinN_ok (c:Nat) {a b:Int} (ha:In64 a) (hb:In64 b):In64 (joinN c a b).1∧(joinN c a b).2≤2:=by
 refine ⟨join_in c a b ha hb, ?_⟩
 unfold joinN
 repeat' split
 all_goals first
  | exact (exact64_ok _).2
  | exact Nat.zero_le 2
  | exact Nat.le_refl 2
  | exact Nat.le_succ 1
theorem bit_ok (z:Bool):In64 (bitN z):=by cases z <;> decide
theorem oneN_ok (c:Nat) (a:Int):In64 (oneN c a).1∧(oneN c a).2≤2:=by
 unfold oneN
 split
 ·exact exact64_ok _
 ·exact ⟨bit_ok _,Nat.zero_le 2⟩
theorem settle_ok {w:Wo} {k n:Nat} (h1:In64 w.v) (h2:w.flt≤2) (h3:1≤w.steps) (h4:w.steps≤3 * n) (h5:w.flt≠0→w.v=0) (h6:w.flt=0→k=2→w.v=0∨w.v=1):WoOk (settleW w) k n:=by
 obtain ⟨e1,e2,e3,e4⟩:=settle_eq w
 refine ⟨by rw[e1];exact h1,by rw[e2];exact h2, ?_, ?_, ?_,by rw[e1,e2];exact h5,by rw[e1,e2];exact h6⟩
 ·rw[e4];split <;> omega
 ·rw[e4];split <;> omega
 ·rw[e2,e3,e4];intro a b;rw[if_pos ⟨a,b⟩]
theorem made_two {op:Txt} {a b:Nat} (h:madeT op a b=2):(op==cAnd||op==cOr||op==cNot)=true∨(op==cEq||op==cNeq)=true∨(op==cLess||op==cMost)=true:=by
 unfold madeT at h
 cases h1:(op==cAnd||op==cOr||op==cNot) with
 | true=>exact .inl rfl
 | false =>
  rw[h1] at h
  simp only[Bool.false_eq_true,if_false] at h
  cases h2:(op==cEq||op==cNeq) with
  | true=>exact .inr (.inl rfl)
  | false =>
   rw[h2] at h
   simp only[Bool.false_eq_true,if_false] at h
   split at h
   ·omega
   ·split at h
    ·rename_i h3;exact .inr (.inr h3)
    ·omega
theorem bit_cases (z:Bool):bitN z=0∨bitN z=1:=by cases z <;> simp[bitN]
theorem and_kind {op:Txt} (hm:mayT op=true):isChK (kindP op)=(op==cAnd||op==cOr):=by
 have K:=kindOf op hm
 unfold isChK
 rw[Bool.eq_iff_iff]
 simp only[Bool.or_eq_true,decide_eq_true_eq,beq_iff_eq]
 rw[K.kand,K.kor]
theorem wor_ok {c ps:List (Txt × Nat)} {env:Txt→Wo} {x:Itm} {y:Bn} (hx:x.Ok) (hy:y.Ok) (t:Tr) (ht:t.wf):(∀ a∈t.toks,mayT a.text=true∧NumOk a)→(∀ a∈t.toks,nameT a.text=true→WoOk (env a.text) (knownT c a.text) (partOne ps a.text)) →
  (∀ a∈t.toks,nameT a.text=false→partOne ps a.text=if a.text==cOpen||a.text==cClose then 0 else 1)→∀ k,kindT c t=.ok k→WoOk (t.wor env x y) k (partSum ps t.toks):=by
 refine Tr.ind (P:=fun t=>(∀ a∈t.toks,mayT a.text=true∧NumOk a)→(∀ a∈t.toks,nameT a.text=true→WoOk (env a.text) (knownT c a.text) (partOne ps a.text)) →
  (∀ a∈t.toks,nameT a.text=false→partOne ps a.text=if a.text==cOpen||a.text==cClose then 0 else 1)→∀ k,kindT c t=.ok k→WoOk (t.wor env x y) k (partSum ps t.toks)) t ht ?_ ?_ ?_ ?_
 ·intro a ha hm hn hp k hk
  rw[Tr.toks_leaf] at *
  obtain ⟨hma,hna⟩:=hm a (by simp)
  have K:=kindOf _ hma
  rw[kindT_leaf] at hk
  rw[Tr.wor_leaf,leafW,partSum,partSum,Nat.add_zero]
  obtain ⟨w1,w2,w3,w4,w5⟩:=Tr.wf_leaf ha
  cases hnm:nameT a.text with
  | true =>
   rw[hnm] at hk
   cases hk
   rw[if_pos (K.kname.2 hnm)]
   exact hn a (by simp) hnm
  | false =>
   rw[hnm] at hk
   have hk':k=leafKindT a.text:=(Except.ok.inj hk).symm
   rw[if_neg (fun e=>by rw[K.kname.1 e] at hnm;cases hnm),hp a (by simp) hnm,if_neg (by simp[w2,w3])]
   cases hs:singleF a with
   | some v =>
    refine ⟨singleF_in hna v hs,Nat.zero_le 2,Nat.le_refl 1,by show 1≤3 * 1;omega,fun _ _=>rfl,fun h=>absurd rfl h,fun _ h2=>?_⟩
    rw[hk'] at h2
    unfold leafKindT at h2
    by_cases h3:(a.text==cTrue||a.text==cFalse)=true
    ·simp only[Bool.or_eq_true,beq_iff_eq] at h3
     unfold singleF at hs
     rcases h3 with h3 | h3
     ·rw[h3,show kindP cTrue=10 by decide] at hs
      simp at hs
      exact .inr hs.symm
     ·rw[h3,show kindP cFalse=11 by decide] at hs
      simp at hs
      exact .inl hs.symm
    ·rw[if_neg h3] at h2
     split at h2 <;> omega
   | none =>
    refine ⟨attr_in _ x y hx hy,Nat.zero_le 2,Nat.le_refl 1,by show 1≤3 * 1;omega,(fun h=>by cases h),fun h=>absurd rfl h,fun _ h2=>?_⟩
    rw[hk'] at h2
    unfold leafKindT at h2
    by_cases h3:(a.text==cTrue||a.text==cFalse)=true
    ·simp only[Bool.or_eq_true,beq_iff_eq] at h3
     unfold singleF at hs
     rcases h3 with h3 | h3
     ·rw[h3,show kindP cTrue=10 by decide] at hs
      simp at hs
     ·rw[h3,show kindP cFalse=11 by decide] at hs
      simp at hs
    ·rw[if_neg h3] at h2
     split at h2 <;> omega
 ·intro op e hw ih hm hn hp k hk
  obtain ⟨u1,u2,u3⟩:=Tr.wf_un hw
  rw[Tr.toks_un] at *
  rw[kindT_un] at hk
  cases he:kindT c e with
  | error p=>rw[he] at hk;cases hk
  | ok b =>
   rw[he] at hk
   have ih':=ih (fun a ha=>hm a (by simp[ha])) (fun a ha=>hn a (by simp[ha])) (fun a ha=>hp a (by simp[ha])) b he
   simp only at hk
   by_cases hz:madeT op.text b b=0
   ·rw[if_pos hz] at hk;cases hk
   ·rw[if_neg hz] at hk
    have hk':k=madeT op.text b b:=(Except.ok.inj hk).symm
    have hop:op.text=cMinus∨op.text=cNot:=by simpa[unT] using u1
    have hpo:partOne ps op.text=1:=by
     rw[hp op (by simp) (by rcases hop with h | h <;> rw[h] <;> decide),if_neg (by rcases hop with h | h <;> rw[h] <;> decide)]
    rw[Tr.wor_un,partSum,hpo]
    unfold oneW
    by_cases hf:(e.wor env x y).flt=0
    ·rw[if_neg (by rw[hf];simp)]
     refine settle_ok (oneN_ok _ _).1 (oneN_ok _ _).2 (by simp) (by have:=ih'.le;simp only;omega) (fun h=>oneN_nul _ _ h) (fun _ h2=>?_)
     rcases hop with h | h
     ·rw[hk',h] at h2
      unfold madeT at h2
      simp only[show (cMinus==cAnd||cMinus==cOr||cMinus==cNot)=false by decide,show (cMinus==cEq||cMinus==cNeq)=false by decide,show (cMinus==cLess||cMinus==cMost)=false by decide,Bool.false_eq_true,if_false] at h2
      split at h2 <;> omega
     ·rw[h,show opK (kindP cNot) 1=3 by decide]
      exact bit_cases _
    ·rw[if_pos hf]
     refine ⟨zero64,ih'.flt,ih'.pos,by have:=ih'.le;simp only;omega,fun _ h=>absurd h hf,fun _=>rfl,fun h=>absurd h hf⟩
 ·intro op l r hw h1 h2 hm hn hp k hk
  obtain ⟨w1,w2,w3,w4,w5,w6,w7⟩:=Tr.wf_bin hw
  rw[Tr.toks_bin] at *
  rw[kindT_bin] at hk
  cases hl:kindT c l with
  | error p=>rw[hl] at hk;cases hk
  | ok a =>
   cases hr:kindT c r with
   | error p=>rw[hl,hr] at hk;cases hk
   | ok b =>
    rw[hl,hr] at hk
    have i1:=h1 (fun z hz=>hm z (by simp[hz])) (fun z hz=>hn z (by simp[hz])) (fun z hz=>hp z (by simp[hz])) a hl
    have i2:=h2 (fun z hz=>hm z (by simp[hz])) (fun z hz=>hn z (by simp[hz])) (fun z hz=>hp z (by simp[hz])) b hr
    simp only at hk
    by_cases hz:madeT op.text a b=0
    ·rw[if_pos hz] at hk;cases hk
    ·rw[if_neg hz] at hk
     have hk':k=madeT op.text a b:=(Except.ok.inj hk).symm
     have hmo:=(hm op (by simp)).1
     have hno:nameT op.text=false:=bin_no_name w1
     have hpo:partOne ps op.text=1:=by
      rw[hp op (by simp) hno,if_neg (by simp[w2,w3])]
     rw[Tr.wor_bin,partSum_append,partSum,hpo]
     unfold binW
     have l1:=i1.le
     have l2:=i2.le
     have p1:=i1.pos
     have p2:=i2.pos
     cases hc:isChK (kindP op.text) with
     | true =>
      rw[if_pos rfl]
      have hao:=hc
      rw[and_kind hmo] at hao
      have hab:a=2∧b=2:=by
       unfold madeT at hz
       rw[show (op.text==cAnd||op.text==cOr||op.text==cNot)=true by rw[hao];rfl] at hz
       simp only[if_true] at hz
       by_cases h:a=2∧b=2
       ·exact h
       ·rw[if_neg h] at hz;exact absurd rfl hz
      unfold choW
      by_cases hf:(l.wor env x y).flt=0
      ·rw[if_neg (by rw[hf];simp)]
       have hdec:decK (kindP op.text)=0∨decK (kindP op.text)=1:=by unfold decK;split <;> simp
       by_cases hd:(l.wor env x y).v=decK (kindP op.text)
       ·rw[if_pos hd]
        exact settle_ok (by rcases hdec with h | h <;> simp only[h] <;> decide) (Nat.zero_le 2) (by simp) (by simp only;omega) (fun h=>absurd rfl h) (fun _ _=>hdec)
       ·rw[if_neg hd]
        by_cases hg:(r.wor env x y).flt=0
        ·rw[if_neg (by rw[hg];simp)]
         exact settle_ok i2.in64 (Nat.zero_le 2) (by simp) (by simp only;omega) (fun h=>absurd rfl h) (fun _ _=>i2.tru hg hab.2)
        ·rw[if_pos hg]
         exact ⟨zero64,i2.flt,by simp only;omega,by simp only;omega,fun _ h=>absurd h hg,fun _=>rfl,fun h=>absurd h hg⟩
      ·rw[if_pos hf]
       exact ⟨zero64,i1.flt,p1,by simp only;omega,fun _ h=>absurd h hf,fun _=>rfl,fun h=>absurd h hf⟩
     | false =>
      rw[if_neg (by decide)]
      unfold twoW
      by_cases hf:(l.wor env x y).flt=0
      ·rw[if_neg (by rw[hf];simp)]
       by_cases hg:(r.wor env x y).flt=0
       ·rw[if_neg (by rw[hg];simp)]
        refine settle_ok (joinN_ok _ i1.in64 i2.in64).1 (joinN_ok _ i1.in64 i2.in64).2 (by simp) (by simp only;omega) (fun h=>joinN_nul _ _ _ h) (fun _ h2=>?_)
        rw[hk'] at h2
        rcases made_two h2 with h | h | h
        ·rw[and_kind hmo] at hc
         have:op.text=cNot:=by
          simp only[Bool.or_eq_true] at h
          rcases h with h | h
          ·rw[Bool.or_eq_false_iff] at hc;rcases h with h | h
           ·rw[hc.1] at h;cases h
           ·rw[hc.2] at h;cases h
          ·exact beq_iff_eq.1 h
         rw[this] at w1
         exact absurd w1 (by decide)
        ·simp only[Bool.or_eq_true,beq_iff_eq] at h
         rcases h with h | h <;> rw[h]
         ·rw[show opK (kindP cEq) 2=11 by decide];exact bit_cases _
         ·rw[show opK (kindP cNeq) 2=12 by decide];exact bit_cases _
        ·simp only[Bool.or_eq_true,beq_iff_eq] at h
         rcases h with h | h <;> rw[h]
         ·rw[show opK (kindP cLess) 2=9 by decide];exact bit_cases _
         ·rw[show opK (kindP cMost) 2=10 by decide];exact bit_cases _
       ·rw[if_pos hg]
        exact ⟨zero64,i2.flt,by simp only;omega,by simp only;omega,fun _ h=>absurd h hg,fun _=>rfl,fun h=>absurd h hg⟩
      ·rw[if_pos hf]
       exact ⟨zero64,i1.flt,p1,by simp only;omega,fun _ h=>absurd h hf,fun _=>rfl,fun h=>absurd h hf⟩
 ·intro o e c' hw ih hm hn hp k hk
  obtain ⟨w1,w2,w3⟩:=Tr.wf_par hw
  rw[Tr.toks_par] at *
  have ho:partOne ps o.text=0:=by rw[hp o (by simp) (by rw[w1];decide),if_pos (by rw[w1];decide)]
  have hc:partOne ps c'.text=0:=by rw[hp c' (by simp) (by rw[w2];decide),if_pos (by rw[w2];decide)]
  have:=ih (fun a ha=>hm a (by simp[ha])) (fun a ha=>hn a (by simp[ha])) (fun a ha=>hp a (by simp[ha])) k hk
  rw[Tr.wor_par,partSum,partSum_append,ho,partSum,hc,partSum]
  simpa using this
end Go.Proofs.YtldfkcpbjooemaaGreatDoor
namespace Go.Proofs.YtldfkcpbjooemaaGreatDoor
open Go.RowKit Go.Deep
theorem names_in {there:List Txt} {late:Txt}:∀ (l:List RTok),(∀ x∈l,plainE x.text)→∀ (prev:Txt),prev≠cLet→∀ (rest:List RTok),namesGo there late prev (l++rest)=none →
  (∀ a∈l,nameT a.text=true→a.text∈there)∧∃ pv,pv≠cLet∧namesGo there late pv rest=none
 | [],_,prev,hp,rest,h=>⟨(fun a ha=>by cases ha),prev,hp,h⟩
 | t :: r,hl,prev,hp,rest,h=>by
  obtain ⟨h1,h2,_⟩:=hl t (by simp)
  have hs:(t.text==cSemi)=false:=by simpa using h1
  obtain ⟨e1,e2⟩:=thereN_no (there:=there) (late:=late) (t:=t.text) (.inl hs)
  have hpb:(prev==cLet)=false:=by simpa using hp
  rw[List.cons_append,namesGo,e1,e2,hpb] at h
  cases hn:nameT t.text with
  | false =>
   rw[hn] at h
   simp only[Bool.false_eq_true,if_false] at h
   obtain ⟨g1,g2⟩:=names_in r (fun x hx=>hl x (by simp[hx])) t.text h2 rest h
   refine ⟨fun a ha hna=>?_,g2⟩
   rcases List.mem_cons.1 ha with rfl | ha
   ·rw[hn] at hna;cases hna
   ·exact g1 a ha hna
  | true =>
   rw[hn] at h
   simp only[if_true] at h
   cases hc:there.contains t.text with
   | false=>rw[hc] at h;cases h
   | true =>
    rw[hc] at h
    simp only[Bool.false_eq_true,if_false,show (true==false)=false from rfl] at h
    obtain ⟨g1,g2⟩:=names_in r (fun x hx=>hl x (by simp[hx])) t.text h2 rest h
    refine ⟨fun a ha hna=>?_,g2⟩
    rcases List.mem_cons.1 ha with rfl | ha
    ·simpa using hc
    ·exact g1 a ha hna
def NamesS:List Txt→List RSt→Prop
 | _,[]=>True
 | there,s :: r=>Sum.elim (fun d:LetD=>(∀ a∈d.e.toks,nameT a.text=true→a.text∈there)∧d.name.text ∉ there∧NamesS (there++[d.name.text]) r)
   (fun d:RuleD=>(∀ a∈optToks (d.wh.map Prod.snd),nameT a.text=true→a.text∈there)∧(∀ a∈optToks d.sc,nameT a.text=true→a.text∈there)∧NamesS there r) s
theorem names_S:∀ (l:List RSt),(∀ s∈l,s.wf)→∀ (there:List Txt) (prev:Txt),prev≠cLet→namesGo there [] prev (toksL l)=none→NamesS there l
 | [],_,_,_,_,_=>trivial
 | s :: r,hw,there,prev,hp,h=>by
  have hws:=hw s List.mem_cons_self
  rcases s.cases with ⟨kw,name,eq,e,semi,rfl⟩ | ⟨wh,act,sc,semi,rfl⟩
  ·obtain ⟨w1,w2,w3,w4,w5⟩:=hws
   have w1':kw.text=cLet:=w1
   have w2':nameT name.text=true:=w2
   have w3':eq.text=cEq:=w3
   have w5':semi.text=cSemi:=w5
   have e1:toksL (RSt.letS kw name eq e semi :: r)=kw :: name :: eq :: (e.toks++(semi :: toksL r)):=by
    rw[toksL_cons,RSt.toks,RSt.body_let];simp[RSt.semi,RSt.letS]
   rw[e1,names_skip (by rw[w1'];decide) (by rw[w1'];decide),w1'] at h
   have hns:=name_not_semi w2'
   obtain ⟨t1,t2⟩:=thereN_no (there:=there) (late:=[]) (t:=name.text) (.inl hns)
   rw[namesGo,w2',t1,t2] at h
   simp only[if_true,show (cLet==cLet)=true from by decide] at h
   cases hc:there.contains name.text with
   | true=>rw[hc] at h;cases h
   | false =>
    rw[hc] at h
    simp only[show (false==true)=false from rfl,Bool.false_eq_true,if_false] at h
    rw[names_skip (by rw[w3'];decide) (by rw[w3'];decide),w3'] at h
    obtain ⟨g1,pv,g2,g3⟩:=names_in e.toks (e.plain w4) cEq (by decide) (semi :: toksL r) h
    have hne:(name.text==[])=false:=by
     cases hb:(name.text==[]) with
     | false=>rfl
     | true=>rw[beq_iff_eq.1 hb] at w2';exact absurd w2' (by decide)
    rw[namesGo,if_neg (by rw[w5'];decide),thereN,lateN,w5',hne] at g3
    simp only[show (cSemi==cSemi)=true from by decide,Bool.not_false,Bool.and_self,if_true] at g3
    exact ⟨g1,by simpa using hc,names_S r (fun q hq=>hw q (List.mem_cons_of_mem _ hq)) (there++[name.text]) cSemi (by decide) g3⟩
  ·obtain ⟨w1,w2,w3,w4⟩:=hws
   have w4':semi.text=cSemi:=w4
   have hact:act.text=cScore∨act.text=cReject:=by
    have w2':act.text=(if sc.isSome then cScore else cReject):=w2
    rw[w2'];split <;> simp
   have ho2:∀ x∈optToks sc,plainE x.text:=by
    cases sc with
    | none=>intro x hx;cases hx
    | some e=>exact e.plain (w3 e rfl)
   have step:∀ pv,pv≠cLet→namesGo there [] pv (act :: (optToks sc++(semi :: toksL r)))=none→(∀ a∈optToks sc,nameT a.text=true→a.text∈there)∧NamesS there r:=by
    intro pv hpv h2
    rw[names_skip (by rcases hact with h | h <;> rw[h] <;> decide) (by rcases hact with h | h <;> rw[h] <;> decide)] at h2
    obtain ⟨g1,pv2,g2,g3⟩:=names_in (optToks sc) ho2 act.text (by rcases hact with h | h <;> rw[h] <;> decide) (semi :: toksL r) h2
    rw[names_skip0 (by rw[w4'];decide),w4'] at g3
    exact ⟨g1,names_S r (fun q hq=>hw q (List.mem_cons_of_mem _ hq)) there cSemi (by decide) g3⟩
   cases wh with
   | none =>
    have e1:toksL (RSt.rule none act sc semi :: r)=act :: (optToks sc++(semi :: toksL r)):=by
     rw[toksL_cons,RSt.toks,RSt.body_rule];simp[whToks,RSt.semi,RSt.rule]
    rw[e1] at h
    obtain ⟨g1,g2⟩:=step prev hp h
    exact ⟨(fun a ha=>by cases ha),g1,g2⟩
   | some p =>
    obtain ⟨k,e⟩:=p
    obtain ⟨k1,k2⟩:=w1 k e rfl
    have e1:toksL (RSt.rule (some (k,e)) act sc semi :: r)=k :: (e.toks++(act :: (optToks sc++(semi :: toksL r)))):=by
     rw[toksL_cons,RSt.toks,RSt.body_rule];simp[whToks,RSt.semi,RSt.rule]
    rw[e1,names_skip (by rw[k1];decide) (by rw[k1];decide)] at h
    obtain ⟨g1,pv,g2,g3⟩:=names_in e.toks (e.plain k2) k.text (by rw[k1];decide) _ h
    obtain ⟨g4,g5⟩:=step pv g2 g3
    exact ⟨g1,g4,g5⟩
structure Ent where
 nm:Txt
 k:Nat
 n:Nat
 w:Wo
def cE (E:List Ent):List (Txt × Nat):=E.map fun e=>(e.nm,e.k)
def pE (E:List Ent):List (Txt × Nat):=E.map fun e=>(e.nm,e.n)
def vE (E:List Ent):List (Txt × Wo):=E.map fun e=>(e.nm,e.w)
def nE (E:List Ent):List Txt:=E.map Ent.nm
theorem look_at:∀ (E:List Ent),(nE E).Nodup→∀ e∈E,lookW (vE E) e.nm=e.w∧knownT (cE E) e.nm=e.k∧∀ k0,partFold (pE E) k0 e.nm=e.n
 | [],_,e,he=>by cases he
 | a :: E,hn,e,he=>by
  rw[nE,List.map_cons,List.nodup_cons] at hn
  obtain ⟨h1,h2⟩:=hn
  rcases List.mem_cons.1 he with rfl | he
  ·refine ⟨?_, ?_,fun k0=>?_⟩
   ·unfold lookW vE
    rw[List.map_cons,List.findIdx_cons]
    simp
   ·unfold cE
    rw[List.map_cons,knownT]
    simp
   ·unfold pE
    rw[List.map_cons,partFold]
    simp only[beq_self_eq_true,if_true]
    exact partFold_no _ _ (fun q hq hqe=>h1 (by
     obtain ⟨z,hz,rfl⟩:=List.mem_map.1 hq
     exact List.mem_map.2 ⟨z,hz,hqe⟩))
  ·obtain ⟨g1,g2,g3⟩:=look_at E h2 e he
   have hne:(a.nm==e.nm)=false:=by
    cases hb:(a.nm==e.nm) with
    | false=>rfl
    | true=>exact absurd (by rw[beq_iff_eq.1 hb];exact List.mem_map.2 ⟨e,he,rfl⟩) h1
   refine ⟨?_, ?_,fun k0=>?_⟩
   ·unfold lookW vE at g1 ⊢
    rw[List.map_cons,List.findIdx_cons]
    simp only[hne]
    simpa using g1
   ·unfold cE at g2 ⊢
    rw[List.map_cons,knownT,hne]
    simpa using g2
   ·unfold pE at g3 ⊢
    rw[List.map_cons,partFold,hne]
    simpa using g3 k0
theorem mem_nE {E:List Ent} {t:Txt} (h:t∈nE E):∃ e∈E,e.nm=t:=List.mem_map.1 h
theorem look_more {E F:List Ent} (hn:(nE (E++F)).Nodup) {t:Txt} (h:t∈nE E):lookW (vE (E++F)) t=lookW (vE E) t∧knownT (cE (E++F)) t=knownT (cE E) t∧partOne (pE (E++F)) t=partOne (pE E) t:=by
 obtain ⟨e,he,rfl⟩:=mem_nE h
 have hn1:(nE E).Nodup:=by
  rw[nE,List.map_append] at hn
  exact (List.nodup_append.1 hn).1
 obtain ⟨a1,a2,a3⟩:=look_at E hn1 e he
 obtain ⟨b1,b2,b3⟩:=look_at (E++F) hn e (List.mem_append_left _ he)
 exact ⟨by rw[a1,b1],by rw[a2,b2],by unfold partOne;rw[a3,b3]⟩
theorem part_plain {E:List Ent} (hN:∀ e∈E,nameT e.nm=true) {t:Txt} (h:nameT t=false):partOne (pE E) t=if t==cOpen||t==cClose then 0 else 1:=by
 unfold partOne
 exact partFold_no _ _ (fun q hq e=>by
  obtain ⟨z,hz,rfl⟩:=List.mem_map.1 hq
  have:=hN z hz
  have e':z.nm=t:=e
  rw[e',h] at this
  cases this)
theorem partSum_same {p q:List (Txt × Nat)}:∀ (l:List RTok),(∀ a∈l,partOne p a.text=partOne q a.text)→partSum p l=partSum q l
 | [],_=>rfl
 | a :: l,h=>by rw[partSum,partSum,h a (by simp),partSum_same l (fun z hz=>h z (by simp[hz]))]
theorem partSum_mem {p:List (Txt × Nat)}:∀ (l:List RTok) (a:RTok),a∈l→partOne p a.text≤partSum p l
 | [],a,h=>by cases h
 | b :: l,a,h=>by
  rw[partSum]
  rcases List.mem_cons.1 h with rfl | h
  ·omega
  ·have:=partSum_mem (p:=p) l a h;omega
theorem partsGo_le_sum (ps:List (Txt × Nat)):∀ (l:List RTok) (n:Nat),partsGo ps n l≤150→partsGo ps n l=n+partSum ps l
 | [],n,_=>by simp[partsGo,partSum]
 | t :: r,n,h=>by
  rw[partsGo] at h ⊢
  by_cases hc:n+partOne ps t.text > 150
  ·rw[if_pos hc] at h;omega
  ·rw[if_neg hc] at h ⊢
   rw[partsGo_le_sum ps r _ h,partSum]
   omega
theorem wor_same {env env':Txt→Wo} {x:Itm} {y:Bn} (t:Tr) (ht:t.wf):(∀ a∈t.toks,mayT a.text=true)→(∀ a∈t.toks,nameT a.text=true→env a.text=env' a.text)→t.wor env x y=t.wor env' x y:=by
 refine Tr.ind (P:=fun t=>(∀ a∈t.toks,mayT a.text=true)→(∀ a∈t.toks,nameT a.text=true→env a.text=env' a.text)→t.wor env x y=t.wor env' x y) t ht ?_ ?_ ?_ ?_
 ·intro a _ hm h
  rw[Tr.wor_leaf,Tr.wor_leaf,leafW,leafW]
  by_cases hk:kindP a.text=2
  ·rw[if_pos hk,if_pos hk]
   exact h a (by simp[Tr.toks_leaf]) ((kindOf _ (hm a (by simp[Tr.toks_leaf]))).kname.1 hk)
  ·rw[if_neg hk,if_neg hk]
 ·intro op e _ ih hm h
  rw[Tr.wor_un,Tr.wor_un,ih (fun a ha=>hm a (by simp[Tr.toks_un,ha])) (fun a ha=>h a (by simp[Tr.toks_un,ha]))]
 ·intro op l r _ i1 i2 hm h
  rw[Tr.wor_bin,Tr.wor_bin,i1 (fun a ha=>hm a (by simp[Tr.toks_bin,ha])) (fun a ha=>h a (by simp[Tr.toks_bin,ha])),i2 (fun a ha=>hm a (by simp[Tr.toks_bin,ha])) (fun a ha=>h a (by simp[Tr.toks_bin,ha]))]
 ·intro o e c _ ih hm h
  rw[Tr.wor_par,Tr.wor_par,ih (fun a ha=>hm a (by simp[Tr.toks_par,ha])) (fun a ha=>h a (by simp[Tr.toks_par,ha]))]
theorem kind_same {c c':List (Txt × Nat)} (t:Tr) (ht:t.wf):(∀ a∈t.toks,nameT a.text=true→knownT c a.text=knownT c' a.text)→kindT c t=kindT c' t:=by
 refine Tr.ind (P:=fun t=>(∀ a∈t.toks,nameT a.text=true→knownT c a.text=knownT c' a.text)→kindT c t=kindT c' t) t ht ?_ ?_ ?_ ?_
 ·intro a _ h
  rw[kindT_leaf,kindT_leaf]
  cases hn:nameT a.text with
  | false=>rfl
  | true=>simp only[if_true];rw[h a (by simp[Tr.toks_leaf]) hn]
 ·intro op e _ ih h
  rw[kindT_un,kindT_un,ih (fun a ha=>h a (by simp[Tr.toks_un,ha]))]
 ·intro op l r _ i1 i2 h
  rw[kindT_bin,kindT_bin,i1 (fun a ha=>h a (by simp[Tr.toks_bin,ha])),i2 (fun a ha=>h a (by simp[Tr.toks_bin,ha]))]
 ·intro o e c _ ih h
  exact ih (fun a ha=>h a (by simp[Tr.toks_par,ha]))
structure LetAt (x:Itm) (y:Bn) (E:List Ent) (j:Nat) (nm:Txt) (e:Tr):Prop where
 at':∃ n,E[j]?=some n∧n.nm=nm∧n.w=e.wor (lookW (vE E)) x y∧kindT (cE E) e=.ok n.k∧(n.n≤150→partSum (pE E) e.toks=n.n)
 names:∀ a∈e.toks,nameT a.text=true→∃ i n,i < j∧E[i]?=some n∧n.nm=a.text
structure EnvT (x:Itm) (y:Bn) (L:List RSt) (E:List Ent):Prop where
 len:E.length=L.length
 nd:(nE E).Nodup
 nm:∀ e∈E,nameT e.nm=true
 lets:∀ j kw name eq e semi,L[j]?=some (RSt.letS kw name eq e semi)→LetAt x y E j name.text e
theorem LetAt.more {x:Itm} {y:Bn} {E F:List Ent} (hn:(nE (E++F)).Nodup) (hN:∀ e∈E++F,nameT e.nm=true) {j:Nat} {nm:Txt} {e:Tr} (he:e.wf) (hm:∀ a∈e.toks,mayT a.text=true) (h:LetAt x y E j nm e):LetAt x y (E++F) j nm e:=by
 obtain ⟨⟨n,h1,h2,h3,h4,h5⟩,h6⟩:=h
 have hin:∀ a∈e.toks,nameT a.text=true→a.text∈nE E:=fun a ha hna=>by
  obtain ⟨i,z,_,hz,hze⟩:=h6 a ha hna
  exact List.mem_map.2 ⟨z,List.mem_of_getElem? hz,hze⟩
 have hj:=(List.getElem?_eq_some_iff.1 h1).1
 refine ⟨⟨n,by rw[List.getElem?_append_left hj];exact h1,h2, ?_, ?_,fun hle=>?_⟩,fun a ha hna=>?_⟩
 ·rw[h3]
  exact wor_same e he hm (fun a ha hna=>(look_more hn (hin a ha hna)).1.symm)
 ·rw[← h4]
  exact kind_same e he (fun a ha hna=>(look_more hn (hin a ha hna)).2.1)
 ·rw[← h5 hle]
  refine partSum_same _ (fun a ha=>?_)
  cases hna:nameT a.text with
  | true=>exact (look_more hn (hin a ha hna)).2.2
  | false=>rw[part_plain hN hna,part_plain (fun e he=>hN e (List.mem_append_left _ he)) hna]
 ·obtain ⟨i,z,hi,hz,hze⟩:=h6 a ha hna
  exact ⟨i,z,hi,by rw[List.getElem?_append_left (List.getElem?_eq_some_iff.1 hz).1];exact hz,hze⟩
theorem env_all {x:Itm} {y:Bn}:∀ (B A:List RSt) (E:List Ent),EnvT x y A E→isLetL' A→isLetL' B→(∀ s∈A++B,s.wf)→(∀ s∈A++B,∀ a∈s.body,mayT a.text=true)→NamesS (nE E) B→∀ c',letsK (cE E) B=.ok c' →
  ∃ E',EnvT x y (A++B) E'∧cE E'=c'∧pE E'=sizesGo (pE E) B∧vE E'=envS x y (vE E) B
 | [],A,E,hE,_,_,_,_,_,c',hc=>by
  rw[List.append_nil]
  cases hc
  exact ⟨E,hE,rfl,rfl,rfl⟩
 | s :: B,A,E,hE,hA,hB,hw,hm,hN,c',hc=>by
  have hs:=hB s List.mem_cons_self
  rcases s.cases with ⟨kw,name,eq,e,semi,rfl⟩ | ⟨wh,act,sc,semi,rfl⟩
  ·obtain ⟨n1,n2,n3⟩:=hN
   have hws:=hw (RSt.letS kw name eq e semi) (by simp)
   obtain ⟨w1,w2,w3,w4,w5⟩:=hws
   have hme:∀ a∈e.toks,mayT a.text=true:=fun a ha=>hm (RSt.letS kw name eq e semi) (by simp) a (by rw[RSt.body_let];simp[ha])
   have hn2:name.text ∉ nE E:=n2
   rw[letsK_let] at hc
   cases hk:kindT (cE E) e with
   | error p=>rw[hk] at hc;cases hc
   | ok k =>
    rw[hk] at hc
    simp only at hc
    obtain ⟨n,hn⟩:∃ n:Ent,n=⟨name.text,k,partsGo (pE E) 0 e.toks,e.wor (lookW (vE E)) x y⟩:=⟨_,rfl⟩
    have hnE:nE (E++[n])=nE E++[name.text]:=by rw[hn];simp[nE]
    have hnd:(nE (E++[n])).Nodup:=by
     rw[hnE,List.nodup_append]
     exact ⟨hE.nd,by simp,fun a ha b hb=>by simp at hb;subst hb;intro e;exact hn2 (e ▸ ha)⟩
    have hnm:∀ z∈E++[n],nameT z.nm=true:=fun z hz=>by
     rcases List.mem_append.1 hz with h | h
     ·exact hE.nm z h
     ·simp at h;subst h;rw[hn];exact w2
    have hin:∀ a∈e.toks,nameT a.text=true→a.text∈nE E:=n1
    have hlast:LetAt x y (E++[n]) E.length name.text e:=by
     refine ⟨⟨n,by simp,by rw[hn], ?_, ?_,fun hle=>?_⟩,fun a ha hna=>?_⟩
     ·rw[hn]
      exact wor_same e w4 hme (fun a ha hna=>(by rw[hn] at hnd;exact (look_more hnd (hin a ha hna)).1.symm))
     ·have hkk:n.k=k:=by rw[hn]
      rw[hkk,← hk]
      exact kind_same e w4 (fun a ha hna=>(look_more hnd (hin a ha hna)).2.1)
     ·have hnn:n.n=partsGo (pE E) 0 e.toks:=by rw[hn]
      rw[hnn] at hle ⊢
      rw[partsGo_le_sum _ _ _ hle,Nat.zero_add]
      refine partSum_same _ (fun a ha=>?_)
      cases hna:nameT a.text with
      | true=>exact (look_more hnd (hin a ha hna)).2.2
      | false=>rw[part_plain hnm hna,part_plain hE.nm hna]
     ·obtain ⟨z,hz,hze⟩:=mem_nE (hin a ha hna)
      obtain ⟨i,hi,rfl⟩:=List.getElem_of_mem hz
      exact ⟨i,E[i],hi,by rw[List.getElem?_append_left hi,List.getElem?_eq_getElem hi],hze⟩
    have hE':EnvT x y (A++[RSt.letS kw name eq e semi]) (E++[n]):=by
     refine ⟨by simp[hE.len],hnd,hnm,fun j kw' name' eq' e' semi' hj=>?_⟩
     rcases Nat.lt_or_ge j A.length with hlt | hge
     ·rw[List.getElem?_append_left hlt] at hj
      have hmem:=List.mem_of_getElem? hj
      have hw':=hw _ (List.mem_append_left _ hmem)
      exact (hE.lets j kw' name' eq' e' semi' hj).more hnd hnm hw'.2.2.2.1 (fun a ha=>hm _ (List.mem_append_left _ hmem) a (by rw[RSt.body_let];simp[ha]))
     ·rw[List.getElem?_append_right hge] at hj
      have hj0:j - A.length=0:=by
       have:=(List.getElem?_eq_some_iff.1 hj).1
       simp at this
       omega
      rw[hj0] at hj
      have heq:RSt.letS kw name eq e semi=RSt.letS kw' name' eq' e' semi':=by simpa using hj
      have heq2:=Sum.inl.inj heq
      injection heq2 with q1 q2 q3 q4 q5
      have:j=E.length:=by rw[hE.len];omega
      rw[this,← q2,← q4]
      exact hlast
    have hce:cE (E++[n])=cE E++[(name.text,k)]:=by rw[hn];simp[cE]
    obtain ⟨E',g1,g2,g3,g4⟩:=env_all B (A++[RSt.letS kw name eq e semi]) (E++[n]) hE' (fun z hz=>by
      rcases List.mem_append.1 hz with h | h
      ·exact hA z h
      ·simp at h;subst h;rfl) (fun z hz=>hB z (List.mem_cons_of_mem _ hz)) (by simpa using hw) (by simpa using hm) (by rw[hnE];exact n3) c' (by rw[hce];exact hc)
    refine ⟨E',by simpa using g1,g2, ?_, ?_⟩
    ·rw[g3,sizesGo_let]
     congr 1
     rw[hn];simp[pE]
    ·rw[g4,envS_let]
     congr 1
     rw[hn];simp[vE]
  ·cases hs
end Go.Proofs.YtldfkcpbjooemaaGreatDoor
