/-
  Tokens set with blanks and newlines between them: of a tree with the brackets that it needs, its plain form; plain.
-/
import Derived.Test.YtgfnkeiigjholaaGreatDoorQ37
import Derived.Test.YtgfnkeiigjholaaGreatDoorQ43
import Derived.Test.YtgfnkeiigjholaaGreatDoorQ07
set_option linter.unusedVariables false
set_option linter.unusedSimpArgs false
namespace Go.Proofs.YtgfnkeiigjholaaGreatDoor
open Go.Deep
theorem strip0_keep{t:Txt}(h:headC t≠48):strip0 t=t:=by
 match t,h with
 | [],_=>rfl
 | [a],_=>rfl
 | a :: b :: r,h =>
  have h':a≠48:=h
  rw[strip0,if_neg (by simpa using h')]
theorem shortN_eq(t:Txt):shortN t=strip0 t:=by
 unfold shortN
 cases h:isDig (headC t) with
 | true=>rfl
 | false =>
  rw[if_neg (by simp)]
  refine (strip0_keep fun e=>?_).symm
  rw[e]at h
  exact absurd h (by decide)
def sepT(g ps:Bool):Txt:=if g then [] else if ps then [10] else [32]
def gluedN(t:Txt)(w:Bool):Bool:=t==cOpen||(t==cMinus&&w)
def wantsN(t:Txt):Bool:=!(singleT t||t==cClose)
def setG:Bool→Bool→Bool→List RTok→Txt
 | _,_,_,[]=>[]
 | g,w,ps,t :: r=>(if !g&&t.text != cClose&&t.text != cSemi then (if ps then [10] else [32]) else [])++(strip0 t.text++setG (gluedN t.text w) (wantsN t.text) (t.text==cSemi) r)
theorem set_tok{t:RTok}(h1:t.text≠cClose)(h2:t.text≠cSemi)(g w ps:Bool)(r:List RTok):setG g w ps (t :: r)=sepT g ps++(strip0 t.text++setG (gluedN t.text w) (wantsN t.text) false r):=by
 have e1:(t.text != cClose)=true:=by simpa using h1
 have e2:(t.text != cSemi)=true:=by simpa using h2
 have e3:(t.text==cSemi)=false:=by simpa using h2
 rw[setG,e1,e2,e3]
 cases g <;> rfl
theorem set_close{t:RTok}(h:t.text=cClose)(g w ps:Bool)(r:List RTok):setG g w ps (t :: r)=41 :: setG false false false r:=by
 rw[setG,h]
 cases g <;> cases w <;> rfl
theorem set_semi{t:RTok}(h:t.text=cSemi)(g w ps:Bool)(r:List RTok):setG g w ps (t :: r)=59 :: setG false true true r:=by
 rw[setG,h]
 cases g <;> cases w <;> rfl
theorem set_word{t:RTok}{u:Txt}(h:t.text=u)(h1:u≠cClose)(h2:u≠cSemi)(h3:strip0 u=u)(g w ps:Bool)(r:List RTok){g' w':Bool}(h4:gluedN u w=g')(h5:wantsN u=w'):setG g w ps (t :: r)=sepT g ps++(u++setG g' w' false r):=by
 subst h
 rw[set_tok h1 h2,h3,h4,h5]
theorem set_open{t:RTok}(h:t.text=cOpen)(g w ps:Bool)(r:List RTok):setG g w ps (t :: r)=sepT g ps++(40 :: setG true true false r):=by
 rw[set_word h (by decide) (by decide) rfl g w ps r (g':=true) (w':=true) (by cases w <;> rfl) (by decide)]
 rfl
theorem set_leaf{t:RTok}(h:(Tr.leaf t).wf)(g w ps:Bool)(r:List RTok):setG g w ps (t :: r)=sepT g ps++(shortN t.text++setG false false false r):=by
 obtain ⟨h1,h2,h3,h4,h5⟩:=Tr.wf_leaf h
 rw[set_tok h3 (single_plain h1).1,shortN_eq]
 have e1:gluedN t.text w=false:=by
  unfold gluedN
  have:(t.text==cMinus)=false:=by
   unfold unT at h4
   simp only[Bool.or_eq_false_iff]at h4
   exact h4.1
  rw[this]
  simpa using h2
 have e2:wantsN t.text=false:=by unfold wantsN;rw[h1];rfl
 rw[e1,e2]
theorem joint_facts{t:Txt}(h:0<bindsT t):strip0 t=t∧gluedN t false=false∧wantsN t=true∧t≠cClose∧t≠cSemi:=by
 have hj:=(joint_binds t).2 h
 have key:∀ u∈tJoint,strip0 u=u∧gluedN u false=false∧wantsN u=true∧u≠cClose∧u≠cSemi:=by decide
 exact key t (List.contains_iff_mem.1 hj)
theorem set_joint{t:RTok}(h:0<bindsT t.text)(g ps:Bool)(r:List RTok):setG g false ps (t :: r)=sepT g ps++(t.text++setG false true false r):=by
 obtain ⟨h1,h2,h3,h4,h5⟩:=joint_facts h
 exact set_word rfl h4 h5 h1 g false ps r h2 h3
theorem nb_mono(t:Tr)(h:t.wf):∀ lv i j,i≤j→t.nb lv j→t.nb lv i:=by
 refine Tr.ind (P:=fun t=>∀ lv i j,i≤j→t.nb lv j→t.nb lv i) t h (fun a _ lv i _ _ _=>nb_leaf a lv i) ?_ ?_ ?_
 ·intro op e _ ih lv i j hij hn
  rw[nb_un]at hn ⊢
  exact ih 6 _ _ (by omega) hn
 ·intro op l r _ ihl ihr lv i j hij hn
  rw[nb_bin]at hn ⊢
  exact ⟨ihl _ _ _ hij hn.1,ihr _ _ _ (by omega) hn.2⟩
 ·intro o e c _ ih lv i j hij hn
  rw[nb_par]at hn ⊢
  exact ⟨fun h0=>hn.1 (by omega),ih 1 _ _ (by omega) hn.2⟩
theorem set_tree(t:Tr)(h:t.wf):∀ lv (g ps:Bool) (rest:List RTok),lv≤t.level→t.nb lv t.toks.length→setG g true ps (t.toks++rest)=sepT g ps++(t.plainT lv++setG false false false rest):=by
 refine Tr.ind (P:=fun t=>∀ lv (g ps:Bool) (rest:List RTok),lv≤t.level→t.nb lv t.toks.length→setG g true ps (t.toks++rest)=sepT g ps++(t.plainT lv++setG false false false rest)) t h ?_ ?_ ?_ ?_
 ·intro a hw lv g ps rest _ _
  rw[Tr.toks_leaf,List.singleton_append,set_leaf hw,plainT_leaf]
 ·intro op e hw ih lv g ps rest _ hn
  obtain ⟨w1,w2,w3⟩:=Tr.wf_un hw
  rw[nb_un,Tr.toks_un,List.length_cons,Nat.add_sub_cancel]at hn
  have hop:op.text=cMinus∨op.text=cNot:=by simpa[unT] using w1
  rw[Tr.toks_un,List.cons_append,plainT_un]
  rcases hop with hop | hop
  ·rw[set_word hop (by decide) (by decide) rfl g true ps _ (g':=true) (w':=true) (by decide) (by decide),ih 6 _ _ _ (by omega) hn,hop]
   rfl
  ·rw[set_word hop (by decide) (by decide) rfl g true ps _ (g':=false) (w':=true) (by decide) (by decide),ih 6 _ _ _ (by omega) hn,hop]
   rfl
 ·intro op l r hw ihl ihr lv g ps rest hlv hn
  obtain ⟨w1,w2,w3,w4,w5,w6,w7⟩:=Tr.wf_bin hw
  rw[Tr.level_bin]at hlv
  rw[nb_bin,Tr.toks_bin,List.length_append,List.length_cons,show l.toks.length+(r.toks.length+1)-l.toks.length-1=r.toks.length by omega]at hn
  rw[Tr.toks_bin,List.append_assoc,List.cons_append,ihl _ g ps _ w4 (nb_mono l w6 _ _ _ (by omega) hn.1),set_joint w1,ihr _ false false _ w5 hn.2,plainT_bin,brk,if_neg (by simp;omega)]
  simp[sepT]
 ·intro o e c hw ih lv g ps rest hlv hn
  obtain ⟨w1,w2,w3⟩:=Tr.wf_par hw
  have hlen:(Tr.par o e c).toks.length=e.toks.length+2:=by rw[Tr.toks_par,List.length_cons,List.length_append];rfl
  rw[nb_par,hlen]at hn
  obtain ⟨hb,hl⟩:=hn.1 (by omega)
  rw[Tr.toks_par,List.cons_append,List.append_assoc,set_open w1,ih 1 true false _ (wf_level_pos e w3) (nb_mono e w3 _ _ _ (by omega) hn.2),List.singleton_append,set_close w2,plainT_par]
  rcases e.cases w3 with ⟨x,rfl⟩ | ⟨op,x,rfl⟩ | ⟨op,l,r,rfl⟩ | ⟨o',x,c',rfl⟩
  ·cases hb
  ·cases hb
  ·rw[Tr.level_bin]at hl
   have h1:=(Tr.wf_bin w3).1
   rw[plainT_bin,plainT_bin,brk,brk,if_neg (by simp;omega),if_pos (by simpa using hl)]
   simp[sepT]
  ·cases hb
def plainC:BT Txt→Nat→Txt
 | .nil,_=>[]
 | .node 0 _ a _ _,_=>shortN a
 | .node 1 _ a e _,_=>(if a==cMinus then cMinus else a++[32])++plainC e 6
 | .node _ _ a l r,lv=>brk (decide (bindsT a<lv)) (plainC l (bindsT a)++32 :: (a++32 :: plainC r (bindsT a+1)))
theorem plainC2(o:Nat)(a:Txt)(l r:BT Txt)(lv:Nat):plainC (.node 2 o a l r) lv=brk (decide (bindsT a<lv)) (plainC l (bindsT a)++32 :: (a++32 :: plainC r (bindsT a+1))):=rfl
theorem plainT_core(t:Tr)(h:t.wf):∀ lv,t.plainT lv=plainC t.core lv:=by
 refine Tr.ind (P:=fun t=>∀ lv,t.plainT lv=plainC t.core lv) t h (fun a _ lv=>rfl) ?_ ?_ (fun o e c _ ih lv=>ih lv)
 ·intro op e _ ih lv
  rw[plainT_un,core_un,ih,plainC]
 ·intro op l r _ ihl ihr lv
  rw[plainT_bin,core_bin,plainC2,ihl,ihr]
theorem bare_set{e x:Tr}(he:e.wf)(h:BareOf e x)(g ps:Bool)(rest:List RTok):setG g true ps (x.toks++rest)=sepT g ps++(e.plainT 1++setG false false false rest):=by
 rw[set_tree x h.wf 1 g ps rest (wf_level_pos x h.wf) h.nb,plainT_core x h.wf,h.core,← plainT_core e he]
def wordR(t:Txt):RTok:=⟨t,0⟩
def OutO(kw:Txt)(none:List RTok):Option Tr→List RTok→Prop
 | Option.none,out=>out=none
 | some e,out=>∃ x,BareOf e x∧out=wordR kw :: x.toks
def OutS(s:RSt)(out:List RTok):Prop:=Sum.elim (fun d:LetD=>∃ x,BareOf d.e x∧out=wordR cLet :: wordR d.name.text :: wordR cEq :: (x.toks++[wordR cSemi])) (fun d:RuleD=>∃ A B,OutO cWhen [] (d.wh.map Prod.snd) A∧OutO cScore [wordR cReject] d.sc B∧out=A++(B++[wordR cSemi])) s
def OutL:List RSt→List RTok→Prop
 | [],out=>out=[]
 | s :: r,out=>∃ a b,OutS s a∧OutL r b∧out=a++b
theorem set_name{t:RTok}(h:nameT t.text=true)(g w ps:Bool)(r:List RTok):setG g w ps (t :: r)=sepT g ps++(t.text++setG false false false r):=by
 have hs:singleT t.text=true:=by unfold singleT;rw[h];simp
 have hp:=single_plain hs
 have hl:isLet (headC t.text)=true:=by unfold nameT at h;simp only[Bool.and_eq_true]at h;exact h.1.1
 have hne:∀ u:Txt,isLet (headC u)=false→t.text≠u:=fun u hu e=>by rw[e,hu]at hl;cases hl
 refine set_word rfl (hne _ (by decide)) hp.1 (strip0_keep fun e=>by rw[e]at hl;exact absurd hl (by decide)) g w ps r ?_ ?_
 ·unfold gluedN
  have e1:(t.text==cOpen)=false:=by simpa using hne cOpen (by decide)
  have e2:(t.text==cMinus)=false:=by simpa using hne cMinus (by decide)
  rw[e1,e2]
  rfl
 ·unfold wantsN;rw[hs];rfl
theorem set_act{sc:Option Tr}{B:List RTok}(h:OutO cScore [wordR cReject] sc B)(hw:∀ e,sc=some e→e.wf)(g w ps:Bool)(rest:List RTok):setG g w ps ((B++[wordR cSemi])++rest)=sepT g ps++(actP sc++setG false true true rest):=by
 cases sc with
 | none =>
  have h':B=[wordR cReject]:=h
  subst h'
  show setG g w ps (wordR cReject :: (wordR cSemi :: rest))=_
  rw[set_word (t:=wordR cReject) rfl (by decide) (by decide) rfl g w ps _ (g':=false) (w':=true) (by cases w <;> decide) (by decide),set_semi rfl]
  simp[actP,wordR]
 | some e =>
  obtain ⟨x,h1,rfl⟩:=h
  rw[List.cons_append,List.cons_append,List.append_assoc,set_word (t:=wordR cScore) rfl (by decide) (by decide) rfl g w ps _ (g':=false) (w':=true) (by cases w <;> decide) (by decide),bare_set (hw e rfl) h1,List.singleton_append,set_semi rfl]
  simp[actP,sepT,wordR]
theorem set_stmt{s:RSt}{out:List RTok}(h:OutS s out)(hw:s.wf)(g ps:Bool)(rest:List RTok):setG g true ps (out++rest)=sepT g ps++(s.plainS++setG false true true rest):=by
 rcases s.cases with ⟨kw,name,eq,e,semi,rfl⟩ | ⟨wh,act,sc,semi,rfl⟩
 ·obtain ⟨x,h1,rfl⟩:=h
  have hn:nameT name.text=true:=hw.2.1
  have he:e.wf:=hw.2.2.2.1
  have hx:BareOf e x:=h1
  show setG g true ps (wordR cLet :: wordR name.text :: wordR cEq :: ((x.toks++[wordR cSemi])++rest))=sepT g ps++((cLet++32 :: (name.text++32 :: (cEq++32 :: (e.plainT 1++[59]))))++setG false true true rest)
  rw[set_word (t:=wordR cLet) rfl (by decide) (by decide) rfl g true ps _ (g':=false) (w':=true) (by decide) (by decide),set_name (t:=wordR name.text) hn,set_word (t:=wordR cEq) rfl (by decide) (by decide) rfl false false false _ (g':=false) (w':=true) (by decide) (by decide),List.append_assoc,bare_set he hx,List.singleton_append,set_semi rfl]
  simp[sepT,wordR]
 ·obtain ⟨A,B,h1,h2,rfl⟩:=h
  obtain ⟨w1,_,w3,_⟩:=hw
  show setG g true ps ((A++(B++[wordR cSemi]))++rest)=sepT g ps++((whenP (wh.map Prod.snd)++actP sc)++setG false true true rest)
  cases wh with
  | none =>
   have h':A=[]:=h1
   subst h'
   rw[List.nil_append,set_act h2 w3]
   simp[whenP]
  | some p =>
   obtain ⟨x,g1,rfl⟩:=h1
   have he:p.2.wf:=(w1 p.1 p.2 rfl).2
   have hx:BareOf p.2 x:=g1
   rw[List.cons_append,List.cons_append,set_word (t:=wordR cWhen) rfl (by decide) (by decide) rfl g true ps _ (g':=false) (w':=true) (by decide) (by decide),List.append_assoc,bare_set he hx,set_act h2 w3]
   simp[whenP,sepT,wordR]
theorem set_rest:∀ (l:List RSt) (out:List RTok),OutL l out→(∀ s∈l,s.wf)→setG false true true out=(l.map RSt.plainS).flatMap (fun y=>10 :: y)
 | [],out,h,_=>by
  have h':out=[]:=h
  subst h'
  rfl
 | s :: r,out,h,hw=>by
  obtain ⟨a,b,h1,h2,rfl⟩:=h
  rw[set_stmt h1 (hw s List.mem_cons_self),set_rest r b h2 (fun q hq=>hw q (List.mem_cons_of_mem _ hq))]
  rfl
theorem flat_pol:∀ (L R:List RSt),R≠[]→((L++R).map RSt.plainS).flatMap (fun y=>10 :: y)=10 :: polQ L R
 | [],[],h=>absurd rfl h
 | [],x :: R,_=>rfl
 | s :: L,R,h=>by
  rw[List.cons_append,List.map_cons,List.flatMap_cons,flat_pol L R h]
  simp[polQ,catL]
theorem set_pol(L R:List RSt)(out:List RTok)(h:OutL (L++R) out)(hw:∀ s∈L++R,s.wf)(hR:R≠[]):setG true true false out=polQ L R:=by
 have key:∀ (l:List RSt),l≠[]→OutL l out→(∀ s∈l,s.wf)→10 :: setG true true false out=(l.map RSt.plainS).flatMap (fun y=>10 :: y):=by
  intro l hl ho hq
  cases l with
  | nil=>exact absurd rfl hl
  | cons s r =>
   obtain ⟨a,b,h1,h2,rfl⟩:=ho
   rw[set_stmt h1 (hq s List.mem_cons_self),set_rest r b h2 (fun q hq'=>hq q (List.mem_cons_of_mem _ hq'))]
   rfl
 have:=key (L++R) (by simp[hR]) h hw
 rw[flat_pol L R hR]at this
 injection this
open Go.RowKit
end Go.Proofs.YtgfnkeiigjholaaGreatDoor
