/-
  A policy as a list of statements whose expressions are trees: its tokens, and where each statement ends.
-/
import Derived.Test.YtgfnkeiigjholaaGreatDoorQ07
set_option linter.unusedVariables false
set_option linter.unusedSimpArgs false
namespace Go.Proofs.YtgfnkeiigjholaaGreatDoor
structure LetD where
 kw:RTok
 name:RTok
 eq:RTok
 e:Tr
 semi:RTok
structure RuleD where
 wh:Option (RTok×Tr)
 act:RTok
 sc:Option Tr
 semi:RTok
def RSt:Type:=Sum LetD RuleD
def RSt.letS(kw name eq:RTok)(e:Tr)(semi:RTok):RSt:=Sum.inl ⟨kw,name,eq,e,semi⟩
def RSt.rule(wh:Option (RTok×Tr))(act:RTok)(sc:Option Tr)(semi:RTok):RSt:=Sum.inr ⟨wh,act,sc,semi⟩
theorem RSt.cases(s:RSt):(∃ kw name eq e semi,s=.letS kw name eq e semi)∨(∃ wh act sc semi,s=.rule wh act sc semi):=by
 rcases s with ⟨kw,name,eq,e,semi⟩ | ⟨wh,act,sc,semi⟩
 ·exact .inl ⟨kw,name,eq,e,semi,rfl⟩
 ·exact .inr ⟨wh,act,sc,semi,rfl⟩
def optToks:Option Tr→List RTok
 | none=>[]
 | some e=>e.toks
def whToks:Option (RTok×Tr)→List RTok
 | none=>[]
 | some (k,e)=>k :: e.toks
def RSt.body(s:RSt):List RTok:=Sum.elim (fun d:LetD=>d.kw :: d.name :: d.eq :: d.e.toks) (fun d:RuleD=>whToks d.wh++d.act :: optToks d.sc) s
def RSt.semi(s:RSt):RTok:=Sum.elim LetD.semi RuleD.semi s
theorem RSt.body_let(kw name eq:RTok)(e:Tr)(semi:RTok):(RSt.letS kw name eq e semi).body=kw :: name :: eq :: e.toks:=rfl
theorem RSt.body_rule(wh:Option (RTok×Tr))(act:RTok)(sc:Option Tr)(semi:RTok):(RSt.rule wh act sc semi).body=whToks wh++act :: optToks sc:=rfl
def RSt.toks(s:RSt):List RTok:=s.body++[s.semi]
def toksL(l:List RSt):List RTok:=l.flatMap RSt.toks
def RSt.isLet(s:RSt):Bool:=Sum.elim (fun _:LetD=>true) (fun _:RuleD=>false) s
def RSt.wf(s:RSt):Prop:=Sum.elim (fun d:LetD=>d.kw.text=cLet∧nameT d.name.text=true∧d.eq.text=cEq∧d.e.wf∧d.semi.text=cSemi) (fun d:RuleD=>(∀ k e,d.wh=some (k,e)→k.text=cWhen∧e.wf)∧d.act.text=(if d.sc.isSome then cScore else cReject)∧(∀ e,d.sc=some e→e.wf)∧d.semi.text=cSemi) s
theorem toksL_append(a b:List RSt):toksL (a++b)=toksL a++toksL b:=by simp[toksL]
theorem toksL_cons(a:RSt)(b:List RSt):toksL (a :: b)=a.toks++toksL b:=by simp[toksL]
theorem RSt.body_pos(s:RSt):1≤s.body.length:=by
 rcases s.cases with ⟨kw,name,eq,e,semi,rfl⟩ | ⟨wh,act,sc,semi,rfl⟩
 ·simp[RSt.body_let]
 ·simp[RSt.body_rule];omega
theorem RSt.toks_length(s:RSt):s.toks.length=s.body.length+1:=by simp[RSt.toks]
def plainE(t:Txt):Prop:=t≠cSemi∧t≠cLet∧t≠cWhen∧t≠cScore∧t≠cReject
theorem single_plain{t:Txt}(h:singleT t=true):plainE t:=by
 refine ⟨?_, ?_, ?_, ?_, ?_⟩ <;> (intro e;subst e;revert h;decide)
theorem un_plain{t:Txt}(h:unT t=true):plainE t:=by
 refine ⟨?_, ?_, ?_, ?_, ?_⟩ <;> (intro e;subst e;revert h;decide)
theorem bin_plain{t:Txt}(h:0<bindsT t):plainE t:=by
 refine ⟨?_, ?_, ?_, ?_, ?_⟩ <;> (intro e;subst e;revert h;decide)
theorem Tr.plain(t:Tr)(h:t.wf):∀ x∈t.toks,plainE x.text:=by
 refine Tr.ind (P:=fun t=>∀ x∈t.toks,plainE x.text) t h ?_ ?_ ?_ ?_
 ·intro a h x hx;simp[Tr.toks_leaf]at hx;subst hx;exact single_plain (Tr.wf_leaf h).1
 ·intro op e h ih x hx
  simp only[Tr.toks_un,List.mem_cons]at hx
  rcases hx with rfl | hx
  ·exact un_plain (Tr.wf_un h).1
  ·exact ih x hx
 ·intro op l r h ihl ihr x hx
  simp only[Tr.toks_bin,List.mem_append,List.mem_cons]at hx
  rcases hx with hx | rfl | hx
  ·exact ihl x hx
  ·exact bin_plain (Tr.wf_bin h).1
  ·exact ihr x hx
 ·intro o e c h ih x hx
  simp only[Tr.toks_par,List.mem_cons,List.mem_append,List.mem_nil_iff,or_false]at hx
  rcases hx with rfl | hx | rfl
  ·rw[(Tr.wf_par h).1];refine ⟨?_, ?_, ?_, ?_, ?_⟩ <;> decide
  ·exact ih x hx
  ·rw[(Tr.wf_par h).2.1];refine ⟨?_, ?_, ?_, ?_, ?_⟩ <;> decide
theorem RSt.body_no_semi(s:RSt)(h:s.wf):∀ x∈s.body,x.text≠cSemi:=by
 intro x hx
 rcases s.cases with ⟨kw,name,eq,e,semi,rfl⟩ | ⟨wh,act,sc,semi,rfl⟩
 ·simp only[RSt.body_let,List.mem_cons]at hx
  rcases hx with rfl | rfl | rfl | hx
  ·rw[h.1];decide
  ·intro e';have:=name_not_semi h.2.1;rw[e']at this;revert this;decide
  ·rw[h.2.2.1];decide
  ·exact (e.plain h.2.2.2.1 x hx).1
 ·simp only[RSt.body_rule,List.mem_append,List.mem_cons]at hx
  rcases hx with hx | rfl | hx
  ·cases wh with
   | none=>simp[whToks]at hx
   | some p =>
    obtain ⟨k,e⟩:=p
    simp only[whToks,List.mem_cons]at hx
    rcases hx with rfl | hx
    ·rw[(h.1 x e rfl).1];decide
    ·exact (e.plain (h.1 k e rfl).2 x hx).1
  ·rw[h.2.1];split <;> decide
  ·cases sc with
   | none=>simp[optToks]at hx
   | some e=>exact (e.plain (h.2.2.1 e rfl) x hx).1
theorem RSt.semi_text(s:RSt)(h:s.wf):s.semi.text=cSemi:=by
 rcases s.cases with ⟨kw,name,eq,e,semi,rfl⟩ | ⟨wh,act,sc,semi,rfl⟩
 ·exact h.2.2.2.2
 ·exact h.2.2.2
def All2{α β:Type}(R:α→β→Prop):List α→List β→Prop
 | [],[]=>True
 | a :: xa,b :: bs=>R a b∧All2 R xa bs
 | _,_=>False
theorem All2.len{α β:Type}{R:α→β→Prop}:∀ {xa:List α} {bs:List β},All2 R xa bs→xa.length=bs.length
 | [],[],_=>rfl
 | _ :: _,_ :: _,h=>by simp[All2.len h.2]
 | [],_ :: _,h=>h.elim
 | _ :: _,[],h=>h.elim
theorem All2.mono{α β:Type}{R S:α→β→Prop}(hrs:∀ a b,R a b→S a b):∀ {xa:List α} {bs:List β},All2 R xa bs→All2 S xa bs
 | [],[],_=>trivial
 | _ :: _,_ :: _,h=>⟨hrs _ _ h.1,All2.mono hrs h.2⟩
 | [],_ :: _,h=>h.elim
 | _ :: _,[],h=>h.elim
theorem All2.snoc{α β:Type}{R:α→β→Prop}:∀ {xa:List α} {bs:List β} {a:α} {b:β},All2 R xa bs→R a b→All2 R (xa++[a]) (bs++[b])
 | [],[],_,_,_,h=>⟨h,trivial⟩
 | _ :: _,_ :: _,_,_,h,h'=>⟨h.1,All2.snoc h.2 h'⟩
 | [],_ :: _,_,_,h,_=>h.elim
 | _ :: _,[],_,_,h,_=>h.elim
theorem All2.get{α β:Type}{R:α→β→Prop}:∀ {xa:List α} {bs:List β},All2 R xa bs→∀ (i:Nat) (h:i<xa.length) (h':i<bs.length),R xa[i] bs[i]
 | _ :: _,_ :: _,h,0,_,_=>h.1
 | _ :: _,_ :: _,h,i+1,h1,h2=>All2.get h.2 i (by simpa using h1) (by simpa using h2)
 | [],_ :: _,h,_,_,_=>h.elim
 | _ :: _,[],h,_,_,_=>h.elim
theorem toksL_at(done todo:List RSt)(s:RSt)(j:Nat)(hj:j≤s.body.length)(l:List RTok)(hl:l=toksL (done++s :: todo))(h:(toksL done).length+j<l.length) :
  (j<s.body.length→∃ h',l[(toksL done).length+j]=s.body[j]'h')∧(j=s.body.length→l[(toksL done).length+j]=s.semi):=by
 subst hl
 have e:toksL (done++s :: todo)=toksL done++(s.body++([s.semi]++toksL todo)):=by
  rw[toksL_append,toksL_cons,RSt.toks];simp
 constructor
 ·intro hlt
  refine ⟨hlt, ?_⟩
  simp only[e]
  rw[List.getElem_append_right (by omega)]
  simp only[Nat.add_sub_cancel_left]
  rw[List.getElem_append_left hlt]
 ·intro he
  simp only[e]
  rw[List.getElem_append_right (by omega)]
  simp only[Nat.add_sub_cancel_left]
  rw[List.getElem_append_right (by omega)]
  simp[he]
def firstAt(t:Tr):Nat:=((t.toks[0]?).map RTok.at').getD 0
def tWords:List Txt:=[[108,101,116],[119,104,101,110],[115,99,111,114,101],[114,101,106,101,99,116],[97,110,100],[111,114],[110,111,116],[116,114,117,101],[102,97,108,115,101],[100,114,121],[99,111,108,100],[115,97,102,101],[115,105,122,101],[115,112,101,101,100],[110,101,101,100],[122,111,110,101],[99,97,112],[117,115,101,100],[104,97,115]]
def digitRowT(t:Txt):Nat:=(t.takeWhile isDig).length
def letterRowT(t:Txt):Nat:=(t.takeWhile isLet).length
def wordGo:List Txt→Nat→Txt→Nat
 | [],_,_=>2
 | x :: r,i,t=>if x==t then 3+i else wordGo r (i+1) t
def wordKindT(t:Txt):Nat:=wordGo tWords 0 t
def signGo:List Txt→Nat→Nat→Nat→Txt→Nat×Nat
 | [],_,k,n,_=>(k,n)
 | x :: r,i,k,n,t=>if n<x.length∧x.length≤t.length∧(t.take x.length==x)=true then signGo r (i+1) (22+i) x.length t else signGo r (i+1) k n t
def firstSignT(t:Txt):Nat×Nat:=signGo tSign 0 0 0 t
def firstT(t:Txt):Nat×Nat :=
 if 18<digitRowT t then (0,0)
 else if 0<digitRowT t then (1,digitRowT t)
 else if 8<letterRowT t then (0,0)
 else if 0<letterRowT t then (wordKindT (t.take (letterRowT t)),letterRowT t)
 else firstSignT t
structure PTok where
 kind:Nat
 place:Nat
 text:Txt
theorem takeWhile_length_le(p:UInt8→Bool)(t:Txt):(t.takeWhile p).length≤t.length:=(List.takeWhile_sublist p).length_le
theorem signGo_le:∀ (l:List Txt) (i k n:Nat) (t:Txt),n≤t.length→(signGo l i k n t).2≤t.length
 | [],_,_,_,_,h=>h
 | x :: r,i,k,n,t,h=>by
  simp only[signGo]
  split
  ·rename_i hc;exact signGo_le r _ _ _ t hc.2.1
  ·exact signGo_le r _ _ _ t h
theorem firstT_le(t:Txt):(firstT t).2≤t.length:=by
 unfold firstT
 split
 ·exact Nat.zero_le _
 ·split
  ·exact takeWhile_length_le _ _
  ·split
   ·exact Nat.zero_le _
   ·split
    ·exact takeWhile_length_le _ _
    ·exact signGo_le _ _ _ _ t (Nat.zero_le _)
def toksPF:Nat→Txt→Nat→Except Nat (List PTok)
 | _,[],pos=>.ok [⟨0,pos,[]⟩]
 | 0,_ :: _,_=>.ok []
 | n+1,c :: r,pos =>
  if blankC c then toksPF n r (pos+1)
  else if (firstT (c :: r)).2=0 then .error pos
  else match toksPF n ((c :: r).drop (firstT (c :: r)).2) (pos+(firstT (c :: r)).2) with
   | .ok l=>.ok (⟨(firstT (c :: r)).1,pos,(c :: r).take (firstT (c :: r)).2⟩ :: l)
   | .error e=>.error e
def toksP(s:Txt)(pos:Nat):Except Nat (List PTok):=toksPF s.length s pos
theorem toksPF_more:∀ (n m:Nat) (s:Txt) (pos:Nat),s.length≤n→s.length≤m→toksPF n s pos=toksPF m s pos
 | 0,0,[],_,_,_=>rfl
 | 0,_+1,[],_,_,_=>rfl
 | _+1,0,[],_,_,_=>rfl
 | _+1,_+1,[],_,_,_=>rfl
 | 0,_,c :: r,_,h,_=>by simp at h
 | _+1,0,c :: r,_,_,h=>by simp at h
 | n+1,m+1,c :: r,pos,h1,h2=>by
  have h1':r.length≤n:=by simpa using h1
  have h2':r.length≤m:=by simpa using h2
  simp only[toksPF]
  by_cases h0:(firstT (c :: r)).2=0
  ·rw[if_pos h0,if_pos h0,toksPF_more n m r (pos+1) h1' h2']
  ·rw[if_neg h0,if_neg h0,toksPF_more n m r (pos+1) h1' h2',toksPF_more n m ((c :: r).drop (firstT (c :: r)).2) (pos+(firstT (c :: r)).2) (by rw[List.length_drop,List.length_cons];omega) (by rw[List.length_drop,List.length_cons];omega)]
theorem toksP_nil(pos:Nat):toksP [] pos=.ok [⟨0,pos,[]⟩]:=rfl
theorem toksP_cons(c:UInt8)(r:Txt)(pos:Nat):toksP (c :: r) pos=if blankC c then toksP r (pos+1)
  else if (firstT (c :: r)).2=0 then .error pos
  else match toksP ((c :: r).drop (firstT (c :: r)).2) (pos+(firstT (c :: r)).2) with
   | .ok l=>.ok (⟨(firstT (c :: r)).1,pos,(c :: r).take (firstT (c :: r)).2⟩ :: l)
   | .error e=>.error e:=by
 unfold toksP
 rw[List.length_cons,toksPF]
 by_cases h0:(firstT (c :: r)).2=0
 ·rw[if_pos h0,if_pos h0]
 ·rw[if_neg h0,if_neg h0,toksPF_more r.length ((c :: r).drop (firstT (c :: r)).2).length _ _ (by rw[List.length_drop,List.length_cons];omega) (Nat.le_refl _)]
end Go.Proofs.YtgfnkeiigjholaaGreatDoor
