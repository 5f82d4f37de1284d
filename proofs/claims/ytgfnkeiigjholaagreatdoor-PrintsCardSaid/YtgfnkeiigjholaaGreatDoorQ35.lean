/-
  What the program's Compile makes of a policy that was read, as it makes it: facts, codes, heights, rules, the image; plain.
-/
import Derived.Test.YtgfnkeiigjholaaGreatDoorQ20
import Derived.Test.YtgfnkeiigjholaaGreatDoorQ34
import Derived.BigQuiet
import Derived.Test.YtgfnkeiigjholaaGreatDoorQ13
set_option linter.unusedVariables false
set_option linter.unusedSimpArgs false
namespace Go.Proofs.YtgfnkeiigjholaaGreatDoor
open Go.RowKit
open Go.Deep
theorem sliceN(g o n cap hi:Nat)(h1:hi≤n)(h2:n≤cap)(wx:World) :
  (Instr.slice 60 (.slice (some ⟨g,o,none⟩) n cap) none (some (.int .i64 hi)) none).run Tryz.prog wx=.ok (.slice (some ⟨g,o,none⟩) hi cap) wx:=by
 have el:Tryz.prog.elem 60=175:=by kernel_rfl
 have sz:(sizeOf 175).run Tryz.prog wx=.ok 6 wx:=by kernel_rfl
 rw[run_slice_h wx _ _ _ _ (by rw[el];exact Tryz.underlying60) .i64 _ (by omega) (by omega),el,sz]
 simp[Result.andThen,sliced,Addr.add]
def LiesAt(N:List PNode)(b:Nat)(l:List PNode):Prop:=∀ (k:Nat) (n:PNode),l[k]?=some n→N[b+k]?=some n
theorem LiesAt.left{N:List PNode}{b:Nat}{l m:List PNode}(h:LiesAt N b (l++m)):LiesAt N b l:=fun k n hk=>h k n (by
 rw[List.getElem?_append_left (List.getElem?_eq_some_iff.1 hk).1];exact hk)
theorem LiesAt.right{N:List PNode}{b:Nat}{l m:List PNode}(h:LiesAt N b (l++m)):LiesAt N (b+l.length) m:=fun k n hk=>by
 have:=h (l.length+k) n (by rw[List.getElem?_append_right (by omega),Nat.add_sub_cancel_left];exact hk)
 rw[Nat.add_assoc];exact this
theorem stmts_num:∀ (l:List RSt),(∀ s∈l,s.wf)→numS l≤(toksL l).length
 | [],_=>Nat.zero_le _
 | s :: r,h=>by
  have ih:=stmts_num r (fun q hq=>h q (List.mem_cons_of_mem _ hq))
  rw[numS,toksL_cons,List.length_append]
  have:s.num≤s.toks.length:=by
   have hw:=h s List.mem_cons_self
   rw[RSt.toks_length]
   rcases s.cases with ⟨kw,name,eq,e,semi,rfl⟩ | ⟨wh,act,sc,semi,rfl⟩
   ·rw[RSt.num_let,RSt.body_let]
    have:=e.num_le hw.2.2.2.1
    simp only[List.length_cons]
    omega
   ·rw[RSt.num_rule,RSt.body_rule]
    have ho:∀ o:Option Tr,(∀ e,o=some e→e.wf)→optNum o≤(optToks o).length:=by
     intro o ho
     cases o with
     | none=>exact Nat.le_refl _
     | some e=>exact e.num_le (ho e rfl)
    have h2:=ho sc hw.2.2.1
    cases wh with
    | none=>simp only[List.length_append,List.length_cons,Option.map_none];have:optNum none=0:=rfl;omega
    | some p =>
     have h1:=p.2.num_le (hw.1 p.1 p.2 rfl).2
     have e1:(whToks (some p)).length=p.2.toks.length+1:=rfl
     have e2:optNum (Option.map Prod.snd (some p))=p.2.num:=rfl
     simp only[List.length_append,List.length_cons]
     omega
  omega
def strip0:Txt→Txt
 | []=>[]
 | [a]=>[a]
 | a :: b :: r=>if a==48 then strip0 (b :: r) else a :: b :: r
def shortN(t:Txt):Txt:=if isDig (headC t) then strip0 t else t
def brk(b:Bool)(t:Txt):Txt:=if b then 40 :: (t++[41]) else t
def plainB:BT (RTok×RTok)→Nat→Txt
 | .nil,_=>[]
 | .node 0 _ a _ _,_=>shortN a.1.text
 | .node 1 _ a e _,_=>(if a.1.text==cMinus then cMinus else a.1.text++[32])++plainB e 6
 | .node 2 _ a l r,lv=>brk (decide (bindsT a.1.text<lv)) (plainB l (bindsT a.1.text)++32 :: (a.1.text++32 :: plainB r (bindsT a.1.text+1)))
 | .node _ _ _ e _,lv=>plainB e lv
def Tr.plainT(t:Tr)(lv:Nat):Txt:=plainB t lv
theorem plainT_leaf(a:RTok)(lv:Nat):(Tr.leaf a).plainT lv=shortN a.text:=rfl
theorem plainT_un(op:RTok)(e:Tr)(lv:Nat):(Tr.un op e).plainT lv=(if op.text==cMinus then cMinus else op.text++[32])++e.plainT 6:=rfl
theorem plainT_bin(op:RTok)(l r:Tr)(lv:Nat):(Tr.bin op l r).plainT lv=brk (decide (bindsT op.text<lv)) (l.plainT (bindsT op.text)++32 :: (op.text++32 :: r.plainT (bindsT op.text+1))):=rfl
theorem plainT_par(o:RTok)(e:Tr)(c:RTok)(lv:Nat):(Tr.par o e c).plainT lv=e.plainT lv:=rfl
theorem strip0_le:∀ t:Txt,(strip0 t).length≤t.length
 | []=>Nat.le_refl _
 | [a]=>Nat.le_refl _
 | a :: b :: r=>by
  have:=strip0_le (b :: r)
  rw[strip0]
  split
  ·simp only[List.length_cons]at *;omega
  ·exact Nat.le_refl _
theorem shortN_le(t:Txt):(shortN t).length≤t.length:=by
 unfold shortN
 split
 ·exact strip0_le t
 ·exact Nat.le_refl _
theorem brk_len(b:Bool)(t:Txt):(brk b t).length≤t.length+2:=by
 unfold brk
 split
 ·simp
 ·omega
theorem plainT_len(t:Tr)(h:t.wf):(∀ a∈t.toks,a.text.length≤18)→∀ lv,(t.plainT lv).length≤30*t.toks.length:=by
 refine Tr.ind (P:=fun t=>(∀ a∈t.toks,a.text.length≤18)→∀ lv,(t.plainT lv).length≤30*t.toks.length) t h ?_ ?_ ?_ ?_
 ·intro a _ hm lv
  have h1:=hm a (by rw[Tr.toks_leaf];simp)
  have h2:=shortN_le a.text
  rw[plainT_leaf,Tr.toks_leaf]
  simp only[List.length_cons,List.length_nil]
  omega
 ·intro op e _ he hm lv
  have h1:=hm op (by rw[Tr.toks_un];simp)
  have h2:=he (fun a ha=>hm a (by rw[Tr.toks_un];simp[ha])) 6
  rw[plainT_un,Tr.toks_un,List.length_append,List.length_cons]
  split
  ·have:cMinus.length=1:=rfl
   omega
  ·simp only[List.length_append,List.length_cons,List.length_nil]
   omega
 ·intro op l r _ hl hr hm lv
  have h1:=hm op (by rw[Tr.toks_bin];simp)
  have h2:=hl (fun a ha=>hm a (by rw[Tr.toks_bin];simp[ha])) (bindsT op.text)
  have h3:=hr (fun a ha=>hm a (by rw[Tr.toks_bin];simp[ha])) (bindsT op.text+1)
  rw[plainT_bin,Tr.toks_bin,List.length_append,List.length_cons]
  refine Nat.le_trans (brk_len _ _) ?_
  simp only[List.length_append,List.length_cons]
  omega
 ·intro o e c _ he hm lv
  have h2:=he (fun a ha=>hm a (by rw[Tr.toks_par];simp[ha])) lv
  rw[plainT_par,Tr.toks_par,List.length_cons,List.length_append]
  omega
theorem may_18{t:Txt}(h:mayT t=true):t.length≤18:=by
 unfold mayT at h
 split at h
 ·exact of_decide_eq_true h
 ·split at h
  ·have:=of_decide_eq_true h;omega
  ·have:∀ u∈tSign,u.length≤18:=by decide
   exact this t (List.contains_iff_mem.1 h)
def actP(sc:Option Tr):Txt:=match sc with
 | none=>cReject++[59]
 | some e=>cScore++32 :: (e.plainT 1++[59])
def whenP(wh:Option Tr):Txt:=match wh with
 | none=>[]
 | some e=>cWhen++32 :: (e.plainT 1++[32])
def RSt.plainS(s:RSt):Txt:=Sum.elim (fun d:LetD=>cLet++32 :: (d.name.text++32 :: (cEq++32 :: (d.e.plainT 1++[59])))) (fun d:RuleD=>whenP (d.wh.map Prod.snd)++actP d.sc) s
structure TokT(t:Txt):Prop where
 ne:t≠[]
 bl:blankC (headC t)=false
 run:runLen t=t.length
theorem runLen_take:∀ t:Txt,runLen (t.take (runLen t))=(t.take (runLen t)).length
 | []=>rfl
 | [a]=>rfl
 | a :: b :: r=>by
  have ih:=runLen_take (b :: r)
  have hp:=runLen_pos b r
  rw[runLen]
  cases hc:sameC a b with
  | false=>rfl
  | true =>
   simp only[if_true]
   obtain ⟨n,hn⟩:∃ n,runLen (b :: r)=n+1:=⟨runLen (b :: r)-1,by omega⟩
   rw[hn]at ih ⊢
   rw[List.take_succ_cons,List.take_succ_cons]at *
   rw[runLen,hc,if_pos rfl,ih]
   rfl
theorem toks_text_aux:∀ (n:Nat) (s:Txt) (p:Nat) (l:List RTok),s.length≤n→toksR s p=.ok l→∀ a∈l,TokT a.text
 | _,[],p,l,_,h=>by rw[toksR_nil]at h;cases h;intro a ha;cases ha
 | 0,c :: r,p,l,hn,_=>by simp at hn
 | n+1,c :: r,p,l,hn,h=>by
  have hp:=runLen_pos c r
  rw[toksR_cons]at h
  rw[List.length_cons]at hn
  split at h
  ·exact toks_text_aux n r (p+1) l (by omega) h
  ·rename_i hbl
   split at h
   ·generalize hd:(c :: r).drop (runLen (c :: r))=d at h
    have hdl:d.length≤r.length:=by rw[← hd,List.length_drop,List.length_cons];omega
    cases ht:toksR d (p+runLen (c :: r)) with
    | ok m =>
     rw[ht]at h
     cases h
     have ih:=toks_text_aux n d _ m (by omega) ht
     intro a ha
     rcases List.mem_cons.1 ha with rfl | ha
     ·obtain ⟨k,hk⟩:∃ k,runLen (c :: r)=k+1:=⟨runLen (c :: r)-1,by omega⟩
      refine ⟨?_, ?_,runLen_take (c :: r)⟩
      ·rw[hk,List.take_succ_cons];simp
      ·rw[hk,List.take_succ_cons]
       show blankC c=false
       simpa using hbl
     ·exact ih a ha
    | error e=>rw[ht]at h;cases h
   ·cases h
theorem toks_text{s:Txt}{p:Nat}{l:List RTok}(h:toksR s p=.ok l):∀ a∈l,TokT a.text:=toks_text_aux s.length s p l (Nat.le_refl _) h
theorem tokened_toks{s:Txt}{l:List RTok}(h:tokened s=.fine l):toksR s 0=.ok l∧s.length≤400∧∃ q,goS ⟨0,0,0⟩ l=.ok q∧q.next=6:=by
 unfold tokened at h
 split at h
 ·cases h
 ·rename_i hn
  split at h
  ·cases h
  ·rename_i l' hl
   split at h
   ·cases h
   ·rename_i q hq
    split at h
    ·rename_i h6
     cases h
     exact ⟨hl,by omega,q,hq,h6⟩
    ·cases h
theorem dig_all:∀ (t:Txt),t≠[]→isDig (headC t)=true→runLen t=t.length→t.all isDig=true
 | [],h,_,_=>absurd rfl h
 | [a],_,hd,_=>by
  have h:isDig a=true:=hd
  simp[h]
 | a :: b :: r,_,hd,hr=>by
  have hle:=runLen_le (b :: r)
  have hda:isDig a=true:=hd
  rw[runLen]at hr
  cases hc:sameC a b with
  | false=>rw[hc]at hr;simp at hr
  | true =>
   rw[hc]at hr
   simp only[if_true,List.length_cons]at hr hle
   have hdb:isDig b=true:=by
    have hl:isLet a=false:=by
     unfold isLet isDig at *
     simp only[Bool.and_eq_true,decide_eq_true_eq,Bool.and_eq_false_iff,decide_eq_false_iff_not]at *
     left
     intro h5
     exact absurd (UInt8.le_trans h5 hda.2) (by decide)
    have h60:(a==60)=false:=by
     cases h:a==60 with
     | false=>rfl
     | true =>
      have:a=60:=by simpa using h
      subst this;exact absurd hda (by decide)
    have h33:(a==33)=false:=by
     cases h:a==33 with
     | false=>rfl
     | true =>
      have:a=33:=by simpa using h
      subst this;exact absurd hda (by decide)
    unfold sameC at hc
    rw[hda,hl,h60,h33]at hc
    simpa using hc
   have ih:=dig_all (b :: r) (by simp) hdb (by simp only[List.length_cons];omega)
   rw[List.all_cons,hda,ih]
   rfl
end Go.Proofs.YtgfnkeiigjholaaGreatDoor
