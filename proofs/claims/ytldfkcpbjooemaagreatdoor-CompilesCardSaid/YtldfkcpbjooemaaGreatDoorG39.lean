/-
  The image of a policy with which nothing is wrong, row by row.
-/
import Derived.Test.YtldfkcpbjooemaaGreatDoorG38
import Derived.Test.YtldfkcpbjooemaaGreatDoorG36
import Derived.Deep.RegionWith
import Derived.Deep.DeepCutAuto
import Derived.Test.YtldfkcpbjooemaaGreatDoorProg
import Derived.Test.YtldfkcpbjooemaaGreatDoorG00
import Derived.Test.YtldfkcpbjooemaaGreatDoorG07
import Derived.WalkLawsBesides
import Derived.Deep.QuietTactic
import Derived.BigQuiet
import Derived.Deep.Light
import Derived.Laws.BitsAllLaws
set_option linter.unusedVariables false
set_option linter.unusedSimpArgs false
namespace Go.Proofs.YtldfkcpbjooemaaGreatDoor
theorem code_pb2 {fs:List Fact} {ls:List PLet} {N:List PNode} (x:Itm) (y:Bn) (hR:RefsOk ls fs N):∀ (f b i below h:Nat),i < b→b≤f→b≤N.length→(pbI fs ls N x y f (i:Int)).code.length≤60000→codeH fs ls N f b (i:Int) below h=((pbI fs ls N x y f (i:Int)).code,max h (below+(pbI fs ls N x y f (i:Int)).high))
  | 0,b,i,_,_,hi,hb,_,_=>by omega
  | f+1,b,i,below,h,hi,hb,hN,hlen=>by
    obtain ⟨n,hn⟩:∃ n,N[i]?=some n:=⟨N[i]'(by omega),List.getElem?_eq_getElem (by omega)⟩
    obtain ⟨hok,hrf⟩:=hR i n hn
    have hpb:pbI fs ls N x y (f+1) (i:Int)=match atF fs (i:Int) with
      | some v=>leafI v
      | none =>
        if n.ops=1 then oneP (opK (kindP n.tok.text) n.ops) (pbI fs ls N x y f n.left)
        else if isChK (kindP n.tok.text) then choiceP (leaK (kindP n.tok.text)) (pbI fs ls N x y f n.left) (pbI fs ls N x y f n.right) (leafI (decK (kindP n.tok.text)))
        else if n.ops=2 then twoP (opK (kindP n.tok.text) n.ops) (pbI fs ls N x y f n.left) (pbI fs ls N x y f n.right)
        else if kindP n.tok.text=2 then pbI fs ls N x y f (meantI ls n.tok.text)
        else leafA (kindP n.tok.text - 15) x y:=by
      rw[pbI]
      simp only[Int.toNat_natCast,hn]
      first | done | (cases atF fs (i:Int) <;> rfl)
    cases hfa:atF fs (i:Int) with
    | some v =>
      rw[codeH_some hi hn hfa,hpb,hfa,layH_max]
      rfl
    | none =>
      rw[codeH_none hi hn hfa]
      rw[hpb,hfa] at hlen ⊢
      simp only at hlen ⊢
      by_cases h1:n.ops=1
      · rw[if_pos h1] at hlen
        rw[if_pos h1,if_pos h1]
        rw[(oneP_code _ _).1,List.length_append] at hlen
        have ih:=code_pb2 x y hR f i n.left below h (hrf.one h1) (by omega) (by omega) (by omega)
        have hop:=hok.one h1
        rw[ih,opC_bare _ (behind_op (by omega) (by omega)),(oneP_code _ _).1,(oneP_code _ _).2]
      · rw[if_neg h1] at hlen
        rw[if_neg h1,if_neg h1]
        cases hc:isChK (kindP n.tok.text) with
        | true =>
          rw[hc,if_pos rfl] at hlen
          rw[if_pos rfl,if_pos rfl]
          obtain ⟨hl,hr⟩:=hrf.two h1 (.inl hc)
          unfold chcH
          rw[(choiceP_code _ _ _ _).1] at hlen
          simp only[choiceC,List.length_append] at hlen
          have ih1:=code_pb2 x y hR f i n.left below h hl (by omega) (by omega) (by omega)
          have ih2:=code_pb2 x y hR f i n.right below (codeH fs ls N f i n.left below h).2 hr (by omega) (by omega) (by omega)
          rw[ih2,ih1]
          simp only
          have e9:(leafI (decK (kindP n.tok.text))).code.length=9:=by simp[leafI,eightC,bytesN_length]
          have e13:opC 13 9=jumpC 13 9:=by decide
          rw[opC_jump (lea_behind _) _ (by omega),layH_max,(choiceP_code _ _ _ _).1,(choiceP_code _ _ _ _).2]
          refine Prod.ext ?_ ?_
          · simp only[choiceC,opC_int,List.append_assoc,e9,e13]
          · simp only[choiceH,maxN_max]
            have:(leafI (decK (kindP n.tok.text))).high=1:=rfl
            rw[this]
            omega
        | false =>
          rw[hc] at hlen
          simp only[Bool.false_eq_true,if_false] at hlen ⊢
          by_cases h2:n.ops=2
          · rw[if_pos h2] at hlen
            rw[if_pos h2,if_pos h2]
            obtain ⟨hl,hr⟩:=hrf.two h1 (.inr h2)
            rw[(twoP_code _ _ _).1] at hlen
            simp only[List.length_append] at hlen
            have ih1:=code_pb2 x y hR f i n.left below h hl (by omega) (by omega) (by omega)
            have ih2:=code_pb2 x y hR f i n.right (below+1) (codeH fs ls N f i n.left below h).2 hr (by omega) (by omega) (by omega)
            have hop:=hok.two hc h2
            rw[ih2,ih1,opC_bare _ (behind_op (by omega) (by omega)),(twoP_code _ _ _).1,(twoP_code _ _ _).2,maxN_max]
            simp only
            refine Prod.ext rfl ?_
            simp only
            omega
          · rw[if_neg h2] at hlen
            rw[if_neg h2,if_neg h2]
            have h0:n.ops=0:=by have:=hok.ops;omega
            by_cases hk:kindP n.tok.text=2
            · rw[if_pos hk] at hlen
              rw[if_pos hk,if_pos hk]
              obtain ⟨hm0,hm1⟩:=hrf.nam h0 hc hk
              obtain ⟨j,hj⟩:∃ j:Nat,meantI ls n.tok.text=(j:Int):=⟨(meantI ls n.tok.text).toNat,by omega⟩
              rw[hj] at hlen hm1 ⊢
              exact code_pb2 x y hR f i j below h (by omega) (by omega) (by omega) hlen
            · rw[if_neg hk,if_neg hk]
              obtain ⟨hk1,hk2⟩:=hrf.att h0 hc hk hfa
              rw[opC_attr hk1 hk2 x y,layH_max]
              rfl
section
variable (ls:List PLet) (N:List PNode) (x:Itm) (y:Bn)
def rootP (e:PExp):PB:=pbI (factsP ls N) ls N x y N.length ((e.behind:Int) - 1)
def actC (r:PRule):List Nat:=if r.hs then (rootP ls N x y r.score).code++[16] else [17]
def actR (r:PRule):Nat × Int × Nat:=if r.hs then (if (rootP ls N x y r.score).flt=0 then (1,(rootP ls N x y r.score).v,(rootP ls N x y r.score).steps+1) else (2,((rootP ls N x y r.score).flt:Int),(rootP ls N x y r.score).steps)) else (0,0,1)
def actHi (r:PRule):Nat:=if r.hs then (rootP ls N x y r.score).high else 0
def tailC:List PRule→List Nat
  | []=>[17]
  | r :: rs=>if appliesF (factsP ls N) r=2 then actC ls N x y r
    else if appliesF (factsP ls N) r=1 then (rootP ls N x y r.when).code++jumpC 14 (actC ls N x y r).length++actC ls N x y r++tailC rs
    else tailC rs
def tailHi:List PRule→Nat
  | []=>0
  | r :: rs=>if appliesF (factsP ls N) r=2 then actHi ls N x y r
    else if appliesF (factsP ls N) r=1 then max (rootP ls N x y r.when).high (max (actHi ls N x y r) (tailHi rs))
    else tailHi rs
def tailR:List PRule→Nat × Int × Nat
  | []=>(0,0,1)
  | r :: rs=>if appliesF (factsP ls N) r=2 then actR ls N x y r
    else if appliesF (factsP ls N) r=1 then
      (if (rootP ls N x y r.when).flt≠0 then (2,((rootP ls N x y r.when).flt:Int),(rootP ls N x y r.when).steps)
       else if (rootP ls N x y r.when).v=0 then ((tailR rs).1,(tailR rs).2.1,(rootP ls N x y r.when).steps+1+(tailR rs).2.2)
       else ((actR ls N x y r).1,(actR ls N x y r).2.1,(rootP ls N x y r.when).steps+1+(actR ls N x y r).2.2))
    else tailR rs
end
structure RuleFit (ls:List PLet) (N:List PNode) (x:Itm) (y:Bn) (r:PRule):Prop where
  wb:r.hw=true→1≤r.when.behind∧r.when.behind≤N.length
  sb:r.hs=true→1≤r.score.behind∧r.score.behind≤N.length
  wl:r.hw=true→(rootP ls N x y r.when).code.length≤2000
  sl:r.hs=true→(rootP ls N x y r.score).code.length≤2000
theorem applies_when {fs:List Fact} {r:PRule} (h:appliesF fs r=1):r.hw=true:=by
  unfold appliesF at h
  split at h
  · assumption
  · omega
theorem expr_pb {ls:List PLet} {N:List PNode} (x:Itm) (y:Bn) (hR:RefsOk ls (factsP ls N) N) {e:PExp} (h1:1≤e.behind) (h2:e.behind≤N.length) (hl:(rootP ls N x y e).code.length≤2000) (h:Nat):exprH (factsP ls N) ls N e h=((rootP ls N x y e).code,max h (rootP ls N x y e).high):=by
  unfold exprH
  unfold rootP at hl ⊢
  have e1:((e.behind:Int) - 1)=((e.behind - 1:Nat):Int):=by omega
  rw[e1] at hl ⊢
  rw[code_pb2 x y hR N.length N.length (e.behind - 1) 0 h (by omega) (Nat.le_refl _) (Nat.le_refl _) (by omega),Nat.zero_add]
theorem act_pb {ls:List PLet} {N:List PNode} (x:Itm) (y:Bn) (hR:RefsOk ls (factsP ls N) N) {r:PRule} (hf:RuleFit ls N x y r) (h:Nat):actH (factsP ls N) ls N r h=(actC ls N x y r,max h (actHi ls N x y r)):=by
  unfold actH actC actHi
  cases hs:r.hs with
  | true =>
    obtain ⟨a1,a2⟩:=hf.sb hs
    simp only[if_true]
    rw[expr_pb x y hR a1 a2 (hf.sl hs)]
    exact Prod.ext (by rw[opC_bare _ rfl]) rfl
  | false =>
    simp only[Bool.false_eq_true,if_false]
    exact Prod.ext (opC_bare _ rfl) (by simp)
theorem actC_len {ls:List PLet} {N:List PNode} {x:Itm} {y:Bn} {r:PRule} (hf:RuleFit ls N x y r):(actC ls N x y r).length≤2001:=by
  unfold actC
  split
  · rename_i hs
    have:=hf.sl hs
    simp only[List.length_append,List.length_singleton]
    omega
  · simp
theorem rules_pb {ls:List PLet} {N:List PNode} (x:Itm) (y:Bn) (hR:RefsOk ls (factsP ls N) N):∀ (rs:List PRule),(∀ r∈rs,RuleFit ls N x y r)→∀ (c:List Nat) (h:Nat),rulesH (factsP ls N) ls N rs c h=(c++tailC ls N x y rs,max h (tailHi ls N x y rs))
  | [],_,c,h=>by
    rw[rulesH,tailC,tailHi,opC_bare _ rfl]
    simp
  | r :: rs,hf,c,h=>by
    have hfr:=hf r List.mem_cons_self
    have hl:=actC_len hfr
    rw[rulesH,tailC,tailHi]
    by_cases h2:appliesF (factsP ls N) r=2
    · rw[if_pos h2,if_pos h2,if_pos h2,act_pb x y hR hfr]
    · rw[if_neg h2,if_neg h2,if_neg h2]
      by_cases h1:appliesF (factsP ls N) r=1
      · rw[if_pos h1,if_pos h1,if_pos h1]
        have hw:=applies_when h1
        obtain ⟨a1,a2⟩:=hfr.wb hw
        have hg:guardH (factsP ls N) ls N r h=((rootP ls N x y r.when).code++jumpC 14 (actC ls N x y r).length++actC ls N x y r,max (max h (rootP ls N x y r.when).high) (actHi ls N x y r)):=by
          unfold guardH
          rw[expr_pb x y hR a1 a2 (hfr.wl hw)]
          simp only
          rw[act_pb x y hR hfr]
          simp only
          rw[opC_jump rfl _ (by omega)]
        rw[hg,rules_pb x y hR rs (fun q hq=>hf q (List.mem_cons_of_mem _ hq))]
        refine Prod.ext ?_ ?_
        · simp only[List.append_assoc]
        · simp only
          omega
      · rw[if_neg h1,if_neg h1,if_neg h1]
        exact rules_pb x y hR rs (fun q hq=>hf q (List.mem_cons_of_mem _ hq)) c h
theorem act_tail {ls:List PLet} {N:List PNode} {x:Itm} {y:Bn} (hx:x.Ok) (hy:y.Ok) (hfi:∀ i,FactIn (atF (factsP ls N) i)) (hR:RefsOk ls (factsP ls N) N) {r:PRule} (hf:RuleFit ls N x y r) {s:ByteArray} {p:Nat} (hs:Sits s p (actC ls N x y r)) :
    (∃ l H,Tail s p (p+(actC ls N x y r).length) (actHi ls N x y r:Nat) l H)∧Ends s x y p (actR ls N x y r):=by
  unfold actC at hs ⊢
  unfold actHi actR
  cases hh:r.hs with
  | true =>
    rw[hh] at hs
    simp only[if_true] at hs ⊢
    have hl:=hf.sl hh
    have hok:(rootP ls N x y r.score).Ok x y:=pb_ok hx hy hfi hR _ _ (by have:=(hf.sb hh).1;omega) (by have h:=hl;unfold rootP at h;omega)
    obtain ⟨l,H,g⟩:=hok.seg s p 0 hs.left (by omega)
    have hsc:=hs.right.head
    have g':=g.cast rfl (Int.zero_add 1) (Int.zero_add _)
    refine ⟨⟨l++[mkIns s (p+(rootP ls N x y r.score).code.length)],H, ?_⟩,ends_score (hok.does s p hs.left) hsc.2⟩
    have:=tail_score g' hsc.1 hsc.2
    rw[List.length_append,List.length_singleton,← Nat.add_assoc]
    exact this
  | false =>
    rw[hh] at hs
    simp only[Bool.false_eq_true,if_false] at hs ⊢
    have hsc:=hs.head
    exact ⟨⟨_,_,tail_reject hsc.1 hsc.2⟩,ends_reject x y hsc.2⟩
theorem rules_tail {ls:List PLet} {N:List PNode} {x:Itm} {y:Bn} (hx:x.Ok) (hy:y.Ok) (hfi:∀ i,FactIn (atF (factsP ls N) i)) (hR:RefsOk ls (factsP ls N) N) {s:ByteArray}:∀ (rs:List PRule),(∀ r∈rs,RuleFit ls N x y r)→∀ p,Sits s p (tailC ls N x y rs) →
    (∃ l H,Tail s p (p+(tailC ls N x y rs).length) (tailHi ls N x y rs:Nat) l H)∧Ends s x y p (tailR ls N x y rs)
  | [],_,p,hs=>by
    rw[tailC] at hs ⊢
    have hsc:=hs.head
    exact ⟨⟨_,_,tail_reject hsc.1 hsc.2⟩,ends_reject x y hsc.2⟩
  | r :: rs,hf,p,hs=>by
    have hfr:=hf r List.mem_cons_self
    rw[tailC] at hs ⊢
    rw[tailHi,tailR]
    by_cases h2:appliesF (factsP ls N) r=2
    · rw[if_pos h2] at hs ⊢
      rw[if_pos h2,if_pos h2]
      exact act_tail hx hy hfi hR hfr hs
    · rw[if_neg h2] at hs ⊢
      rw[if_neg h2,if_neg h2]
      by_cases h1:appliesF (factsP ls N) r=1
      · rw[if_pos h1] at hs ⊢
        rw[if_pos h1,if_pos h1]
        have hw:=applies_when h1
        have hl:=hfr.wl hw
        have hal:=actC_len hfr
        have hok:(rootP ls N x y r.when).Ok x y:=pb_ok hx hy hfi hR _ _ (by have:=(hfr.wb hw).1;omega) (by have h:=hl;unfold rootP at h;omega)
        have s1:=hs.left.left.left
        have s2:=hs.left.left.right
        have s3:=hs.left.right
        have s4:=hs.right
        have ej:(jumpC 14 (actC ls N x y r).length).length=3:=rfl
        simp only[List.length_append,ej] at s3 s4
        obtain ⟨l,H,g⟩:=hok.seg s p 0 s1 (by omega)
        have g':=g.cast rfl (Int.zero_add 1) (Int.zero_add _)
        obtain ⟨a1,a2,a3,a4,a5,a6⟩:=jump_op' s2 (.inr (.inl rfl)) (by omega)
        obtain ⟨⟨la,Ha,ta⟩,ea⟩:=act_tail hx hy hfi hR hfr (s:=s) (p:=p+(rootP ls N x y r.when).code.length+3) (by rw[Nat.add_assoc];exact s3)
        obtain ⟨⟨lr,Hr,tr⟩,er⟩:=rules_tail hx hy hfi hR rs (fun q hq=>hf q (List.mem_cons_of_mem _ hq)) (p+(rootP ls N x y r.when).code.length+3+(actC ls N x y r).length) (by rw[show p+(rootP ls N x y r.when).code.length+3+(actC ls N x y r).length=p+((rootP ls N x y r.when).code.length+3+(actC ls N x y r).length) by omega];exact s4)
        obtain ⟨l',H',tg⟩:=tail_guard g' a1 a4 a2 a6 ta tr
        refine ⟨⟨l',H', ?_⟩,ends_guard (hok.does s p s1) a4 a2 a5 ea er⟩
        have e1:p+((rootP ls N x y r.when).code++jumpC 14 (actC ls N x y r).length++actC ls N x y r++tailC ls N x y rs).length=p+(rootP ls N x y r.when).code.length+3+(actC ls N x y r).length+(tailC ls N x y rs).length:=by
          simp only[List.length_append,ej]
          omega
        rw[e1]
        refine tg.more ?_
        omega
      · rw[if_neg h1] at hs ⊢
        rw[if_neg h1,if_neg h1]
        exact rules_tail hx hy hfi hR rs (fun q hq=>hf q (List.mem_cons_of_mem _ hq)) p hs
end Go.Proofs.YtldfkcpbjooemaaGreatDoor
namespace Go.Proofs.YtldfkcpbjooemaaGreatDoor
open Go.RowKit Go.Deep
end Go.Proofs.YtldfkcpbjooemaaGreatDoor
namespace Go.Proofs.YtldfkcpbjooemaaGreatDoor
open Go.RowKit Go.Deep
end Go.Proofs.YtldfkcpbjooemaaGreatDoor
namespace Go.Proofs.YtldfkcpbjooemaaGreatDoor
open Go.RowKit
set_option maxHeartbeats 400000 in
theorem behindOp_any (c:Nat) (w:World) :
  Calls Tryz.prog 74 #[.int .i64 c] w fun e w'=>e=.returned (.int .i64 (behindN c))∧w'=w:=by
 go_enter Tryz.func74,Tryz.ntmps74
 go_wp2
 all_goals go_ret
 all_goals exact ⟨ret_int (by go_light;simp at *;unfold behindN;(repeat' split) <;> omega),rfl⟩
set_option maxHeartbeats 400000 in
theorem takes_any (c:Nat) (w:World) :
  Calls Tryz.prog 44 #[.int .i64 c] w fun e w'=>e=.returned (.int .i64 (takesN c))∧w'=w:=by
 go_enter Tryz.func44,Tryz.ntmps44
 go_wp2
 all_goals go_ret
 all_goals exact ⟨ret_int (by go_light;simp at *;unfold takesN;(repeat' split) <;> omega),rfl⟩
set_option maxHeartbeats 400000 in
theorem lays_any (c:Nat) (w:World) :
  Calls Tryz.prog 50 #[.int .i64 c] w fun e w'=>e=.returned (.int .i64 (laysN c))∧w'=w:=by
 go_enter Tryz.func50,Tryz.ntmps50
 go_wp2
 all_goals go_ret
 all_goals exact ⟨ret_int (by go_light;unfold laysN;(repeat' split) <;> omega),rfl⟩
theorem wrap_low (L b:Nat) (h:b < 256):wrap64 (wrap64 (wrap64 (L:Nat) * 256)+wrap64 (b:Nat))=IntKind.i64.wrap ((b+256 * L:Nat):Int):=by
 simp only[IntKind.wrap_i64,wrap64];omega
theorem lowU_step (s:ByteArray) (p j n:Nat) (hj:0 < j) (hn:j≤n):lowU s (p+(j - 1)) (n - (j - 1))=bt s (p+(j - 1))+256 * lowU s (p+j) (n - j):=by
 have e:n - (j - 1)=(n - j)+1:=by omega
 rw[e]
 simp only[lowU]
 rw[show p+(j - 1)+1=p+j by omega]
def cellV (o:Ins):List Value:=[.int .i64 o.pos,.int .i64 o.op,.int .i64 o.arg,.int .i64 o.next]
def cellsV (l:List Ins):List Value:=l.flatMap cellV
theorem cellsV_snoc (l:List Ins) (t:Ins):cellsV (l++[t])=cellsV l++cellV t:=by simp[cellsV]
theorem cellsN_get:∀ (l:List Ins) (i:Nat) (h:i < l.length),(cellsV l)[i * 4]?=some (.int .i64 (nth l i).pos)∧(cellsV l)[i * 4+1]?=some (.int .i64 (nth l i).op)∧(cellsV l)[i * 4+2]?=some (.int .i64 (nth l i).arg)∧(cellsV l)[i * 4+3]?=some (.int .i64 (nth l i).next)
 | a :: r,0,_=>by simp[cellsV,cellV,nth]
 | a :: r,i+1,h=>by
  have ih:=cellsN_get r i (by simpa using h)
  have hn:nth (a :: r) (i+1)=nth r i:=by simp[nth]
  rw[hn]
  have e:cellsV (a :: r)=cellV a++cellsV r:=by simp[cellsV]
  have hl:(cellV a).length=4:=rfl
  rw[e]
  refine ⟨?_, ?_, ?_, ?_⟩
  ·rw[List.getElem?_append_right (by rw[hl];omega),hl,show (i+1) * 4 - 4=i * 4 by omega];exact ih.1
  ·rw[List.getElem?_append_right (by rw[hl];omega),hl,show (i+1) * 4+1 - 4=i * 4+1 by omega];exact ih.2.1
  ·rw[List.getElem?_append_right (by rw[hl];omega),hl,show (i+1) * 4+2 - 4=i * 4+2 by omega];exact ih.2.2.1
  ·rw[List.getElem?_append_right (by rw[hl];omega),hl,show (i+1) * 4+3 - 4=i * 4+3 by omega];exact ih.2.2.2
set_option maxHeartbeats 1000000 in
theorem low_any (s:ByteArray) (p n:Nat) (hs:s.size≤4000) (hn:p+n≤s.size) (w:World) :
  Calls Tryz.prog 75 #[.string s,.int .i64 p,.int .i64 n] w fun e w'=>e=.returned (.int .i64 (IntKind.i64.wrap (lowU s p n:Nat)))∧w'=w:=by
 go_enter Tryz.func75,Tryz.ntmps75
 go_wp2
 go_loop [7,8] (fun v i=>∃ j:Nat,j≤n∧i=.int .i64 ((j:Int) - 1)∧v=.int .i64 (IntKind.i64.wrap (lowU s (p+j) (n - j):Nat))) (fun _ i=>(intOf i+1).toNat)
 case atStart=>exact ⟨n,Nat.le_refl _,by go_num,by simp[lowU];rfl⟩
 case round =>
  obtain ⟨j,hj,rfl,rfl⟩:=hrel
  by_cases h0:0 < j
  ·have hb:p+(j - 1) < s.size:=by omega
   have hbt:(s[p+(j - 1)]'hb).toNat=bt s (p+(j - 1)):=(bt_get s _ hb).symm
   have hix:=fun wx=>run_index_nat (P:=Tryz.prog) wx 9 s .i64 (IntKind.i64.wrap ((p:Int)+((j:Int) - 1))) (p+(j - 1)) Tryz.underlying9 (by rw[IntWalk.i64_in _ ⟨by omega,by omega⟩];omega) hb
   go_wp2
   go_round
   case rel=>exact ⟨j - 1,by omega,by go_num,by
     rw[lowU_step s p j n h0 hj]
     exact congrArg (Value.int .i64) (wrap_low _ _ (bt_lt s (p+(j - 1))))⟩
   case measure=>simp[intOf];omega
  ·go_wp2
   go_ret
   have:j=0:=by omega
   subst this
   exact ⟨ret_int (by simp),rfl⟩
def IsIndex (l:List Ins) (a:Int) (r:Int):Prop:=(r=-1∧∀ k,k < l.length→((nth l k).pos:Int)≠a)∨∃ k:Nat,k < l.length∧r=k∧((nth l k).pos:Int)=a
set_option maxHeartbeats 1000000 in
theorem index_any (l:List Ins) (hl:l.length≤4000) (a:Int) (v:Value) (w:World) (hv:Reads w v l.length (cellsV l)) :
  Calls Tryz.prog 48 #[v,.int .i64 a] w fun e w'=>∃ r,e=.returned (.int .i64 r)∧IsIndex l a r∧w'=w:=by
 rcases hv with ⟨rfl,hn,_⟩ | ⟨g,o,cap,rfl,_,hlt,hc⟩
 ·have:l=[]:=List.eq_nil_of_length_eq_zero hn
  subst this
  go_enter Tryz.func48,Tryz.ntmps48
  go_wp2
  refine wp_loop_rounds 1 ?_;rw[rounds_succ]
  go_wp2
  go_ret
  exact ⟨-1,rfl,.inl ⟨rfl,by simp⟩,rfl⟩
 go_enter Tryz.func48,Tryz.ntmps48
 go_wp2
 go_loop [5] (fun i=>∃ k:Nat,k≤l.length∧i=.int .i64 k∧∀ j,j < k→((nth l j).pos:Int)≠a) (fun i=>l.length - (intOf i).toNat)
 case atStart=>exact ⟨0,Nat.zero_le _,rfl,by intro j hj;omega⟩
 case round =>
  obtain ⟨k,hk,rfl,hno⟩:=hrel
  have HN:Hid (∀ j,j < k→((nth l j).pos:Int)≠a):=hno
  have HC:Hid (∀ j u,(cellsV l)[j]?=some u→w.cell? ⟨g,o+j,none⟩=some u):=hc
  clear hno hc
  by_cases hkl:k < l.length
  ·have cx:w.cell? ⟨g,o+k * 4,none⟩=some (.int .i64 (nth l k).pos):=HC.out _ _ (cellsN_get l k hkl).1
   by_cases he:((nth l k).pos:Int)=a
   ·have HE:Hid (((nth l k).pos:Int)=a):=he
    have hb:(((nth l k).pos:Int)==a)=true:=by simpa using he
    clear he
    go_wp2
    go_ret
    exact ⟨k,rfl,.inr ⟨k,hkl,rfl,HE.out⟩,rfl⟩
   ·have HE:Hid (((nth l k).pos:Int)≠a):=he
    have hb:(((nth l k).pos:Int)==a)=false:=by simpa using he
    clear he
    go_wp2
    go_round
    case rel=>exact ⟨k+1,by omega,by go_num,fun j hj=>by
     by_cases h:j=k
     ·subst h;exact HE.out
     ·exact HN.out j (by omega)⟩
    case measure=>simp[intOf];omega
  ·go_wp2
   go_ret
   exact ⟨-1,rfl,.inl ⟨rfl,fun j hj=>HN.out j (by omega)⟩,rfl⟩
end Go.Proofs.YtldfkcpbjooemaaGreatDoor
namespace Go.Proofs.YtldfkcpbjooemaaGreatDoor
open Go.RowKit
structure GlobP (w:World):Prop where
 bytes:∀ c,c < 18→w.cell? ⟨0,c,none⟩=some (.int .i64 (behindN c))
 takes:∀ c,c < 18→w.cell? ⟨1,c,none⟩=some (.int .i64 (takesN c))
 lays:∀ c,c < 18→w.cell? ⟨2,c,none⟩=some (.int .i64 (laysN c))
 size:0 < w.heap.size∧1 < w.heap.size∧2 < w.heap.size
structure GlobY (w:World):Prop where
 bytes:∀ c,c < 18→w.cell? ⟨0,c,none⟩=some (.int .i64 (behindN c))
 size:0 < w.heap.size
theorem GlobP.y {w:World} (h:GlobP w):GlobY w:=⟨h.bytes,h.size.1⟩
end Go.Proofs.YtldfkcpbjooemaaGreatDoor
namespace Go.Proofs.YtldfkcpbjooemaaGreatDoor
open Go.RowKit
end Go.Proofs.YtldfkcpbjooemaaGreatDoor
namespace Go.Proofs.YtldfkcpbjooemaaGreatDoor
open Go.RowKit
theorem Tryz.infoIns:(Tryz.prog.info? 88).map (fun i=>(i.zero,i.size,i.bytes))=some (some (.agg #[.int .i64 0,.int .i64 0,.int .i64 0,.int .i64 0]),4,32):=by kernel_rfl
theorem ext_two (s:ByteArray) (h:2≤s.size):((s.extract 0 2).toList==[83,76])=decide (bt s 0=83∧bt s 1=76):=by
  rw[extract_bsOf,bsOf_toList,bt_get s 0 (by omega),bt_get s 1 (by omega)]
  have h0:=getElem_toList s 0 (by omega)
  have h1:=getElem_toList s 1 (by omega)
  cases hl:s.toList with
  | nil=>rw[hl] at h0;simp at h0
  | cons a r =>
    cases r with
    | nil=>rw[hl] at h1;simp at h1
    | cons b r =>
      rw[hl] at h0 h1
      simp at h0 h1
      rw[← h0,← h1,Bool.eq_iff_iff]
      simp[← UInt8.toNat_inj]
theorem no_chain {s:ByteArray} {l:List Ins} {p:Nat} (hc:Chain s 3 l p) (hp:p < s.size) (hb:¬ OpOkI s p):∀ l',¬ Chain s 3 l' s.size:=by
  intro l' h'
  obtain ⟨r,rfl,hr⟩:=hc.pre h'
  cases r with
  | nil=>have:p=s.size:=hr;omega
  | cons o r=>exact hb hr.1
theorem ins_step {w wr w2:World} {l:List Ins} {v v':Value} {e:TypeId} {o:Obj} {i:Ins} (hbel:Below w.heap.size w wr)
    (hown2:w2.ownsRow w.heap.size e 4 v' (l.length+1) (cellsV l++[.int .i64 i.pos,.int .i64 i.op,.int .i64 i.arg,.int .i64 i.next])) (hg:(wr.alloc o).grownBy w2 v.ownBlock) (hown:wr.ownsRow w.heap.size e 4 v l.length (cellsV l)) :
    w2.ownsRow w.heap.size e 4 v' (l++[i]).length (cellsV (l++[i]))∧Below w.heap.size w w2:=by
  have hs1:=hbel.size
  refine ⟨?_, ?_⟩
  · rw[cellsV_snoc,List.length_append]
    exact hown2
  · exact (hbel.alloc (by omega) o).grown hg (by simp;omega) (fun k hk=>(hown.lt k hk).1)
set_option maxHeartbeats 1600000 in
set_option maxRecDepth 100000 in
theorem Operations_any (s:ByteArray) (w:World) :
    Calls Tryz.prog 37 #[.string s] w fun e w'=>Below w.heap.size w w' ∧
      ((HeadOk s∧∃ l v,Chain s 3 l s.size∧l.length≤4000∧e=.returned (.tuple #[v,.bool true])∧w'.ownsRow w.heap.size 88 4 v l.length (cellsV l)) ∨
       ((¬ HeadOk s∨∀ l,¬ Chain s 3 l s.size)∧e=.returned (.tuple #[.slice none 0 0,.bool false]))):=by
  obtain ⟨i0,hi,hz0,hz1,hz2⟩:=info_parts Tryz.infoIns
  by_cases hbig:4000 < s.size
  · go_enter Tryz.func37,Tryz.ntmps37
    go_wp2
    go_ret2
    exact ⟨Below.refl _ _,.inr ⟨.inl (fun h=>by have:=h.2.1;omega),rfl⟩⟩
  by_cases hsm:s.size < 4
  · go_enter Tryz.func37,Tryz.ntmps37
    go_wp2
    go_ret2
    exact ⟨Below.refl _ _,.inr ⟨.inl (fun h=>by have:=h.1;omega),rfl⟩⟩
  have h2:Hid (((s.extract 0 2).toList==[83,76])=decide (bt s 0=83∧bt s 1=76)):=ext_two s (by omega)
  by_cases hsl:bt s 0=83∧bt s 1=76
  case neg =>
    have h3:((s.extract 0 2).toList==[83,76])=false:=by rw[h2.out];simpa using hsl
    have HS:Hid (¬ (bt s 0=83∧bt s 1=76)):=hsl
    clear hsl
    go_enter Tryz.func37,Tryz.ntmps37
    go_wp2
    go_ret2
    exact ⟨Below.refl _ _,.inr ⟨.inl (fun h=>HS.out h.2.2),rfl⟩⟩
  have h3:((s.extract 0 2).toList==[83,76])=true:=by rw[h2.out];simpa using hsl
  have HH:Hid (HeadOk s):=(⟨by omega,by omega,hsl⟩:HeadOk s)
  clear hsl h2
  go_enter Tryz.func37,Tryz.ntmps37
  go_wp2
  go_loopw [4,5] (fun v i wr=>∃ (p:Nat) (l:List Ins),p≤s.size∧i=.int .i64 p∧wr.ownsRow w.heap.size 88 4 v l.length (cellsV l)∧l.length≤p∧Below w.heap.size w wr∧Chain s 3 l p) (fun _ i _=>s.size - (intOf i).toNat)
  case atStart=>exact ⟨3,[],by omega,rfl,World.ownsRow_nil _ _ _ _,by simp,Below.refl _ _,rfl⟩
  case round =>
    obtain ⟨p,l,hp,rfl,hown,hlp,hbel,hch⟩:=hrel
    have HC:Hid (Chain s 3 l p):=hch
    clear hch
    by_cases hlt:p < s.size
    case neg =>
      go_wp2
      go_ret2
      have:p=s.size:=by omega
      subst this
      exact ⟨hbel,.inl ⟨HH.out,l,_,HC.out,by omega,rfl,hown⟩⟩
    have HB:Hid (bt s p=s[p].toNat):=bt_get s p hlt
    obtain ⟨c,hc⟩:∃ c,c=s[p].toNat:=⟨_,rfl⟩
    have hc256:c < 256:=by rw[hc];exact UInt8.toNat_lt _
    obtain ⟨n,hn⟩:∃ n,n=behindN c:=⟨_,rfl⟩
    have hn8:n≤8:=by rw[hn];unfold behindN;(repeat' split) <;> omega
    have hm:mkIns s p=⟨p,c,IntKind.i64.wrap (lowU s (p+1) n:Nat),p+1+n⟩:=by simp only[mkIns,HB.out,← hc,← hn]
    obtain ⟨a,ha⟩:∃ a,a=IntKind.i64.wrap (lowU s (p+1) n:Nat):=⟨_,rfl⟩
    have ha1:c=1→a=bt s (p+1):=by
      intro h
      have h1:n=1:=by rw[hn,h];rfl
      rw[ha,h1,lowU_one]
      exact wrap_small _ (by have:=bt_lt s (p+1);omega)
    rw[← ha] at hm
    have hopk:OpOkI s p ↔ c≤17∧p+1+n≤s.size∧(c=1→a≤6):=by
      unfold OpOkI
      rw[HB.out,← hc,← hn]
      constructor
      · rintro ⟨_,h1,h2,h3⟩
        exact ⟨h1,h2,fun h=>by rw[ha1 h];have:=h3 h;omega⟩
      · rintro ⟨h1,h2,h3⟩
        exact ⟨hlt,h1,h2,fun h=>by have:=h3 h;rw[ha1 h] at this;omega⟩
    have HO:Hid (OpOkI s p ↔ c≤17∧p+1+n≤s.size∧(c=1→a≤6)):=hopk
    have HM:Hid (mkIns s p=⟨p,c,a,p+1+n⟩):=hm
    have HA:Hid (IntKind.i64.wrap (lowU s (p+1) n:Nat)=a):=ha.symm
    have HN:Hid (behindN c=n):=hn.symm
    have hix:=fun wx=>run_index_nat (P:=Tryz.prog) wx 9 s .i64 (p:Int) p Tryz.underlying9 rfl hlt
    rw[← hc] at hix
    clear hopk hm ha hn ha1 HB hc
    by_cases h17:c≤17
    case neg =>
      go_wp2_with (go_at_call 74;refine (behindOp_any c _).mono ?_;rintro e w' ⟨rfl,rfl⟩;rw[HN.out])
      go_ret2
      exact ⟨hbel,.inr ⟨.inr (no_chain HC.out hlt (fun h=>h17 (HO.out.1 h).1)),rfl⟩⟩
    by_cases hfit:p+1+n≤s.size
    case neg =>
      go_wp2_with (go_at_call 74;refine (behindOp_any c _).mono ?_;rintro e w' ⟨rfl,rfl⟩;rw[HN.out])
      go_ret2
      exact ⟨hbel,.inr ⟨.inr (no_chain HC.out hlt (fun h=>hfit (HO.out.1 h).2.1)),rfl⟩⟩
    by_cases hatt:c=1∧6 < a
    · obtain ⟨h1,h6⟩:=hatt
      have HX:Hid (c=1):=h1
      have hcb:((c:Int)==1)=true:=by simp;omega
      clear h1
      go_wp2_with (first | (go_at_call 74;refine (behindOp_any c _).mono ?_;rintro e w' ⟨rfl,rfl⟩;rw[HN.out]) | (go_at_call 75;refine (low_any s (p+1) n (by omega) (by omega) _).mono ?_;rintro e w' ⟨rfl,rfl⟩;rw[HA.out]))
      go_ret2
      exact ⟨hbel,.inr ⟨.inr (no_chain HC.out hlt (fun h=>by have:=(HO.out.1 h).2.2 HX.out;omega)),rfl⟩⟩
    have HK:Hid (OpOkI s p):=HO.out.2 ⟨h17,hfit,fun h=>by
      by_cases h6:6 < a
      · exact absurd ⟨h,h6⟩ hatt
      · omega⟩
    have hcase:((c:Int)==1)=false∨(((c:Int)==1)=true∧¬ 6 < a):=by
      by_cases h:c=1
      · exact .inr ⟨by simp;omega,fun h6=>hatt ⟨h,h6⟩⟩
      · exact .inl (by simp;omega)
    clear hatt
    rcases hcase with hc1 | ⟨hc1,hc6⟩
    all_goals
      go_wp2_with (first | (go_at_call 74;refine (behindOp_any c _).mono ?_;rintro e w' ⟨rfl,rfl⟩;rw[HN.out]) | (go_at_call 75;refine (low_any s (p+1) n (by omega) (by omega) _).mono ?_;rintro e w' ⟨rfl,rfl⟩;rw[HA.out]) | (at_builtin;refine wpList_append_own _ rfl _ _ 48 rfl w.heap.size 88 i0 (.agg #[.int .i64 0,.int .i64 0,.int .i64 0,.int .i64 0]) 4 32 Tryz.underlying48 hi hz0 hz1 hz2 rfl (by decide) _ _ _ rfl (hown.alloc _) ⟨_,0,none⟩ 1 1 [.int .i64 p,.int .i64 c,.int .i64 a,.int .i64 ((p:Int)+1+n)] rfl rfl (cell_four _ _ _ _ _ _) one_int4 (by unfold maxLen;omega) (by omega) (by have:=hbel.size;simp;omega) ?_;intro v' w2 hown2 hgrow2 _))
      have R:=ins_step (i:=⟨p,c,a,p+1+n⟩) hbel hown2 hgrow2 hown
      clear hown2 hgrow2 hown
      go_wp2
      go_roundw
      case rel=>exact ⟨p+1+n,l++[⟨p,c,a,p+1+n⟩],hfit,by go_num,R.1,by simp;omega,R.2,by have:=HC.out.snoc HK.out;rw[HM.out] at this;exact this⟩
      case measure=>simp[intOf];omega
end Go.Proofs.YtldfkcpbjooemaaGreatDoor
