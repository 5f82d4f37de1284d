/-
  The document's parts, called on tokens that can be read.
-/
import Derived.Test.YtgfnkeiigjholaaGreatDoorQ45
import Derived.Test.YtgfnkeiigjholaaGreatDoorQ08
import Derived.Deep.RegionLaw
import Derived.Test.YtgfnkeiigjholaaGreatDoorQ44
import Derived.Test.YtgfnkeiigjholaaGreatDoorQ38
import Derived.Test.YtgfnkeiigjholaaGreatDoorQ02
set_option linter.unusedVariables false
set_option linter.unusedSimpArgs false
namespace Go.Proofs.YtgfnkeiigjholaaGreatDoor
open Go.RowKit
open Go.Deep
def isLetL(L:List RSt):Prop:=∀ s∈L,s.isLet=true
def isRuleL(L:List RSt):Prop:=∀ s∈L,s.isLet=false
theorem RdO.reads{w:World}{v:Value}:∀ {o:Option Tr},RdO w v o→Reads w v (optToks o).length (cellsR (optToks o))
 | none,h=>.inl ⟨h,rfl,rfl⟩
 | some _,h=>h
theorem filter_lets{L R:List RSt}(hL:isLetL L)(hR:isRuleL R):(L++R).filter RSt.isLet=L∧(L++R).filter (fun s=>!s.isLet)=R:=by
 constructor
 ·rw[List.filter_append,List.filter_eq_self.2 hL,List.filter_eq_nil_iff.2 (fun a ha=>by rw[hR a ha];simp),List.append_nil]
 ·rw[List.filter_append,List.filter_eq_nil_iff.2 (fun a ha=>by rw[hL a ha];simp),List.filter_eq_self.2 (fun a ha=>by rw[hR a ha];rfl),List.nil_append]
theorem mem_toksL{L:List RSt}{x:RSt}(hx:x∈L):(∀ t∈x.body,t∈toksL L)∧x.body.length≤(toksL L).length:=by
 induction L with
 | nil=>cases hx
 | cons a r ih =>
  rw[toksL_cons]
  simp only[List.mem_cons]at hx
  rcases hx with rfl | hx
  ·exact ⟨fun t ht=>by simp[RSt.toks,ht],by simp only[RSt.toks,List.length_append];omega⟩
  ·exact ⟨fun t ht=>by simp[(ih hx).1 t ht],by have:=(ih hx).2;simp;omega⟩
theorem RdO.below{w w':World}{v:Value}(hb:Below w.heap.size w w'):∀ {o:Option Tr},RdO w v o→RdO w' v o
 | none,h=>h
 | some _,h=>Reads.below h hb
theorem StmOk.below{w w':World}(hb:Below w.heap.size w w')(s:Stm)(r:RSt)(h:StmOk w s r):StmOk w' s r:=by
 rcases r.cases with ⟨kw,name,eq,e,semi,rfl⟩ | ⟨wh,act,sc,semi,rfl⟩
 ·exact ⟨h.1,Reads.below h.2.1 hb,h.2.2⟩
 ·exact ⟨h.1,h.2.1,RdO.below hb h.2.2.1,RdO.below hb h.2.2.2⟩
theorem len_toksL(L:List RSt):L.length≤(toksL L).length:=by
 induction L with
 | nil=>simp
 | cons a r ih=>rw[toksL_cons,List.length_append,a.toks_length,List.length_cons];omega
theorem lens{L R:List RSt}(h:(toksL (L++R)).length≤400):L.length≤400∧R.length≤400:=by
 have h1:=len_toksL L
 have h2:=len_toksL R
 rw[toksL_append,List.length_append]at h
 omega
theorem outL_snoc:∀ (l:List RSt) (s:RSt) (a b:List RTok),OutL l a→OutS s b→OutL (l++[s]) (a++b)
 | [],s,a,b,h,hs=>by
  have h':a=[]:=h
  subst h'
  exact ⟨b,[],hs,rfl,by simp⟩
 | x :: l,s,a,b,h,hs=>by
  obtain ⟨a1,a2,h1,h2,rfl⟩:=h
  exact ⟨a1,a2++b,h1,outL_snoc l s a2 b h2 hs,by simp⟩
def txOk(a:RTok):Prop:=1≤a.text.length∧a.text.length≤18
structure TOk(a:RTok):Prop where
 tx:txOk a
 cl:noBr a.text→cleanT a.text
structure SOk(s:RSt):Prop where
 wf:s.wf
 le:s.body.length≤400
 tx:∀ a∈s.body,TOk a
theorem policy_sok{s:Txt}{L R:List RSt}(h:PolicyOf s L R):∀ x∈L++R,SOk x:=by
 intro x hx
 have hm:=mem_toksL hx
 have ht:=toks_text (tokened_toks h.fine).1
 refine ⟨h.wf x hx,Nat.le_trans hm.2 h.short,fun a ha=>?_⟩
 have h1:=ht a (hm.1 a ha)
 have h2:=h.may a (hm.1 a ha)
 refine ⟨⟨?_,may_18 h2⟩,fun hb=>tok_clean h1 h2 hb⟩
 have:=h1.ne
 cases hh:a.text with
 | nil=>exact absurd hh this
 | cons b r=>simp
theorem outO_facts{kw:Txt}{no:List RTok}{o:Option Tr}{out:List RTok}(h:OutO kw no o out)(hk:txOk (wordR kw))(hn:no.length≤1∧∀ a∈no,txOk a)(ho:∀ a∈optToks o,TOk a)(hl:(optToks o).length≤400):out.length≤401∧∀ a∈out,txOk a:=by
 cases o with
 | none =>
  have h':out=no:=h
  subst h'
  exact ⟨by omega,hn.2⟩
 | some e =>
  obtain ⟨x,hx,rfl⟩:=h
  have h1:=hx.len
  have h2:e.toks.length≤400:=hl
  refine ⟨by simp only[List.length_cons];omega,fun a ha=>?_⟩
  simp only[List.mem_cons]at ha
  rcases ha with rfl | ha
  ·exact hk
  ·exact (ho a (hx.sub a ha)).tx
theorem wh_sub{wh:Option (RTok×Tr)}:(∀ a∈optToks (wh.map Prod.snd),a∈whToks wh)∧(optToks (wh.map Prod.snd)).length≤(whToks wh).length:=by
 cases wh with
 | none=>exact ⟨fun a ha=>(by cases ha),Nat.le_refl _⟩
 | some p =>
  obtain ⟨k,e⟩:=p
  exact ⟨fun a ha=>List.mem_cons_of_mem _ ha,Nat.le_succ _⟩
theorem outS_facts{s:RSt}{out:List RTok}(h:OutS s out)(hs:SOk s):out.length≤1000∧∀ a∈out,txOk a:=by
 obtain ⟨_,hl,ht⟩:=hs
 rcases s.cases with ⟨kw,name,eq,e,semi,rfl⟩ | ⟨wh,act,sc,semi,rfl⟩
 ·obtain ⟨x,hx,rfl⟩:=h
  have hx':BareOf e x:=hx
  have h1:=hx'.len
  rw[RSt.body_let]at hl ht
  simp only[List.length_cons]at hl
  refine ⟨by simp only[List.length_cons,List.length_append,List.length_nil];omega,fun a ha=>?_⟩
  simp only[List.mem_cons,List.mem_append,List.not_mem_nil,or_false]at ha
  rcases ha with rfl | rfl | rfl | ha | rfl
  ·exact ⟨by decide,by decide⟩
  ·exact (ht name (by simp)).tx
  ·exact ⟨by decide,by decide⟩
  ·exact (ht a (by simp[hx'.sub a ha])).tx
  ·exact ⟨by decide,by decide⟩
 ·obtain ⟨A,B,h1,h2,rfl⟩:=h
  rw[RSt.body_rule]at hl ht
  simp only[List.length_append,List.length_cons]at hl
  have hwh:=wh_sub (wh:=wh)
  have f1:=outO_facts (o:=wh.map Prod.snd) h1 ⟨by decide,by decide⟩ ⟨by simp,fun a ha=>(by cases ha)⟩ (fun a ha=>ht a (by simp[hwh.1 a ha])) (by omega)
  have f2:=outO_facts (o:=sc) h2 ⟨by decide,by decide⟩ ⟨by simp,fun a ha=>by simp only[List.mem_singleton]at ha;subst ha;exact ⟨by decide,by decide⟩⟩ (fun a ha=>ht a (by simp[ha])) (by omega)
  refine ⟨by simp only[List.length_append,List.length_cons,List.length_nil];omega,fun a ha=>?_⟩
  simp only[List.mem_append,List.mem_singleton]at ha
  rcases ha with ha | ha | rfl
  ·exact f1.2 a ha
  ·exact f2.2 a ha
  ·exact ⟨by decide,by decide⟩
theorem outL_facts:∀ (l:List RSt) (out:List RTok),OutL l out→(∀ s∈l,SOk s)→out.length≤1000*l.length∧∀ a∈out,txOk a
 | [],out,h,_=>by
  have h':out=[]:=h
  subst h'
  exact ⟨by simp,fun a ha=>(by cases ha)⟩
 | s :: l,out,h,hs=>by
  obtain ⟨a,b,h1,h2,rfl⟩:=h
  have f1:=outS_facts h1 (hs s List.mem_cons_self)
  have f2:=outL_facts l b h2 (fun q hq=>hs q (List.mem_cons_of_mem _ hq))
  refine ⟨by simp only[List.length_append,List.length_cons];omega,fun c hc=>?_⟩
  simp only[List.mem_append]at hc
  exact hc.elim (f1.2 c) (f2.2 c)
theorem one_cellsR(l:List RTok):∀ u∈cellsR l,u.oneCell'=true:=by
 intro u hu
 unfold cellsR at hu
 simp only[List.mem_flatMap]at hu
 obtain ⟨a,_,ha⟩:=hu
 simp only[cellR,List.mem_cons,List.not_mem_nil,or_false]at ha
 rcases ha with rfl | rfl <;> rfl
def szOf:Value→Nat
 | .string t=>t.size
 | _=>0
theorem strip0_step{t:Txt}(h1:1<t.length)(h2:t[0]?=some 48):strip0 t=strip0 (t.drop 1):=by
 match t,h1,h2 with
 | a :: b :: r,_,h2 =>
  have ha:a=48:=by simpa using h2
  subst ha
  rw[strip0,if_pos (by decide)]
  rfl
theorem strip0_stop{t:Txt}(h:¬ 1<t.length∨t[0]?≠some 48):strip0 t=t:=by
 match t,h with
 | [],_=>rfl
 | [a],_=>rfl
 | a :: b :: r,h =>
  rcases h with h | h
  ·simp at h
  ·rw[strip0,if_neg (by simpa using h)]
set_option maxHeartbeats 2000000 in
set_option maxRecDepth 100000 in
theorem short_any(s:ByteArray)(hz:s.size≤1000)(h1:1≤s.size)(w:World) :
  Calls Tryz.prog 63 #[.string s] w fun e w'=>e=.returned (.string (bsOf (strip0 s.toList)))∧w'=w:=by
 go_enter Tryz.func63,Tryz.ntmps63
 go_wp2
 go_loop [0] (fun v=>∃ t:ByteArray,v=.string t∧1≤t.size∧t.size≤1000∧strip0 t.toList=strip0 s.toList) (fun v=>szOf v)
 case atStart=>exact ⟨s,rfl,h1,hz,rfl⟩
 case round =>
  obtain ⟨t,rfl,ht1,ht2,hst⟩:=hrel
  have HST:=mH hst
  clear hst
  have hlen:t.toList.length=t.size:=toList_length t
  by_cases hlt:1<t.size
  ·have e1:decide ((t.size:Int)>1)=true:=decide_eq_true (by omega)
   have e1':decide ((1:Int)<(t.size:Int))=true:=decide_eq_true (by omega)
   have hix:=fun wx=>run_index_nat (P:=Tryz.prog) wx 9 t .i64 0 0 Tryz.underlying9 rfl (by omega)
   have hget:=getElem_toList t 0 (by omega)
   by_cases hc:t[0]=48
   ·have hcn:t[0].toNat=48:=by rw[hc];rfl
    rw[hcn]at hix
    have HS:Hid (strip0 (t.extract 1 t.size).toList=strip0 s.toList):=by
     rw[Hid,← HST.out,strip0_step (t:=t.toList) (by omega) (by rw[hget,hc]),extract_bsOf,bsOf_toList,List.take_of_length_le (by rw[List.length_drop];omega)]
    have hsz:(t.extract 1 t.size).size=t.size-1:=by rw[extract_bsOf,bsOf_size,List.length_take,List.length_drop];omega
    have HSZ:=mH hsz
    clear hget hc hcn hsz hlen
    go_wp2
    go_round
    case rel=>exact ⟨t.extract 1 t.size,rfl,by have:=HSZ.out;omega,by have:=HSZ.out;omega,HS.out⟩
    case measure=>have:=HSZ.out;simp[szOf]at this ⊢;omega
   ·have hcn:((t[0].toNat:Int)==48)=false:=by
     have:t[0].toNat≠48:=fun h=>hc (UInt8.toNat_inj.1 (by rw[h];rfl))
     simp;omega
    have HG:Hid (bsOf (strip0 s.toList)=t):=by
     rw[Hid,← HST.out,strip0_stop (.inr (by rw[hget];intro h;exact hc (Option.some.inj h)))]
     exact bsOf_of t
    obtain ⟨c,hc2⟩:∃ c,t[0].toNat=c:=⟨_,rfl⟩
    rw[hc2]at hix hcn
    clear hget hc hc2 hlen
    go_wp2
    go_ret
    exact ⟨by rw[HG.out];rfl,rfl⟩
  ·have e1:decide ((t.size:Int)>1)=false:=decide_eq_false (by omega)
   have e1':decide ((1:Int)<(t.size:Int))=false:=decide_eq_false (by omega)
   have HG:Hid (bsOf (strip0 s.toList)=t):=by
    rw[Hid,← HST.out,strip0_stop (.inl (by omega))]
    exact bsOf_of t
   clear hlen
   go_wp2
   go_ret
   exact ⟨by rw[HG.out];rfl,rfl⟩
set_option maxHeartbeats 1000000 in
theorem word_any(t:ByteArray)(w:World) :
  Calls Tryz.prog 30 #[.string t] w fun e w'=>e=.returned (.agg #[.string t,.int .i64 0])∧Below w.heap.size w w':=by
 go_enter Tryz.func30,Tryz.ntmps30
 go_wp2
 refine bodyPost_ret (v:=.agg #[.string t,.int .i64 0]) (by simp[results,Tryz.results30,go_sem]) rfl ⟨rfl, ?_⟩
 exact new_below w _
end Go.Proofs.YtgfnkeiigjholaaGreatDoor
