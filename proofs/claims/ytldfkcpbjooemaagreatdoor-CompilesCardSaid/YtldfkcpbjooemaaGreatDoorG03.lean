/-
  The document's inside and one, called on the tokens of a tree: its brackets fall away; is it an operator of one operand?
-/
import Derived.Test.YtldfkcpbjooemaaGreatDoorG02
set_option linter.unusedVariables false
set_option linter.unusedSimpArgs false
namespace Go.Proofs.YtldfkcpbjooemaaGreatDoor
open Go.RowKit Go.Deep
theorem Tryz.szTok (w:World):(sizeOf 77).run Tryz.prog w=.ok 2 w:=by kernel_rfl
theorem Tryz.elTok:Tryz.prog.elem 68=77:=by kernel_rfl
theorem sl_lh (g o n cap lo hi:Nat) (L H:Int) (hL:L=lo) (hH:H=hi) (h1:lo≤hi) (h2:hi≤cap) (h3:lo < cap) (wx:World) :
  (Instr.slice 68 (.slice (some ⟨g,o,none⟩) n cap) (some (.int .i64 L)) (some (.int .i64 H)) none).run Tryz.prog wx=.ok (.slice (some ⟨g,o+lo * 2,none⟩) (hi - lo) (cap - lo)) wx:=by
 subst hL hH
 rw[run_slice_lh wx _ _ _ _ (by rw[Tryz.elTok];exact Tryz.underlying68) .i64 .i64 _ _ (by omega) (by omega) (by omega),Tryz.elTok,Tryz.szTok]
 simp[Result.andThen,sliced,Addr.add,show cap≠lo by omega]
theorem sl_h (g o n cap hi:Nat) (H:Int) (hH:H=hi) (h2:hi≤cap) (h3:0 < cap) (wx:World) :
  (Instr.slice 68 (.slice (some ⟨g,o,none⟩) n cap) none (some (.int .i64 H)) none).run Tryz.prog wx=.ok (.slice (some ⟨g,o,none⟩) hi cap) wx:=by
 subst hH
 rw[run_slice_h wx _ _ _ _ (by rw[Tryz.elTok];exact Tryz.underlying68) .i64 _ (by omega) (by omega),Tryz.elTok,Tryz.szTok]
 simp[Result.andThen,sliced,Addr.add,show cap≠0 by omega]
theorem sl_l (g o n cap lo:Nat) (L:Int) (hL:L=lo) (h1:lo≤n) (h3:lo < cap) (wx:World) :
  (Instr.slice 68 (.slice (some ⟨g,o,none⟩) n cap) (some (.int .i64 L)) none none).run Tryz.prog wx=.ok (.slice (some ⟨g,o+lo * 2,none⟩) (n - lo) (cap - lo)) wx:=by
 subst hL
 rw[run_slice_l wx _ _ _ _ (by rw[Tryz.elTok];exact Tryz.underlying68) .i64 _ (by omega) (by omega),Tryz.elTok,Tryz.szTok]
 simp[Result.andThen,sliced,Addr.add,show cap≠lo by omega]
theorem cellsR_append (a b:List RTok):cellsR (a++b)=cellsR a++cellsR b:=by simp[cellsR]
theorem reads_mid {w:World} {g o cap:Nat} {l:List RTok} (a b c:List RTok) (hl:l=a++b++c) (hg:g < w.heap.size) (hcap:b.length≤cap)
  (hc:∀ j u,(cellsR l)[j]?=some u→w.cell? ⟨g,o+j,none⟩=some u):Reads w (.slice (some ⟨g,o+a.length * 2,none⟩) b.length cap) b.length (cellsR b):=by
 refine .inr ⟨g,_,cap,rfl,hcap,hg,fun j u hj=>?_⟩
 rw[Nat.add_assoc]
 apply hc
 subst hl
 have hlen:=cellsR_length a
 have hj':=(List.getElem?_eq_some_iff.1 hj).1
 rw[cellsR_append,cellsR_append,List.append_assoc,List.getElem?_append_right (by omega),hlen,Nat.add_sub_cancel_left,List.getElem?_append_left hj']
 exact hj
def stripB:BT (RTok × RTok)→BT (RTok × RTok)
 | .node 3 _ _ e _=>stripB e
 | .node b o a l r=>.node b o a l r
 | .nil=>.nil
def Tr.strip (t:Tr):Tr:=stripB t
theorem Tr.strip_par (o:RTok) (e:Tr) (c:RTok):(Tr.par o e c).strip=e.strip:=rfl
def lenOf:Value→Nat | .slice _ n _=>n | _=>0
theorem Tr.first_open (t:Tr) (h:t.wf) (hb:t.isBin=false) (hp:∀ o e c,t≠.par o e c) (h0:0 < t.toks.length):(t.toks[0].text==cOpen)=false:=by
 rcases t.cases h with ⟨a,rfl⟩ | ⟨op,e,rfl⟩ | ⟨op,l,r,rfl⟩ | ⟨o,e,c,rfl⟩
 ·have:=(Tr.wf_leaf h).2.1
  show (a.text==cOpen)=false
  simpa using this
 ·have h1:=(Tr.wf_un h).1
  unfold unT at h1
  simp at h1
  show (op.text==cOpen)=false
  rcases h1 with h1 | h1 <;> rw[h1] <;> decide
 ·cases hb
 ·exact absurd rfl (hp o e c)
theorem strip_self (t:Tr) (h:t.wf) (hp:¬ ∃ o e c,t=.par o e c):t.strip=t:=by
 rcases t.cases h with ⟨a,rfl⟩ | ⟨op,e,rfl⟩ | ⟨op,l,r,rfl⟩ | ⟨o,e,c,rfl⟩
 ·rfl
 ·rfl
 ·rfl
 ·exact absurd ⟨o,e,c,rfl⟩ hp
set_option maxHeartbeats 1000000 in
theorem inside_any (t:Tr) (ht:t.wf) (v:Value) (w:World) (hl4:t.toks.length≤400) (hv:Reads w v t.toks.length (cellsR t.toks)) :
  Calls Tryz.prog 100 #[v] w fun e w'=>(∃ v',e=.returned v'∧Reads w v' t.strip.toks.length (cellsR t.strip.toks))∧w'=w:=by
 go_enter Tryz.func100,Tryz.ntmps100
 go_wp2
 go_loop [0] (fun x=>∃ t':Tr,t'.wf∧t'.strip=t.strip∧t'.toks.length≤400∧Reads w x t'.toks.length (cellsR t'.toks)) (fun x=>lenOf x)
 case atStart=>exact ⟨t,ht,rfl,hl4,hv⟩
 case round =>
  obtain ⟨t',hw',hs',h4',hr'⟩:=hrel
  have HR:Hid (Reads w u0 t'.toks.length (cellsR t'.toks)):=hr'
  have HS:Hid (t'.strip=t.strip):=hs'
  clear hs'
  have hpos:=t'.toks_pos
  rcases hr' with ⟨_,hn,_⟩ | ⟨g,o,cap,rfl,hncap,hlt,hc⟩
  ·omega
  have HC:Hid (∀ j u,(cellsR t'.toks)[j]?=some u→w.cell? ⟨g,o+j,none⟩=some u):=hc
  have c0:w.cell? ⟨g,o,none⟩=some (.string (bsOf t'.toks[0].text)):=hc 0 _ (cellsR_get t'.toks 0 hpos).1
  clear hc
  obtain ⟨c,hcd⟩:∃ c,c=bsOf t'.toks[0].text:=⟨_,rfl⟩
  rw[← hcd] at c0
  have hct:∀ x,(c.toList==x)=(t'.toks[0].text==x):=by rw[hcd,bsOf_toList];exact fun _=>rfl
  clear hcd
  have HCT:Hid (∀ x,(c.toList==x)=(t'.toks[0].text==x)):=hct
  clear hct
  by_cases hbin:t'.isBin=true
  ·have hall:t'.strip=t'∧0≤rootR t'.toks∧1 < t'.toks.length:=by
    clear HCT c0 HC HR
    rcases t'.cases hw' with ⟨a,rfl⟩ | ⟨op,e,rfl⟩ | ⟨op,l,r,rfl⟩ | ⟨o,e,c,rfl⟩
    ·cases hbin
    ·cases hbin
    ·have:=l.toks_pos
     exact ⟨rfl,by rw[root_bin op l r hw'];omega,by rw[Tr.toks_bin,List.length_append,List.length_cons];omega⟩
    ·cases hbin
   have HE:Hid (t'.strip=t'):=hall.1
   have hrt:=hall.2.1
   have hlen:=hall.2.2
   clear hall
   cases h40:(c.toList==[40])
   ·go_wp2
    go_ret
    exact ⟨⟨_,rfl,by rw[← HS.out,HE.out];exact HR.out⟩,rfl⟩
   ·go_wp2_with (go_at_call 101;refine (root_any _ _ _ hpos h4' HR.out).mono ?_;rintro e _ ⟨rfl,rfl⟩)
    go_ret
    exact ⟨⟨_,rfl,by rw[← HS.out,HE.out];exact HR.out⟩,rfl⟩
  ·have hbin':t'.isBin=false:=by simpa using hbin
   have hrt:=root_none t' hw' hbin'
   by_cases hpar:∃ o e c,t'=.par o e c
   ·obtain ⟨po,e,pc,rfl⟩:=hpar
    obtain ⟨p1,p2,p3⟩:=Tr.wf_par hw'
    have h40:(c.toList==[40])=true:=by rw[HCT.out];show (po.text==cOpen)=true;rw[p1];decide
    have hlen:(Tr.par po e pc).toks.length=e.toks.length+2:=by simp[Tr.toks_par]
    have hep:=e.toks_pos
    have hlen':1 < (Tr.par po e pc).toks.length:=by omega
    have hsl:=sl_lh g o (Tr.par po e pc).toks.length cap 1 (e.toks.length+1) 1 (((Tr.par po e pc).toks.length:Int) - 1) rfl (by omega) (by omega) (by omega) (by omega)
    have hrd:=reads_mid (w:=w) (g:=g) (o:=o) (cap:=cap - 1) [po] e.toks [pc] (by simp[Tr.toks_par]) hlt (by omega) HC.out
    have HRD:Hid (Reads w (.slice (some ⟨g,o+2,none⟩) e.toks.length (cap - 1)) e.toks.length (cellsR e.toks)):=hrd
    have HL:Hid ((Tr.par po e pc).toks.length=e.toks.length+2):=hlen
    clear hrd hlen
    go_wp2_with (go_at_call 101;refine (root_any _ _ _ hpos h4' HR.out).mono ?_;rintro e _ ⟨rfl,rfl⟩)
    go_round
    case rel=>exact ⟨e,p3,HS.out,by have:=HL.out;omega,HRD.out⟩
    case measure=>have:=HL.out;simp[lenOf];omega
   ·have HE:Hid (t'.strip=t'):=(strip_self t' hw' hpar:t'.strip=t')
    have h40:(c.toList==[40])=false:=by rw[HCT.out];exact t'.first_open hw' hbin' (fun o e c h=>hpar ⟨o,e,c,h⟩) hpos
    by_cases h1:1 < t'.toks.length
    ·go_wp2
     go_ret
     exact ⟨⟨_,rfl,by rw[← HS.out,HE.out];exact HR.out⟩,rfl⟩
    ·go_wp2
     go_ret
     exact ⟨⟨_,rfl,by rw[← HS.out,HE.out];exact HR.out⟩,rfl⟩
def isUnB:BT (RTok × RTok)→Bool
 | .node 1 _ _ _ _=>true
 | _=>false
def Tr.isUn (t:Tr):Bool:=isUnB t
theorem Tr.isUn_un (op:RTok) (e:Tr):(Tr.un op e).isUn=true:=rfl
theorem Tr.isUn_leaf (a:RTok):(Tr.leaf a).isUn=false:=rfl
set_option maxHeartbeats 1000000 in
theorem one_any (t:Tr) (ht:t.wf) (hb:t.isBin=false) (hp:∀ o e c,t≠.par o e c) (v:Value) (w:World) (hl4:t.toks.length≤400) (hv:Reads w v t.toks.length (cellsR t.toks)) :
  Calls Tryz.prog 102 #[v] w fun e w'=>e=.returned (.bool t.isUn)∧w'=w:=by
 have HR:Hid (Reads w v t.toks.length (cellsR t.toks)):=hv
 have hpos:=t.toks_pos
 have hrt:=root_none t ht hb
 rcases hv with ⟨_,hn,_⟩ | ⟨g,o,cap,rfl,hncap,hlt,hc⟩
 ·omega
 have c0:w.cell? ⟨g,o,none⟩=some (.string (bsOf t.toks[0].text)):=hc 0 _ (cellsR_get t.toks 0 hpos).1
 clear hc
 rcases t.cases ht with ⟨a,rfl⟩ | ⟨op,e,rfl⟩ | ⟨op,l,r,rfl⟩ | ⟨po,e,pc,rfl⟩
 ·have hl1:(Tr.leaf a).toks.length=1:=rfl
  go_enter Tryz.func102,Tryz.ntmps102
  go_wp2
  go_ret
  exact ⟨rfl,rfl⟩
 ·have hep:=e.toks_pos
  have hlen:(Tr.un op e).toks.length=e.toks.length+1:=by simp[Tr.toks_un]
  have hlen':¬ (Tr.un op e).toks.length < 2:=by omega
  clear hlen
  have hd:decide (((Tr.un op e).toks.length:Int) < 2)=false:=by simp;omega
  have e1:((bsOf cMinus).toList==[45])=true:=by rw[bsOf_toList];decide
  have e2:((bsOf cNot).toList==[45])=false:=by rw[bsOf_toList];decide
  have e3:((bsOf cNot).toList==[110,111,116])=true:=by rw[bsOf_toList];decide
  have h1:=(Tr.wf_un ht).1
  unfold unT at h1
  simp only[Tr.toks_un,List.getElem_cons_zero] at c0
  have hop:op.text=cMinus∨op.text=cNot:=by simpa using h1
  rcases hop with hop | hop
  all_goals
   rw[hop] at c0
   go_enter Tryz.func102,Tryz.ntmps102
   go_wp2_with (go_at_call 101;refine (root_any _ _ _ hpos hl4 HR.out).mono ?_;rintro e _ ⟨rfl,rfl⟩)
   go_ret
   exact ⟨rfl,rfl⟩
 ·cases hb
 ·exact absurd rfl (hp po e pc)
end Go.Proofs.YtldfkcpbjooemaaGreatDoor
namespace Go.Proofs.YtldfkcpbjooemaaGreatDoor
open Go.Deep
def cTrue:Txt:=[116,114,117,101]
def cFalse:Txt:=[102,97,108,115,101]
def tClass:List Txt:=[[100,114,121],[99,111,108,100],[115,97,102,101],[110,101,101,100],[104,97,115]]
def classT (t:Txt):Bool:=tClass.contains t
def madeT (op:Txt) (a b:Nat):Nat :=
 if op==cAnd||op==cOr||op==cNot then (if a=2∧b=2 then 2 else 0)
 else if op==cEq||op==cNeq then (if a=b then 2 else 0)
 else if a≠1∨b≠1 then 0
 else if op==cLess||op==cMost then 2
 else 1
def leafKindT (t:Txt):Nat:=if t==cTrue||t==cFalse then 2 else if classT t then 3 else 1
def knownT:List (Txt × Nat)→Txt→Nat
 | [],_=>0
 | (n,k) :: r,t=>if n==t then k else knownT r t
def kindB (c:List (Txt × Nat)):BT (RTok × RTok)→Except Nat Nat
 | .nil=>.ok 0
 | .node 0 _ a _ _=>.ok (if nameT a.1.text then knownT c a.1.text else leafKindT a.1.text)
 | .node 1 _ a e _=>match kindB c e with
  | .error p=>.error p
  | .ok b=>if madeT a.1.text b b=0 then .error a.1.at' else .ok (madeT a.1.text b b)
 | .node 2 _ a l r=>match kindB c l with
  | .error p=>.error p
  | .ok x=>match kindB c r with
   | .error p=>.error p
   | .ok b=>if madeT a.1.text x b=0 then .error a.1.at' else .ok (madeT a.1.text x b)
 | .node (_+3) _ _ e _=>kindB c e
def kindT (c:List (Txt × Nat)) (t:Tr):Except Nat Nat:=kindB c t
theorem kindT_leaf (c:List (Txt × Nat)) (t:RTok):kindT c (.leaf t)=.ok (if nameT t.text then knownT c t.text else leafKindT t.text):=rfl
theorem kindT_un (c:List (Txt × Nat)) (op:RTok) (e:Tr):kindT c (.un op e)=match kindT c e with
  | .error p=>.error p
  | .ok b=>if madeT op.text b b=0 then .error op.at' else .ok (madeT op.text b b):=rfl
theorem kindT_bin (c:List (Txt × Nat)) (op:RTok) (l r:Tr):kindT c (.bin op l r)=match kindT c l with
  | .error p=>.error p
  | .ok a=>match kindT c r with
   | .error p=>.error p
   | .ok b=>if madeT op.text a b=0 then .error op.at' else .ok (madeT op.text a b):=rfl
theorem kindT_par (c:List (Txt × Nat)) (o:RTok) (e:Tr) (cl:RTok):kindT c (.par o e cl)=kindT c e:=rfl
end Go.Proofs.YtldfkcpbjooemaaGreatDoor
namespace Go.Proofs.YtldfkcpbjooemaaGreatDoor
open Go.RowKit
theorem op_cases (t:Txt):t=[97,110,100]∨t=[111,114]∨t=[110,111,116]∨t=[61]∨t=[33,61]∨t=[60]∨t=[60,61]∨((t==[97,110,100])=false∧(t==[111,114])=false∧(t==[110,111,116])=false∧(t==[61])=false∧(t==[33,61])=false∧(t==[60])=false∧(t==[60,61])=false):=by
 by_cases h1:t=[97,110,100]
 ·simp[h1]
 by_cases h2:t=[111,114]
 ·simp[h2]
 by_cases h3:t=[110,111,116]
 ·simp[h3]
 by_cases h4:t=[61]
 ·simp[h4]
 by_cases h5:t=[33,61]
 ·simp[h5]
 by_cases h6:t=[60]
 ·simp[h6]
 by_cases h7:t=[60,61]
 ·simp[h7]
 simp[h1,h2,h3,h4,h5,h6,h7]
set_option maxHeartbeats 2000000 in
theorem made_any (t:ByteArray) (a b:Nat) (w:World) :
  Calls Tryz.prog 107 #[.string t,.int .i64 a,.int .i64 b] w fun e w'=>e=.returned (.int .i64 (madeT t.toList a b))∧w'=w:=by
 rcases op_cases t.toList with h | h | h | h | h | h | h | ⟨h1,h2,h3,h4,h5,h6,h7⟩
 all_goals
  go_enter Tryz.func107,Tryz.ntmps107
  go_wp2
 all_goals go_ret
 all_goals exact ⟨ret_int (by simp_all [madeT,cAnd,cOr,cNot,cEq,cNeq,cLess,cMost] <;> (try split) <;> omega),rfl⟩
def wClass:List ByteArray:=[⟨#[100,114,121]⟩,⟨#[99,111,108,100]⟩,⟨#[115,97,102,101]⟩,⟨#[110,101,101,100]⟩,⟨#[104,97,115]⟩]
set_option maxHeartbeats 1000000 in
theorem leafKind_any (t:ByteArray) (w:World) :
  Calls Tryz.prog 109 #[.string t] w fun e w'=>e=.returned (.int .i64 (leafKindT t.toList))∧Below w.heap.size w w':=by
 have hcl:inL t wClass=classT t.toList:=inL_eq t wClass tClass rfl
 cases hk:inL t wClass
 all_goals
  go_enter Tryz.func109,Tryz.ntmps109
  go_wp2_with (go_at_call 68;refine (in_any t wClass _ _ (reads_lit _ wClass _ _ _ rfl (by decide)) (by decide)).mono ?_;rintro e w' ⟨rfl,rfl⟩)
 all_goals go_ret
 all_goals first
  | exact ⟨ret_int (by simp_all [leafKindT,cTrue,cFalse]),Below.refl _ _⟩
  | exact ⟨ret_int (by simp_all [leafKindT,cTrue,cFalse]),(Below.refl _ _).alloc (Nat.le_refl _) _⟩
structure Stm where
 name:Txt
 expr:Value
 when:Value
 score:Value
def cellsS (l:List Stm):List Value:=l.flatMap fun s=>[.string (bsOf s.name),s.expr,s.when,s.score]
theorem cellsS_get:∀ (l:List Stm) (k:Nat) (h:k < l.length),(cellsS l)[k * 4]?=some (.string (bsOf l[k].name))∧(cellsS l)[k * 4+1]?=some l[k].expr∧(cellsS l)[k * 4+2]?=some l[k].when∧(cellsS l)[k * 4+3]?=some l[k].score
 | a :: r,0,_=>⟨rfl,rfl,rfl,rfl⟩
 | a :: r,k+1,h=>by
  have:=cellsS_get r k (by simpa using h)
  have e:cellsS (a :: r)=.string (bsOf a.name) :: a.expr :: a.when :: a.score :: cellsS r:=rfl
  rw[e,show (k+1) * 4=k * 4+4 by omega,show k * 4+4+1=(k * 4+1)+4 by omega,show k * 4+4+2=(k * 4+2)+4 by omega,show k * 4+4+3=(k * 4+3)+4 by omega]
  simpa using this
def cellsI (l:List Nat):List Value:=l.map fun (n:Nat)=>.int .i64 n
theorem knownT_drop (l:List Stm) (ks:List Nat) (t:Txt) (k:Nat) (h:k < l.length) (h2:k < ks.length) :
  knownT (((l.map Stm.name).zip ks).drop k) t=if l[k].name==t then ks[k] else knownT (((l.map Stm.name).zip ks).drop (k+1)) t:=by
 rw[List.drop_eq_getElem_cons (by simp;omega)]
 simp[knownT]
set_option maxHeartbeats 1000000 in
theorem known_any (l:List Stm) (ks:List Nat) (hk:ks.length=l.length) (hl4:l.length≤400) (t:ByteArray) (lv kv:Value) (w:World) (hlv:Reads w lv l.length (cellsS l)) (hkv:Reads w kv ks.length (cellsI ks)) :
  Calls Tryz.prog 108 #[.agg #[lv,kv],.string t] w fun e w'=>e=.returned (.int .i64 (knownT ((l.map Stm.name).zip ks) t.toList))∧Below w.heap.size w w':=by
 rw[hk] at hkv
 have HKL:Hid (ks.length=l.length):=hk
 clear hk
 by_cases hl0:l.length=0
 ·have hl:l=[]:=List.eq_nil_of_length_eq_zero hl0
  subst hl
  have hbel:Below w.heap.size w (w.alloc (.cells #[lv,kv] 42)):=(Below.refl _ _).alloc (Nat.le_refl _) _
  rcases hlv with ⟨rfl,_,_⟩ | ⟨g,o,cap,rfl,_,_,_⟩
  all_goals
   go_enter Tryz.func108,Tryz.ntmps108
   go_wp2
   refine wp_loop_rounds 1 ?_;rw[rounds_succ]
   go_wp2
   go_ret
   exact ⟨rfl,hbel⟩
 ·rcases hlv with ⟨_,hn,_⟩ | ⟨g,o,cap,rfl,hnc,hlt,hc⟩
  ·omega
  rcases hkv with ⟨_,hn,_⟩ | ⟨g2,o2,cap2,rfl,hnc2,hlt2,hc2⟩
  ·omega
  have hbel:Below w.heap.size w (w.alloc (.cells #[.slice (some ⟨g,o,none⟩) l.length cap,.slice (some ⟨g2,o2,none⟩) l.length cap2] 42)):=(Below.refl _ _).alloc (Nat.le_refl _) _
  have HBE:Hid (Below w.heap.size w (w.alloc (.cells #[.slice (some ⟨g,o,none⟩) l.length cap,.slice (some ⟨g2,o2,none⟩) l.length cap2] 42))):=hbel
  clear hbel
  go_enter Tryz.func108,Tryz.ntmps108
  go_wp2
  go_loop [5] (fun i=>∃ k:Nat,k≤l.length∧i=.int .i64 k∧knownT ((l.map Stm.name).zip ks) t.toList=knownT (((l.map Stm.name).zip ks).drop k) t.toList) (fun i=>l.length - (intOf i).toNat)
  case atStart=>exact ⟨0,Nat.zero_le _,rfl,rfl⟩
  case round =>
   obtain ⟨k,hkl,rfl,hkn⟩:=hrel
   have HK:Hid (knownT ((l.map Stm.name).zip ks) t.toList=knownT (((l.map Stm.name).zip ks).drop k) t.toList):=hkn
   clear hkn
   by_cases hlt3:k < l.length
   ·have hk2:k < ks.length:=by rw[HKL.out];exact hlt3
    have ca:=(HBE.out.cell (p:=⟨g,o+k * 4,none⟩) hlt).trans (hc _ _ (cellsS_get l k hlt3).1)
    have cb:=(HBE.out.cell (p:=⟨g2,o2+k,none⟩) hlt2).trans (hc2 k (.int .i64 ks[k]) (by simp[cellsI,hk2]))
    have HD:=knownT_drop l ks t.toList k hlt3 hk2
    have HDD:Hid (knownT (((l.map Stm.name).zip ks).drop k) t.toList=if l[k].name==t.toList then ks[k] else knownT (((l.map Stm.name).zip ks).drop (k+1)) t.toList):=HD
    clear HD
    obtain ⟨c,hcd⟩:∃ c,c=bsOf l[k].name:=⟨_,rfl⟩
    rw[← hcd] at ca
    have HCT:Hid (l[k].name=c.toList):=(by rw[hcd,bsOf_toList]:l[k].name=c.toList)
    clear hcd
    cases heq:(c.toList==t.toList)
    ·go_wp2
     go_round
     case rel=>exact ⟨k+1,by omega,by go_num,by rw[HK.out,HDD.out,HCT.out,heq];simp⟩
     case measure=>simp[intOf];omega
    ·go_wp2
     go_ret
     exact ⟨ret_int (by rw[HK.out,HDD.out,HCT.out,heq];simp),HBE.out⟩
   ·go_wp2
    go_ret
    exact ⟨ret_int (by rw[HK.out,List.drop_eq_nil_of_le (by simp[HKL.out];omega)];rfl),HBE.out⟩
end Go.Proofs.YtldfkcpbjooemaaGreatDoor
