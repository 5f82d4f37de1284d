/-
  The document's inside and one, called on the tokens of a tree: its brackets fall away; is it an operator of one operand?
-/
import Derived.Test.YtgfnkeiigjholaaGreatDoorQ06
import Derived.Test.YtgfnkeiigjholaaGreatDoorQ05
import Derived.Deep.RegionHeld3
set_option linter.unusedVariables false
set_option linter.unusedSimpArgs false
namespace Go.Proofs.YtgfnkeiigjholaaGreatDoor
open Go.RowKit Go.Deep
theorem Tryz.szTok(w:World):(sizeOf 77).run Tryz.prog w=.ok 2 w:=by kernel_rfl
theorem Tryz.elTok:Tryz.prog.elem 68=77:=by kernel_rfl
theorem sl_lh(g o n cap lo hi:Nat)(L H:Int)(hL:L=lo)(hH:H=hi)(h1:lo≤hi)(h2:hi≤cap)(h3:lo<cap)(wx:World) :
  (Instr.slice 68 (.slice (some ⟨g,o,none⟩) n cap) (some (.int .i64 L)) (some (.int .i64 H)) none).run Tryz.prog wx=.ok (.slice (some ⟨g,o+lo*2,none⟩) (hi-lo) (cap-lo)) wx:=by
 subst hL hH
 rw[run_slice_lh wx _ _ _ _ (by rw[Tryz.elTok];exact Tryz.underlying68) .i64 .i64 _ _ (by omega) (by omega) (by omega),Tryz.elTok,Tryz.szTok]
 simp[Result.andThen,sliced,Addr.add,show cap≠lo by omega]
theorem sl_h(g o n cap hi:Nat)(H:Int)(hH:H=hi)(h2:hi≤cap)(h3:0<cap)(wx:World) :
  (Instr.slice 68 (.slice (some ⟨g,o,none⟩) n cap) none (some (.int .i64 H)) none).run Tryz.prog wx=.ok (.slice (some ⟨g,o,none⟩) hi cap) wx:=by
 subst hH
 rw[run_slice_h wx _ _ _ _ (by rw[Tryz.elTok];exact Tryz.underlying68) .i64 _ (by omega) (by omega),Tryz.elTok,Tryz.szTok]
 simp[Result.andThen,sliced,Addr.add,show cap≠0 by omega]
theorem sl_l(g o n cap lo:Nat)(L:Int)(hL:L=lo)(h1:lo≤n)(h3:lo<cap)(wx:World) :
  (Instr.slice 68 (.slice (some ⟨g,o,none⟩) n cap) (some (.int .i64 L)) none none).run Tryz.prog wx=.ok (.slice (some ⟨g,o+lo*2,none⟩) (n-lo) (cap-lo)) wx:=by
 subst hL
 rw[run_slice_l wx _ _ _ _ (by rw[Tryz.elTok];exact Tryz.underlying68) .i64 _ (by omega) (by omega),Tryz.elTok,Tryz.szTok]
 simp[Result.andThen,sliced,Addr.add,show cap≠lo by omega]
theorem cellsR_append(a b:List RTok):cellsR (a++b)=cellsR a++cellsR b:=by simp[cellsR]
theorem reads_mid{w:World}{g o cap:Nat}{l:List RTok}(a b c:List RTok)(hl:l=a++b++c)(hg:g<w.heap.size)(hcap:b.length≤cap)
  (hc:∀ j u,(cellsR l)[j]?=some u→w.cell? ⟨g,o+j,none⟩=some u):Reads w (.slice (some ⟨g,o+a.length*2,none⟩) b.length cap) b.length (cellsR b):=by
 refine .inr ⟨g,_,cap,rfl,hcap,hg,fun j u hj=>?_⟩
 rw[Nat.add_assoc]
 apply hc
 subst hl
 have hlen:=cellsR_length a
 have hj':=(List.getElem?_eq_some_iff.1 hj).1
 rw[cellsR_append,cellsR_append,List.append_assoc,List.getElem?_append_right (by omega),hlen,Nat.add_sub_cancel_left,List.getElem?_append_left hj']
 exact hj
def stripB:BT (RTok×RTok)→BT (RTok×RTok)
 | .node 3 _ _ e _=>stripB e
 | .node b o a l r=>.node b o a l r
 | .nil=>.nil
def Tr.strip(t:Tr):Tr:=stripB t
def lenOf:Value→Nat | .slice _ n _=>n | _=>0
theorem Tr.first_open(t:Tr)(h:t.wf)(hb:t.isBin=false)(hp:∀ o e c,t≠.par o e c)(h0:0<t.toks.length):(t.toks[0].text==cOpen)=false:=by
 rcases t.cases h with ⟨a,rfl⟩ | ⟨op,e,rfl⟩ | ⟨op,l,r,rfl⟩ | ⟨o,e,c,rfl⟩
 ·have:=(Tr.wf_leaf h).2.1
  show (a.text==cOpen)=false
  simpa using this
 ·have h1:=(Tr.wf_un h).1
  unfold unT at h1
  simp at h1
  show (op.text==cOpen)=false
  rcases h1 with h1 | h1 <;> rw[h1] <;> decide
 ·cases hb
 ·exact absurd rfl (hp o e c)
theorem strip_self(t:Tr)(h:t.wf)(hp:¬ ∃ o e c,t=.par o e c):t.strip=t:=by
 rcases t.cases h with ⟨a,rfl⟩ | ⟨op,e,rfl⟩ | ⟨op,l,r,rfl⟩ | ⟨o,e,c,rfl⟩
 ·rfl
 ·rfl
 ·rfl
 ·exact absurd ⟨o,e,c,rfl⟩ hp
set_option maxHeartbeats 1000000 in
theorem inside_any(t:Tr)(ht:t.wf)(v:Value)(w:World)(hl4:t.toks.length≤400)(hv:Reads w v t.toks.length (cellsR t.toks)) :
  Calls Tryz.prog 100 #[v] w fun e w'=>(∃ v',e=.returned v'∧Reads w v' t.strip.toks.length (cellsR t.strip.toks))∧w'=w:=by
 go_enter Tryz.func100,Tryz.ntmps100
 go_wp2
 go_loop [0] (fun x=>∃ t':Tr,t'.wf∧t'.strip=t.strip∧t'.toks.length≤400∧Reads w x t'.toks.length (cellsR t'.toks)) (fun x=>lenOf x)
 case atStart=>exact ⟨t,ht,rfl,hl4,hv⟩
 case round =>
  obtain ⟨t',hw',hs',h4',hr'⟩:=hrel
  have HR:Hid (Reads w u0 t'.toks.length (cellsR t'.toks)):=hr'
  have HS:Hid (t'.strip=t.strip):=hs'
  clear hs'
  have hpos:=t'.toks_pos
  rcases hr' with ⟨_,hn,_⟩ | ⟨g,o,cap,rfl,hncap,hlt,hc⟩
  ·omega
  have HC:Hid (∀ j u,(cellsR t'.toks)[j]?=some u→w.cell? ⟨g,o+j,none⟩=some u):=hc
  have c0:w.cell? ⟨g,o,none⟩=some (.string (bsOf t'.toks[0].text)):=hc 0 _ (cellsR_get t'.toks 0 hpos).1
  clear hc
  obtain ⟨c,hcd⟩:∃ c,c=bsOf t'.toks[0].text:=⟨_,rfl⟩
  rw[← hcd]at c0
  have hct:∀ x,(c.toList==x)=(t'.toks[0].text==x):=by rw[hcd,bsOf_toList];exact fun _=>rfl
  clear hcd
  have HCT:Hid (∀ x,(c.toList==x)=(t'.toks[0].text==x)):=hct
  clear hct
  by_cases hbin:t'.isBin=true
  ·have hall:t'.strip=t'∧0≤rootR t'.toks∧1<t'.toks.length:=by
    clear HCT c0 HC HR
    rcases t'.cases hw' with ⟨a,rfl⟩ | ⟨op,e,rfl⟩ | ⟨op,l,r,rfl⟩ | ⟨o,e,c,rfl⟩
    ·cases hbin
    ·cases hbin
    ·have:=l.toks_pos
     exact ⟨rfl,by rw[root_bin op l r hw'];omega,by rw[Tr.toks_bin,List.length_append,List.length_cons];omega⟩
    ·cases hbin
   have HE:Hid (t'.strip=t'):=hall.1
   have hrt:=hall.2.1
   have hlen:=hall.2.2
   clear hall
   cases h40:(c.toList==[40])
   ·go_wp2
    go_ret
    exact ⟨⟨_,rfl,by rw[← HS.out,HE.out];exact HR.out⟩,rfl⟩
   ·go_wp2_with (go_at_call 101;refine (root_any _ _ _ hpos h4' HR.out).mono ?_;rintro e _ ⟨rfl,rfl⟩)
    go_ret
    exact ⟨⟨_,rfl,by rw[← HS.out,HE.out];exact HR.out⟩,rfl⟩
  ·have hbin':t'.isBin=false:=by simpa using hbin
   have hrt:=root_none t' hw' hbin'
   by_cases hpar:∃ o e c,t'=.par o e c
   ·obtain ⟨po,e,pc,rfl⟩:=hpar
    obtain ⟨p1,p2,p3⟩:=Tr.wf_par hw'
    have h40:(c.toList==[40])=true:=by rw[HCT.out];show (po.text==cOpen)=true;rw[p1];decide
    have hlen:(Tr.par po e pc).toks.length=e.toks.length+2:=by simp[Tr.toks_par]
    have hep:=e.toks_pos
    have hlen':1<(Tr.par po e pc).toks.length:=by omega
    have hsl:=sl_lh g o (Tr.par po e pc).toks.length cap 1 (e.toks.length+1) 1 (((Tr.par po e pc).toks.length:Int)-1) rfl (by omega) (by omega) (by omega) (by omega)
    have hrd:=reads_mid (w:=w) (g:=g) (o:=o) (cap:=cap-1) [po] e.toks [pc] (by simp[Tr.toks_par]) hlt (by omega) HC.out
    have HRD:Hid (Reads w (.slice (some ⟨g,o+2,none⟩) e.toks.length (cap-1)) e.toks.length (cellsR e.toks)):=hrd
    have HL:Hid ((Tr.par po e pc).toks.length=e.toks.length+2):=hlen
    clear hrd hlen
    go_wp2_with (go_at_call 101;refine (root_any _ _ _ hpos h4' HR.out).mono ?_;rintro e _ ⟨rfl,rfl⟩)
    go_round
    case rel=>exact ⟨e,p3,HS.out,by have:=HL.out;omega,HRD.out⟩
    case measure=>have:=HL.out;simp[lenOf];omega
   ·have HE:Hid (t'.strip=t'):=(strip_self t' hw' hpar:t'.strip=t')
    have h40:(c.toList==[40])=false:=by rw[HCT.out];exact t'.first_open hw' hbin' (fun o e c h=>hpar ⟨o,e,c,h⟩) hpos
    by_cases h1:1<t'.toks.length
    ·go_wp2
     go_ret
     exact ⟨⟨_,rfl,by rw[← HS.out,HE.out];exact HR.out⟩,rfl⟩
    ·go_wp2
     go_ret
     exact ⟨⟨_,rfl,by rw[← HS.out,HE.out];exact HR.out⟩,rfl⟩
def isUnB:BT (RTok×RTok)→Bool
 | .node 1 _ _ _ _=>true
 | _=>false
def Tr.isUn(t:Tr):Bool:=isUnB t
theorem Tr.isUn_un(op:RTok)(e:Tr):(Tr.un op e).isUn=true:=rfl
theorem Tr.isUn_leaf(a:RTok):(Tr.leaf a).isUn=false:=rfl
set_option maxHeartbeats 1000000 in
theorem one_any(t:Tr)(ht:t.wf)(hb:t.isBin=false)(hp:∀ o e c,t≠.par o e c)(v:Value)(w:World)(hl4:t.toks.length≤400)(hv:Reads w v t.toks.length (cellsR t.toks)) :
  Calls Tryz.prog 102 #[v] w fun e w'=>e=.returned (.bool t.isUn)∧w'=w:=by
 have HR:Hid (Reads w v t.toks.length (cellsR t.toks)):=hv
 have hpos:=t.toks_pos
 have hrt:=root_none t ht hb
 rcases hv with ⟨_,hn,_⟩ | ⟨g,o,cap,rfl,hncap,hlt,hc⟩
 ·omega
 have c0:w.cell? ⟨g,o,none⟩=some (.string (bsOf t.toks[0].text)):=hc 0 _ (cellsR_get t.toks 0 hpos).1
 clear hc
 rcases t.cases ht with ⟨a,rfl⟩ | ⟨op,e,rfl⟩ | ⟨op,l,r,rfl⟩ | ⟨po,e,pc,rfl⟩
 ·have hl1:(Tr.leaf a).toks.length=1:=rfl
  go_enter Tryz.func102,Tryz.ntmps102
  go_wp2
  go_ret
  exact ⟨rfl,rfl⟩
 ·have hep:=e.toks_pos
  have hlen:(Tr.un op e).toks.length=e.toks.length+1:=by simp[Tr.toks_un]
  have hlen':¬ (Tr.un op e).toks.length<2:=by omega
  clear hlen
  have hd:decide (((Tr.un op e).toks.length:Int)<2)=false:=by simp;omega
  have e1:((bsOf cMinus).toList==[45])=true:=by rw[bsOf_toList];decide
  have e2:((bsOf cNot).toList==[45])=false:=by rw[bsOf_toList];decide
  have e3:((bsOf cNot).toList==[110,111,116])=true:=by rw[bsOf_toList];decide
  have h1:=(Tr.wf_un ht).1
  unfold unT at h1
  simp only[Tr.toks_un,List.getElem_cons_zero]at c0
  have hop:op.text=cMinus∨op.text=cNot:=by simpa using h1
  rcases hop with hop | hop
  all_goals
   rw[hop]at c0
   go_enter Tryz.func102,Tryz.ntmps102
   go_wp2_with (go_at_call 101;refine (root_any _ _ _ hpos hl4 HR.out).mono ?_;rintro e _ ⟨rfl,rfl⟩)
   go_ret
   exact ⟨rfl,rfl⟩
 ·cases hb
 ·exact absurd rfl (hp po e pc)
structure Stm where
 name:Txt
 expr:Value
 when:Value
 score:Value
def cellsS(l:List Stm):List Value:=l.flatMap fun s=>[.string (bsOf s.name),s.expr,s.when,s.score]
theorem cellsS_get:∀ (l:List Stm) (k:Nat) (h:k<l.length),(cellsS l)[k*4]?=some (.string (bsOf l[k].name))∧(cellsS l)[k*4+1]?=some l[k].expr∧(cellsS l)[k*4+2]?=some l[k].when∧(cellsS l)[k*4+3]?=some l[k].score
 | a :: r,0,_=>⟨rfl,rfl,rfl,rfl⟩
 | a :: r,k+1,h=>by
  have:=cellsS_get r k (by simpa using h)
  have e:cellsS (a :: r)=.string (bsOf a.name) :: a.expr :: a.when :: a.score :: cellsS r:=rfl
  rw[e,show (k+1)*4=k*4+4 by omega,show k*4+4+1=(k*4+1)+4 by omega,show k*4+4+2=(k*4+2)+4 by omega,show k*4+4+3=(k*4+3)+4 by omega]
  simpa using this
theorem stripB_len:∀ t:BT (RTok×RTok),(toksB (stripB t)).length≤(toksB t).length
 | .nil=>Nat.le_refl _
 | .node 0 _ _ _ _=>Nat.le_refl _
 | .node 1 _ _ _ _=>Nat.le_refl _
 | .node 2 _ _ _ _=>Nat.le_refl _
 | .node 3 _ a e _=>by have:=stripB_len e;simp only[stripB,toksB,List.length_cons,List.length_append,List.length_nil];omega
 | .node (_+4) _ _ _ _=>Nat.le_refl _
theorem Tr.strip_len(t:Tr):t.strip.toks.length≤t.toks.length:=stripB_len t
theorem Tr.strip_wf(t:Tr)(h:t.wf):t.strip.wf :=
 Tr.ind (P:=fun t=>t.strip.wf) t h (fun _ h=>h) (fun _ _ h _=>h) (fun _ _ _ h _ _=>h) (fun _ _ _ _ ih=>ih)
theorem stripB_sub:∀ t:BT (RTok×RTok),∀ x∈toksB (stripB t),x∈toksB t
 | .nil,_,hx=>hx
 | .node 0 _ _ _ _,_,hx=>hx
 | .node 1 _ _ _ _,_,hx=>hx
 | .node 2 _ _ _ _,_,hx=>hx
 | .node 3 _ a e _,x,hx=>by simp only[toksB,List.mem_cons,List.mem_append];exact .inr (.inl (stripB_sub e x hx))
 | .node (_+4) _ _ _ _,_,hx=>hx
theorem Tr.strip_sub(t:Tr):∀ x∈t.strip.toks,x∈t.toks:=stripB_sub t
theorem Tr.strip_not_par(t:Tr)(h:t.wf):∀ o e c,t.strip≠.par o e c:=by
 refine Tr.ind (P:=fun t=>∀ o e c,t.strip≠.par o e c) t h ?_ ?_ ?_ ?_
 ·intro a _ o e c h;cases h
 ·intro op e _ _ o e' c h;cases h
 ·intro op l r _ _ _ o e c h;cases h
 ·intro o e c _ ih;exact ih
theorem name_not_semi{t:Txt}(h:nameT t=true):(t==cSemi)=false:=by
 cases hs:(t==cSemi)
 ·rfl
 ·have:t=cSemi:=by simpa using hs
  subst this
  revert h;decide
end Go.Proofs.YtgfnkeiigjholaaGreatDoor
