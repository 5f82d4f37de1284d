/-
  A tree that was made without heed of how much its operators bind has the tokens of one that is well made; plain.
-/
import Derived.Test.YtgfnkeiigjholaaGreatDoorQ12
set_option linter.unusedVariables false
set_option linter.unusedSimpArgs false
namespace Go.Proofs.YtgfnkeiigjholaaGreatDoor
open Go.Deep
theorem wfBin{op:RTok}{l r:Tr}(h1:0<bindsT op.text)(h2:noBr op.text)(h3:bindsT op.text≤l.level)(h4:bindsT op.text<r.level)(h5:l.wf)(h6:r.wf):(Tr.bin op l r).wf:=⟨⟨rfl,rfl⟩,h1,h2.1,h2.2,h3,h4,h5,h6⟩
theorem level_bin_of(t:Tr)(h:t.wf)(hl:t.level<6):∃ op l r,t=.bin op l r:=by
 rcases t.cases h with ⟨a,rfl⟩ | ⟨op,e,rfl⟩ | ⟨op,l,r,rfl⟩ | ⟨o,e,c,rfl⟩
 ·rw[Tr.level_leaf]at hl;omega
 ·rw[Tr.level_un]at hl;omega
 ·exact ⟨op,l,r,rfl⟩
 ·rw[Tr.level_par]at hl;omega
theorem binds_noBr{t:Txt}(h:0<bindsT t):noBr t:=by
 refine ⟨?_, ?_⟩ <;> (intro e;subst e;revert h;decide)
theorem join_ex:∀ (n:Nat) (op:RTok) (a b:Tr),a.toks.length+b.toks.length≤n→0<bindsT op.text→a.wf→b.wf→∃ v:Tr,v.wf∧v.toks=a.toks++op :: b.toks∧∀ m,m≤a.level→m≤bindsT op.text→m≤b.level→m≤v.level
 | 0,op,a,b,hn,_,_,_=>by have:=a.toks_pos;omega
 | n+1,op,a,b,hn,hop,ha,hb=>by
  have hop5:=bindsT_le op.text
  by_cases h1:b.level≤bindsT op.text∧b.level≤a.level
  ·obtain ⟨op3,l3,r3,rfl⟩:=level_bin_of b hb (by omega)
   obtain ⟨g1,g2,g3,g4,g5,g6,g7⟩:=Tr.wf_bin hb
   rw[Tr.level_bin]at h1
   rw[Tr.toks_bin,List.length_append,List.length_cons]at hn
   obtain ⟨v,v1,v2,v3⟩:=join_ex n op a l3 (by omega) hop ha g6
   refine ⟨.bin op3 v r3,wfBin g1 ⟨g2,g3⟩ (v3 _ h1.2 h1.1 g4) g5 v1 g7, ?_,fun m m1 m2 m3=>m3⟩
   rw[Tr.toks_bin,v2,Tr.toks_bin]
   simp
  ·by_cases h2:bindsT op.text≤a.level∧bindsT op.text<b.level
   ·exact ⟨.bin op a b,wfBin hop (binds_noBr hop) h2.1 h2.2 ha hb,rfl,fun m m1 m2 m3=>m2⟩
   ·have h3:a.level<bindsT op.text∧a.level<b.level:=by omega
    obtain ⟨op2,l2,r2,rfl⟩:=level_bin_of a ha (by omega)
    obtain ⟨g1,g2,g3,g4,g5,g6,g7⟩:=Tr.wf_bin ha
    rw[Tr.level_bin]at h3
    rw[Tr.toks_bin,List.length_append,List.length_cons]at hn
    obtain ⟨v,v1,v2,v3⟩:=join_ex n op r2 b (by omega) hop g7 hb
    have hv:=v3 (bindsT op2.text+1) (by omega) (by omega) (by omega)
    refine ⟨.bin op2 l2 v,wfBin g1 ⟨g2,g3⟩ g4 (by omega) g6 v1, ?_,fun m m1 m2 m3=>m1⟩
    rw[Tr.toks_bin,v2,Tr.toks_bin]
    simp
theorem unary_ex(op:RTok)(hop:unT op.text=true)(t:Tr)(h:t.wf):∃ v:Tr,v.wf∧v.toks=op :: t.toks∧v.level=t.level:=by
 have hun:∀ e:Tr,e.wf→e.level=6→∃ v:Tr,v.wf∧v.toks=op :: e.toks∧v.level=e.level:=fun e he hl=>⟨.un op e,⟨⟨rfl,rfl,rfl⟩,hop,hl,he⟩,rfl,hl.symm⟩
 refine Tr.ind (P:=fun t=>∃ v:Tr,v.wf∧v.toks=op :: t.toks∧v.level=t.level) t h (fun a hw=>hun _ hw rfl) (fun o e hw _=>hun _ hw rfl) ?_ (fun o e c hw _=>hun _ hw rfl)
 intro o l r hw ⟨v,v1,v2,v3⟩ _
 obtain ⟨g1,g2,g3,g4,g5,g6,g7⟩:=Tr.wf_bin hw
 refine ⟨.bin o v r,wfBin g1 ⟨g2,g3⟩ (by rw[v3];exact g4) g5 v1 g7, ?_,rfl⟩
 rw[Tr.toks_bin,v2,Tr.toks_bin]
 rfl
def gdB:BT (RTok×RTok)→Prop
 | .nil=>False
 | .node 0 o a l r=>wfB (.node 0 o a l r)
 | .node 1 o a e r=>(o=0∧a.2=a.1∧r=.nil)∧unT a.1.text=true∧gdB e
 | .node 2 o a l r=>(o=0∧a.2=a.1)∧0<bindsT a.1.text∧gdB l∧gdB r
 | .node 3 o a e r=>(o=0∧r=.nil)∧(a.1.text=cOpen∧a.2.text=cClose)∧gdB e
 | .node (_+4) _ _ _ _=>False
def Tr.gd(t:Tr):Prop:=gdB t
theorem gd_un{op:RTok}{e:Tr}(h:unT op.text=true)(he:e.gd):(Tr.un op e).gd:=⟨⟨rfl,rfl,rfl⟩,h,he⟩
theorem gd_bin{op:RTok}{l r:Tr}(h:0<bindsT op.text)(hl:l.gd)(hr:r.gd):(Tr.bin op l r).gd:=⟨⟨rfl,rfl⟩,h,hl,hr⟩
theorem gd_par{o c:RTok}{e:Tr}(h1:o.text=cOpen)(h2:c.text=cClose)(he:e.gd):(Tr.par o e c).gd:=⟨⟨rfl,rfl⟩,⟨h1,h2⟩,he⟩
theorem Tr.wf_gd(t:Tr)(h:t.wf):t.gd:=by
 refine Tr.ind (P:=fun t=>t.gd) t h (fun a hw=>hw) (fun op e hw ih=>gd_un (Tr.wf_un hw).1 ih) (fun op l r hw ihl ihr=>gd_bin (Tr.wf_bin hw).1 ihl ihr) (fun o e c hw ih=>gd_par (Tr.wf_par hw).1 (Tr.wf_par hw).2.1 ih)
theorem gdB_bk:∀ t:BT (RTok×RTok),gdB t→bkB t
 | .nil,h=>h
 | .node 0 o a l r,h=>⟨h.1,h.2.2.1,h.2.2.2.1⟩
 | .node 1 o a e r,h=>⟨h.1,un_noBr h.2.1,gdB_bk e h.2.2⟩
 | .node 2 o a l r,h=>⟨h.1,binds_noBr h.2.1,gdB_bk l h.2.2.1,gdB_bk r h.2.2.2⟩
 | .node 3 o a e r,h=>⟨h.1,h.2.1,gdB_bk e h.2.2⟩
 | .node (_+4) _ _ _ _,h=>h
theorem Tr.gd_bk(t:Tr)(h:t.gd):t.bk:=gdB_bk t h
theorem reformB:∀ t:BT (RTok×RTok),gdB t→∃ v:Tr,v.wf∧v.toks=toksB t
 | .nil,h=>h.elim
 | .node 0 o a l r,h=>⟨.node 0 o a l r,h,rfl⟩
 | .node 1 o a e r,h=>by
  obtain ⟨v,v1,v2⟩:=reformB e h.2.2
  obtain ⟨u,u1,u2,_⟩:=unary_ex a.1 h.2.1 v v1
  exact ⟨u,u1,by rw[u2,v2];rfl⟩
 | .node 2 o a l r,h=>by
  obtain ⟨v,v1,v2⟩:=reformB l h.2.2.1
  obtain ⟨x,x1,x2⟩:=reformB r h.2.2.2
  obtain ⟨u,u1,u2,_⟩:=join_ex _ a.1 v x (Nat.le_refl _) h.2.1 v1 x1
  exact ⟨u,u1,by rw[u2,v2,x2];rfl⟩
 | .node 3 o a e r,h=>by
  obtain ⟨v,v1,v2⟩:=reformB e h.2.2
  exact ⟨.par a.1 v a.2,⟨⟨rfl,rfl⟩,h.2.1.1,h.2.1.2,v1⟩,by rw[Tr.toks_par,v2];rfl⟩
 | .node (_+4) _ _ _ _,h=>h.elim
theorem reform(t:Tr)(h:t.gd):∃ v:Tr,v.wf∧v.toks=t.toks:=reformB t h
def nbB:BT (RTok×RTok)→Nat→Nat→Prop
 | .nil,_,_=>True
 | .node 0 _ _ _ _,_,_=>True
 | .node 1 _ _ e _,_,i=>nbB e 6 (i-1)
 | .node 2 _ a l r,_,i=>nbB l (bindsT a.1.text) i∧nbB r (bindsT a.1.text+1) (i-(toksB l).length-1)
 | .node _ _ _ e _,lv,i=>(0<i→isBinB e=true∧levelB e<lv)∧nbB e 1 (i-1)
def Tr.nb(t:Tr)(lv i:Nat):Prop:=nbB t lv i
theorem nb_leaf(a:RTok)(lv i:Nat):(Tr.leaf a).nb lv i:=trivial
theorem nb_un(op:RTok)(e:Tr)(lv i:Nat):(Tr.un op e).nb lv i=e.nb 6 (i-1):=rfl
theorem nb_bin(op:RTok)(l r:Tr)(lv i:Nat):(Tr.bin op l r).nb lv i=(l.nb (bindsT op.text) i∧r.nb (bindsT op.text+1) (i-l.toks.length-1)):=rfl
theorem nb_par(o:RTok)(e:Tr)(c:RTok)(lv i:Nat):(Tr.par o e c).nb lv i=((0<i→e.isBin=true∧e.level<lv)∧e.nb 1 (i-1)):=rfl
theorem nb_zero(t:Tr)(h:t.wf):∀ lv,t.nb lv 0:=by
 refine Tr.ind (P:=fun t=>∀ lv,t.nb lv 0) t h (fun a _ lv=>nb_leaf a lv 0) (fun op e _ ih lv=>by rw[nb_un];exact ih 6) (fun op l r _ ihl ihr lv=>by rw[nb_bin,Nat.zero_sub,Nat.zero_sub];exact ⟨ihl _,ihr _⟩) (fun o e c _ ih lv=>by rw[nb_par];exact ⟨fun h=>absurd h (by omega),ih 1⟩)
theorem nb_next(t:Tr)(h:t.wf):∀ lv i,(∀ a,t.toks[i]?=some a→a.text≠cOpen)→t.nb lv i→t.nb lv (i+1):=by
 refine Tr.ind (P:=fun t=>∀ lv i,(∀ a,t.toks[i]?=some a→a.text≠cOpen)→t.nb lv i→t.nb lv (i+1)) t h (fun a _ lv i _ _=>nb_leaf a lv _) ?_ ?_ ?_
 ·intro op e hw ih lv i hi hn
  rw[nb_un]at hn ⊢
  cases i with
  | zero=>exact hn
  | succ i=>exact ih 6 i (fun a ha=>hi a (by rw[Tr.toks_un];exact ha)) hn
 ·intro op l r hw ihl ihr lv i hi hn
  rw[nb_bin]at hn ⊢
  refine ⟨ihl _ i (fun a ha=>hi a ?_) hn.1, ?_⟩
  ·rw[Tr.toks_bin,List.getElem?_append_left (List.getElem?_eq_some_iff.1 ha).1]
   exact ha
  ·by_cases hl:i≤l.toks.length
   ·rw[show i+1-l.toks.length-1=0 by omega]
    exact nb_zero r (Tr.wf_bin hw).2.2.2.2.2.2 _
   ·obtain ⟨m,hm⟩:∃ m,i-l.toks.length-1=m:=⟨_,rfl⟩
    rw[show i+1-l.toks.length-1=m+1 by omega]
    rw[hm]at hn
    refine ihr _ m (fun a ha=>hi a ?_) hn.2
    rw[Tr.toks_bin,List.getElem?_append_right (by omega),show i-l.toks.length=m+1 by omega]
    exact ha
 ·intro o e c hw ih lv i hi hn
  rw[nb_par]at hn ⊢
  cases i with
  | zero=>exact absurd (Tr.wf_par hw).1 (hi o rfl)
  | succ i =>
   refine ⟨fun _=>hn.1 (by omega), ?_⟩
   have h1:=hn.2
   rw[Nat.add_sub_cancel]at h1 ⊢
   by_cases hl:i<e.toks.length
   ·refine ih 1 i (fun a ha=>hi a ?_) h1
    rw[Tr.toks_par,List.getElem?_cons_succ,List.getElem?_append_left hl]
    exact ha
   ·refine ih 1 i (fun a ha=>?_) h1
    rw[List.getElem?_eq_none (by omega)]at ha
    cases ha
structure Del(t:Tr)(lv i:Nat)(d:Tr):Prop where
 gd:d.gd
 core:d.core=t.core
 mid:∃ A E B:List RTok,∃ o c:RTok,∃ e:Tr,t.toks=A++o :: (e.toks++c :: B)∧d.toks=A++(e.toks++B)∧A.length=i∧o.text=cOpen∧c.text=cClose∧e.wf
 lev:t.isBin=true→d.isBin=true∧d.level=t.level
 lev6:0<i→d.level=t.level
 alt:(d.wf∧lv≤d.level∧d.nb lv i)∨(¬ (d.wf∧lv≤d.level)∧t.nb lv (i+1))
theorem isBin_level{t:Tr}(h:t.wf):t.isBin=true↔t.level<6:=by
 rcases t.cases h with ⟨a,rfl⟩ | ⟨op,e,rfl⟩ | ⟨op,l,r,rfl⟩ | ⟨o,e,c,rfl⟩
 ·exact ⟨fun h=>(by cases h),fun h=>absurd h (by rw[Tr.level_leaf];omega)⟩
 ·exact ⟨fun h=>(by cases h),fun h=>absurd h (by rw[Tr.level_un];omega)⟩
 ·exact ⟨fun _=>by rw[Tr.level_bin];have:=bindsT_le op.text;omega,fun _=>rfl⟩
 ·exact ⟨fun h=>(by cases h),fun h=>absurd h (by rw[Tr.level_par];omega)⟩
theorem del_ex(t:Tr)(h:t.wf):∀ lv i a,lv≤t.level→t.toks[i]?=some a→a.text=cOpen→t.nb lv i→∃ d,Del t lv i d:=by
 refine Tr.ind (P:=fun t=>∀ lv i a,lv≤t.level→t.toks[i]?=some a→a.text=cOpen→t.nb lv i→∃ d,Del t lv i d) t h ?_ ?_ ?_ ?_
 ·intro x hw lv i a _ hi ha _
  exfalso
  rw[Tr.toks_leaf]at hi
  cases i with
  | zero=>cases hi;exact (Tr.wf_leaf hw).2.1 ha
  | succ i=>cases hi
 ·intro op e hw ih lv i a hlv hi ha hn
  obtain ⟨w1,w2,w3⟩:=Tr.wf_un hw
  cases i with
  | zero=>cases hi;exact absurd ha (un_noBr w1).1
  | succ i =>
   rw[nb_un,Nat.add_sub_cancel]at hn
   obtain ⟨d,D⟩:=ih 6 i a (by omega) hi ha hn
   obtain ⟨A,E,B,o,c,x,e1,e2,e3,e4,e5,e6⟩:=D.mid
   refine ⟨.un op d,gd_un w1 D.gd,by rw[core_un,core_un,D.core],⟨op :: A,E,B,o,c,x,by rw[Tr.toks_un,e1];rfl,by rw[Tr.toks_un,e2];rfl,by rw[List.length_cons,e3],e4,e5,e6⟩,fun hb=>(by cases hb),fun _=>rfl, ?_⟩
   rw[Tr.level_un]at hlv ⊢
   rcases D.alt with ⟨a1,a2,a3⟩ | ⟨a1,a2⟩
   ·left
    exact ⟨⟨⟨rfl,rfl,rfl⟩,w1,Nat.le_antisymm (Tr.level_le d) a2,a1⟩,hlv,a3⟩
   ·right
    exact ⟨fun hh=>a1 ⟨(Tr.wf_un hh.1).2.2,Nat.le_of_eq (Tr.wf_un hh.1).2.1.symm⟩,a2⟩
 ·intro op l r hw ihl ihr lv i a hlv hi ha hn
  obtain ⟨w1,w2,w3,w4,w5,w6,w7⟩:=Tr.wf_bin hw
  rw[nb_bin]at hn
  rw[Tr.toks_bin]at hi
  by_cases hl:i<l.toks.length
  ·rw[List.getElem?_append_left hl]at hi
   obtain ⟨d,D⟩:=ihl _ i a w4 hi ha hn.1
   obtain ⟨A,E,B,o,c,x,e1,e2,e3,e4,e5,e6⟩:=D.mid
   refine ⟨.bin op d r,gd_bin w1 D.gd (r.wf_gd w7),by rw[core_bin,core_bin,D.core],⟨A,E,B++op :: r.toks,o,c,x,by rw[Tr.toks_bin,e1];simp,by rw[Tr.toks_bin,e2];simp,e3,e4,e5,e6⟩,fun _=>⟨rfl,rfl⟩,fun _=>rfl, ?_⟩
   rcases D.alt with ⟨a1,a2,a3⟩ | ⟨a1,a2⟩
   ·left
    refine ⟨wfBin w1 ⟨w2,w3⟩ a2 w5 a1 w7,hlv, ?_⟩
    rw[nb_bin]
    have hlen:d.toks.length+2=l.toks.length:=by rw[e1,e2];simp;omega
    have hiA:i≤d.toks.length:=by rw[e2];simp;omega
    rw[show i-d.toks.length-1=0 by omega]
    exact ⟨a3,nb_zero r w7 _⟩
   ·right
    refine ⟨fun hh=>a1 ⟨(Tr.wf_bin hh.1).2.2.2.2.2.1,(Tr.wf_bin hh.1).2.2.2.1⟩, ?_⟩
    rw[nb_bin,show i+1-l.toks.length-1=0 by omega]
    exact ⟨a2,nb_zero r w7 _⟩
  ·by_cases hl2:i=l.toks.length
   ·subst hl2
    rw[List.getElem?_append_right (Nat.le_refl _),Nat.sub_self]at hi
    cases hi
    exact absurd ha w2
   ·obtain ⟨m,hm⟩:∃ m,i=l.toks.length+1+m:=⟨i-l.toks.length-1,by omega⟩
    subst hm
    rw[List.getElem?_append_right (by omega),show l.toks.length+1+m-l.toks.length=m+1 by omega,List.getElem?_cons_succ]at hi
    rw[show l.toks.length+1+m-l.toks.length-1=m by omega]at hn
    obtain ⟨d,D⟩:=ihr _ m a w5 hi ha hn.2
    obtain ⟨A,E,B,o,c,x,e1,e2,e3,e4,e5,e6⟩:=D.mid
    refine ⟨.bin op l d,gd_bin w1 (l.wf_gd w6) D.gd,by rw[core_bin,core_bin,D.core],⟨l.toks++op :: A,E,B,o,c,x,by rw[Tr.toks_bin,e1];simp,by rw[Tr.toks_bin,e2];simp,by rw[List.length_append,List.length_cons,e3];omega,e4,e5,e6⟩,fun _=>⟨rfl,rfl⟩,fun _=>rfl, ?_⟩
    rcases D.alt with ⟨a1,a2,a3⟩ | ⟨a1,a2⟩
    ·left
     refine ⟨wfBin w1 ⟨w2,w3⟩ w4 a2 w6 a1,hlv, ?_⟩
     rw[nb_bin,show l.toks.length+1+m-l.toks.length-1=m by omega]
     exact ⟨hn.1,a3⟩
    ·right
     refine ⟨fun hh=>a1 ⟨(Tr.wf_bin hh.1).2.2.2.2.2.2,(Tr.wf_bin hh.1).2.2.2.2.1⟩, ?_⟩
     rw[nb_bin,show l.toks.length+1+m+1-l.toks.length-1=m+1 by omega]
     refine ⟨?_,a2⟩
     exact nb_next l w6 _ _ (fun b hb=>by rw[List.getElem?_eq_none (by omega)]at hb;cases hb) hn.1
 ·intro o e c hw ih lv i a hlv hi ha hn
  obtain ⟨w1,w2,w3⟩:=Tr.wf_par hw
  rw[nb_par]at hn
  cases i with
  | zero =>
   refine ⟨e,e.wf_gd w3,rfl,⟨[],[],[],o,c,e,rfl,by simp,rfl,w1,w2,w3⟩,fun hb=>(by cases hb),fun h0=>absurd h0 (by omega), ?_⟩
   by_cases hle:lv≤e.level
   ·exact .inl ⟨w3,hle,nb_zero e w3 _⟩
   ·right
    rw[Tr.level_par]at hlv
    refine ⟨fun hh=>hle hh.2, ?_⟩
    rw[nb_par]
    exact ⟨fun _=>⟨(isBin_level w3).2 (by omega),by omega⟩,nb_zero e w3 _⟩
  | succ i =>
   rw[Nat.add_sub_cancel]at hn
   have hie:i<e.toks.length:=by
    rw[Tr.toks_par,List.getElem?_cons_succ]at hi
    have:=(List.getElem?_eq_some_iff.1 hi).1
    rw[List.length_append,List.length_cons,List.length_nil]at this
    by_cases hq:i<e.toks.length
    ·exact hq
    ·rw[List.getElem?_append_right (by omega),show i-e.toks.length=0 by omega]at hi
     cases hi
     rw[w2]at ha
     exact absurd ha (by decide)
   rw[Tr.toks_par,List.getElem?_cons_succ,List.getElem?_append_left hie]at hi
   have hpos:1≤e.level:=by
    have h1:=(hn.1 (by omega)).1
    rcases e.cases w3 with ⟨x,rfl⟩ | ⟨op,x,rfl⟩ | ⟨op,l,r,rfl⟩ | ⟨o,x,c,rfl⟩
    ·cases h1
    ·cases h1
    ·exact (Tr.wf_bin w3).1
    ·cases h1
   obtain ⟨d,D⟩:=ih 1 i a hpos hi ha hn.2
   obtain ⟨A,E,B,o',c',x,e1,e2,e3,e4,e5,e6⟩:=D.mid
   have hbn:=D.lev (hn.1 (by omega)).1
   refine ⟨.par o d c,gd_par w1 w2 D.gd,by rw[core_par,core_par,D.core],⟨o :: A,E,B++[c],o',c',x,by rw[Tr.toks_par,e1];simp,by rw[Tr.toks_par,e2];simp,by rw[List.length_cons,e3],e4,e5,e6⟩,fun hb=>(by cases hb),fun _=>rfl, ?_⟩
   rw[Tr.level_par]at hlv ⊢
   rcases D.alt with ⟨a1,a2,a3⟩ | ⟨a1,a2⟩
   ·left
    refine ⟨⟨⟨rfl,rfl⟩,w1,w2,a1⟩,hlv, ?_⟩
    rw[nb_par,Nat.add_sub_cancel]
    exact ⟨fun _=>⟨hbn.1,by rw[hbn.2];exact (hn.1 (by omega)).2⟩,a3⟩
   ·right
    refine ⟨fun hh=>a1 ⟨(Tr.wf_par hh.1).2.2,by rw[hbn.2];exact hpos⟩, ?_⟩
    rw[nb_par]
    exact ⟨fun _=>hn.1 (by omega),a2⟩
end Go.Proofs.YtgfnkeiigjholaaGreatDoor
