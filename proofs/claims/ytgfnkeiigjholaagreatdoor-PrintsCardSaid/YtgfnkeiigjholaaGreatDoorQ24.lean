/-
  The program's reader: the walk of readBinding.
-/
import Derived.Test.YtgfnkeiigjholaaGreatDoorQ23
set_option linter.unusedVariables false
set_option linter.unusedSimpArgs false
namespace Go.Proofs.YtgfnkeiigjholaaGreatDoor
open Go.RowKit Go.Deep
set_option maxHeartbeats 1000000 in
set_option maxRecDepth 100000 in
theorem binding_step{m:Nat}(IHo:OpOk m)(IHb:∀ k,k<m→BiOk k):BiOk m:=by
 intro B S w l least h1 h6 h hf hl hn
 have HR:=hideP h
 have HL:=hideP hl
 have hB:=h.blk.lt
 have HF:=hideP hf
 have HIO:=hideP IHo
 have HIB:=hideP IHb
 have htl:=h.tl
 have hnk:=h.nk
 clear h hl hf IHo IHb
 go_enter Tryz.func160,Tryz.ntmps160
 go_wp2_with (first | (go_at_call 180;refine (HIO.out B S _ l HR.out HF.out HL.out hn).mono ?_;rintro e w1 hout;obtain ⟨v,rfl⟩:=hout.val;have HP:=hideP (bi_start (least:=least) h6 hout);clear hout) | (go_at_call 181;refine (binding_in HF.out HL.out HP.out).mono ?_;rintro e w2 ⟨b,rfl,hin,hxx⟩;clear hxx))
 go_loopw [5,6] (fun vl vb wr=>∃ v b:Int,vl=.int .i64 v∧vb=.int .i64 b∧BiIn B S l least w wr v b) (fun _ _ wr=>500-nextOf wr B)
 case atStart=>exact ⟨v,b,rfl,rfl,hin⟩
 case round =>
  clear HP hin
  obtain ⟨v,b,rfl,rfl,hin⟩:=hrel
  have HI:=hideP hin
  by_cases hb:b=0∨b<(least:Int)
  ·have hbt:(b != 0)=true→decide ((least:Int)≤b)=false:=by intro e;simp at e ⊢;omega
   by_cases hb0:b=0
   ·subst hb0
    clear hbt hin hb
    go_wp2
    go_ret
    exact HI.out.out (.inl rfl)
   ·have e1:(b != 0)=true:=by simpa using hb0
    have e2:=hbt e1
    clear hbt hin
    go_wp2
    go_ret
    exact HI.out.out hb
  ·have hb0:b≠0:=fun e=>hb (.inl e)
   obtain ⟨t,a,r,nv,hG,hlv,hbl,hbp,hR,rfl,rfl⟩:=hin.more hb0
   have e1:(((bindsT a.text:Nat):Int) != 0)=true:=by simp;omega
   have e2:decide ((least:Int)≤((bindsT a.text:Nat):Int))=true:=by simp;omega
   have e3:least≤bindsT a.text:=by omega
   have hb5:=bindsT_le a.text
   have hle:(least:Int)≤((bindsT a.text:Nat):Int):=by omega
   have HLE:=hideP hle
   have HG:=hideP hG
   have HBL:=hideP hbl
   have HBP:=hideP hbp
   have HR1:=hideP hR
   have HLa:=hideP (HL.out.behind hG ({ S with k:=S.k+t.toks.length,nv:=nv,ns:=S.ns++t.flat S.ns.length }:RS) rfl rfl)
   have hrl:r.length<m:=by have hh:=hG.here;have hp:=t.toks_pos;simp only[List.length_cons]at hh;omega
   have hBr:=hR.blk.lt
   have hnx:=hR.nextOf
   have hkt:=hR.kt
   have HNX:=hideP hnx
   clear hin hb hb0 hG hlv hbl hbp hR hle hnx
   go_wp2_with (first | (go_at_call 55;refine (current_at HR1.out HLa.out.head).mono ?_;rintro e w3 ⟨rfl,hb3⟩;unfold tokA;have HW:=hideP (RdW.start (HR1.out.below hb3) hb3 a);clear hb3) | (go_at_call 136;refine (take_at HW.out.rd HLa.out _ HF.out rfl).mono ?_;rintro e w4 ⟨rfl,hR4,hK4⟩;replace HW:=hideP (HW.out.step hR4 hK4);clear hR4 hK4) | (go_at_call 160;refine (HIB.out r.length hrl B _ _ r (bindsT a.text+1) (by omega) (by omega) HW.out.rd HF.out (HLa.out.next _ rfl rfl) (Nat.le_refl _)).mono ?_;rintro e w5 hout;obtain ⟨v5,rfl⟩:=hout.val;have HT5:=hideP (HW.out.tk.keepN hout.1 HW.out.ne (by decide));have q0:=HT5.out.cell 0;have q1:=HT5.out.cell 1;have q2:=HT5.out.cell 2;simp only[List.getElem?_toArray,List.getElem?_cons_zero,List.getElem?_cons_succ]at q0 q1 q2;have HO5:=hideP hout;clear hout))
   go_wp2_with (first | (go_at_call 182;refine (add_in HL.out hnk HG.out HLE.out HBL.out HBP.out (HI.out.kp.trans HW.out.kp) HO5.out).mono ?_;rintro e w6 ⟨x,rfl,hp6,hx6⟩;have HP6:=hideP hp6;clear hp6) | (go_at_call 181;refine (binding_in HF.out HL.out HP6.out).mono ?_;rintro e w7 ⟨b7,rfl,hin7,hx7⟩))
   have HX:=hideP (And.intro hx6 hx7)
   have HI7:=hideP hin7
   clear hx6 hx7 hin7
   go_roundw
   case rel=>exact ⟨x,b7,rfl,rfl,HI7.out⟩
   case measure =>
    have g1:=HX.out.1
    have g2:=HX.out.2
    have g3:nextOf wr B=S.k+t.toks.length:=HNX.out
    have g4:S.k+t.toks.length<S.T.length:=hkt
    omega
theorem reads_all:∀ n,OpOk n∧BiOk n
 | 0=>by
  have h:OpOk 0:=by
   intro B S w l h hf hl hn
   cases l with
   | cons a r=>simp at hn
   | nil =>
    obtain ⟨E,hE⟩:=hl.nil
    exact operand_none h hf hE (by rw[show (⟨[],E⟩:RTok).text=[] from rfl,kindP_nil];decide) (kind_end E 28 (by omega)) (kind_end E 9 (by omega)) (fun e=>absurd e (kind_end E 32 (by omega))) (BadV.none fun a r e=>by cases e)
  exact ⟨h,binding_step h fun k hk=>by omega⟩
 | n+1=>by
  have ih:=reads_all n
  have ho:=operand_step ih.1 (brackets_any ih.2)
  refine ⟨ho,binding_step ho fun k hk B S w l least h1 h6 h hf hl hn=>?_⟩
  exact ih.2 B S w l least h1 h6 h hf hl (by omega)
def expA(e:PExp):Value:=.agg #[.int .i64 e.place,.int .i64 e.fr,.int .i64 e.behind]
structure Und(B:Nat)(S:RS)(w wr:World)(p:Spot)(l:List RTok)(G:Nat→List PNode→Prop):Prop where
 kp:KeepN B w wr
 st:(∃ j nv ns,G j ns∧RdAt wr B { S with k:=S.k+j,nv:=nv,ns:=ns }) ∨
  (∃ j nv ns,BadS p l j∧ns.length≤S.ns.length+j∧RdAt wr B { S with k:=S.k+j,f:=true,nv:=nv,ns:=ns })
theorem Und.below{B:Nat}{S:RS}{w wr w':World}{p:Spot}{l:List RTok}{G:Nat→List PNode→Prop}(h:Und B S w wr p l G)(hb:Below wr.heap.size wr w'):Und B S w w' p l G:=by
 refine ⟨h.kp.trans (KeepN.of hb), ?_⟩
 rcases h.st with ⟨j,nv,ns,hG,hR⟩ | ⟨j,nv,ns,hB,hn,hR⟩
 ·exact .inl ⟨j,nv,ns,hG,hR.below hb⟩
 ·exact .inr ⟨j,nv,ns,hB,hn,hR.below hb⟩
theorem Und.mono{B:Nat}{S:RS}{w wr:World}{p:Spot}{l:List RTok}{G G':Nat→List PNode→Prop}(h:Und B S w wr p l G)(H:∀ j ns,G j ns→G' j ns):Und B S w wr p l G':=by
 refine ⟨h.kp, ?_⟩
 rcases h.st with ⟨j,nv,ns,hG,hR⟩ | h
 ·exact .inl ⟨j,nv,ns,H j ns hG,hR⟩
 ·exact .inr h
theorem Und.lt{B:Nat}{S:RS}{w wr:World}{p:Spot}{l:List RTok}{G:Nat→List PNode→Prop}(h:Und B S w wr p l G):B<wr.heap.size:=by
 rcases h.st with ⟨j,nv,ns,hG,hR⟩ | ⟨j,nv,ns,hB,hn,hR⟩
 ·exact hR.blk.lt
 ·exact hR.blk.lt
theorem Und.start{B:Nat}{S:RS}{w w1:World}{p:Spot}{l:List RTok}(h:RdAt w1 B S)(hk:KeepN B w w1):Und B S w w1 p l (fun j ns=>j=0∧ns=S.ns) :=
 ⟨hk,.inl ⟨0,S.nv,S.ns,⟨rfl,rfl⟩,h⟩⟩
theorem LeftR.at{S:RS}{l:List RTok}(h:LeftR S l){j:Nat}(hj:j≤l.length)(S':RS)(hT:S'.T=S.T)(hk:S'.k=S.k+j):(∃ a,l[j]?=some a∧S'.T[S'.k]?=some a∧∃ r,LeftR S' (a :: r))∨(j=l.length∧∃ E,S'.T[S'.k]?=some ⟨[],E⟩):=by
 have hd:=h.drop hj S' hT hk
 cases hl:l.drop j with
 | nil =>
  rw[hl]at hd
  refine .inr ⟨?_,hd.nil⟩
  have:=congrArg List.length hl
  simp at this
  omega
 | cons a r =>
  rw[hl]at hd
  refine .inl ⟨a, ?_,hd.head,r,hd⟩
  have:=congrArg (fun x=>x[0]?) hl
  simpa using this
theorem take_und{B:Nat}{S:RS}{w w1:World}{p:Spot}{l:List RTok}{G G':Nat→List PNode→Prop}(n:Nat)(hn0:n≠0)(hf:S.f=false)(hl:LeftR S l)(h:Und B S w w1 p l G)
  (H:∀ j ns,G j ns→j≤l.length∧ns.length≤S.ns.length+j∧(∀ a,l[j]?=some a→kindP a.text=n→G' (j+1) ns)∧((∀ a,l[j]?=some a→kindP a.text≠n)→BadS p l j)) :
  Calls Tryz.prog 136 #[.pointer (some ⟨B,0,none⟩),.int .i64 n] w1 fun e w2=>e=.returned (.tuple #[])∧Und B S w w2 p l G'∧KeepN B w1 w2:=by
 rcases h.st with ⟨j,nv,ns,hG,hR⟩ | ⟨j,nv,ns,hB,hn,hR⟩
 ·obtain ⟨h1,h2,h3,h4⟩:=H j ns hG
  rcases hl.at h1 ({ S with k:=S.k+j,nv:=nv,ns:=ns }:RS) rfl rfl with ⟨a,ha,hT,r,hLr⟩ | ⟨hj,E,hT⟩
  ·by_cases hk:kindP a.text=n
   ·refine (take_at hR hLr n hf hk).mono ?_
    rintro e w2 ⟨rfl,hR2,hK2⟩
    exact ⟨rfl,⟨h.kp.trans hK2,.inl ⟨j+1,nv,ns,h3 a ha hk,hR2⟩⟩,hK2⟩
   ·refine (take_not hR hT n (.inr hk)).mono ?_
    rintro e w2 ⟨rfl,hR2,hK2⟩
    exact ⟨rfl,⟨h.kp.trans hK2,.inr ⟨j,nv,ns,h4 (fun a' ha'=>by rw[ha]at ha';cases ha';exact hk),h2,hR2⟩⟩,hK2⟩
  ·refine (take_not hR hT n (.inr (kind_end E n hn0))).mono ?_
   rintro e w2 ⟨rfl,hR2,hK2⟩
   exact ⟨rfl,⟨h.kp.trans hK2,.inr ⟨j,nv,ns,h4 (fun a' ha'=>by rw[List.getElem?_eq_none (by omega)]at ha';cases ha'),h2,hR2⟩⟩,hK2⟩
 ·obtain ⟨t,ht⟩:=hR.cur
  refine (take_not hR ht n (.inl rfl)).mono ?_
  rintro e w2 ⟨rfl,hR2,hK2⟩
  exact ⟨rfl,⟨h.kp.trans hK2,.inr ⟨j,nv,ns,hB,hn,hR2⟩⟩,hK2⟩
theorem current_und{B:Nat}{S:RS}{w w1:World}{p:Spot}{l:List RTok}{G:Nat→List PNode→Prop}(hl:LeftR S l)(h:Und B S w w1 p l G)(H:∀ j ns,G j ns→j≤l.length) :
  Calls Tryz.prog 55 #[.pointer (some ⟨B,0,none⟩)] w1 fun e w2=>∃ t,e=.returned (tokA t)∧Below w1.heap.size w1 w2∧Und B S w w2 p l (fun j ns=>G j ns∧∀ a,l[j]?=some a→a=t):=by
 rcases h.st with ⟨j,nv,ns,hG,hR⟩ | ⟨j,nv,ns,hB,hn,hR⟩
 ·rcases hl.at (H j ns hG) ({ S with k:=S.k+j,nv:=nv,ns:=ns }:RS) rfl rfl with ⟨a,ha,hT,r,hLr⟩ | ⟨hj,E,hT⟩
  ·refine (current_at hR hT).mono ?_
   rintro e w2 ⟨rfl,hb2⟩
   exact ⟨a,rfl,hb2,h.kp.trans (KeepN.of hb2),.inl ⟨j,nv,ns,⟨hG,fun a' ha'=>by rw[ha]at ha';cases ha';rfl⟩,hR.below hb2⟩⟩
  ·refine (current_at hR hT).mono ?_
   rintro e w2 ⟨rfl,hb2⟩
   exact ⟨_,rfl,hb2,h.kp.trans (KeepN.of hb2),.inl ⟨j,nv,ns,⟨hG,fun a' ha'=>by rw[List.getElem?_eq_none (by omega)]at ha';cases ha'⟩,hR.below hb2⟩⟩
 ·obtain ⟨t,ht⟩:=hR.cur
  refine (current_at hR ht).mono ?_
  rintro e w2 ⟨rfl,hb2⟩
  exact ⟨t,rfl,hb2,h.kp.trans (KeepN.of hb2),.inr ⟨j,nv,ns,hB,hn,hR.below hb2⟩⟩
theorem sees_und{B:Nat}{S:RS}{w w1:World}{p:Spot}{l:List RTok}{G:Nat→List PNode→Prop}(n:Nat)(hn0:n≠0)(hf:S.f=false)(hl:LeftR S l)(h:Und B S w w1 p l G)(H:∀ j ns,G j ns→j≤l.length) :
  Calls Tryz.prog 91 #[.pointer (some ⟨B,0,none⟩),.int .i64 n] w1 fun e w2=>∃ b,e=.returned (.bool b)∧Below w1.heap.size w1 w2 ∧
   (b=true→Und B S w w2 p l (fun j ns=>G j ns∧∃ a,l[j]?=some a∧kindP a.text=n))∧(b=false→Und B S w w2 p l (fun j ns=>G j ns∧∀ a,l[j]?=some a→kindP a.text≠n)):=by
 rcases h.st with ⟨j,nv,ns,hG,hR⟩ | ⟨j,nv,ns,hB,hn,hR⟩
 ·rcases hl.at (H j ns hG) ({ S with k:=S.k+j,nv:=nv,ns:=ns }:RS) rfl rfl with ⟨a,ha,hT,r,hLr⟩ | ⟨hj,E,hT⟩
  ·refine (sees_at hR hT n).mono ?_
   rintro e w2 ⟨rfl,hb2⟩
   simp only[hf,Bool.not_false,Bool.true_and]
   refine ⟨_,rfl,hb2,fun hb=>?_,fun hb=>?_⟩
   ·exact ⟨h.kp.trans (KeepN.of hb2),.inl ⟨j,nv,ns,⟨hG,a,ha,by simpa using hb⟩,hR.below hb2⟩⟩
   ·exact ⟨h.kp.trans (KeepN.of hb2),.inl ⟨j,nv,ns,⟨hG,fun a' ha'=>by rw[ha]at ha';cases ha';simpa using hb⟩,hR.below hb2⟩⟩
  ·refine (sees_at hR hT n).mono ?_
   rintro e w2 ⟨rfl,hb2⟩
   simp only[hf,Bool.not_false,Bool.true_and]
   refine ⟨_,rfl,hb2,fun hb=>?_,fun hb=>?_⟩
   ·exact absurd (by simpa using hb) (kind_end E n hn0)
   ·exact ⟨h.kp.trans (KeepN.of hb2),.inl ⟨j,nv,ns,⟨hG,fun a' ha'=>by rw[List.getElem?_eq_none (by omega)]at ha';cases ha'⟩,hR.below hb2⟩⟩
 ·obtain ⟨t,ht⟩:=hR.cur
  refine (sees_at hR ht n).mono ?_
  rintro e w2 ⟨rfl,hb2⟩
  simp only[Bool.not_true,Bool.false_and]
  refine ⟨_,rfl,hb2,fun hb=>(by cases hb),fun hb=>?_⟩
  exact ⟨h.kp.trans (KeepN.of hb2),.inr ⟨j,nv,ns,hB,hn,hR.below hb2⟩⟩
theorem binding_und{B:Nat}{S:RS}{w w1:World}{p:Spot}{l:List RTok}{G:Nat→List PNode→Prop}{G':Nat→Nat→List PNode→Prop}(hf:S.f=false)(hd:S.d=0)(hl:LeftR S l)(h:Und B S w w1 p l G)(b0:Nat)
  (H:∀ j ns,G j ns→j≤l.length∧ns.length≤S.ns.length+j∧(∀ t rest,GotO 0 (l.drop j) t rest→stops 1 rest→G' (ns.length+t.num) (j+t.toks.length) (ns++t.flat ns.length))∧(∀ i,BadV 0 (l.drop j) i→BadS p l (j+i))) :
  Calls Tryz.prog 160 #[.pointer (some ⟨B,0,none⟩),.int .i64 1] w1 fun e w2=>(∃ v:Int,e=.returned (.int .i64 v))∧Und B S w w2 p l (fun j ns=>G' ns.length j ns)∧KeepN B w1 w2:=by
 rcases h.st with ⟨j,nv,ns,hG,hR⟩ | ⟨j,nv,ns,hB,hn,hR⟩
 ·obtain ⟨h1,h2,h3,h4⟩:=H j ns hG
  have hLr:=hl.drop h1 ({ S with k:=S.k+j,nv:=nv,ns:=ns }:RS) rfl rfl
  refine ((reads_all (l.drop j).length).2 B _ w1 (l.drop j) 1 (by omega) (by omega) hR hf hLr (Nat.le_refl _)).mono ?_
  rintro e w2 hout
  refine ⟨hout.val, ?_,hout.1⟩
  obtain ⟨hK2,⟨t,rest,nv2,hG2,⟨_,hs⟩,hR2,_⟩ | ⟨i,nv2,ns2,x,hb,hn2,hR2,_⟩⟩:=hout
  ·refine ⟨h.kp.trans hK2,.inl ⟨j+t.toks.length,nv2,_, ?_,rd_cast hR2 (by simp only;omega) rfl⟩⟩
   have hG2':GotO 0 (l.drop j) t rest:=by rw[← hd];exact hG2
   have:=h3 t rest hG2' hs
   have hlen:(ns++t.flat ns.length).length=ns.length+t.num:=by rw[List.length_append,t.flat_len hG2.wf]
   rw[hlen]
   exact this
  ·have hb':BadV 0 (l.drop j) i:=by rw[← hd];exact hb
   have hn2':ns2.length≤ns.length+i:=hn2
   exact ⟨h.kp.trans hK2,.inr ⟨j+i,nv2,ns2,h4 i hb',by omega,rd_cast hR2 (by simp only;omega) rfl⟩⟩
 ·refine (binding_failed hR rfl 1).mono ?_
  rintro e w2 ⟨rfl,hb2⟩
  exact ⟨⟨0,rfl⟩,⟨h.kp.trans (KeepN.of hb2),.inr ⟨j,nv,ns,hB,hn,hR.below hb2⟩⟩,KeepN.of hb2⟩
end Go.Proofs.YtgfnkeiigjholaaGreatDoor
