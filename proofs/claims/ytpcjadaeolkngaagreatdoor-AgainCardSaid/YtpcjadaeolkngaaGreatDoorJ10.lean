/-
  The program's reader: the walk of readBinding.
-/
import Derived.Test.YtpcjadaeolkngaaGreatDoorJ09
set_option linter.unusedVariables false
set_option linter.unusedSimpArgs false
namespace Go.Proofs.YtpcjadaeolkngaaGreatDoor
open Go.RowKit Go.Deep
set_option maxHeartbeats 1000000 in
set_option maxRecDepth 100000 in
theorem binding_step{m:Nat}(IHo:OpOk m)(IHb:∀ k,k<m→BiOk k):BiOk m:=by
 intro B S w l least h1 h6 h hf hl hn
 have HR:=hideP h
 have HL:=hideP hl
 have hB:=h.blk.lt
 have HF:=hideP hf
 have HIO:=hideP IHo
 have HIB:=hideP IHb
 have htl:=h.tl
 have hnk:=h.nk
 clear h hl hf IHo IHb
 go_enter Tryz.func122,Tryz.ntmps122
 go_wp2_with (first | (go_at_call 140;refine (HIO.out B S _ l HR.out HF.out HL.out hn).mono ?_;rintro e w1 hout;obtain ⟨v,rfl⟩:=hout.val;have HP:=hideP (bi_start (least:=least) h6 hout);clear hout) | (go_at_call 141;refine (binding_in HF.out HL.out HP.out).mono ?_;rintro e w2 ⟨b,rfl,hin,hxx⟩;clear hxx))
 go_loopw [5,6] (fun vl vb wr=>∃ v b:Int,vl=.int .i64 v∧vb=.int .i64 b∧BiIn B S l least w wr v b) (fun _ _ wr=>500-nextOf wr B)
 case atStart=>exact ⟨v,b,rfl,rfl,hin⟩
 case round =>
  clear HP hin
  obtain ⟨v,b,rfl,rfl,hin⟩:=hrel
  have HI:=hideP hin
  by_cases hb:b=0∨b<(least:Int)
  ·have hbt:(b != 0)=true→decide ((least:Int)≤b)=false:=by intro e;simp at e ⊢;omega
   by_cases hb0:b=0
   ·subst hb0
    clear hbt hin hb
    go_wp2
    go_ret
    exact HI.out.out (.inl rfl)
   ·have e1:(b != 0)=true:=by simpa using hb0
    have e2:=hbt e1
    clear hbt hin
    go_wp2
    go_ret
    exact HI.out.out hb
  ·have hb0:b≠0:=fun e=>hb (.inl e)
   obtain ⟨t,a,r,nv,hG,hlv,hbl,hbp,hR,rfl,rfl⟩:=hin.more hb0
   have e1:(((bindsT a.text:Nat):Int) != 0)=true:=by simp;omega
   have e2:decide ((least:Int)≤((bindsT a.text:Nat):Int))=true:=by simp;omega
   have e3:least≤bindsT a.text:=by omega
   have hb5:=bindsT_le a.text
   have hle:(least:Int)≤((bindsT a.text:Nat):Int):=by omega
   have HLE:=hideP hle
   have HG:=hideP hG
   have HBL:=hideP hbl
   have HBP:=hideP hbp
   have HR1:=hideP hR
   have HLa:=hideP (HL.out.behind hG ({ S with k:=S.k+t.toks.length,nv:=nv,ns:=S.ns++t.flat S.ns.length }:RS) rfl rfl)
   have hrl:r.length<m:=by have hh:=hG.here;have hp:=t.toks_pos;simp only[List.length_cons]at hh;omega
   have hBr:=hR.blk.lt
   have hnx:=hR.nextOf
   have hkt:=hR.kt
   have HNX:=hideP hnx
   clear hin hb hb0 hG hlv hbl hbp hR hle hnx
   go_wp2_with (first | (go_at_call 43;refine (current_at HR1.out HLa.out.head).mono ?_;rintro e w3 ⟨rfl,hb3⟩;unfold tokA;have HW:=hideP (RdW.start (HR1.out.below hb3) hb3 a);clear hb3) | (go_at_call 102;refine (take_at HW.out.rd HLa.out _ HF.out rfl).mono ?_;rintro e w4 ⟨rfl,hR4,hK4⟩;replace HW:=hideP (HW.out.step hR4 hK4);clear hR4 hK4) | (go_at_call 122;refine (HIB.out r.length hrl B _ _ r (bindsT a.text+1) (by omega) (by omega) HW.out.rd HF.out (HLa.out.next _ rfl rfl) (Nat.le_refl _)).mono ?_;rintro e w5 hout;obtain ⟨v5,rfl⟩:=hout.val;have HT5:=hideP (HW.out.tk.keepN hout.1 HW.out.ne (by decide));have q0:=HT5.out.cell 0;have q1:=HT5.out.cell 1;have q2:=HT5.out.cell 2;simp only[List.getElem?_toArray,List.getElem?_cons_zero,List.getElem?_cons_succ]at q0 q1 q2;have HO5:=hideP hout;clear hout))
   go_wp2_with (first | (go_at_call 142;refine (add_in HL.out hnk HG.out HLE.out HBL.out HBP.out (HI.out.kp.trans HW.out.kp) HO5.out).mono ?_;rintro e w6 ⟨x,rfl,hp6,hx6⟩;have HP6:=hideP hp6;clear hp6) | (go_at_call 141;refine (binding_in HF.out HL.out HP6.out).mono ?_;rintro e w7 ⟨b7,rfl,hin7,hx7⟩))
   have HX:=hideP (And.intro hx6 hx7)
   have HI7:=hideP hin7
   clear hx6 hx7 hin7
   go_roundw
   case rel=>exact ⟨x,b7,rfl,rfl,HI7.out⟩
   case measure =>
    have g1:=HX.out.1
    have g2:=HX.out.2
    have g3:nextOf wr B=S.k+t.toks.length:=HNX.out
    have g4:S.k+t.toks.length<S.T.length:=hkt
    omega
theorem reads_all:∀ n,OpOk n∧BiOk n
 | 0=>by
  have h:OpOk 0:=by
   intro B S w l h hf hl hn
   cases l with
   | cons a r=>simp at hn
   | nil =>
    obtain ⟨E,hE⟩:=hl.nil
    exact operand_none h hf hE (by rw[show (⟨[],E⟩:RTok).text=[] from rfl,kindP_nil];decide) (kind_end E 28 (by omega)) (kind_end E 9 (by omega)) (fun e=>absurd e (kind_end E 32 (by omega))) (BadV.none fun a r e=>by cases e)
  exact ⟨h,binding_step h fun k hk=>by omega⟩
 | n+1=>by
  have ih:=reads_all n
  have ho:=operand_step ih.1 (brackets_any ih.2)
  refine ⟨ho,binding_step ho fun k hk B S w l least h1 h6 h hf hl hn=>?_⟩
  exact ih.2 B S w l least h1 h6 h hf hl (by omega)
def expA(e:PExp):Value:=.agg #[.int .i64 e.place,.int .i64 e.fr,.int .i64 e.behind]
structure Und(B:Nat)(S:RS)(w wr:World)(p:Spot)(l:List RTok)(G:Nat→List PNode→Prop):Prop where
 kp:KeepN B w wr
 st:(∃ j nv ns,G j ns∧RdAt wr B { S with k:=S.k+j,nv:=nv,ns:=ns }) ∨
  (∃ j nv ns,BadS p l j∧ns.length≤S.ns.length+j∧RdAt wr B { S with k:=S.k+j,f:=true,nv:=nv,ns:=ns })
theorem Und.below{B:Nat}{S:RS}{w wr w':World}{p:Spot}{l:List RTok}{G:Nat→List PNode→Prop}(h:Und B S w wr p l G)(hb:Below wr.heap.size wr w'):Und B S w w' p l G:=by
 refine ⟨h.kp.trans (KeepN.of hb), ?_⟩
 rcases h.st with ⟨j,nv,ns,hG,hR⟩ | ⟨j,nv,ns,hB,hn,hR⟩
 ·exact .inl ⟨j,nv,ns,hG,hR.below hb⟩
 ·exact .inr ⟨j,nv,ns,hB,hn,hR.below hb⟩
theorem Und.mono{B:Nat}{S:RS}{w wr:World}{p:Spot}{l:List RTok}{G G':Nat→List PNode→Prop}(h:Und B S w wr p l G)(H:∀ j ns,G j ns→G' j ns):Und B S w wr p l G':=by
 refine ⟨h.kp, ?_⟩
 rcases h.st with ⟨j,nv,ns,hG,hR⟩ | h
 ·exact .inl ⟨j,nv,ns,H j ns hG,hR⟩
 ·exact .inr h
theorem Und.lt{B:Nat}{S:RS}{w wr:World}{p:Spot}{l:List RTok}{G:Nat→List PNode→Prop}(h:Und B S w wr p l G):B<wr.heap.size:=by
 rcases h.st with ⟨j,nv,ns,hG,hR⟩ | ⟨j,nv,ns,hB,hn,hR⟩
 ·exact hR.blk.lt
 ·exact hR.blk.lt
theorem Und.start{B:Nat}{S:RS}{w w1:World}{p:Spot}{l:List RTok}(h:RdAt w1 B S)(hk:KeepN B w w1):Und B S w w1 p l (fun j ns=>j=0∧ns=S.ns) :=
 ⟨hk,.inl ⟨0,S.nv,S.ns,⟨rfl,rfl⟩,h⟩⟩
theorem LeftR.at{S:RS}{l:List RTok}(h:LeftR S l){j:Nat}(hj:j≤l.length)(S':RS)(hT:S'.T=S.T)(hk:S'.k=S.k+j):(∃ a,l[j]?=some a∧S'.T[S'.k]?=some a∧∃ r,LeftR S' (a :: r))∨(j=l.length∧∃ E,S'.T[S'.k]?=some ⟨[],E⟩):=by
 have hd:=h.drop hj S' hT hk
 cases hl:l.drop j with
 | nil =>
  rw[hl]at hd
  refine .inr ⟨?_,hd.nil⟩
  have:=congrArg List.length hl
  simp at this
  omega
 | cons a r =>
  rw[hl]at hd
  refine .inl ⟨a, ?_,hd.head,r,hd⟩
  have:=congrArg (fun x=>x[0]?) hl
  simpa using this
theorem take_und{B:Nat}{S:RS}{w w1:World}{p:Spot}{l:List RTok}{G G':Nat→List PNode→Prop}(n:Nat)(hn0:n≠0)(hf:S.f=false)(hl:LeftR S l)(h:Und B S w w1 p l G)
  (H:∀ j ns,G j ns→j≤l.length∧ns.length≤S.ns.length+j∧(∀ a,l[j]?=some a→kindP a.text=n→G' (j+1) ns)∧((∀ a,l[j]?=some a→kindP a.text≠n)→BadS p l j)) :
  Calls Tryz.prog 102 #[.pointer (some ⟨B,0,none⟩),.int .i64 n] w1 fun e w2=>e=.returned (.tuple #[])∧Und B S w w2 p l G'∧KeepN B w1 w2:=by
 rcases h.st with ⟨j,nv,ns,hG,hR⟩ | ⟨j,nv,ns,hB,hn,hR⟩
 ·obtain ⟨h1,h2,h3,h4⟩:=H j ns hG
  rcases hl.at h1 ({ S with k:=S.k+j,nv:=nv,ns:=ns }:RS) rfl rfl with ⟨a,ha,hT,r,hLr⟩ | ⟨hj,E,hT⟩
  ·by_cases hk:kindP a.text=n
   ·refine (take_at hR hLr n hf hk).mono ?_
    rintro e w2 ⟨rfl,hR2,hK2⟩
    exact ⟨rfl,⟨h.kp.trans hK2,.inl ⟨j+1,nv,ns,h3 a ha hk,hR2⟩⟩,hK2⟩
   ·refine (take_not hR hT n (.inr hk)).mono ?_
    rintro e w2 ⟨rfl,hR2,hK2⟩
    exact ⟨rfl,⟨h.kp.trans hK2,.inr ⟨j,nv,ns,h4 (fun a' ha'=>by rw[ha]at ha';cases ha';exact hk),h2,hR2⟩⟩,hK2⟩
  ·refine (take_not hR hT n (.inr (kind_end E n hn0))).mono ?_
   rintro e w2 ⟨rfl,hR2,hK2⟩
   exact ⟨rfl,⟨h.kp.trans hK2,.inr ⟨j,nv,ns,h4 (fun a' ha'=>by rw[List.getElem?_eq_none (by omega)]at ha';cases ha'),h2,hR2⟩⟩,hK2⟩
 ·obtain ⟨t,ht⟩:=hR.cur
  refine (take_not hR ht n (.inl rfl)).mono ?_
  rintro e w2 ⟨rfl,hR2,hK2⟩
  exact ⟨rfl,⟨h.kp.trans hK2,.inr ⟨j,nv,ns,hB,hn,hR2⟩⟩,hK2⟩
theorem current_und{B:Nat}{S:RS}{w w1:World}{p:Spot}{l:List RTok}{G:Nat→List PNode→Prop}(hl:LeftR S l)(h:Und B S w w1 p l G)(H:∀ j ns,G j ns→j≤l.length) :
  Calls Tryz.prog 43 #[.pointer (some ⟨B,0,none⟩)] w1 fun e w2=>∃ t,e=.returned (tokA t)∧Below w1.heap.size w1 w2∧Und B S w w2 p l (fun j ns=>G j ns∧∀ a,l[j]?=some a→a=t):=by
 rcases h.st with ⟨j,nv,ns,hG,hR⟩ | ⟨j,nv,ns,hB,hn,hR⟩
 ·rcases hl.at (H j ns hG) ({ S with k:=S.k+j,nv:=nv,ns:=ns }:RS) rfl rfl with ⟨a,ha,hT,r,hLr⟩ | ⟨hj,E,hT⟩
  ·refine (current_at hR hT).mono ?_
   rintro e w2 ⟨rfl,hb2⟩
   exact ⟨a,rfl,hb2,h.kp.trans (KeepN.of hb2),.inl ⟨j,nv,ns,⟨hG,fun a' ha'=>by rw[ha]at ha';cases ha';rfl⟩,hR.below hb2⟩⟩
  ·refine (current_at hR hT).mono ?_
   rintro e w2 ⟨rfl,hb2⟩
   exact ⟨_,rfl,hb2,h.kp.trans (KeepN.of hb2),.inl ⟨j,nv,ns,⟨hG,fun a' ha'=>by rw[List.getElem?_eq_none (by omega)]at ha';cases ha'⟩,hR.below hb2⟩⟩
 ·obtain ⟨t,ht⟩:=hR.cur
  refine (current_at hR ht).mono ?_
  rintro e w2 ⟨rfl,hb2⟩
  exact ⟨t,rfl,hb2,h.kp.trans (KeepN.of hb2),.inr ⟨j,nv,ns,hB,hn,hR.below hb2⟩⟩
theorem sees_und{B:Nat}{S:RS}{w w1:World}{p:Spot}{l:List RTok}{G:Nat→List PNode→Prop}(n:Nat)(hn0:n≠0)(hf:S.f=false)(hl:LeftR S l)(h:Und B S w w1 p l G)(H:∀ j ns,G j ns→j≤l.length) :
  Calls Tryz.prog 67 #[.pointer (some ⟨B,0,none⟩),.int .i64 n] w1 fun e w2=>∃ b,e=.returned (.bool b)∧Below w1.heap.size w1 w2 ∧
   (b=true→Und B S w w2 p l (fun j ns=>G j ns∧∃ a,l[j]?=some a∧kindP a.text=n))∧(b=false→Und B S w w2 p l (fun j ns=>G j ns∧∀ a,l[j]?=some a→kindP a.text≠n)):=by
 rcases h.st with ⟨j,nv,ns,hG,hR⟩ | ⟨j,nv,ns,hB,hn,hR⟩
 ·rcases hl.at (H j ns hG) ({ S with k:=S.k+j,nv:=nv,ns:=ns }:RS) rfl rfl with ⟨a,ha,hT,r,hLr⟩ | ⟨hj,E,hT⟩
  ·refine (sees_at hR hT n).mono ?_
   rintro e w2 ⟨rfl,hb2⟩
   simp only[hf,Bool.not_false,Bool.true_and]
   refine ⟨_,rfl,hb2,fun hb=>?_,fun hb=>?_⟩
   ·exact ⟨h.kp.trans (KeepN.of hb2),.inl ⟨j,nv,ns,⟨hG,a,ha,by simpa using hb⟩,hR.below hb2⟩⟩
   ·exact ⟨h.kp.trans (KeepN.of hb2),.inl ⟨j,nv,ns,⟨hG,fun a' ha'=>by rw[ha]at ha';cases ha';simpa using hb⟩,hR.below hb2⟩⟩
  ·refine (sees_at hR hT n).mono ?_
   rintro e w2 ⟨rfl,hb2⟩
   simp only[hf,Bool.not_false,Bool.true_and]
   refine ⟨_,rfl,hb2,fun hb=>?_,fun hb=>?_⟩
   ·exact absurd (by simpa using hb) (kind_end E n hn0)
   ·exact ⟨h.kp.trans (KeepN.of hb2),.inl ⟨j,nv,ns,⟨hG,fun a' ha'=>by rw[List.getElem?_eq_none (by omega)]at ha';cases ha'⟩,hR.below hb2⟩⟩
 ·obtain ⟨t,ht⟩:=hR.cur
  refine (sees_at hR ht n).mono ?_
  rintro e w2 ⟨rfl,hb2⟩
  simp only[Bool.not_true,Bool.false_and]
  refine ⟨_,rfl,hb2,fun hb=>(by cases hb),fun hb=>?_⟩
  exact ⟨h.kp.trans (KeepN.of hb2),.inr ⟨j,nv,ns,hB,hn,hR.below hb2⟩⟩
theorem binding_und{B:Nat}{S:RS}{w w1:World}{p:Spot}{l:List RTok}{G:Nat→List PNode→Prop}{G':Nat→Nat→List PNode→Prop}(hf:S.f=false)(hd:S.d=0)(hl:LeftR S l)(h:Und B S w w1 p l G)(b0:Nat)
  (H:∀ j ns,G j ns→j≤l.length∧ns.length≤S.ns.length+j∧(∀ t rest,GotO 0 (l.drop j) t rest→stops 1 rest→G' (ns.length+t.num) (j+t.toks.length) (ns++t.flat ns.length))∧(∀ i,BadV 0 (l.drop j) i→BadS p l (j+i))) :
  Calls Tryz.prog 122 #[.pointer (some ⟨B,0,none⟩),.int .i64 1] w1 fun e w2=>(∃ v:Int,e=.returned (.int .i64 v))∧Und B S w w2 p l (fun j ns=>G' ns.length j ns)∧KeepN B w1 w2:=by
 rcases h.st with ⟨j,nv,ns,hG,hR⟩ | ⟨j,nv,ns,hB,hn,hR⟩
 ·obtain ⟨h1,h2,h3,h4⟩:=H j ns hG
  have hLr:=hl.drop h1 ({ S with k:=S.k+j,nv:=nv,ns:=ns }:RS) rfl rfl
  refine ((reads_all (l.drop j).length).2 B _ w1 (l.drop j) 1 (by omega) (by omega) hR hf hLr (Nat.le_refl _)).mono ?_
  rintro e w2 hout
  refine ⟨hout.val, ?_,hout.1⟩
  obtain ⟨hK2,⟨t,rest,nv2,hG2,⟨_,hs⟩,hR2,_⟩ | ⟨i,nv2,ns2,x,hb,hn2,hR2,_⟩⟩:=hout
  ·refine ⟨h.kp.trans hK2,.inl ⟨j+t.toks.length,nv2,_, ?_,rd_cast hR2 (by simp only;omega) rfl⟩⟩
   have hG2':GotO 0 (l.drop j) t rest:=by rw[← hd];exact hG2
   have:=h3 t rest hG2' hs
   have hlen:(ns++t.flat ns.length).length=ns.length+t.num:=by rw[List.length_append,t.flat_len hG2.wf]
   rw[hlen]
   exact this
  ·have hb':BadV 0 (l.drop j) i:=by rw[← hd];exact hb
   have hn2':ns2.length≤ns.length+i:=hn2
   exact ⟨h.kp.trans hK2,.inr ⟨j+i,nv2,ns2,h4 i hb',by omega,rd_cast hR2 (by simp only;omega) rfl⟩⟩
 ·refine (binding_failed hR rfl 1).mono ?_
  rintro e w2 ⟨rfl,hb2⟩
  exact ⟨⟨0,rfl⟩,⟨h.kp.trans (KeepN.of hb2),.inr ⟨j,nv,ns,hB,hn,hR.below hb2⟩⟩,KeepN.of hb2⟩
theorem Und.nodes{B:Nat}{S:RS}{w wr:World}{p:Spot}{l:List RTok}{G:Nat→List PNode→Prop}(h:Und B S w wr p l G):∃ N a c,wr.cell? ⟨B,4,none⟩=some (.slice a N c)∧N≤401∧Und B S w wr p l (fun j ns=>G j ns∧ns.length=N):=by
 have key:∀ S':RS,RdAt wr B S'→∃ a c,wr.cell? ⟨B,4,none⟩=some (.slice a S'.ns.length c)∧S'.ns.length≤401:=by
  intro S' hR
  have c4:=hR.blk.cell 4
  simp only[List.getElem?_toArray,List.getElem?_cons_zero,List.getElem?_cons_succ]at c4
  have h1:=hR.nk
  have h2:=hR.kt
  have h3:=hR.tl
  obtain ⟨a,c,e⟩:=(reads_of_own hR.ond).shape
  exact ⟨a,c,by rw[c4,e],by omega⟩
 rcases h.st with ⟨j,nv,ns,hG,hR⟩ | ⟨j,nv,ns,hB,hn,hR⟩
 ·obtain ⟨a,c,h1,h2⟩:=key _ hR
  exact ⟨ns.length,a,c,h1,h2,h.kp,.inl ⟨j,nv,ns,⟨hG,rfl⟩,hR⟩⟩
 ·obtain ⟨a,c,h1,h2⟩:=key _ hR
  exact ⟨ns.length,a,c,h1,h2,h.kp,.inr ⟨j,nv,ns,hB,hn,hR⟩⟩
theorem firstAt_head{d j:Nat}{l rest:List RTok}{t:Tr}(h:GotO d (l.drop j) t rest):∃ a,l[j]?=some a∧firstAt t=a.at':=by
 have hp:=t.toks_pos
 have h0:=congrArg (fun x=>x[0]?) h.eq
 simp only[List.getElem?_drop,Nat.add_zero]at h0
 rw[List.getElem?_append_left (by omega)]at h0
 refine ⟨t.toks[0]'hp,h0.trans (List.getElem?_eq_getElem hp), ?_⟩
 unfold firstAt
 rw[List.getElem?_eq_getElem hp]
 rfl
theorem KeepN.setNew{B:Nat}{w w':World}(h:KeepN B w w'){b i:Nat}{v:Value}(hb:w.heap.size≤b):KeepN B w (w'.setCell ⟨b,i,none⟩ v):=by
 have g:=(Below.refl b w').setCell (p:=⟨b,i,none⟩) (Nat.le_refl _) v
 refine ⟨g.os.trans h.os,g.tape.trans h.tape,g.output.trans h.output,Nat.le_trans h.size g.size,fun b' o h1 h2 h3=>?_⟩
 have hlt:=(Array.getElem?_eq_some_iff.1 h1).1
 rw[Below.heap_setCell _ _ _ _ (by simp only;omega)]
 exact h.block b' o h1 h2 h3
theorem own_set2{w:World}{base b i s n:Nat}{e:TypeId}{v u:Value}{xs:List Value}(h:w.ownsRow base e s v n xs)(hne:v.ownBlock≠some b):(w.setCell ⟨b,i,none⟩ u).ownsRow base e s v n xs:=by
 refine ⟨h.1, ?_⟩
 rcases h.2 with hn | ⟨g,cap,cur,rfl,hbg,hg,r⟩
 ·exact .inl hn
 ·refine .inr ⟨g,cap,cur,rfl,hbg, ?_,r⟩
  have hgb:g≠b:=fun e=>hne (by rw[e];rfl)
  rw[Below.heap_setCell _ _ _ _ hgb]
  exact hg
theorem RdAt.other{w:World}{B:Nat}{S:RS}(h:RdAt w B S){b i:Nat}{cs:Array Value}{t:TypeId}(hb:Blk w b cs t)(hne:b≠B)(ht:t≠101∧t≠154∧t≠107)(hr:S.rv.ownBlock≠some b)(v:Value):RdAt (w.setCell ⟨b,i,none⟩ v) B S :=
 ⟨h.blk.other _ _ (by simp only;exact fun e=>hne e.symm),own_set h.otk hb ht.1,own_set h.ond hb ht.2.1,own_set h.olt hb ht.2.2,own_set2 h.orl hr,h.kt,h.tl,h.nk,h.dl⟩
theorem Und.other{B:Nat}{S:RS}{w wr:World}{p:Spot}{l:List RTok}{G:Nat→List PNode→Prop}(h:Und B S w wr p l G){b i:Nat}{cs:Array Value}{t:TypeId}(hb:Blk wr b cs t)(hne:b≠B)(ht:t≠101∧t≠154∧t≠107)(hr:S.rv.ownBlock≠some b)(hw:w.heap.size≤b)(v:Value):Und B S w (wr.setCell ⟨b,i,none⟩ v) p l G:=by
 refine ⟨h.kp.setNew hw, ?_⟩
 rcases h.st with ⟨j,nv,ns,hG,hR⟩ | ⟨j,nv,ns,hB,hn,hR⟩
 ·exact .inl ⟨j,nv,ns,hG,hR.other hb hne ht hr v⟩
 ·exact .inr ⟨j,nv,ns,hB,hn,hR.other hb hne ht hr v⟩
set_option maxHeartbeats 1000000 in
set_option maxRecDepth 100000 in
theorem readExpr_und{B:Nat}{S:RS}{w w1:World}{p:Spot}{l:List RTok}{G:Nat→List PNode→Prop}{G':PExp→Nat→List PNode→Prop}(hrv:∀ b,S.rv.ownBlock=some b→b<w.heap.size)(hf:S.f=false)(hd:S.d=0)(hl:LeftR S l)(h:Und B S w w1 p l G)
  (H:∀ j ns,G j ns→j≤l.length∧ns.length≤S.ns.length+j∧(∀ t rest,GotO 0 (l.drop j) t rest→stops 1 rest→G' (layE ns.length t) (j+t.toks.length) (ns++t.flat ns.length))∧(∀ i,BadV 0 (l.drop j) i→BadS p l (j+i))) :
  Calls Tryz.prog 103 #[.pointer (some ⟨B,0,none⟩)] w1 fun e w2=>∃ pe,e=.returned (expA pe)∧Und B S w w2 p l (G' pe)∧KeepN B w1 w2:=by
 have hB:=h.lt
 have HRV:Hid (S.rv.ownBlock≠some w1.heap.size):=fun e=>by have:=hrv _ e;have:=h.kp.size;omega
 have hws:=h.kp.size
 clear hrv
 have HF:=hideP hf
 have HD:=hideP hd
 have HL:=hideP hl
 have HH:=hideP H
 have HU:=hideP (h.below (new_below w1 (.cells #[.int .i64 0,.int .i64 0,.int .i64 0] 105)))
 have HX:=hideP (Blk.new w1 #[.int .i64 0,.int .i64 0,.int .i64 0] 105)
 have HK:=hideP (KeepN.of (B:=B) (new_below w1 (.cells #[.int .i64 0,.int .i64 0,.int .i64 0] 105)))
 have hne:w1.heap.size≠B:=by omega
 clear h hf hd hl H
 go_enter Tryz.func103,Tryz.ntmps103
 go_wp2_with (go_at_call 43;refine (current_und HL.out HU.out (fun j ns hG=>(HH.out j ns hG).1)).mono ?_;rintro e w2 ⟨tk,rfl,hb2,hu2⟩;unfold tokA;replace HK:=hideP (HK.out.trans (KeepN.of hb2));replace HX:=hideP (HX.out.below hb2 HX.out.lt);obtain ⟨N,na,nc,c4,hN,hu4⟩:=hu2.nodes;have HU4:=hideP (hu4.below (new_below w2 (.cells #[.int .i64 (kindP tk.text),.int .i64 tk.at',.string (bsOf tk.text)] 101)));have hB2:=hu2.lt;have HT:=hideP (Blk.new w2 #[.int .i64 (kindP tk.text),.int .i64 tk.at',.string (bsOf tk.text)] 101);replace HX:=hideP (HX.out.alloc (.cells #[.int .i64 (kindP tk.text),.int .i64 tk.at',.string (bsOf tk.text)] 101));replace HK:=hideP (HK.out.trans (KeepN.of (new_below w2 (.cells #[.int .i64 (kindP tk.text),.int .i64 tk.at',.string (bsOf tk.text)] 101))));clear hb2 hu2 hu4 HU)
 have hne2:w2.heap.size≠B:=by omega
 have HG:Hid (∀ j ns,((G j ns∧∀ a,l[j]?=some a→a=tk)∧ns.length=N)→j≤l.length∧ns.length≤S.ns.length+j∧(∀ t rest,GotO 0 (l.drop j) t rest→stops 1 rest→(fun m j ns=>G' ⟨tk.at',N,m⟩ j ns) (ns.length+t.num) (j+t.toks.length) (ns++t.flat ns.length))∧(∀ i,BadV 0 (l.drop j) i→BadS p l (j+i))):=by
  rintro j ns ⟨⟨hG,ht⟩,hn⟩
  obtain ⟨h1,h2,h3,h4⟩:=HH.out j ns hG
  refine ⟨h1,h2,fun t rest g1 g2=>?_,h4⟩
  have:=h3 t rest g1 g2
  obtain ⟨a,ha,hfa⟩:=firstAt_head g1
  rw[layE,hfa,ht a ha,hn]at this
  simp only[hn]
  exact this
 go_wp2_with (go_at_call 122;refine (binding_und (G':=fun m j ns=>G' ⟨tk.at',N,m⟩ j ns) HF.out HD.out HL.out HU4.out 0 HG.out).mono ?_;rintro e w3 ⟨⟨v3,rfl⟩,hu3,hk3⟩;have HT3:=hideP (HT.out.keepN hk3 hne2 (by decide));have HX3:=hideP (HX.out.keepN hk3 hne (by decide));have HK3:=hideP (HK.out.trans hk3);have t1:=HT3.out.cell 1;have x0:=HX3.out.cell 0;have x1:=HX3.out.cell 1;have x2:=HX3.out.cell 2;have xf:=HX3.out.free;obtain ⟨N2,na2,nc2,c42,hN2,hu5⟩:=hu3.nodes;have HU5:=hideP hu5;have hB3:=hu3.lt;clear hu3 hu5 hk3 c4;simp only[List.getElem?_toArray,List.getElem?_cons_zero,List.getElem?_cons_succ]at t1 x0 x1 x2)
 go_region
 all_goals
  have U1:=HU5.out.other (i:=0) HX3.out hne ⟨by decide,by decide,by decide⟩ HRV.out hws (.int .i64 tk.at')
  have U2:=U1.other (i:=1) (HX3.out.set 0 (.int .i64 tk.at')) hne ⟨by decide,by decide,by decide⟩ HRV.out hws (.int .i64 N)
  have U3:=U2.other (i:=2) ((HX3.out.set 0 (.int .i64 tk.at')).set 1 (.int .i64 N)) hne ⟨by decide,by decide,by decide⟩ HRV.out hws (.int .i64 N2)
  have HE:=hideP (U3.below (below_drewN (Below.refl _ _) 1))
  have HE2:=hideP ((((HK3.out.setNew (i:=0) (v:=.int .i64 tk.at') (Nat.le_refl _)).setNew (i:=1) (v:=.int .i64 N) (Nat.le_refl _)).setNew (i:=2) (v:=.int .i64 N2) (Nat.le_refl _)).trans (KeepN.of (below_drewN (Below.refl _ _) 1)))
  clear U1 U2 U3
  have hbx:=(((HX3.out.set 0 (.int .i64 tk.at')).set 1 (.int .i64 N)).set 2 (.int .i64 N2)).drew
  have g0:=hbx.cell 0
  have g1:=hbx.cell 1
  have g2:=hbx.cell 2
  clear hbx
  go_wp2
  exact bodyPost_ret (v:=.agg #[.int .i64 tk.at',.int .i64 N,.int .i64 N2]) (by simp[results,Tryz.results103,go_sem,g0,g1,g2]) rfl ⟨⟨tk.at',N,N2⟩,rfl,HE.out.mono (fun j ns ⟨h1,h2⟩=>by rw[h2]at h1;exact h1),HE2.out⟩
theorem Und.any{B:Nat}{S:RS}{w wr:World}{p:Spot}{l:List RTok}{G:Nat→List PNode→Prop}(h:Und B S w wr p l G):∃ S',RdAt wr B S'∧S'.lv=S.lv∧S'.rv=S.rv∧S'.ls=S.ls∧S'.rs=S.rs∧((∃ j nv ns,G j ns∧S'={ S with k:=S.k+j,nv:=nv,ns:=ns })∨(∃ j nv ns,BadS p l j∧S'={ S with k:=S.k+j,f:=true,nv:=nv,ns:=ns })):=by
  rcases h.st with ⟨j,nv,ns,hG,hR⟩ | ⟨j,nv,ns,hB,hn,hR⟩
  · exact ⟨_,hR,rfl,rfl,rfl,rfl,.inl ⟨j,nv,ns,hG,rfl⟩⟩
  · exact ⟨_,hR,rfl,rfl,rfl,rfl,.inr ⟨j,nv,ns,hB,rfl⟩⟩
theorem cellsLt_snoc(l:List PLet)(n:PLet):cellsLt (l++[n])=cellsLt l++cellL n:=by simp[cellsLt]
theorem cellsU_snoc(l:List PRule)(n:PRule):cellsU (l++[n])=cellsU l++cellU n:=by simp[cellsU]
theorem one_let(n:PLet):∀ u∈cellL n,u.oneCell'=true:=by
  intro u hu
  simp[cellL]at hu
  rcases hu with rfl | rfl | rfl | rfl | rfl | rfl <;> rfl
theorem one_rule(n:PRule):∀ u∈cellU n,u.oneCell'=true:=by
  intro u hu
  simp[cellU]at hu
  rcases hu with rfl | rfl | rfl | rfl | rfl | rfl | rfl | rfl <;> rfl
theorem rd_let{w w3:World}{B:Nat}{S:RS}{n:PLet}{v:Value}(h:RdAt w B S)(ho:w3.ownsRow (B+1) 107 6 v (S.ls.length+1) (cellsLt S.ls++cellL n))(hg:w.grownBy w3 S.lv.ownBlock) :
    RdAt (w3.setCell ⟨B,5,none⟩ v) B { S with lv:=v,ls:=S.ls++[n] }∧Below B w (w3.setCell ⟨B,5,none⟩ v):=by
  have hneB:some B≠S.lv.ownBlock:=by intro e;have:=(h.olt.lt B e.symm).1;omega
  have hb:Blk w3 B #[S.tv,.int .i64 S.k,.int .i64 S.d,.bool S.f,S.nv,S.lv,S.rv] 99:=by
    unfold Blk;rw[hg.block B h.blk.lt hneB];exact h.blk
  have hlt:=h.blk.lt
  refine ⟨⟨hb.set 5 v,own_set (h.otk.kept hg (own_ne h.otk h.olt (by decide))) hb (by decide),own_set (h.ond.kept hg (own_ne h.ond h.olt (by decide))) hb (by decide), ?_,own_set (h.orl.kept hg (own_ne h.orl h.olt (by decide))) hb (by decide),h.kt,h.tl,h.nk,h.dl⟩, ?_⟩
  · have:=own_set (i:=5) (u:=v) ho hb (by decide)
    simpa[cellsLt_snoc] using this
  · exact ((Below.refl B w).grown hg (by omega) (fun k hk=>by have:=(h.olt.lt k hk).1;omega)).setCell (p:=⟨B,5,none⟩) (Nat.le_refl _) v
theorem rd_rule{w w3:World}{B:Nat}{S:RS}{n:PRule}{v:Value}(h:RdAt w B S)(ho:w3.ownsRow (B+1) 110 8 v (S.rs.length+1) (cellsU S.rs++cellU n))(hg:w.grownBy w3 S.rv.ownBlock) :
    RdAt (w3.setCell ⟨B,6,none⟩ v) B { S with rv:=v,rs:=S.rs++[n] }∧Below B w (w3.setCell ⟨B,6,none⟩ v):=by
  have hneB:some B≠S.rv.ownBlock:=by intro e;have:=(h.orl.lt B e.symm).1;omega
  have hb:Blk w3 B #[S.tv,.int .i64 S.k,.int .i64 S.d,.bool S.f,S.nv,S.lv,S.rv] 99:=by
    unfold Blk;rw[hg.block B h.blk.lt hneB];exact h.blk
  have hlt:=h.blk.lt
  refine ⟨⟨hb.set 6 v,own_set (h.otk.kept hg (own_ne h.otk h.orl (by decide))) hb (by decide),own_set (h.ond.kept hg (own_ne h.ond h.orl (by decide))) hb (by decide),own_set (h.olt.kept hg (own_ne h.olt h.orl (by decide))) hb (by decide), ?_,h.kt,h.tl,h.nk,h.dl⟩, ?_⟩
  · have:=own_set (i:=6) (u:=v) ho hb (by decide)
    simpa[cellsU_snoc] using this
  · exact ((Below.refl B w).grown hg (by omega) (fun k hk=>by have:=(h.orl.lt k hk).1;omega)).setCell (p:=⟨B,6,none⟩) (Nat.le_refl _) v
theorem Tryz.infoLet:(Tryz.prog.info? 107).map (fun i=>(i.zero,i.size,i.bytes))=some (some (.agg #[.int .i64 0,.int .i64 0,.string ⟨#[]⟩,.int .i64 0,.int .i64 0,.int .i64 0]),6,56):=by kernel_rfl
theorem Tryz.infoRule:(Tryz.prog.info? 110).map (fun i=>(i.zero,i.size,i.bytes))=some (some (.agg #[.bool false,.int .i64 0,.int .i64 0,.int .i64 0,.bool false,.int .i64 0,.int .i64 0,.int .i64 0]),8,64):=by kernel_rfl
def LetOut(B:Nat)(S:RS)(l:List RTok)(w w':World):Prop :=
  Below B w w' ∧
  ((∃ s rest nv lv,GotS ⟨0,0,0⟩ l s rest ⟨0,0,0⟩∧s.isLet=true∧RdAt w' B { S with k:=S.k+s.toks.length,nv:=nv,lv:=lv,ns:=S.ns++s.nodes S.ns.length,ls:=S.ls++s.lets S.ns.length }) ∨
   (∃ j nv lv ns n,BadS ⟨0,0,0⟩ l j∧RdAt w' B { S with k:=S.k+j,f:=true,nv:=nv,lv:=lv,ns:=ns,ls:=S.ls++[n] }))
def G2(S:RS)(l:List RTok)(tk:RTok)(j:Nat)(ns:List PNode):Prop:=j=2∧ns=S.ns∧l[1]?=some tk∧nameT tk.text=true
def G3(S:RS)(l:List RTok)(tk:RTok)(j:Nat)(ns:List PNode):Prop:=j=3∧ns=S.ns∧l[1]?=some tk∧nameT tk.text=true∧∃ eq,l[2]?=some eq∧eq.text=cEq
def G4(S:RS)(l:List RTok)(tk:RTok)(pe:PExp)(j:Nat)(ns:List PNode):Prop:=l[1]?=some tk∧nameT tk.text=true∧(∃ eq,l[2]?=some eq∧eq.text=cEq)∧∃ e rest,GotO 0 (l.drop 3) e rest∧stops 1 rest∧j=3+e.toks.length∧ns=S.ns++e.flat S.ns.length∧pe=layE S.ns.length e
def G5(S:RS)(l:List RTok)(tk:RTok)(pe:PExp)(j:Nat)(ns:List PNode):Prop:=∃ s rest,GotS ⟨0,0,0⟩ l s rest ⟨0,0,0⟩∧s.isLet=true∧j=s.toks.length∧ns=S.ns++s.nodes S.ns.length∧s.lets S.ns.length=[⟨tk,pe⟩]
theorem l_three{kw tk eq:RTok}{l1:List RTok}(h1:(kw :: l1)[1]?=some tk)(h2:(kw :: l1)[2]?=some eq):∃ r,l1=tk :: eq :: r∧(kw :: l1).drop 3=r:=by
  rcases l1 with _ | ⟨a,_ | ⟨b,r⟩⟩
  · simp at h1
  · simp at h2
  · simp at h1 h2
    subst h1 h2
    exact ⟨r,rfl,rfl⟩
theorem name_step(S:RS){kw tk:RTok}{l1:List RTok}(hk:kw.text=cLet)(hm:∀ t∈kw :: l1,mayT t.text=true):∀ j ns,((j=1∧ns=S.ns)∧∀ a,(kw :: l1)[j]?=some a→a=tk)→j≤(kw :: l1).length∧ns.length≤S.ns.length+j∧(∀ a,(kw :: l1)[j]?=some a→kindP a.text=2→G2 S (kw :: l1) tk (j+1) ns)∧((∀ a,(kw :: l1)[j]?=some a→kindP a.text≠2)→BadS ⟨0,0,0⟩ (kw :: l1) j):=by
  rintro j ns ⟨⟨rfl,rfl⟩,ht⟩
  refine ⟨by simp,by omega,fun a ha hka=>?_,fun hno=>?_⟩
  · have:=ht a ha
    subst this
    exact ⟨rfl,rfl,ha,(kindOf _ (hm a (List.mem_of_getElem? ha))).kname.1 hka⟩
  · refine let_bad_name hk fun a r e=>?_
    subst e
    have h1:=hno a rfl
    cases h:nameT a.text with
    | false=>rfl
    | true=>exact absurd ((kindOf _ (hm a (by simp))).kname.2 h) h1
theorem eq_step(S:RS){kw tk:RTok}{l1:List RTok}(hk:kw.text=cLet)(hm:∀ t∈kw :: l1,mayT t.text=true):∀ j ns,G2 S (kw :: l1) tk j ns→j≤(kw :: l1).length∧ns.length≤S.ns.length+j∧(∀ a,(kw :: l1)[j]?=some a→kindP a.text=23→G3 S (kw :: l1) tk (j+1) ns)∧((∀ a,(kw :: l1)[j]?=some a→kindP a.text≠23)→BadS ⟨0,0,0⟩ (kw :: l1) j):=by
  rintro j ns ⟨rfl,rfl,h1,h2⟩
  have hlen:1<(kw :: l1).length:=(List.getElem?_eq_some_iff.1 h1).1
  refine ⟨by omega,by omega,fun a ha hka=>⟨rfl,rfl,h1,h2,a,ha,(kindOf _ (hm a (List.mem_of_getElem? ha))).keq.1 hka⟩,fun hno=>?_⟩
  rcases l1 with _ | ⟨b,r⟩
  · simp at hlen
  · simp at h1
    subst h1
    refine let_bad_eq hk h2 fun a r' e=>?_
    subst e
    exact fun h=>hno a rfl ((kindOf _ (hm a (by simp))).keq.2 h)
theorem expr_step(S:RS){kw tk:RTok}{l1:List RTok}(hk:kw.text=cLet):∀ j ns,G3 S (kw :: l1) tk j ns→j≤(kw :: l1).length∧ns.length≤S.ns.length+j∧(∀ t rest,GotO 0 ((kw :: l1).drop j) t rest→stops 1 rest→G4 S (kw :: l1) tk (layE ns.length t) (j+t.toks.length) (ns++t.flat ns.length))∧(∀ i,BadV 0 ((kw :: l1).drop j) i→BadS ⟨0,0,0⟩ (kw :: l1) (j+i)):=by
  rintro j ns ⟨rfl,rfl,h1,h2,eq,h3,h4⟩
  obtain ⟨r,rfl,hd⟩:=l_three h1 h3
  refine ⟨by simp,by omega,fun t rest g1 g2=>⟨h1,h2,⟨eq,h3,h4⟩,t,rest,g1,g2,rfl,rfl,rfl⟩,fun i hb=>?_⟩
  rw[hd]at hb
  rw[Nat.add_comm]
  exact let_bad_expr hk h2 h4 hb
theorem semi_step(S:RS){kw tk:RTok}{l1:List RTok}(hk:kw.text=cLet)(hm:∀ t∈kw :: l1,mayT t.text=true)(pe:PExp):∀ j ns,G4 S (kw :: l1) tk pe j ns→j≤(kw :: l1).length∧ns.length≤S.ns.length+j∧(∀ a,(kw :: l1)[j]?=some a→kindP a.text=22→G5 S (kw :: l1) tk pe (j+1) ns)∧((∀ a,(kw :: l1)[j]?=some a→kindP a.text≠22)→BadS ⟨0,0,0⟩ (kw :: l1) j):=by
  rintro j ns ⟨h1,h2,⟨eq,h3,h4⟩,e,rest,g1,g2,rfl,rfl,rfl⟩
  obtain ⟨r,rfl,hd⟩:=l_three h1 h3
  rw[hd]at g1
  have hr:=g1.eq
  have hn:=e.num_le g1.wf
  have hat:∀ a,(kw :: tk :: eq :: r)[3+e.toks.length]?=some a→∃ rest',rest=a :: rest':=by
    intro a ha
    rw[show (kw :: tk :: eq :: r)[3+e.toks.length]?=r[e.toks.length]? by rw[Nat.add_comm];rfl,hr,List.getElem?_append_right (Nat.le_refl _),Nat.sub_self]at ha
    cases rest with
    | nil=>simp at ha
    | cons b rest'=>simp at ha;subst ha;exact ⟨rest',rfl⟩
  refine ⟨by rw[hr];simp;omega,by rw[List.length_append,e.flat_len g1.wf];omega,fun a ha hka=>?_,fun hno=>?_⟩
  · obtain ⟨rest',rfl⟩:=hat a ha
    have hs:a.text=cSemi:=(kindOf _ (hm a (List.mem_of_getElem? ha))).ksemi.1 hka
    have hgot:=let_got hk h2 h4 g1 hs
    refine ⟨_,rest',hgot,rfl, ?_,rfl,rfl⟩
    rw[RSt.toks_length,RSt.body_let]
    simp
    omega
  · rw[Nat.add_comm]
    refine let_bad_end hk h2 h4 g1 g2 fun a r' e'=>?_
    subst e'
    refine fun h=>hno a ?_ ((kindOf _ (hm a ?_)).ksemi.2 h)
    · rw[show (kw :: tk :: eq :: r)[3+e.toks.length]?=r[e.toks.length]? by rw[Nat.add_comm];rfl,hr,List.getElem?_append_right (Nat.le_refl _),Nat.sub_self];rfl
    · rw[hr];simp
end Go.Proofs.YtpcjadaeolkngaaGreatDoor
