/-
  The document's closed, without, short and word, called in any world.
-/
import Derived.Test.YtgfnkeiigjholaaGreatDoorQ07
import Derived.Test.YtgfnkeiigjholaaGreatDoorQ12
import Derived.Test.YtgfnkeiigjholaaGreatDoorQ13
set_option linter.unusedVariables false
set_option linter.unusedSimpArgs false
namespace Go.Proofs.YtgfnkeiigjholaaGreatDoor
open Go.RowKit Go.Deep
def clG:Nat→Int→List RTok→Int
 | k,_,[]=>(k:Int)-1
 | k,op,t :: r=>if t.text==cOpen then clG (k+1) (op+1) r else if t.text==cClose then (if op-1=0 then (k:Int) else clG (k+1) (op-1) r) else clG (k+1) op r
theorem clG_no{k:Nat}{op:Int}{t:RTok}{r:List RTok}(h:noBr t.text):clG k op (t :: r)=clG (k+1) op r:=by
 rw[clG,if_neg (by simpa using h.1),if_neg (by simpa using h.2)]
theorem clG_open{k:Nat}{op:Int}{t:RTok}{r:List RTok}(h:t.text=cOpen):clG k op (t :: r)=clG (k+1) (op+1) r:=by
 rw[clG,if_pos (by simpa using h)]
theorem clG_close{k:Nat}{op:Int}{t:RTok}{r:List RTok}(h:t.text=cClose)(ho:op≠1):clG k op (t :: r)=clG (k+1) (op-1) r:=by
 rw[clG,if_neg (by rw[h];decide),if_pos (by simpa using h),if_neg (by omega)]
theorem clG_end{k:Nat}{t:RTok}{r:List RTok}(h:t.text=cClose):clG k 1 (t :: r)=k:=by
 rw[clG,if_neg (by rw[h];decide),if_pos (by simpa using h),if_pos (by omega)]
theorem clG_tree(e:Tr)(h:e.wf):∀ (k:Nat) (op:Int) (r:List RTok),1≤op→clG k op (e.toks++r)=clG (k+e.toks.length) op r:=by
 refine Tr.ind (P:=fun e=>∀ (k:Nat) (op:Int) (r:List RTok),1≤op→clG k op (e.toks++r)=clG (k+e.toks.length) op r) e h ?_ ?_ ?_ ?_
 ·intro a hw k op r _
  obtain ⟨_,h1,h2,_⟩:=Tr.wf_leaf hw
  rw[Tr.toks_leaf,List.singleton_append,clG_no ⟨h1,h2⟩]
  rfl
 ·intro o e hw ih k op r ho
  rw[Tr.toks_un,List.cons_append,clG_no (un_noBr (Tr.wf_un hw).1),ih _ _ _ ho,List.length_cons]
  congr 1
  omega
 ·intro o l r' hw ihl ihr k op r ho
  obtain ⟨_,h1,h2,_⟩:=Tr.wf_bin hw
  rw[Tr.toks_bin,List.append_assoc,List.cons_append,ihl _ _ _ ho,clG_no ⟨h1,h2⟩,ihr _ _ _ ho,List.length_append,List.length_cons]
  congr 1
  omega
 ·intro o e c hw ih k op r ho
  obtain ⟨h1,h2,_⟩:=Tr.wf_par hw
  rw[Tr.toks_par,List.cons_append,List.append_assoc,clG_open h1,ih _ _ _ (by omega),List.singleton_append,clG_close h2 (by omega),List.length_cons,List.length_append,List.length_cons,List.length_nil]
  congr 1
  ·omega
  ·omega
theorem clG_pair(A B:List RTok)(o c:RTok)(e:Tr)(he:e.wf)(ho:o.text=cOpen)(hc:c.text=cClose):clG A.length 0 ((A++o :: (e.toks++c :: B)).drop A.length)=((A.length+1+e.toks.length:Nat):Int):=by
 rw[List.drop_left',clG_open ho,clG_tree e he _ _ _ (by omega)]
 ·exact clG_end hc
 ·rfl
def woG(i k:Nat):Nat→List RTok→List RTok
 | _,[]=>[]
 | j,t :: r=>if j≠i∧j≠k then t :: woG i k (j+1) r else woG i k (j+1) r
theorem woG_far(i k:Nat):∀ (l r:List RTok) (j:Nat),(∀ m,m<l.length→j+m≠i∧j+m≠k)→woG i k j (l++r)=l++woG i k (j+l.length) r
 | [],r,j,_=>rfl
 | t :: l,r,j,h=>by
  have h0:=h 0 (by simp)
  rw[List.cons_append,woG,if_pos (by simpa using h0),woG_far i k l r (j+1) (fun m hm=>by have:=h (m+1) (by simpa using hm);omega),List.length_cons,List.cons_append]
  congr 3
  omega
theorem woG_all(i k:Nat)(l:List RTok)(j:Nat)(h:i<j∧k<j):woG i k j l=l:=by
 have:=woG_far i k l [] j (fun m _=>by omega)
 rw[List.append_nil]at this
 rw[this]
 simp[woG]
theorem woG_pair(A B E:List RTok)(o c:RTok):woG A.length (A.length+1+E.length) 0 (A++o :: (E++c :: B))=A++(E++B):=by
 rw[woG_far _ _ A _ 0 (fun m hm=>by omega),woG,if_neg (by omega),woG_far _ _ E _ _ (fun m hm=>by omega),woG,if_neg (by omega),woG_all _ _ B _ (by omega)]
def ClRel(l:List RTok)(i:Nat)(so si:Value):Prop:=∃ (k:Nat) (op:Int),k≤l.length∧si=.int .i64 k∧so=.int .i64 op∧-(k:Int)≤op∧op≤k∧clG i 0 (l.drop i)=clG k op (l.drop k)
set_option maxHeartbeats 2000000 in
set_option maxRecDepth 10000 in
theorem closed_any(l:List RTok)(i:Nat)(v:Value)(w:World)(hi:i<l.length)(hl4:l.length≤400)(hv:Reads w v l.length (cellsR l)) :
  Calls Tryz.prog 60 #[v,.int .i64 i] w fun e w'=>e=.returned (.int .i64 (clG i 0 (l.drop i)))∧w'=w:=by
 obtain ⟨g,o,cap,rfl,_,hlt,hc⟩:=hv.pos (by omega)
 go_enter Tryz.func60,Tryz.ntmps60
 go_wp2
 go_loop [5,6] (fun so si=>ClRel l i so si) (fun _ i=>l.length-(intOf i).toNat)
 case atStart=>exact ⟨i,0,by omega,rfl,rfl,by omega,by omega,rfl⟩
 case round =>
  obtain ⟨k,op,hk,rfl,rfl,ho1,ho2,hcl⟩:=hrel
  by_cases hkl:k<l.length
  ·have hcell:w.cell? ⟨g,o+k*2,none⟩=some (.string (bsOf l[k].text)):=hc _ _ (cellsR_get l k hkl).1
   have HR:Hid (clG i 0 (l.drop i)=clG k op (l[k] :: l.drop (k+1))):=(by rw[hcl,List.drop_eq_getElem_cons hkl]:clG i 0 (l.drop i)=_)
   clear hcl hc
   obtain ⟨c,hcd⟩:∃ c,c=bsOf l[k].text:=⟨_,rfl⟩
   rw[← hcd]at hcell
   have ht:c.toList=l[k].text:=by rw[hcd,bsOf_toList]
   clear hcd
   have hb1:Hid (∀ x,(c.toList==x)=(l[k].text==x)):=(by rw[ht];exact fun _=>rfl:∀ x,(c.toList==x)=(l[k].text==x))
   clear ht
   cases h1:(c.toList==[40])
   ·have g1:Hid ((l[k].text==cOpen)=false):=(by rw[← hb1.out];exact h1:(l[k].text==cOpen)=false)
    cases h2:(c.toList==[41])
    ·have g2:Hid ((l[k].text==cClose)=false):=(by rw[← hb1.out];exact h2:(l[k].text==cClose)=false)
     go_wp2
     go_round
     case rel=>exact ⟨k+1,op,by omega,by go_num,rfl,by omega,by omega,by rw[HR.out];exact clG_no ⟨by simpa using g1.out,by simpa using g2.out⟩⟩
     case measure=>simp[intOf];omega
    ·have g2:Hid (l[k].text=cClose):=(by have:=hb1.out [41];rw[h2]at this;exact by simpa[cClose] using this.symm:l[k].text=cClose)
     by_cases hop:op=1
     ·subst hop
      go_wp2
      go_ret
      exact ⟨ret_int (by rw[HR.out];exact (clG_end g2.out).symm),rfl⟩
     ·have hop':(op-1==0)=false:=by simp;omega
      go_wp2
      go_round
      case rel=>exact ⟨k+1,op-1,by omega,by go_num,rfl,by omega,by omega,by rw[HR.out];exact clG_close g2.out hop⟩
      case measure=>simp[intOf];omega
   ·have g1:Hid (l[k].text=cOpen):=(by have:=hb1.out [40];rw[h1]at this;exact by simpa[cOpen] using this.symm:l[k].text=cOpen)
    have h2:(c.toList==[41])=false:=by
     have:c.toList=[40]:=by simpa using h1
     rw[this];rfl
    go_wp2
    go_round
    case rel=>exact ⟨k+1,op+1,by omega,by go_num,rfl,by omega,by omega,by rw[HR.out];exact clG_open g1.out⟩
    case measure=>simp[intOf];omega
  ·go_wp2
   go_ret
   exact ⟨ret_int (by rw[List.drop_eq_nil_of_le (by omega:l.length≤k),clG];omega),rfl⟩
def WoRel(l:List RTok)(i k:Nat)(w:World)(v sj:Value)(wr:World):Prop :=
 ∃ (j:Nat) (acc:List RTok),j≤l.length∧sj=.int .i64 j∧wr.ownsRow w.heap.size 77 2 v acc.length (cellsR acc)∧acc.length≤j∧Below w.heap.size w wr∧woG i k 0 l=acc++woG i k j (l.drop j)
set_option maxHeartbeats 2000000 in
set_option maxRecDepth 10000 in
theorem wout_any(l:List RTok)(i k:Nat)(v:Value)(w:World)(hl:0<l.length)(hl4:l.length≤400)(hk:k<1000)(hi:i<1000)(hv:Reads w v l.length (cellsR l)) :
  Calls Tryz.prog 61 #[v,.int .i64 i,.int .i64 k] w fun e w'=>Below w.heap.size w w'∧∃ v',e=.returned v'∧w'.ownsRow w.heap.size 77 2 v' (woG i k 0 l).length (cellsR (woG i k 0 l)):=by
 obtain ⟨g,o,cap,rfl,_,hlt,hc⟩:=hv.pos (by omega)
 obtain ⟨i0,hi0,hz0,hz1,hz2⟩:=info_parts Tryz.infoRTok
 have HC:Hid (∀ j u,(cellsR l)[j]?=some u→w.cell? ⟨g,o+j,none⟩=some u):=hc
 clear hc hv
 go_enter Tryz.func61,Tryz.ntmps61
 go_wp2
 go_loopw [7,8] (fun v sj wr=>WoRel l i k w v sj wr) (fun _ j _=>l.length-(intOf j).toNat)
 case atStart=>exact ⟨0,[],Nat.zero_le _,rfl,World.ownsRow_nil _ _ _ _,Nat.le_refl _,Below.refl _ _,rfl⟩
 case round =>
  obtain ⟨j,acc,hj,rfl,hown,hacc,hbel,hwo⟩:=hrel
  by_cases hjl:j<l.length
  ·have c0:wr.cell? ⟨g,o+j*2,none⟩=some (.string (bsOf l[j].text)):=(hbel.cell (p:=⟨g,o+j*2,none⟩) hlt).trans (HC.out _ _ (cellsR_get l j hjl).1)
   have c1:wr.cell? ⟨g,o+j*2+1,none⟩=some (.int .i64 l[j].at'):=(hbel.cell (p:=⟨g,o+j*2+1,none⟩) hlt).trans (HC.out _ _ (cellsR_get l j hjl).2)
   have HW:Hid (woG i k 0 l=acc++woG i k j (l[j] :: l.drop (j+1))):=(by rw[hwo,List.drop_eq_getElem_cons hjl]:woG i k 0 l=_)
   clear hwo
   have HO:=mH hown
   have HB:=mH hbel
   by_cases hij:j≠i∧j≠k
   ·have e1:((j:Int) != (i:Int))=true:=by simp;omega
    have e2:((j:Int) != (k:Int))=true:=by simp;omega
    have e3:((j:Int)==(i:Int))=false:=by simp;omega
    have e4:((j:Int)==(k:Int))=false:=by simp;omega
    have HIJ:=mH hij
    clear hij hbel
    go_wp2_with (at_builtin;refine wpList_append_own _ rfl _ _ 68 rfl w.heap.size 77 i0 (.agg #[.string ⟨#[]⟩,.int .i64 0]) 2 24 Tryz.underlying68 hi0 hz0 hz1 hz2 rfl (by decide) _ _ _ rfl (hown.alloc _) ⟨wr.heap.size,0,none⟩ 1 1 [.string (bsOf l[j].text),.int .i64 l[j].at'] rfl rfl (cell_two wr _ _ _) one_two (by unfold maxLen;omega) (by omega) (by have:=HB.out.size;simp;omega) ?_;intro v' w2 hown2 hgrow2 _)
    have R:w2.ownsRow w.heap.size 77 2 v' (acc++[l[j]]).length (cellsR (acc++[l[j]])):=by
     rw[cellsR_snoc]
     simp only[cellR,List.length_append,List.length_cons,List.length_nil]
     exact hown2
    have B2:Below w.heap.size w w2:=(HB.out.alloc HB.out.size _).grown hgrow2 (by have:=HB.out.size;simp;omega) (fun k hk=>(HO.out.lt k hk).1)
    clear hown2 hgrow2 hown
    have HR2:=mH R
    have HB2:=mH B2
    clear R B2
    go_wp2
    go_roundw
    case rel=>exact ⟨j+1,acc++[l[j]],by omega,by go_num,HR2.out,by simp;omega,HB2.out,by rw[HW.out,woG,if_pos HIJ.out];simp⟩
    case measure=>simp[intOf];omega
   ·have HIJ:=mH hij
    have key:(((j:Int) != (i:Int))=false)∨(((j:Int) != (i:Int))=true∧((j:Int) != (k:Int))=false):=by
     by_cases h:j=i
     ·left;simp;omega
     ·right
      refine ⟨by simp;omega, ?_⟩
      have:j=k:=Decidable.byContradiction fun h'=>hij ⟨h,h'⟩
      simp;omega
    clear hij hbel hown
    rcases key with e1 | ⟨e1,e2⟩
    ·have e3:((j:Int)==(i:Int))=true:=by simpa using e1
     go_wp2
     go_roundw
     case rel=>exact ⟨j+1,acc,by omega,by go_num,HO.out,by omega,HB.out,by rw[HW.out,woG,if_neg HIJ.out]⟩
     case measure=>simp[intOf];omega
    ·have e3:((j:Int)==(i:Int))=false:=by simpa using e1
     have e4:((j:Int)==(k:Int))=true:=by simpa using e2
     go_wp2
     go_roundw
     case rel=>exact ⟨j+1,acc,by omega,by go_num,HO.out,by omega,HB.out,by rw[HW.out,woG,if_neg HIJ.out]⟩
     case measure=>simp[intOf];omega
  ·have HW:Hid (woG i k 0 l=acc):=(by rw[hwo,List.drop_eq_nil_of_le (by omega),woG,List.append_nil]:woG i k 0 l=acc)
   clear hwo
   go_wp2
   go_ret
   exact ⟨hbel,_,rfl,by rw[HW.out];exact hown⟩
end Go.Proofs.YtgfnkeiigjholaaGreatDoor
