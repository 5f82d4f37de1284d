/-
  The document's bare, called on the tokens of a tree: those of the same tree with the brackets alone that it needs.
-/
import Derived.Test.YtgfnkeiigjholaaGreatDoorQ15
import Derived.Test.YtgfnkeiigjholaaGreatDoorQ36
set_option linter.unusedVariables false
set_option linter.unusedSimpArgs false
namespace Go.Proofs.YtgfnkeiigjholaaGreatDoor
open Go.RowKit Go.Deep
structure BareOf(e x:Tr):Prop where
 wf:x.wf
 core:x.core=e.core
 nb:x.nb 1 x.toks.length
 len:x.toks.length≤e.toks.length
 sub:∀ a∈x.toks,a∈e.toks
structure BaRel(t:Tr)(j:Nat)(x:Tr):Prop where
 wf:x.wf
 core:x.core=t.core
 nb:x.nb 1 j
 le:j≤x.toks.length
 len:x.toks.length≤t.toks.length
 sub:∀ a∈x.toks,a∈t.toks
def NewOr(w:World)(v v':Value):Prop:=v'=v∨∀ g,v'.ownBlock=some g→w.heap.size≤g
def BareRel(t:Tr)(w:World)(v0 v i:Value)(wr:World):Prop:=∃ (j:Nat) (x:Tr),i=.int .i64 j∧BaRel t j x∧Reads wr v x.toks.length (cellsR x.toks)∧Below w.heap.size w wr∧NewOr w v0 v
set_option maxHeartbeats 2000000 in
set_option maxRecDepth 10000 in
theorem bare_any(t:Tr)(ht:t.wf)(h4:t.toks.length≤400)(h18:∀ a∈t.toks,a.text.length≤18)(hcl:∀ a∈t.toks,noBr a.text→cleanT a.text)(v:Value)(w:World)(hv:Reads w v t.toks.length (cellsR t.toks)) :
  Calls Tryz.prog 29 #[v] w fun e w'=>Below w.heap.size w w'∧∃ v' x,e=.returned v'∧BareOf t x∧Reads w' v' x.toks.length (cellsR x.toks)∧NewOr w v v':=by
 have HV0:Hid (NewOr w v v):=.inl rfl
 obtain ⟨v0,hv0⟩:∃ v0,v=v0:=⟨_,rfl⟩
 have HVR:Hid (NewOr w v0 v):=.inl hv0
 have HVE:Hid (v=v0):=hv0
 clear hv0 HV0
 go_enter Tryz.func29,Tryz.ntmps29
 go_wp2
 go_loopw [0,3] (fun v i wr=>BareRel t w v0 v i wr) (fun v i _=>lenOf v-(intOf i).toNat)
 case atStart=>exact ⟨0,t,rfl,⟨ht,rfl,nb_zero t ht 1,Nat.zero_le _,Nat.le_refl _,fun a ha=>ha⟩,hv,Below.refl _ _,HVR.out⟩
 case round =>
  obtain ⟨j,x,rfl,hx,hr,hbel,hnew⟩:=hrel
  have HNW:=mH hnew
  clear hnew HVR
  have HX:=mH hx
  have HB:=mH hbel
  have HR:=mH hr
  have hpos:=x.toks_pos
  have hlen:=hx.len
  have hle:=hx.le
  have hle4:x.toks.length≤400:=by omega
  obtain ⟨g,o,cap,rfl,hcap,hlt,hc⟩:=hr.pos (by omega)
  clear hx hbel hr
  by_cases hjl:j<x.toks.length
  ·have hcell:wr.cell? ⟨g,o+j*2,none⟩=some (.string (bsOf x.toks[j].text)):=hc _ _ (cellsR_get x.toks j hjl).1
   clear hc
   obtain ⟨c,hcd⟩:∃ c,c=bsOf x.toks[j].text:=⟨_,rfl⟩
   rw[← hcd]at hcell
   have hbt:∀ y,(c.toList==y)=(x.toks[j].text==y):=by rw[hcd,bsOf_toList];exact fun _=>rfl
   have HBT:=mH hbt
   clear hcd hbt
   cases h1:(c.toList==[40])
   ·have g1:Hid (x.toks[j].text≠cOpen):=(by have:=HBT.out [40];rw[h1]at this;exact by simpa[cOpen] using this.symm:x.toks[j].text≠cOpen)
    go_wp2
    go_roundw
    case rel=>exact ⟨j+1,x,by go_num,⟨HX.out.wf,HX.out.core,nb_next x HX.out.wf 1 j (fun a ha=>by rw[List.getElem?_eq_getElem hjl]at ha;cases ha;exact g1.out) HX.out.nb,by omega,HX.out.len,HX.out.sub⟩,HR.out,HB.out,HNW.out⟩
    case measure=>simp[intOf,lenOf];omega
   ·have g1:x.toks[j].text=cOpen:=(by have:=HBT.out [40];rw[h1]at this;exact by simpa[cOpen] using this.symm:x.toks[j].text=cOpen)
    obtain ⟨A,B,po,pc,e,m,P⟩:=pair_ex x HX.out.wf (fun a ha=>hcl a (HX.out.sub a ha)) j x.toks[j] (List.getElem?_eq_getElem hjl) g1 HX.out.nb
    have hxl:x.toks.length=A.length+1+e.toks.length+1+B.length:=by rw[P.eq];simp;omega
    have hml:m.toks.length=A.length+e.toks.length+B.length:=by rw[P.eqv];simp;omega
    have hAl:=P.len
    have hep:=e.toks_pos
    have hkk:clG j 0 (x.toks.drop j)=((j+1+e.toks.length:Nat):Int):=by
     have:=clG_pair A B po pc e P.ewf P.opn P.cls
     rw[← P.eq,P.len]at this
     exact this
    have hwo:woG j (j+1+e.toks.length) 0 x.toks=m.toks:=by
     have:=woG_pair A B e.toks po pc
     rw[← P.eq,P.len,← P.eqv]at this
     exact this
    have hsub:∀ a∈m.toks,a∈x.toks:=by
     intro a ha
     rw[P.eqv]at ha
     rw[P.eq]
     simp only[List.mem_append,List.mem_cons]at ha ⊢
     rcases ha with ha | ha | ha
     ·exact .inl ha
     ·exact .inr (.inr (.inl ha))
     ·exact .inr (.inr (.inr (.inr ha)))
    have h18x:∀ a∈x.toks,a.text.length≤18:=fun a ha=>h18 a (HX.out.sub a ha)
    have HCL:Hid (∀ wx,Reads wx (.slice (some ⟨g,o,none⟩) x.toks.length cap) x.toks.length (cellsR x.toks)→Calls Tryz.prog 60 #[.slice (some ⟨g,o,none⟩) x.toks.length cap,.int .i64 j] wx fun e' w'=>e'=.returned (.int .i64 ((j+1+e.toks.length:Nat):Int))∧w'=wx):=fun wx h=>by rw[← hkk];exact closed_any x.toks j _ wx hjl hle4 h
    have HWO:Hid (∀ wx,Reads wx (.slice (some ⟨g,o,none⟩) x.toks.length cap) x.toks.length (cellsR x.toks)→Calls Tryz.prog 61 #[.slice (some ⟨g,o,none⟩) x.toks.length cap,.int .i64 j,.int .i64 ((j+1+e.toks.length:Nat):Int)] wx fun e' w'=>Below wx.heap.size wx w'∧∃ v',e'=.returned v'∧Reads w' v' m.toks.length (cellsR m.toks)∧∀ g,v'.ownBlock=some g→wx.heap.size≤g):=fun wx h=>by
     refine (wout_any x.toks j (j+1+e.toks.length) _ wx (by omega) hle4 (by omega) (by omega) h).mono ?_
     rintro e' w' ⟨hb,v',he,ho⟩
     rw[hwo]at ho
     exact ⟨hb,v',he,reads_of_own ho,fun g hg=>(ho.lt g hg).1⟩
    have HF1:Hid (∀ wx,Reads wx (.slice (some ⟨g,o,none⟩) x.toks.length cap) x.toks.length (cellsR x.toks)→Calls Tryz.prog 62 #[.slice (some ⟨g,o,none⟩) x.toks.length cap] wx fun e' w'=>e'=.returned (.string (bsOf x.full))∧Below wx.heap.size wx w'):=fun wx h=>full_any x HX.out.wf hle4 h18x _ wx h
    have HF2:Hid (∀ vx wx,Reads wx vx m.toks.length (cellsR m.toks)→Calls Tryz.prog 62 #[vx] wx fun e' w'=>e'=.returned (.string (bsOf m.full))∧Below wx.heap.size wx w'):=fun vx wx h=>full_any m P.vwf (by omega) (fun a ha=>h18x a (hsub a ha)) vx wx h
    have HML:=mH hml
    have HXL:=mH hxl
    have HSUB:=mH hsub
    have HP:=mH P
    have HAL:=mH hAl
    clear hml hxl hsub P hAl hkk hwo h18x g1
    generalize ((j+1+e.toks.length:Nat):Int)=kk at *
    rcases HP.out.alt with ⟨a1,a2,a3⟩ | ⟨a1,a2⟩
    ·rw[a1]at HF2
     have A2:=mH a2
     have A3:=mH a3
     clear a1 a2 a3
     generalize bsOf x.full=fx at *
     go_upto_region 6 with (first | (go_at_call 60;refine (HCL.out _ HR.out).mono ?_;rintro e' wz ⟨rfl,hwz⟩;subst wz) | (go_at_call 61;refine (HWO.out _ HR.out).mono ?_;rintro e' w1 ⟨hb1,v',rfl,hr1,hn1⟩))
     have HR1:=mH hr1
     have HB1:=mH hb1
     have HN1:=mH hn1
     clear hr1 hb1 hn1
     go_upto_region 7 with (go_at_call 62;refine (HF1.out _ (HR.out.below HB1.out)).mono ?_;rintro e' w2 ⟨rfl,hb2⟩)
     have HB2:=mH hb2
     clear hb2
     go_wp2_with (go_at_call 62;refine (HF2.out _ _ (HR1.out.below HB2.out)).mono ?_;rintro e' w3 ⟨rfl,hb3⟩;have HB3:=mH hb3;clear hb3)
     go_roundw
     case rel=>exact ⟨j,m,rfl,⟨HP.out.vwf,by rw[A2.out];exact HX.out.core,A3.out,by have:=HML.out;have:=HAL.out;omega,by have:=HML.out;have:=HXL.out;omega,fun a ha=>HX.out.sub a (HSUB.out a ha)⟩,(HR1.out.below HB2.out).below HB3.out,((HB.out.trans (HB1.out.mono HB.out.size)).trans (HB2.out.mono (Nat.le_trans HB.out.size HB1.out.size))).trans (HB3.out.mono (Nat.le_trans (Nat.le_trans HB.out.size HB1.out.size) HB2.out.size)),.inr fun g hg=>Nat.le_trans HB.out.size (HN1.out g hg)⟩
     case measure =>
      obtain ⟨a,c',rfl⟩:=HR1.out.shape
      have:=HML.out;have:=HXL.out;have:=HAL.out
      simp[intOf,lenOf];omega
    ·have hne:((bsOf x.full).toList==(bsOf m.full).toList)=false:=by
      rw[bsOf_toList,bsOf_toList]
      simpa using fun h=>a1 h.symm
     have A2:=mH a2
     clear a1 a2
     generalize bsOf x.full=fx at *
     generalize bsOf m.full=fm at *
     go_upto_region 6 with (first | (go_at_call 60;refine (HCL.out _ HR.out).mono ?_;rintro e' wz ⟨rfl,hwz⟩;subst wz) | (go_at_call 61;refine (HWO.out _ HR.out).mono ?_;rintro e' w1 ⟨hb1,v',rfl,hr1,hn1⟩))
     have HR1:=mH hr1
     have HB1:=mH hb1
     have HN1:=mH hn1
     clear hr1 hb1 hn1
     go_upto_region 7 with (go_at_call 62;refine (HF1.out _ (HR.out.below HB1.out)).mono ?_;rintro e' w2 ⟨rfl,hb2⟩)
     have HB2:=mH hb2
     clear hb2
     go_wp2_with (go_at_call 62;refine (HF2.out _ _ (HR1.out.below HB2.out)).mono ?_;rintro e' w3 ⟨rfl,hb3⟩;have HB3:=mH hb3;clear hb3)
     go_roundw
     case rel=>exact ⟨j+1,x,by go_num,⟨HX.out.wf,HX.out.core,A2.out,by omega,HX.out.len,HX.out.sub⟩,((HR.out.below HB1.out).below HB2.out).below HB3.out,((HB.out.trans (HB1.out.mono HB.out.size)).trans (HB2.out.mono (Nat.le_trans HB.out.size HB1.out.size))).trans (HB3.out.mono (Nat.le_trans (Nat.le_trans HB.out.size HB1.out.size) HB2.out.size)),HNW.out⟩
     case measure=>simp[intOf,lenOf];omega
  ·have hj:j=x.toks.length:=by omega
   have HJ:=mH hj
   clear hj hc
   go_wp2
   go_ret
   exact ⟨HB.out,_,x,rfl,⟨HX.out.wf,HX.out.core,by have:=HX.out.nb;rw[HJ.out]at this;exact this,HX.out.len,HX.out.sub⟩,HR.out,by rw[HVE.out];exact HNW.out⟩
end Go.Proofs.YtgfnkeiigjholaaGreatDoor
