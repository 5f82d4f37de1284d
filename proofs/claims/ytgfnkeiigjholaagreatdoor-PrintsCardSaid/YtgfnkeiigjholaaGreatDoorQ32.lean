/-
  The program's reader: the walk of readPolicy; Read.
-/
import Derived.Test.YtgfnkeiigjholaaGreatDoorQ31
set_option linter.unusedVariables false
set_option linter.unusedSimpArgs false
namespace Go.Proofs.YtgfnkeiigjholaaGreatDoor
open Go.RowKit Go.Deep
theorem PolR.cell{B:Nat}{tv:Value}{T l:List RTok}{wr:World}(h:PolR B tv T l wr):B<wr.heap.size∧((wr.cell? ⟨B,3,none⟩=some (.bool false)∧∃ L R rest q,R≠[]∧PolOk B tv T l wr L R rest q)∨(wr.cell? ⟨B,3,none⟩=some (.bool true)∧PolBad B tv T l wr)):=by
 rcases h with ⟨L,R,rest,q,hn,h⟩ | h
 ·obtain ⟨nv,lv,rv,hR⟩:=h.rd
  exact ⟨hR.blk.lt,.inl ⟨hR.blk.cell 3,L,R,rest,q,hn,h⟩⟩
 ·obtain ⟨j,nv,lv,rv,ns,ls,rs,h1,h2,h3,hR⟩:=h.rd
  exact ⟨hR.blk.lt,.inr ⟨hR.blk.cell 3,h⟩⟩
theorem pol_sees_end{B:Nat}{tv:Value}{T l:List RTok}{wr:World}(hW:Whole T l){L R:List RSt}{rest:List RTok}{q:Spot}(h:PolOk B tv T l wr L R rest q) :
  Calls Tryz.prog 91 #[.pointer (some ⟨B,0,none⟩),.int .i64 0] wr fun e w'=>e=.returned (.bool (decide (rest=[])))∧Below wr.heap.size wr w'∧PolOk B tv T l w' L R rest q∧leftOf w' B=leftOf wr B:=by
 obtain ⟨nv,lv,rv,hR⟩:=h.rd
 have hl:LeftR ⟨tv,T,(toksL (L++R)).length,0,false,nv,lv,rv,nodesS 0 (L++R),letsS 0 (L++R),rulesS 0 (L++R)⟩ rest:=hW.left h.eq _ rfl rfl
 rcases rest with _ | ⟨a,r⟩
 ·obtain ⟨E,hE⟩:=hl.nil
  refine (sees_at hR hE 0).mono ?_
  rintro e w' ⟨rfl,hb⟩
  refine ⟨?_,hb,h.below hb,by rw[hR.leftOf,(hR.below hb).leftOf]⟩
  rw[show (⟨[],E⟩:RTok).text=[] from rfl,kindP_nil];rfl
 ·refine (sees_at hR hl.head 0).mono ?_
  rintro e w' ⟨rfl,hb⟩
  refine ⟨?_,hb,h.below hb,by rw[hR.leftOf,(hR.below hb).leftOf]⟩
  have:=(kindOf _ (hl.may a (by simp))).pos
  refine ret_bool ?_
  simpa using this
set_option maxHeartbeats 1000000 in
set_option maxRecDepth 100000 in
theorem readPolicy_any{B:Nat}{tv:Value}{T l:List RTok}{w:World}(hW:Whole T l)(h:RdAt w B (RS.zero tv T)) :
  Calls Tryz.prog 54 #[.pointer (some ⟨B,0,none⟩)] w fun e w'=>e=.returned (.tuple #[])∧Below B w w'∧((∃ L R q,R≠[]∧PolOk B tv T l w' L R [] q)∨PolBad B tv T l w'):=by
 have HWh:=hideP hW
 have hB:=h.blk.lt
 have H0:Hid (PolL B tv T l w):=.inl ⟨[],l,fun x hx=>(by cases hx),fun x hx=>(by cases hx),fun x hx=>(by cases hx),rfl,rfl,⟨.inl rfl,rfl⟩,fun _=>rfl,fun hx=>absurd rfl hx,_,_,_,h⟩
 clear hW h
 go_enter Tryz.func54,Tryz.ntmps54
 go_wp2_with fail
 go_loopw [] (fun wr=>Below B w wr∧PolL B tv T l wr) (fun wr=>leftOf wr B)
 case atStart=>exact ⟨Below.refl _ _,H0.out⟩
 case round =>
  obtain ⟨hbw,hpl⟩:=hrel
  have HPL:=hideP hpl
  have HBW:=hideP hbw
  clear H0 hpl hbw
  go_wp2_with (go_at_call 91;refine (pol_sees_let HWh.out HPL.out).mono ?_;rintro e w1 ⟨b,rfl,hb1,hlo,hyes,hno⟩;have HLO:=hideP hlo;have HYES:=hideP hyes;have HNO:=hideP hno;have hBr:B≤wr.heap.size:=by { rcases HPL.out with ⟨L,rest,h⟩ | ⟨j,nv,lv,rv,ns,ls,rs,h1,h2,h3,hR⟩;exact Nat.le_of_lt h.lt;exact Nat.le_of_lt hR.blk.lt };replace HBW:=hideP (HBW.out.trans (hb1.mono hBr));clear hb1 hlo hyes hno;cases b)
  ·have hc:=HNO.out trivial
   have HC:=hideP hc
   clear hc HYES HNO
   go_wp2_with (go_at_call 93;refine (pol_first HWh.out HC.out).mono ?_;rintro e w2 ⟨rfl,hb2,hpr⟩;have HPR:=hideP hpr;have HBW2:=hideP (HBW.out.trans hb2);clear hpr hb2)
   clear HPL HLO HC HBW
   go_loopw [] (fun wr=>Below B w wr∧PolR B tv T l wr) (fun wr=>leftOf wr B)
   case atStart=>exact ⟨HBW2.out,HPR.out⟩
   case round =>
    obtain ⟨hbw,hpr⟩:=hrel
    clear HBW2 HPR
    have HBW:=hideP hbw
    obtain ⟨hBr,⟨c3,L,R,rest,q,hne,hok⟩ | ⟨c3,hbad⟩⟩:=hpr.cell
    ·have HOK:=hideP hok
     have HNE:=hideP hne
     clear hpr hok hne hbw
     by_cases hr:rest=[]
     ·subst hr
      go_wp2_with (go_at_call 91;refine (pol_sees_end HWh.out HOK.out).mono ?_;rintro e w3 ⟨rfl,hb3,hok3,_⟩;have HOK3:=hideP hok3;replace HBW:=hideP (HBW.out.trans (hb3.mono (Nat.le_of_lt hBr)));clear hok3 hb3)
      refine bodyPost_end (results_none rfl _ _ _) rfl ⟨rfl,HBW.out,.inl ⟨L,R,q,HNE.out,HOK3.out⟩⟩
     ·have hd:decide (rest=[])=false:=by simpa using hr
      have HRE:=hideP hr
      have HDE:=hideP hd
      clear hr hd
      go_wp2_with (first | (go_at_call 91;refine (pol_sees_end HWh.out HOK.out).mono ?_;rintro e w3 ⟨rfl,hb3,hok3,hlo3⟩;rw[HDE.out];have HOK3:=hideP hok3;have HLO3:=hideP hlo3;replace HBW:=hideP (HBW.out.trans (hb3.mono (Nat.le_of_lt hBr)));clear hok3 hb3 hlo3) | (go_at_call 93;refine (pol_rule HWh.out HOK3.out (fun e=>absurd e (by rw[HOK3.out.q6 HNE.out];decide)) (fun e=>absurd e HRE.out)).mono ?_;rintro e w4 ⟨rfl,hb4,hpr4,hlo4⟩;have HPR4:=hideP hpr4;have HLO4:=hideP hlo4;replace HBW:=hideP (HBW.out.trans hb4);clear hpr4 hb4 hlo4))
      go_roundw
      case rel=>exact ⟨HBW.out,HPR4.out⟩
      case measure =>
       have g1:=HLO4.out
       have g2:=HLO3.out
       omega
    ·have HBAD:=hideP hbad
     clear hpr hbad hbw
     go_wp2
     refine bodyPost_end (results_none rfl _ _ _) rfl ⟨rfl,HBW.out,.inr HBAD.out⟩
  ·obtain ⟨L,kw,r,hkw,hok⟩:=HYES.out trivial
   have HKW:=hideP hkw
   have HOK:=hideP hok
   clear HYES HNO hkw hok
   go_wp2_with (go_at_call 92;refine (pol_let HWh.out HKW.out HOK.out).mono ?_;rintro e w2 ⟨rfl,hb2,hpl2,hlo2⟩;have HPL2:=hideP hpl2;have HLO2:=hideP hlo2;replace HBW:=hideP (HBW.out.trans hb2);clear hb2 hpl2 hlo2)
   go_roundw
   case rel=>exact ⟨HBW.out,HPL2.out⟩
   case measure =>
    have g1:=HLO2.out
    have g2:=HLO.out
    omega
end Go.Proofs.YtgfnkeiigjholaaGreatDoor
