/-
  Compile: rules, Whole, Image.
-/
import Derived.Test.YtldfkcpbjooemaaGreatDoorG34
import Derived.Test.YtldfkcpbjooemaaGreatDoorG29
set_option linter.unusedVariables false
set_option linter.unusedSimpArgs false
namespace Go.Proofs.YtldfkcpbjooemaaGreatDoor
open Go.RowKit Go.Deep
theorem rulesH_ext (fs:List Fact) (ls:List PLet) (N:List PNode):∀ (rs:List PRule) (c:List Nat) (h:Nat),∃ d,(rulesH fs ls N rs c h).1=c++d
 | [],c,h=>⟨_,rfl⟩
 | r :: rs,c,h=>by
  rw[rulesH]
  split
  ·exact ⟨_,rfl⟩
  ·split
   ·obtain ⟨d,hd⟩:=rulesH_ext fs ls N rs (c++(guardH fs ls N r h).1) (guardH fs ls N r h).2
    exact ⟨(guardH fs ls N r h).1++d,by rw[hd,List.append_assoc]⟩
   ·exact rulesH_ext fs ls N rs c h
theorem appliesF_le (fs:List Fact) (r:PRule):appliesF fs r≤2:=by
 unfold appliesF
 split
 ·split
  ·omega
  ·split <;> omega
 ·omega
theorem rule_cells {w:World} {cb:Nat} {nv lv rv fv:Value} {h:Nat} {N:List PNode} {ls:List PLet} {rs:List PRule} {fs:List Fact} (H:CmpAt w cb nv lv rv fv h N ls rs fs) {i:Nat} (hi:i < rs.length):∃ g o cap,rv=.slice (some ⟨g,o,none⟩) rs.length cap∧rs.length≤cap∧g < w.heap.size∧∀ j u,(cellU rs[i])[j]?=some u→w.cell? ⟨g,o+(i * 8+j),none⟩=some u:=by
 obtain ⟨g,o,cap,hv,hcap,hg,hcl⟩:=H.pa.r.pos (by omega)
 refine ⟨g,o,cap,hv,hcap,hg,fun j u hu=>?_⟩
 have hj:j < 8:=by
  have:=(List.getElem?_eq_some_iff.1 hu).1
  simpa[cellU] using this
 exact hcl (i * 8+j) u ((flat_get cellU 8 (fun _=>rfl) rs i hi j hj).trans hu)
set_option maxHeartbeats 8000000 in
set_option maxRecDepth 100000 in
theorem rules_any {w:World} {cb:Nat} {nv lv rv fv:Value} {h:Nat} {N:List PNode} {ls:List PLet} {rs:List PRule} {fs:List Fact} (H:CmpAt w cb nv lv rv fv h N ls rs fs) (hp:CmpOk N ls rs fs) (C:List Nat) (h':Nat) (hc:rulesH fs ls N rs [] h=(C,h')) (hlen:C.length≤60000) :
  Calls Tryz.prog 82 #[.pointer (some ⟨cb,0,none⟩)] w fun e w'=>e=.returned (.string (bsN C))∧CmpAt w' cb nv lv rv fv h' N ls rs fs∧But cb w w':=by
 obtain ⟨ra,rc,rfl⟩:=H.pa.r.shape
 have hrb:=H.pa.rb
 have HC:=Hid.mk2 H
 have HP:=Hid.mk2 hp
 have HCC:=Hid.mk2 hc
 clear H hp hc
 go_enter Tryz.func82,Tryz.ntmps82
 go_wp2
 go_loopw [3,4] (fun vc vi wr=>∃ (i:Nat) (c:List Nat) (h1:Nat),i≤rs.length∧vi=.int .i64 i∧vc=.string (bsN c)∧CmpAt wr cb nv lv (.slice ra rs.length rc) fv h1 N ls rs fs∧But cb w wr∧rulesH fs ls N (rs.drop i) c h1=(C,h')) (fun _ i _=>1000 - (intOf i).toNat)
 case atStart=>exact ⟨0,[],h,Nat.zero_le _,rfl,rfl,HC.out,But.refl _ _,HCC.out⟩
 case round =>
  obtain ⟨i,c,h1,hi,rfl,rfl,hcm,hbu,hgo⟩:=hrel
  clear HC HCC
  obtain ⟨dd,hdd⟩:=rulesH_ext fs ls N (rs.drop i) c h1
  rw[hgo] at hdd
  have hcl:c.length≤60000:=by
   have:=congrArg List.length hdd
   simp only[List.length_append] at this
   omega
  clear hdd dd
  have zc:(bsN c).size=c.length:=bsN_len _
  have hlc:=hcm.blk.lt
  have k2:=hcm.blk.cell 2
  simp only[List.getElem?_toArray,List.getElem?_cons_zero,List.getElem?_cons_succ] at k2
  have HBU:=Hid.mk2 hbu
  clear hbu
  by_cases hlt:i < rs.length
  ·obtain ⟨g,o,cap,hcut,hcap,hg,hcs⟩:=rule_cells hcm hlt
   cases hcut
   rw[List.drop_eq_getElem_cons hlt] at hgo
   have hmem:rs[i]∈rs:=List.getElem_mem hlt
   obtain ⟨r,hr⟩:∃ r,rs[i]=r:=⟨_,rfl⟩
   rw[hr] at hgo hcs hmem
   clear hr
   have d0:wr.cell? ⟨g,o+i * 8,none⟩=some (.bool r.hw):=hcs 0 _ rfl
   have d1:wr.cell? ⟨g,o+i * 8+1,none⟩=some (.int .i64 r.when.place):=by rw[Nat.add_assoc];exact hcs 1 _ rfl
   have d2:wr.cell? ⟨g,o+i * 8+2,none⟩=some (.int .i64 r.when.fr):=by rw[Nat.add_assoc];exact hcs 2 _ rfl
   have d3:wr.cell? ⟨g,o+i * 8+3,none⟩=some (.int .i64 r.when.behind):=by rw[Nat.add_assoc];exact hcs 3 _ rfl
   have d4:wr.cell? ⟨g,o+i * 8+4,none⟩=some (.bool r.hs):=by rw[Nat.add_assoc];exact hcs 4 _ rfl
   have d5:wr.cell? ⟨g,o+i * 8+5,none⟩=some (.int .i64 r.score.place):=by rw[Nat.add_assoc];exact hcs 5 _ rfl
   have d6:wr.cell? ⟨g,o+i * 8+6,none⟩=some (.int .i64 r.score.fr):=by rw[Nat.add_assoc];exact hcs 6 _ rfl
   have d7:wr.cell? ⟨g,o+i * 8+7,none⟩=some (.int .i64 r.score.behind):=by rw[Nat.add_assoc];exact hcs 7 _ rfl
   have HR:=Hid.mk2 (RuSt.start hcm r)
   have HWB:=Hid.mk2 (HP.out.wh r hmem)
   have hap:=appliesF_le fs r
   rw[rulesH] at hgo
   obtain ⟨ap,hapE⟩:∃ ap,appliesF fs r=ap:=⟨_,rfl⟩
   have HAP:=Hid.mk2 hapE
   rw[hapE] at hgo hap
   clear hapE hcs hcm
   obtain rfl | rfl | rfl:ap=2∨ap=1∨ap=0:=by omega
   ·rw[if_pos rfl] at hgo
    obtain ⟨ca,hA,hAx⟩:∃ ca hA,actH fs ls N r h1=(ca,hA):=⟨_,_,rfl⟩
    rw[hAx] at hgo
    simp only[Prod.mk.injEq] at hgo
    obtain ⟨hC,rfl⟩:=hgo
    have hcal:c.length+ca.length≤60000:=by
     have:=congrArg List.length hC
     simp only[List.length_append] at this
     omega
    have HY:Hid (∀ wx,CmpAt wx cb nv lv (.slice (some ⟨g,o,none⟩) rs.length rc) fv h1 N ls rs fs→Calls Tryz.prog 127 #[.pointer (some ⟨cb,0,none⟩),ruA r] wx fun e w'=>e=.returned (.string (bsN ca))∧CmpAt w' cb nv lv (.slice (some ⟨g,o,none⟩) rs.length rc) fv hA N ls rs fs∧But cb wx w'):=fun wx Hx=>act_any Hx HP.out r hmem ca hA hAx (by omega)
    unfold ruA at HY
    have HFin:Hid (bsN c++bsN ca=bsN C):=by rw[Hid,bsN_append,hC]
    have za:(bsN ca).size=ca.length:=bsN_len _
    clear hAx hC hmem hap
    go_wp2_with (first
     | (go_at_call 126;refine (applies_any HR.out.c r HWB.out).mono ?_;rintro e w1 ⟨rfl,hc1,hb1⟩;rw[HAP.out];replace HR:=Hid.mk2 (HR.out.call hc1 hb1);clear hc1 hb1;have u0:=HR.out.r.cell 0;have u1:=HR.out.r.cell 1;have u2:=HR.out.r.cell 2;have u3:=HR.out.r.cell 3;have u4:=HR.out.r.cell 4;have u5:=HR.out.r.cell 5;have u6:=HR.out.r.cell 6;have u7:=HR.out.r.cell 7;have hlr:=HR.out.r.lt;simp only[ruC,List.getElem?_toArray,List.getElem?_cons_zero,List.getElem?_cons_succ] at u0 u1 u2 u3 u4 u5 u6 u7)
     | (go_at_call 127;refine (HY.out _ HR.out.c).mono ?_;rintro e w2 ⟨rfl,hc2,hb2⟩;clear u0 u1 u2 u3 u4 u5 u6 u7 hlr;replace HR:=Hid.mk2 (HR.out.call hc2 hb2);clear hc2 hb2))
    go_ret
    exact ⟨by rw[← HFin.out];rfl,HR.out.c,HBU.out.trans HR.out.bu⟩
   ·rw[if_neg (by omega),if_pos rfl] at hgo
    obtain ⟨ca,hA,hAx⟩:∃ ca hA,guardH fs ls N r h1=(ca,hA):=⟨_,_,rfl⟩
    rw[hAx] at hgo
    simp only at hgo
    obtain ⟨dd,hdd⟩:=rulesH_ext fs ls N (rs.drop (i+1)) (c++ca) hA
    rw[hgo] at hdd
    have hcal:c.length+ca.length≤60000:=by
     have:=congrArg List.length hdd
     simp only[List.length_append] at this
     omega
    clear hdd dd
    have HGO:=Hid.mk2 hgo
    have HY:Hid (∀ wx,CmpAt wx cb nv lv (.slice (some ⟨g,o,none⟩) rs.length rc) fv h1 N ls rs fs→Calls Tryz.prog 128 #[.pointer (some ⟨cb,0,none⟩),ruA r] wx fun e w'=>e=.returned (.string (bsN ca))∧CmpAt w' cb nv lv (.slice (some ⟨g,o,none⟩) rs.length rc) fv hA N ls rs fs∧But cb wx w'):=fun wx Hx=>guarded_any Hx HP.out r hmem ca hA hAx (by omega)
    unfold ruA at HY
    have HFin:Hid (bsN c++bsN ca=bsN (c++ca)):=bsN_append _ _
    have za:(bsN ca).size=ca.length:=bsN_len _
    clear hAx hgo hmem hap
    go_wp2_with (first
     | (go_at_call 126;refine (applies_any HR.out.c r HWB.out).mono ?_;rintro e w1 ⟨rfl,hc1,hb1⟩;rw[HAP.out];replace HR:=Hid.mk2 (HR.out.call hc1 hb1);clear hc1 hb1;have u0:=HR.out.r.cell 0;have u1:=HR.out.r.cell 1;have u2:=HR.out.r.cell 2;have u3:=HR.out.r.cell 3;have u4:=HR.out.r.cell 4;have u5:=HR.out.r.cell 5;have u6:=HR.out.r.cell 6;have u7:=HR.out.r.cell 7;have hlr:=HR.out.r.lt;simp only[ruC,List.getElem?_toArray,List.getElem?_cons_zero,List.getElem?_cons_succ] at u0 u1 u2 u3 u4 u5 u6 u7)
     | (go_at_call 128;refine (HY.out _ HR.out.c).mono ?_;rintro e w2 ⟨rfl,hc2,hb2⟩;clear u0 u1 u2 u3 u4 u5 u6 u7 hlr;replace HR:=Hid.mk2 (HR.out.call hc2 hb2);clear hc2 hb2))
    go_roundw
    case rel=>exact ⟨i+1,c++ca,hA,by omega,by go_num,by rw[← HFin.out],HR.out.c,HBU.out.trans HR.out.bu,HGO.out⟩
    case measure=>simp[intOf];omega
   ·rw[if_neg (by omega),if_neg (by omega)] at hgo
    have HGO:=Hid.mk2 hgo
    clear hgo hmem hap
    go_wp2_with (go_at_call 126;refine (applies_any HR.out.c r HWB.out).mono ?_;rintro e w1 ⟨rfl,hc1,hb1⟩;rw[HAP.out];replace HR:=Hid.mk2 (HR.out.call hc1 hb1);clear hc1 hb1;have u0:=HR.out.r.cell 0;have u1:=HR.out.r.cell 1;have u2:=HR.out.r.cell 2;have u3:=HR.out.r.cell 3;have u4:=HR.out.r.cell 4;have u5:=HR.out.r.cell 5;have u6:=HR.out.r.cell 6;have u7:=HR.out.r.cell 7;have hlr:=HR.out.r.lt;simp only[ruC,List.getElem?_toArray,List.getElem?_cons_zero,List.getElem?_cons_succ] at u0 u1 u2 u3 u4 u5 u6 u7)
    go_roundw
    case rel=>exact ⟨i+1,c,h1,by omega,by go_num,rfl,HR.out.c,HBU.out.trans HR.out.bu,HGO.out⟩
    case measure=>simp[intOf];omega
  ·have hin:i=rs.length:=by omega
   subst hin
   rw[List.drop_length,rulesH] at hgo
   simp only[Prod.mk.injEq] at hgo
   obtain ⟨hC,rfl⟩:=hgo
   have HFin:Hid (bsN c++bsN (opC 17 0)=bsN C):=by rw[Hid,bsN_append,hC]
   have z17:(bsN (opC 17 0)).size=1:=by rw[opC_size];rfl
   have HCM:=Hid.mk2 hcm
   clear hC hcm
   go_wp2_with (go_at_call 129;refine (Bytes_any 17 (by omega) 0 (by decide) _ HCM.out.gb).mono ?_;rintro e w2 ⟨rfl,hb2⟩;replace HCM:=Hid.mk2 (HCM.out.below hb2);replace HBU:=Hid.mk2 (HBU.out.trans (But.of hb2));clear hb2)
   go_ret
   exact ⟨by rw[← HFin.out];rfl,HCM.out,HBU.out⟩
theorem i64_low (n:Nat) (hn:n < 100000):bits .and .i64 (n:Int) 255=((n % 256:Nat):Int):=by
 have h:=bits_mask .i64 63 (by decide) (fun m h0 h1=>by rw[IntKind.wrap_i64];omega) 8 (by decide) (n:Int) (by omega) (by omega)
 have e:((2:Int) ^ 8 - 1)=255:=by decide
 have e2:((2:Int) ^ 8)=256:=by decide
 rw[e,e2] at h
 rw[h]
 omega
set_option maxHeartbeats 1000000 in
set_option maxRecDepth 100000 in
theorem Whole_any (h:Nat) (hh:h < 100000) (c:List Nat) (hl:c.length≤60000) (w:World) :
  Calls Tryz.prog 83 #[.int .i64 h,.string (bsN c)] w fun e w'=>e=.returned (.string (bsN (imgC (h % 256) c)))∧Below w.heap.size w w':=by
 obtain ⟨k,hk⟩:∃ k,h % 256=k:=⟨_,rfl⟩
 have hk8:k < 256:=by omega
 have hbits:bits BinOp.and IntKind.i64 (h:Int) 255=(k:Int):=by rw[← hk];exact i64_low h hh
 rw[hk]
 clear hk
 have hcv:=conv_bytes (w.alloc (Obj.cells #[Value.int .u8 83,Value.int .u8 76,Value.int .u8 k] 5)) w.heap.size [83,76,k] 5 (Blk.new w _ _)
 simp only[List.length_cons,List.length_nil,Nat.zero_add,Nat.reduceAdd] at hcv
 have z0:(bsN [83,76,k]).size=3:=bsN_len _
 have z1:(bsN c).size=c.length:=bsN_len _
 have HE:Hid (bsN [83,76,k]++bsN c=bsN (imgC k c)):=by rw[Hid,bsN_append];rfl
 go_enter Tryz.func83,Tryz.ntmps83
 go_wp2
 go_ret
 exact ⟨by rw[← HE.out];rfl,box3 _ _⟩
end Go.Proofs.YtldfkcpbjooemaaGreatDoor
namespace Go.Proofs.YtldfkcpbjooemaaGreatDoor
open Go.RowKit Go.Deep
theorem cmp_start {w:World} {nv lv rv:Value} {N:List PNode} {ls:List PLet} {rs:List PRule} (h:PolAt w nv lv rv N ls rs) {fb:Nat} {fs:List Fact} (hf:Blk w fb (cellsF fs).toArray 172) (hl:fs.length=N.length) (hg:GlobB w) :
  CmpAt (w.alloc (.cells #[nv,lv,rv,.slice (some ⟨fb,0,none⟩) N.length N.length,.int .i64 0] 150)) w.heap.size nv lv rv (.slice (some ⟨fb,0,none⟩) N.length N.length) 0 N ls rs fs:=by
 have hb:=box3 w (.cells #[nv,lv,rv,.slice (some ⟨fb,0,none⟩) N.length N.length,.int .i64 0] 150)
 have hnb:=h.nb
 have hfl:=hf.lt
 have hgs:=hg.size
 refine ⟨Blk.new w _ _,h.below hb, ?_,by omega,hg.below hb,apart_new h (Nat.le_refl _), ?_,by omega⟩
 ·refine Reads.below (.inr ⟨fb,0,N.length,by rw[hl],by omega,hfl,fun j u hj=>?_⟩) hb
  rw[Nat.zero_add,hf.cell]
  simpa using hj
 ·simp only[Value.ownBlock,ne_eq,Option.some.injEq];omega
set_option maxHeartbeats 2000000 in
set_option maxRecDepth 100000 in
theorem Image_any (nv lv rv:Value) (N:List PNode) (ls:List PLet) (rs:List PRule) (w:World) (h:PolAt w nv lv rv N ls rs) (hp:CmpOk N ls rs (factsP ls N)) (hg:GlobB w) (C:List Nat) (H:Nat) (hc:rulesH (factsP ls N) ls N rs [] 0=(C,H)) (hlen:C.length≤60000) (hh:H < 100000) :
  Calls Tryz.prog 42 #[polA nv lv rv] w fun e w'=>e=.returned (.string (bsN (imageC N ls rs)))∧Below w.heap.size w w':=by
 obtain ⟨na,nc,rfl⟩:=h.n.shape
 obtain ⟨la,lc,rfl⟩:=h.l.shape
 obtain ⟨ra,rc,rfl⟩:=h.r.shape
 have HIM:Hid (imageC N ls rs=imgC (H % 256) C):=by rw[Hid,imageC,hc]
 have HG:=Hid.mk2 hg
 have HP:=Hid.mk2 hp
 have HCC:=Hid.mk2 hc
 have HPA:=Hid.mk2 h
 have HB0:=Hid.mk2 (box3 w (.cells #[.slice na N.length nc,.slice la ls.length lc,.slice ra rs.length rc] 64))
 have HBX:=Hid.mk2 (Blk.new w #[.slice na N.length nc,.slice la ls.length lc,.slice ra rs.length rc] 64)
 clear hg h hp hc
 unfold polA
 go_enter Tryz.func42,Tryz.ntmps42
 go_wp2
 have hz:(w.alloc (.cells #[.slice na N.length nc,.slice la ls.length lc,.slice ra rs.length rc] 64)).heap.size=w.heap.size+1:=by simp
 generalize hw1:w.alloc (.cells #[.slice na N.length nc,.slice la ls.length lc,.slice ra rs.length rc] 64)=w1 at *
 clear hw1
 have p0:=HBX.out.cell 0
 have p1:=HBX.out.cell 1
 have p2:=HBX.out.cell 2
 go_region_with (go_at_call 81;refine (factsOf_any (.slice na N.length nc) (.slice la ls.length lc) (.slice ra rs.length rc) N ls rs _ ((HPA.out.below HB0.out).below (below_drewN (Below.refl w1.heap.size w1) 1)) HP.out.nd HP.out.lt).mono ?_;rintro e w2 ⟨hb2,fb,hfb,rfl,hrow⟩;have hb2':Below w1.heap.size w1 w2:=(below_drewN (Below.refl w1.heap.size w1) 1).trans hb2;have HB2:=Hid.mk2 (HB0.out.trans (hb2'.mono (by omega)));have HROW:=Hid.mk2 hrow;replace HBX:=Hid.mk2 (HBX.out.below hb2' HBX.out.lt);have c0:=HBX.out.cell 0;have c1:=HBX.out.cell 1;have c2:=HBX.out.cell 2;have hs2:=hb2'.size;clear hb2 hb2' hrow)
 all_goals
  have HC:=Hid.mk2 (cmp_start (HPA.out.below HB2.out) HROW.out (factsP_length ls N) (HG.out.below HB2.out))
  go_wp2_with (first
   | (go_at_call 82;refine (rules_any HC.out HP.out C H HCC.out hlen).mono ?_;rintro e w3 ⟨rfl,hc3,hb3⟩;have HC3:=Hid.mk2 hc3;have HB3:=Hid.mk2 hb3;have k4:=hc3.blk.cell 4;have hl3:=hc3.blk.lt;simp only[List.getElem?_toArray,List.getElem?_cons_zero,List.getElem?_cons_succ] at k4;clear hc3 hb3)
   | (go_at_call 83;refine (Whole_any H hh C hlen _).mono ?_;rintro e w4 ⟨rfl,hb4⟩))
  go_ret
  have hs0:=HB2.out.size
  have hs3:=HB3.out.size
  refine ⟨by rw[HIM.out];rfl,((HB2.out.trans ((box3 w2 _).mono HB2.out.size)).trans (HB3.out.below ?_ ?_)).trans (hb4.mono ?_)⟩
  ·omega
  ·simp;omega
  ·simp at hs3;omega
end Go.Proofs.YtldfkcpbjooemaaGreatDoor
namespace Go.Proofs.YtldfkcpbjooemaaGreatDoor
theorem Tr.uniq (t:Tr) (h:t.wf):∀ t':Tr,t'.wf→t.toks=t'.toks→t=t':=by
 refine Tr.ind (P:=fun t=>∀ t':Tr,t'.wf→t.toks=t'.toks→t=t') t h ?_ ?_ ?_ ?_
 ·intro a ha t' h' e
  rcases t'.cases h' with ⟨b,rfl⟩ | ⟨op,x,rfl⟩ | ⟨op,l,r,rfl⟩ | ⟨o,x,c,rfl⟩
  ·rw[Tr.toks_leaf,Tr.toks_leaf] at e
   rw[List.singleton_inj.1 e]
  ·have:=congrArg List.length e
   have:=x.toks_pos
   simp only[Tr.toks_leaf,Tr.toks_un,List.length_cons,List.length_nil] at *
   omega
  ·have:=congrArg List.length e
   have:=l.toks_pos
   simp only[Tr.toks_leaf,Tr.toks_bin,List.length_cons,List.length_nil,List.length_append] at *
   omega
  ·have:=congrArg List.length e
   have:=x.toks_pos
   simp only[Tr.toks_leaf,Tr.toks_par,List.length_cons,List.length_nil,List.length_append] at *
   omega
 ·intro op x hw ih t' h' e
  have hr:=root_none (Tr.un op x) hw rfl
  rcases t'.cases h' with ⟨b,rfl⟩ | ⟨op',x',rfl⟩ | ⟨op',l,r,rfl⟩ | ⟨o,x',c,rfl⟩
  ·have:=congrArg List.length e
   have:=x.toks_pos
   simp only[Tr.toks_leaf,Tr.toks_un,List.length_cons,List.length_nil] at *
   omega
  ·rw[Tr.toks_un,Tr.toks_un] at e
   obtain ⟨rfl,e2⟩:=List.cons.inj e
   rw[ih x' (Tr.wf_un h').2.2 e2]
  ·have hr':=root_bin op' l r h'
   rw[← e,hr] at hr'
   omega
  ·rw[Tr.toks_un,Tr.toks_par] at e
   obtain ⟨rfl,_⟩:=List.cons.inj e
   have h1:=(Tr.wf_un hw).1
   rw[(Tr.wf_par h').1] at h1
   exact absurd h1 (by decide)
 ·intro op l r hw ihl ihr t' h' e
  have hr:=root_bin op l r hw
  rcases t'.cases h' with ⟨b,rfl⟩ | ⟨op',x',rfl⟩ | ⟨op',l',r',rfl⟩ | ⟨o,x',c,rfl⟩
  ·have:=root_none _ h' rfl
   rw[← e,hr] at this
   omega
  ·have:=root_none _ h' rfl
   rw[← e,hr] at this
   omega
  ·have hr':=root_bin op' l' r' h'
   rw[← e,hr] at hr'
   have hl:l.toks.length=l'.toks.length:=by omega
   rw[Tr.toks_bin,Tr.toks_bin] at e
   obtain ⟨e1,e2⟩:=List.append_inj e hl
   obtain ⟨rfl,e3⟩:=List.cons.inj e2
   have w1:=Tr.wf_bin hw
   have w2:=Tr.wf_bin h'
   rw[ihl l' w2.2.2.2.2.2.1 e1,ihr r' w2.2.2.2.2.2.2 e3]
  ·have:=root_none _ h' rfl
   rw[← e,hr] at this
   omega
 ·intro o x c hw ih t' h' e
  have hr:=root_none (Tr.par o x c) hw rfl
  rcases t'.cases h' with ⟨b,rfl⟩ | ⟨op',x',rfl⟩ | ⟨op',l,r,rfl⟩ | ⟨o',x',c',rfl⟩
  ·have:=congrArg List.length e
   have:=x.toks_pos
   simp only[Tr.toks_leaf,Tr.toks_par,List.length_cons,List.length_nil,List.length_append] at *
   omega
  ·rw[Tr.toks_un,Tr.toks_par] at e
   obtain ⟨rfl,_⟩:=List.cons.inj e
   have h1:=(Tr.wf_un h').1
   rw[(Tr.wf_par hw).1] at h1
   exact absurd h1 (by decide)
  ·have hr':=root_bin op' l r h'
   rw[← e,hr] at hr'
   omega
  ·rw[Tr.toks_par,Tr.toks_par] at e
   obtain ⟨rfl,e2⟩:=List.cons.inj e
   obtain ⟨e3,e4⟩:=List.append_inj' e2 rfl
   rw[ih x' (Tr.wf_par h').2.2 e3,List.singleton_inj.1 e4]
theorem split_uniq {α:Type} {p:α→Prop}:∀ (a b:List α) (x y:α) (r s:List α),(∀ z∈a,¬ p z)→(∀ z∈b,¬ p z)→p x→p y→a++x :: r=b++y :: s→a=b∧x=y∧r=s
 | [],[],x,y,r,s,_,_,_,_,e=>by
  obtain ⟨h1,h2⟩:=List.cons.inj e
  exact ⟨rfl,h1,h2⟩
 | [],c :: b,x,y,r,s,_,hb,hx,_,e=>by
  obtain ⟨h1,_⟩:=List.cons.inj e
  exact absurd (h1 ▸ hx) (hb c List.mem_cons_self)
 | c :: a,[],x,y,r,s,ha,_,_,hy,e=>by
  obtain ⟨h1,_⟩:=List.cons.inj e
  exact absurd (h1 ▸ hy) (ha c List.mem_cons_self)
 | c :: a,d :: b,x,y,r,s,ha,hb,hx,hy,e=>by
  obtain ⟨h1,h2⟩:=List.cons.inj e
  obtain ⟨h3,h4,h5⟩:=split_uniq a b x y r s (fun z hz=>ha z (List.mem_cons_of_mem _ hz)) (fun z hz=>hb z (List.mem_cons_of_mem _ hz)) hx hy h2
  exact ⟨by rw[h1,h3],h4,h5⟩
theorem sc_uniq {sc sc':Option Tr} {act:RTok} (h1:act.text=(if sc.isSome then cScore else cReject)) (h2:act.text=(if sc'.isSome then cScore else cReject)) (w1:∀ e,sc=some e→e.wf) (w2:∀ e,sc'=some e→e.wf) (e:optToks sc=optToks sc'):sc=sc':=by
 cases sc with
 | none =>
  cases sc' with
  | none=>rfl
  | some b=>rw[h1] at h2;exact absurd (show cReject=cScore from h2) (by decide)
 | some a =>
  cases sc' with
  | none=>rw[h1] at h2;exact absurd (show cScore=cReject from h2) (by decide)
  | some b=>rw[Tr.uniq a (w1 a rfl) b (w2 b rfl) e]
theorem act_text {sc:Option Tr} {act:RTok} (h1:act.text=(if sc.isSome then cScore else cReject)):act.text=cScore∨act.text=cReject:=by
 rw[h1]
 split
 ·exact .inl rfl
 ·exact .inr rfl
theorem RSt.uniq (s s':RSt) (h:s.wf) (h':s'.wf) (eb:s.body=s'.body) (es:s.semi=s'.semi):s=s':=by
 rcases s.cases with ⟨kw,name,eq,e,semi,rfl⟩ | ⟨wh,act,sc,semi,rfl⟩
 ·rcases s'.cases with ⟨kw',name',eq',e',semi',rfl⟩ | ⟨wh',act',sc',semi',rfl⟩
  ·rw[RSt.body_let,RSt.body_let] at eb
   obtain ⟨rfl,eb2⟩:=List.cons.inj eb
   obtain ⟨rfl,eb3⟩:=List.cons.inj eb2
   obtain ⟨rfl,eb4⟩:=List.cons.inj eb3
   obtain rfl:semi=semi':=es
   rw[Tr.uniq e h.2.2.2.1 e' h'.2.2.2.1 eb4]
  ·rw[RSt.body_let,RSt.body_rule] at eb
   have hk:kw.text=cLet:=h.1
   cases wh' with
   | none =>
    obtain ⟨rfl,_⟩:=List.cons.inj eb
    rcases act_text h'.2.1 with h2 | h2 <;> (rw[hk] at h2;exact absurd h2 (by decide))
   | some p =>
    obtain ⟨k,x⟩:=p
    obtain ⟨rfl,_⟩:=List.cons.inj eb
    have h2:=(h'.1 _ _ rfl).1
    rw[hk] at h2
    exact absurd h2 (by decide)
 ·rcases s'.cases with ⟨kw',name',eq',e',semi',rfl⟩ | ⟨wh',act',sc',semi',rfl⟩
  ·rw[RSt.body_let,RSt.body_rule] at eb
   have hk:kw'.text=cLet:=h'.1
   cases wh with
   | none =>
    obtain ⟨rfl,_⟩:=List.cons.inj eb
    rcases act_text h.2.1 with h2 | h2 <;> (rw[hk] at h2;exact absurd h2 (by decide))
   | some p =>
    obtain ⟨k,x⟩:=p
    obtain ⟨rfl,_⟩:=List.cons.inj eb
    have h2:=(h.1 _ _ rfl).1
    rw[hk] at h2
    exact absurd h2 (by decide)
  ·rw[RSt.body_rule,RSt.body_rule] at eb
   obtain rfl:semi=semi':=es
   cases wh with
   | none =>
    cases wh' with
    | none =>
     obtain ⟨rfl,eb2⟩:=List.cons.inj eb
     rw[sc_uniq (sc:=sc) (sc':=sc') h.2.1 h'.2.1 h.2.2.1 h'.2.2.1 eb2]
    | some p =>
     obtain ⟨k,x⟩:=p
     obtain ⟨rfl,_⟩:=List.cons.inj eb
     have h2:=(h'.1 _ _ rfl).1
     rcases act_text h.2.1 with h3 | h3 <;> (rw[h3] at h2;exact absurd h2 (by decide))
   | some p =>
    obtain ⟨k,x⟩:=p
    cases wh' with
    | none =>
     obtain ⟨rfl,_⟩:=List.cons.inj eb
     have h2:=(h.1 _ _ rfl).1
     rcases act_text h'.2.1 with h3 | h3 <;> (rw[h3] at h2;exact absurd h2 (by decide))
    | some p' =>
     obtain ⟨k',x'⟩:=p'
     obtain ⟨rfl,eb2⟩:=List.cons.inj eb
     have w1:=(h.1 _ _ rfl).2
     have w2:=(h'.1 _ _ rfl).2
     obtain ⟨e1,rfl,e3⟩:=split_uniq (p:=fun z:RTok=>z.text=cScore∨z.text=cReject) x.toks x'.toks act act' _ _ (fun z hz hp=>by
      have:=x.plain w1 z hz
      rcases hp with hp | hp
      ·exact this.2.2.2.1 hp
      ·exact this.2.2.2.2 hp) (fun z hz hp=>by
      have:=x'.plain w2 z hz
      rcases hp with hp | hp
      ·exact this.2.2.2.1 hp
      ·exact this.2.2.2.2 hp) (act_text h.2.1) (act_text h'.2.1) eb2
     rw[Tr.uniq x w1 x' w2 e1,sc_uniq (sc:=sc) (sc':=sc') h.2.1 h'.2.1 h.2.2.1 h'.2.2.1 e3]
theorem toksL_uniq:∀ (A B:List RSt),(∀ s∈A,s.wf)→(∀ s∈B,s.wf)→toksL A=toksL B→A=B
 | [],[],_,_,_=>rfl
 | [],b :: B,_,_,e=>by
  have h1:=congrArg List.length e
  have h2:=b.toks_two
  rw[toksL_cons,List.length_append] at h1
  simp only[toksL,List.flatMap_nil,List.length_nil] at h1
  omega
 | a :: A,[],_,_,e=>by
  have h1:=congrArg List.length e
  have h2:=a.toks_two
  rw[toksL_cons,List.length_append] at h1
  simp only[toksL,List.flatMap_nil,List.length_nil] at h1
  omega
 | a :: A,b :: B,ha,hb,e=>by
  rw[toksL_cons,toksL_cons] at e
  unfold RSt.toks at e
  rw[List.append_assoc,List.append_assoc] at e
  have wa:=ha a List.mem_cons_self
  have wb:=hb b List.mem_cons_self
  obtain ⟨e1,e2,e3⟩:=split_uniq (p:=fun z:RTok=>z.text=cSemi) a.body b.body a.semi b.semi _ _ (a.body_no_semi wa) (b.body_no_semi wb) (a.semi_text wa) (b.semi_text wb) e
  rw[RSt.uniq a b wa wb e1 e2,toksL_uniq A B (fun s hs=>ha s (List.mem_cons_of_mem _ hs)) (fun s hs=>hb s (List.mem_cons_of_mem _ hs)) e3]
theorem lets_split:∀ (L R L' R':List RSt),isLetL' L→isLetL' L'→isRuleL' R→isRuleL' R'→L++R=L'++R'→L=L'∧R=R'
 | [],R,[],R',_,_,_,_,e=>⟨rfl,e⟩
 | [],R,b :: L',R',_,h2,h3,_,e=>by
  have e':R=b :: (L'++R'):=e
  have:=h3 b (by rw[e'];exact List.mem_cons_self)
  rw[h2 b List.mem_cons_self] at this
  cases this
 | a :: L,R,[],R',h1,_,_,h4,e=>by
  have e':a :: (L++R)=R':=e
  have:=h4 a (by rw[← e'];exact List.mem_cons_self)
  rw[h1 a List.mem_cons_self] at this
  cases this
 | a :: L,R,b :: L',R',h1,h2,h3,h4,e=>by
  obtain ⟨rfl,e0⟩:=List.cons.inj e
  obtain ⟨e1,e2⟩:=lets_split L R L' R' (fun s hs=>h1 s (List.mem_cons_of_mem _ hs)) (fun s hs=>h2 s (List.mem_cons_of_mem _ hs)) h3 h4 e0
  exact ⟨by rw[e1],e2⟩
theorem PolicyOf.uniq {s:Txt} {L R L' R':List RSt} (h:PolicyOf s L R) (h':PolicyOf s L' R'):L=L'∧R=R':=by
 have e:=h.fine
 rw[h'.fine] at e
 have e2:toksL (L'++R')=toksL (L++R):=by simpa using e
 have:=toksL_uniq _ _ h.wf h'.wf e2.symm
 exact lets_split _ _ _ _ h.lets h'.lets h.rules h'.rules this
end Go.Proofs.YtldfkcpbjooemaaGreatDoor
namespace Go.Proofs.YtldfkcpbjooemaaGreatDoor
open Go.RowKit Go.Deep
theorem same_digW {a b:UInt8} (ha:isDig a=true) (h:sameC a b=true):isDig b=true:=by
 unfold sameC at h
 simp only[Bool.or_eq_true,Bool.and_eq_true] at h
 rcases h with (h | h) | h
 ·exact h.2
 ·exfalso
  have h1:=h.1
  unfold isDig isLet at *
  simp only[Bool.and_eq_true,decide_eq_true_eq] at *
  exact absurd (UInt8.le_trans h1.1 ha.2) (by decide)
 ·exfalso
  have h1:=h.1
  unfold isDig at ha
  simp only[Bool.and_eq_true,decide_eq_true_eq,beq_iff_eq] at *
  rcases h1 with rfl | rfl
  ·exact absurd ha.2 (by decide)
  ·exact absurd ha.1 (by decide)
theorem run_digW:∀ (l:Txt),isDig (headC l)=true→∀ x∈l.take (runLen l),isDig x=true
 | [],_,x,hx=>by simp[runLen] at hx
 | [a],h,x,hx=>by
  simp[runLen] at hx
  subst hx
  exact h
 | a :: b :: r,h,x,hx=>by
  have ha:isDig a=true:=h
  simp only[runLen] at hx
  split at hx
  ·rename_i hs
   rw[List.take_succ_cons] at hx
   rcases List.mem_cons.1 hx with rfl | hx
   ·exact ha
   ·exact run_digW (b :: r) (same_digW ha hs) x hx
  ·simp at hx
   subst hx
   exact ha
theorem take_head (c:UInt8) (r:Txt) (n:Nat) (h:1≤n):headC ((c :: r).take n)=c:=by
 obtain ⟨m,rfl⟩:∃ m,n=m+1:=⟨n - 1,by omega⟩
 rfl
theorem toks_dig:∀ (n:Nat) (s:Txt) (pos:Nat) (l:List RTok),toksRF n s pos=.ok l→∀ t∈l,isDig (headC t.text)=true→∀ x∈t.text,isDig x=true
 | _,[],_,l,h,t,ht,_,_,_=>by
  simp[toksRF] at h
  subst h
  cases ht
 | 0,c :: r,_,l,h,t,ht,_,_,_=>by
  simp[toksRF] at h
  subst h
  cases ht
 | n+1,c :: r,pos,l,h,t,ht,hd,x,hx=>by
  rw[toksRF] at h
  split at h
  ·exact toks_dig n r (pos+1) l h t ht hd x hx
  ·split at h
   ·split at h
    ·rename_i l' hl'
     have h':⟨(c :: r).take (runLen (c :: r)),pos⟩ :: l'=l:=by simpa using h
     rw[← h'] at ht
     rcases List.mem_cons.1 ht with rfl | ht
     ·simp only at hd hx
      rw[take_head c r _ (runLen_pos c r)] at hd
      exact run_digW (c :: r) hd x hx
     ·exact toks_dig n _ _ l' hl' t ht hd x hx
    ·cases h
   ·cases h
theorem fine_dig {s:Txt} {l:List RTok} (h:tokened s=.fine l):∀ t∈l,isDig (headC t.text)=true→∀ x∈t.text,isDig x=true:=by
 unfold tokened at h
 split at h
 ·cases h
 ·split at h
  ·cases h
  ·rename_i l' hl'
   split at h
   ·cases h
   ·split at h
    ·have:l'=l:=by simpa using h
     subst this
     exact toks_dig _ s 0 l' hl'
    ·cases h
def ShapeN (n:PNode):Prop:=(n.ops=0∧singleT n.tok.text=true)∨(n.ops=1∧unT n.tok.text=true)∨(n.ops=2∧0 < bindsT n.tok.text)
theorem Tr.shapes (t:Tr) (h:t.wf):∀ b n,n∈t.flat b→ShapeN n:=by
 refine Tr.ind (P:=fun t=>∀ b n,n∈t.flat b→ShapeN n) t h ?_ ?_ ?_ ?_
 ·intro a ha b n hn
  rw[Tr.flat_leaf,List.mem_singleton] at hn
  subst hn
  exact .inl ⟨rfl,(Tr.wf_leaf ha).1⟩
 ·intro op e hw ih b n hn
  rw[Tr.flat_un,List.mem_append,List.mem_singleton] at hn
  rcases hn with hn | rfl
  ·exact ih b n hn
  ·exact .inr (.inl ⟨rfl,(Tr.wf_un hw).1⟩)
 ·intro op l r hw ihl ihr b n hn
  rw[Tr.flat_bin,List.mem_append,List.mem_append,List.mem_singleton] at hn
  rcases hn with (hn | hn) | rfl
  ·exact ihl _ n hn
  ·exact ihr _ n hn
  ·exact .inr (.inr ⟨rfl,(Tr.wf_bin hw).1⟩)
 ·intro o e c hw ih b n hn
  rw[Tr.flat_par] at hn
  exact ih b n hn
theorem optNodes_shapes {o:Option Tr} (h:∀ e,o=some e→e.wf) (b:Nat):∀ n∈optNodes b o,ShapeN n:=by
 cases o with
 | none=>intro n hn;cases hn
 | some e=>exact fun n hn=>e.shapes (h e rfl) b n hn
theorem RSt.shapes (s:RSt) (h:s.wf) (b:Nat):∀ n∈s.nodes b,ShapeN n:=by
 rcases s.cases with ⟨kw,name,eq,e,semi,rfl⟩ | ⟨wh,act,sc,semi,rfl⟩
 ·exact fun n hn=>e.shapes h.2.2.2.1 b n hn
 ·intro n hn
  rw[RSt.nodes_rule,List.mem_append] at hn
  rcases hn with hn | hn
  ·refine optNodes_shapes (fun e he=>?_) b n hn
   cases wh with
   | none=>cases he
   | some p=>cases he;exact (h.1 p.1 p.2 rfl).2
  ·exact optNodes_shapes (fun e he=>h.2.2.1 e he) _ n hn
theorem nodes_shapes:∀ (l:List RSt),(∀ s∈l,s.wf)→∀ b n,n∈nodesS b l→ShapeN n
 | [],_,_,n,hn=>by cases hn
 | s :: r,h,b,n,hn=>by
  rw[nodesS,List.mem_append] at hn
  rcases hn with hn | hn
  ·exact s.shapes (h s List.mem_cons_self) b n hn
  ·exact nodes_shapes r (fun x hx=>h x (List.mem_cons_of_mem _ hx)) _ n hn
theorem kind_one {t:Txt} (hm:mayT t=true) (hk:kindP t=1):isDig (headC t)=true:=by
 rcases kind_cases t hm with ⟨h1,h2⟩ | ⟨h1,h2,h3⟩ | ⟨k,hk',_,h2⟩ | ⟨k,hk',_,h2⟩
 ·exact h1
 ·omega
 ·omega
 ·omega
theorem may_len {t:Txt} (hm:mayT t=true) (hd:isDig (headC t)=true):t.length≤18:=by
 unfold mayT at hm
 rw[if_pos hd] at hm
 simpa using hm
theorem shape_ok {n:PNode} (hs:ShapeN n) (hm:mayT n.tok.text=true) (hd:isDig (headC n.tok.text)=true→∀ x∈n.tok.text,isDig x=true) (h1:n.left≤1000) (h2:n.right≤1000):NodeOk n:=by
 have K:=kindOf n.tok.text hm
 refine ⟨fun ho=>?_,fun hc ho=>?_,fun hk=>⟨may_len hm (kind_one hm hk),hd (kind_one hm hk)⟩,h1,h2, ?_⟩
 ·rcases hs with ⟨h,_⟩ | ⟨_,hu⟩ | ⟨h,_⟩
  ·omega
  ·unfold unT at hu
   simp only[Bool.or_eq_true,beq_iff_eq] at hu
   rcases hu with hu | hu
   ·rw[K.kminus.2 hu,ho];exact .inl rfl
   ·rw[K.knot.2 hu,ho];exact .inr rfl
  ·omega
 ·rcases hs with ⟨h,_⟩ | ⟨h,_⟩ | ⟨_,hb⟩
  ·omega
  ·omega
  ·rw[← K.binds] at hb
   rw[ho]
   generalize kindP n.tok.text=k at hb hc ⊢
   have hk:k=8∨k=7∨k=23∨k=24∨k=25∨k=26∨k=27∨k=28∨k=29∨k=30∨k=31:=by
    unfold bindK at hb
    (repeat' split at hb) <;> omega
   rcases hk with rfl | rfl | rfl | rfl | rfl | rfl | rfl | rfl | rfl | rfl | rfl
   ·revert hc;decide
   ·revert hc;decide
   all_goals decide
 ·rcases hs with ⟨h,_⟩ | ⟨h,_⟩ | ⟨h,_⟩ <;> omega
theorem facts_in (ls:List PLet):∀ (N:List PNode) (gs:List Fact),(∀ n∈N,NumOk n.tok)→(∀ i,FactIn (atF gs i))→∀ i,FactIn (atF (factsG ls gs N) i)
 | [],gs,_,h=>h
 | n :: r,gs,hn,h=>facts_in ls r _ (fun x hx=>hn x (List.mem_cons_of_mem _ hx)) (atF_snoc_in h (factN_in (hn n List.mem_cons_self) h))
theorem policy_ok {s:Txt} {L R:List RSt} (h:PolicyOf s L R) (hN:(nodesS 0 (L++R)).length≤401):CmpOk (nodesS 0 (L++R)) (letsS 0 (L++R)) (rulesS 0 (L++R)) (factsP (letsS 0 (L++R)) (nodesS 0 (L++R))):=by
 have hf:=fits_of h hN
 have hdig:=fine_dig h.fine
 have ho:=nodes_ok (L++R) h.wf 0
 have hnd:∀ n∈nodesS 0 (L++R),NodeOk n:=fun n hn=>shape_ok (nodes_shapes (L++R) h.wf 0 n hn) (hf.x.may n hn) (hdig n.tok (ho n hn).1) (hf.n n hn).1 (hf.n n hn).2
 refine ⟨?_,hnd,fun n hn=>?_,hf.lets hN,fun r hr=>?_,fun r hr=>?_⟩
 ·exact facts_in _ _ [] (fun n hn=>(hnd n hn).num) (fun i=>by unfold atF;split <;> exact FactIn.none)
 ·have:=(kindOf n.tok.text (hf.x.may n hn)).le
  omega
 ·have:=(hf.x.w r hr).lt
  omega
 ·have:=(hf.x.s r hr).lt
  omega
end Go.Proofs.YtldfkcpbjooemaaGreatDoor
