/-
  Compile: act, guarded, applies.
-/
import Derived.Test.YtpcjadaeolkngaaGreatDoorJ22
set_option linter.unusedVariables false
set_option linter.unusedSimpArgs false
namespace Go.Proofs.YtpcjadaeolkngaaGreatDoor
open Go.RowKit Go.Deep
def applyN:Fact→Nat
 | none=>1
 | some v=>if v=0 then 0 else 2
def ruC(r:PRule):Array Value:=#[.bool r.hw,.int .i64 r.when.place,.int .i64 r.when.fr,.int .i64 r.when.behind,.bool r.hs,.int .i64 r.score.place,.int .i64 r.score.fr,.int .i64 r.score.behind]
def ruA(r:PRule):Value:=.agg #[.bool r.hw,.int .i64 r.when.place,.int .i64 r.when.fr,.int .i64 r.when.behind,.bool r.hs,.int .i64 r.score.place,.int .i64 r.score.fr,.int .i64 r.score.behind]
structure RuSt(w wx:World)(cb:Nat)(r:PRule)(nv lv rv fv:Value)(h:Nat)(N:List PNode)(ls:List PLet)(rs:List PRule)(fs:List Fact):Prop where
 c:CmpAt wx cb nv lv rv fv h N ls rs fs
 r:Blk wx w.heap.size (ruC r) 110
 bu:But cb w wx
 nn:cb<w.heap.size
theorem RuSt.start{w:World}{cb:Nat}{nv lv rv fv:Value}{h:Nat}{N:List PNode}{ls:List PLet}{rs:List PRule}{fs:List Fact}(H:CmpAt w cb nv lv rv fv h N ls rs fs)(r:PRule):RuSt w (w.alloc (.cells (ruC r) 110)) cb r nv lv rv fv h N ls rs fs :=
 ⟨H.al _,Blk.new w _ _,But.of (box3 w _),H.blk.lt⟩
theorem RuSt.call{w wx w':World}{cb:Nat}{r:PRule}{nv lv rv fv:Value}{h h':Nat}{N:List PNode}{ls:List PLet}{rs:List PRule}{fs:List Fact}(H:RuSt w wx cb r nv lv rv fv h N ls rs fs)(hc:CmpAt w' cb nv lv rv fv h' N ls rs fs)(hb:But cb wx w'):RuSt w w' cb r nv lv rv fv h' N ls rs fs :=
 ⟨hc,H.r.but hb (by have:=H.nn;omega),H.bu.trans hb,H.nn⟩
theorem RuSt.below{w wx w':World}{cb:Nat}{r:PRule}{nv lv rv fv:Value}{h:Nat}{N:List PNode}{ls:List PLet}{rs:List PRule}{fs:List Fact}(H:RuSt w wx cb r nv lv rv fv h N ls rs fs)(hb:Below wx.heap.size wx w'):RuSt w w' cb r nv lv rv fv h N ls rs fs:=H.call (H.c.below hb) (But.of hb)
theorem RuSt.dr{w wx:World}{cb:Nat}{r:PRule}{nv lv rv fv:Value}{h:Nat}{N:List PNode}{ls:List PLet}{rs:List PRule}{fs:List Fact}(H:RuSt w wx cb r nv lv rv fv h N ls rs fs):RuSt w wx.drew cb r nv lv rv fv h N ls rs fs:=H.below (below_drewN (Below.refl _ wx) 1)
set_option maxHeartbeats 4000000 in
set_option maxRecDepth 100000 in
theorem act_any{w:World}{cb:Nat}{nv lv rv fv:Value}{h:Nat}{N:List PNode}{ls:List PLet}{rs:List PRule}{fs:List Fact}(H:CmpAt w cb nv lv rv fv h N ls rs fs)(hp:CmpOk N ls rs fs)(r:PRule)(hr:r∈rs)(c:List Nat)(h':Nat)(hc:actH fs ls N r h=(c,h'))(hlen:c.length≤60000) :
  Calls Tryz.prog 76 #[.pointer (some ⟨cb,0,none⟩),ruA r] w fun e w'=>e=.returned (.string (bsN c))∧CmpAt w' cb nv lv rv fv h' N ls rs fs∧But cb w w':=by
 have HR:=mH (RuSt.start H r)
 unfold ruA
 cases hs:r.hs with
 | false =>
  rw[actH,hs,if_neg (by simp)]at hc
  cases hc
  have hrc:ruC r=#[.bool r.hw,.int .i64 r.when.place,.int .i64 r.when.fr,.int .i64 r.when.behind,.bool false,.int .i64 r.score.place,.int .i64 r.score.fr,.int .i64 r.score.behind]:=by unfold ruC;rw[hs]
  rw[hrc]at HR
  clear H hp hrc hs
  go_enter Tryz.func76,Tryz.ntmps76
  go_wp2_with (go_at_call 78;refine (Bytes_any 17 (by omega) 0 (by decide) _ HR.out.c.gb).mono ?_;rintro e w1 ⟨rfl,hb1⟩;have HC:=mH (HR.out.c.below hb1);have HB:=mH (HR.out.bu.trans (But.of hb1));clear hb1)
  go_ret
  exact ⟨rfl,HC.out,HB.out⟩
 | true =>
  obtain ⟨ce,hE,hEx⟩:∃ ce hE,exprH fs ls N r.score h=(ce,hE):=⟨_,_,rfl⟩
  rw[actH,hs,if_pos rfl,hEx]at hc
  simp only[Prod.mk.injEq]at hc
  obtain ⟨rfl,rfl⟩:=hc
  have hl16:(opC 16 0).length=1:=by rw[opC_length];rfl
  simp only[List.length_append,hl16]at hlen
  have HX:Hid (∀ wx,CmpAt wx cb nv lv rv fv h N ls rs fs→Calls Tryz.prog 118 #[.pointer (some ⟨cb,0,none⟩),expA r.score] wx fun e w'=>e=.returned (.string (bsN ce))∧CmpAt w' cb nv lv rv fv hE N ls rs fs∧But cb wx w'):=fun wx Hx=>expr_any Hx hp r.score (hp.sc r hr) ce hE hEx (by omega)
  unfold expA at HX
  have hrc:ruC r=#[.bool r.hw,.int .i64 r.when.place,.int .i64 r.when.fr,.int .i64 r.when.behind,.bool true,.int .i64 r.score.place,.int .i64 r.score.fr,.int .i64 r.score.behind]:=by unfold ruC;rw[hs]
  rw[hrc]at HR
  have HRC:=mH hrc
  have HFin:Hid (bsN ce++bsN (opC 16 0)=bsN (ce++opC 16 0)):=bsN_append _ _
  have zl:(bsN ce).size=ce.length:=bsN_len _
  have zo:(bsN (opC 16 0)).size=1:=by rw[opC_size];rfl
  clear H hp hrc hs hEx
  go_enter Tryz.func76,Tryz.ntmps76
  go_wp2_with (first
   | (go_at_call 118;refine (HX.out _ HR.out.c).mono ?_;rintro e w1 ⟨rfl,hc1,hb1⟩;replace HR:=mH (HR.out.call hc1 hb1);clear hc1 hb1)
   | (go_at_call 78;refine (Bytes_any 16 (by omega) 0 (by decide) _ HR.out.c.gb).mono ?_;rintro e w2 ⟨rfl,hb2⟩;replace HR:=mH (HR.out.below hb2);clear hb2))
  go_ret
  exact ⟨by rw[← HFin.out];rfl,HR.out.c,HR.out.bu⟩
set_option maxHeartbeats 4000000 in
set_option maxRecDepth 100000 in
theorem guarded_any{w:World}{cb:Nat}{nv lv rv fv:Value}{h:Nat}{N:List PNode}{ls:List PLet}{rs:List PRule}{fs:List Fact}(H:CmpAt w cb nv lv rv fv h N ls rs fs)(hp:CmpOk N ls rs fs)(r:PRule)(hr:r∈rs)(c:List Nat)(h':Nat)(hc:guardH fs ls N r h=(c,h'))(hlen:c.length≤60000) :
  Calls Tryz.prog 77 #[.pointer (some ⟨cb,0,none⟩),ruA r] w fun e w'=>e=.returned (.string (bsN c))∧CmpAt w' cb nv lv rv fv h' N ls rs fs∧But cb w w':=by
 have HR:=mH (RuSt.start H r)
 obtain ⟨cw,hW,hWx⟩:∃ cw hW,exprH fs ls N r.when h=(cw,hW):=⟨_,_,rfl⟩
 obtain ⟨ca,hA,hAx⟩:∃ ca hA,actH fs ls N r hW=(ca,hA):=⟨_,_,rfl⟩
 rw[guardH,hWx]at hc
 simp only at hc
 rw[hAx]at hc
 simp only[Prod.mk.injEq]at hc
 obtain ⟨rfl,rfl⟩:=hc
 have hl14:(opC 14 (ca.length:Int)).length=3:=by rw[opC_length];rfl
 simp only[List.length_append,hl14]at hlen
 have HX:Hid (∀ wx,CmpAt wx cb nv lv rv fv h N ls rs fs→Calls Tryz.prog 118 #[.pointer (some ⟨cb,0,none⟩),expA r.when] wx fun e w'=>e=.returned (.string (bsN cw))∧CmpAt w' cb nv lv rv fv hW N ls rs fs∧But cb wx w'):=fun wx Hx=>expr_any Hx hp r.when (hp.wh r hr) cw hW hWx (by omega)
 have HY:Hid (∀ wx,CmpAt wx cb nv lv rv fv hW N ls rs fs→Calls Tryz.prog 76 #[.pointer (some ⟨cb,0,none⟩),ruA r] wx fun e w'=>e=.returned (.string (bsN ca))∧CmpAt w' cb nv lv rv fv hA N ls rs fs∧But cb wx w'):=fun wx Hx=>act_any Hx hp r hr ca hA hAx (by omega)
 unfold expA at HX
 unfold ruA at HY ⊢
 have HFin:Hid (bsN cw++bsN (opC 14 (ca.length:Int))++bsN ca=bsN (cw++opC 14 (ca.length:Int)++ca)):=by rw[Hid,bsN_append,bsN_append]
 have zl:(bsN cw).size=cw.length:=bsN_len _
 have za:(bsN ca).size=ca.length:=bsN_len _
 have zo:(bsN (opC 14 (ca.length:Int))).size=3:=by rw[opC_size];rfl
 clear H hp hWx hAx
 go_enter Tryz.func77,Tryz.ntmps77
 go_wp2_with (first
  | (go_at_call 118;refine (HX.out _ HR.out.c).mono ?_;rintro e w1 ⟨rfl,hc1,hb1⟩;replace HR:=mH (HR.out.call hc1 hb1);clear hc1 hb1;have u0:=HR.out.r.cell 0;have u1:=HR.out.r.cell 1;have u2:=HR.out.r.cell 2;have u3:=HR.out.r.cell 3;have u4:=HR.out.r.cell 4;have u5:=HR.out.r.cell 5;have u6:=HR.out.r.cell 6;have u7:=HR.out.r.cell 7;have hlr:=HR.out.r.lt;simp only[ruC,List.getElem?_toArray,List.getElem?_cons_zero,List.getElem?_cons_succ]at u0 u1 u2 u3 u4 u5 u6 u7)
  | (go_at_call 76;refine (HY.out _ HR.out.c).mono ?_;rintro e w2 ⟨rfl,hc2,hb2⟩;clear u0 u1 u2 u3 u4 u5 u6 u7 hlr;replace HR:=mH (HR.out.call hc2 hb2);clear hc2 hb2)
  | (go_at_call 78;refine (Bytes_any 14 (by omega) (ca.length:Int) (by unfold In64;omega) _ HR.out.c.gb).mono ?_;rintro e w3 ⟨rfl,hb3⟩;replace HR:=mH (HR.out.below hb3);clear hb3))
 go_ret
 exact ⟨by rw[← HFin.out];rfl,HR.out.c,HR.out.bu⟩
theorem RuSt.al{w wx:World}{cb:Nat}{r:PRule}{nv lv rv fv:Value}{h:Nat}{N:List PNode}{ls:List PLet}{rs:List PRule}{fs:List Fact}(H:RuSt w wx cb r nv lv rv fv h N ls rs fs)(o:Obj):RuSt w (wx.alloc o) cb r nv lv rv fv h N ls rs fs:=H.below (box3 wx o)
theorem apEnd{w w1 W:World}{cb:Nat}{r:PRule}{nv lv rv fv:Value}{h:Nat}{N:List PNode}{ls:List PLet}{rs:List PRule}{fs:List Fact}(H:RuSt w w1 cb r nv lv rv fv h N ls rs fs)(hb:Below w1.heap.size w1 W):CmpAt W cb nv lv rv fv h N ls rs fs∧But cb w W:=⟨H.c.below hb,H.bu.trans (But.of hb)⟩
set_option maxHeartbeats 4000000 in
set_option maxRecDepth 100000 in
theorem applies_any{w:World}{cb:Nat}{nv lv rv fv:Value}{h:Nat}{N:List PNode}{ls:List PLet}{rs:List PRule}{fs:List Fact}(H:CmpAt w cb nv lv rv fv h N ls rs fs)(r:PRule)(hr:r.when.behind≤401) :
  Calls Tryz.prog 75 #[.pointer (some ⟨cb,0,none⟩),ruA r] w fun e w'=>e=.returned (.int .i64 (appliesF fs r:Nat))∧CmpAt w' cb nv lv rv fv h N ls rs fs∧But cb w w':=by
 have HR:=mH (RuSt.start H r)
 unfold ruA
 cases hs:r.hw with
 | false =>
  have HA:Hid (appliesF fs r=2):=by rw[Hid,appliesF,hs,if_neg (by simp)]
  have hrc:ruC r=#[.bool false,.int .i64 r.when.place,.int .i64 r.when.fr,.int .i64 r.when.behind,.bool r.hs,.int .i64 r.score.place,.int .i64 r.score.fr,.int .i64 r.score.behind]:=by unfold ruC;rw[hs]
  rw[hrc]at HR
  rw[HA.out]
  clear H hrc hs
  go_enter Tryz.func75,Tryz.ntmps75
  go_wp2
  go_ret
  exact ⟨rfl,HR.out.c,HR.out.bu⟩
 | true =>
  have hrc:ruC r=#[.bool true,.int .i64 r.when.place,.int .i64 r.when.fr,.int .i64 r.when.behind,.bool r.hs,.int .i64 r.score.place,.int .i64 r.score.fr,.int .i64 r.score.behind]:=by unfold ruC;rw[hs]
  have HRC:=mH hrc
  rw[hrc]at HR
  obtain ⟨F,hF⟩:∃ F,atF fs ((r.when.behind:Int)-1)=F:=⟨_,rfl⟩
  obtain ⟨m,hm⟩:∃ m:Int,(r.when.behind:Int)-1=m:=⟨_,rfl⟩
  have HWR:Hid (IntKind.i64.wrap m=m):=wrap_in (by unfold In64;omega)
  have hF2:=hF
  rw[hm]at hF2
  have HFF:=mH hF2
  have HFB:=mH H.fb
  clear hF2
  have HAP:Hid (appliesF fs r=applyN F):=by
   rw[Hid,appliesF,hs,if_pos rfl,hF]
   cases F <;> rfl
  clear H hrc hs hF
  go_enter Tryz.func75,Tryz.ntmps75
  go_wp2
  generalize w.alloc (.cells #[.bool true,.int .i64 r.when.place,.int .i64 r.when.fr,.int .i64 r.when.behind,.bool r.hs,.int .i64 r.score.place,.int .i64 r.score.fr,.int .i64 r.score.behind] 110)=w1 at HR ⊢
  have k3:=HR.out.c.blk.cell 3
  have hlc:=HR.out.c.blk.lt
  have u0:=HR.out.r.cell 0
  have u1:=HR.out.r.cell 1
  have u2:=HR.out.r.cell 2
  have u3:=HR.out.r.cell 3
  have u4:=HR.out.r.cell 4
  have u5:=HR.out.r.cell 5
  have u6:=HR.out.r.cell 6
  have u7:=HR.out.r.cell 7
  have hlr:=HR.out.r.lt
  simp only[ruC,List.getElem?_toArray,List.getElem?_cons_zero,List.getElem?_cons_succ]at u0 u1 u2 u3 u4 u5 u6 u7
  simp only[List.getElem?_toArray,List.getElem?_cons_zero,List.getElem?_cons_succ]at k3
  cases F with
  | none =>
   go_region_with (go_at_call 110;(try rw[HWR.out]);refine (factAt_any fs _ m _ (by first | with_reducible exact (HR.out.al (.cells #[.bool false,.int .i64 0] 151)).dr.c.fr | with_reducible exact HR.out.dr.c.fr) HFB.out ⟨by omega,by omega⟩).mono ?_;rintro e w2 ⟨rfl,hb2⟩;rw[HFF.out];rw[show factA none=.agg #[.bool false,.int .i64 0] from rfl];clear u0 u1 u2 u3 u4 u5 u6 u7 hlr;clear k3 hlc;(first | (have hb3:Below (w1.alloc (.cells #[.bool false,.int .i64 0] 151)).drew.heap.size (w1.alloc (.cells #[.bool false,.int .i64 0] 151)).drew w2:=(by with_reducible exact hb2);have hZ:=((Blk.new w1 #[.bool false,.int .i64 0] 151).drew).below hb3 (by simp);have hz0:=hZ.cell 0;have hz1:=hZ.cell 1;have fz0:=hZ.free 0;have fz1:=hZ.free 1;have hzl:=hZ.lt;have HBX:Hid (Below w1.heap.size w1 w2):=(below_drewN (box3 w1 (.cells #[.bool false,.int .i64 0] 151)) 1).trans (hb3.mono (by simp));clear hb2 hb3 hZ) | (have hb3:Below w1.drew.heap.size w1.drew w2:=(by with_reducible exact hb2);have HBX:Hid (Below w1.heap.size w1 w2):=(below_drewN (Below.refl _ w1) 1).trans hb3;clear hb2 hb3)))
   all_goals
    go_wp2
    go_ret
    (first
     | (have hq:=hz0;exact ⟨by rw[HAP.out];rfl,apEnd HR.out ((HBX.out.setCell (p:=⟨w1.heap.size,0,none⟩) (Nat.le_refl _) _).setCell (p:=⟨w1.heap.size,1,none⟩) (Nat.le_refl _) _)⟩)
     | exact ⟨by rw[HAP.out];rfl,apEnd HR.out (HBX.out.alloc HBX.out.size _)⟩)
  | some v =>
   by_cases hv:v=0
   ·subst hv
    go_region_with (go_at_call 110;(try rw[HWR.out]);refine (factAt_any fs _ m _ (by first | with_reducible exact (HR.out.al (.cells #[.bool false,.int .i64 0] 151)).dr.c.fr | with_reducible exact HR.out.dr.c.fr) HFB.out ⟨by omega,by omega⟩).mono ?_;rintro e w2 ⟨rfl,hb2⟩;rw[HFF.out];rw[show factA (some 0)=.agg #[.bool true,.int .i64 0] from rfl];clear u0 u1 u2 u3 u4 u5 u6 u7 hlr;clear k3 hlc;(first | (have hb3:Below (w1.alloc (.cells #[.bool false,.int .i64 0] 151)).drew.heap.size (w1.alloc (.cells #[.bool false,.int .i64 0] 151)).drew w2:=(by with_reducible exact hb2);have hZ:=((Blk.new w1 #[.bool false,.int .i64 0] 151).drew).below hb3 (by simp);have hz0:=hZ.cell 0;have hz1:=hZ.cell 1;have fz0:=hZ.free 0;have fz1:=hZ.free 1;have hzl:=hZ.lt;have HBX:Hid (Below w1.heap.size w1 w2):=(below_drewN (box3 w1 (.cells #[.bool false,.int .i64 0] 151)) 1).trans (hb3.mono (by simp));clear hb2 hb3 hZ) | (have hb3:Below w1.drew.heap.size w1.drew w2:=(by with_reducible exact hb2);have HBX:Hid (Below w1.heap.size w1 w2):=(below_drewN (Below.refl _ w1) 1).trans hb3;clear hb2 hb3)))
    all_goals
     go_wp2
     go_ret
     (first
     | (have hq:=hz0;exact ⟨by rw[HAP.out];rfl,apEnd HR.out ((HBX.out.setCell (p:=⟨w1.heap.size,0,none⟩) (Nat.le_refl _) _).setCell (p:=⟨w1.heap.size,1,none⟩) (Nat.le_refl _) _)⟩)
     | exact ⟨by rw[HAP.out];rfl,apEnd HR.out (HBX.out.alloc HBX.out.size _)⟩)
   ·have hv0:(v==0)=false:=by simp[hv]
    have HV:Hid (appliesF fs r=2):=by rw[Hid,HAP.out];simp[applyN,hv]
    clear hv HAP
    go_region_with (go_at_call 110;(try rw[HWR.out]);refine (factAt_any fs _ m _ (by first | with_reducible exact (HR.out.al (.cells #[.bool false,.int .i64 0] 151)).dr.c.fr | with_reducible exact HR.out.dr.c.fr) HFB.out ⟨by omega,by omega⟩).mono ?_;rintro e w2 ⟨rfl,hb2⟩;rw[HFF.out];rw[show factA (some v)=.agg #[.bool true,.int .i64 v] from rfl];clear u0 u1 u2 u3 u4 u5 u6 u7 hlr;clear k3 hlc;(first | (have hb3:Below (w1.alloc (.cells #[.bool false,.int .i64 0] 151)).drew.heap.size (w1.alloc (.cells #[.bool false,.int .i64 0] 151)).drew w2:=(by with_reducible exact hb2);have hZ:=((Blk.new w1 #[.bool false,.int .i64 0] 151).drew).below hb3 (by simp);have hz0:=hZ.cell 0;have hz1:=hZ.cell 1;have fz0:=hZ.free 0;have fz1:=hZ.free 1;have hzl:=hZ.lt;have HBX:Hid (Below w1.heap.size w1 w2):=(below_drewN (box3 w1 (.cells #[.bool false,.int .i64 0] 151)) 1).trans (hb3.mono (by simp));clear hb2 hb3 hZ) | (have hb3:Below w1.drew.heap.size w1.drew w2:=(by with_reducible exact hb2);have HBX:Hid (Below w1.heap.size w1 w2):=(below_drewN (Below.refl _ w1) 1).trans hb3;clear hb2 hb3)))
    all_goals
     go_wp2
     go_ret
     (first
     | (have hq:=hz0;exact ⟨by rw[HV.out];rfl,apEnd HR.out ((HBX.out.setCell (p:=⟨w1.heap.size,0,none⟩) (Nat.le_refl _) _).setCell (p:=⟨w1.heap.size,1,none⟩) (Nat.le_refl _) _)⟩)
     | exact ⟨by rw[HV.out];rfl,apEnd HR.out (HBX.out.alloc HBX.out.size _)⟩)
theorem rulesH_ext(fs:List Fact)(ls:List PLet)(N:List PNode):∀ (rs:List PRule) (c:List Nat) (h:Nat),∃ d,(rulesH fs ls N rs c h).1=c++d
 | [],c,h=>⟨_,rfl⟩
 | r :: rs,c,h=>by
  rw[rulesH]
  split
  ·exact ⟨_,rfl⟩
  ·split
   ·obtain ⟨d,hd⟩:=rulesH_ext fs ls N rs (c++(guardH fs ls N r h).1) (guardH fs ls N r h).2
    exact ⟨(guardH fs ls N r h).1++d,by rw[hd,List.append_assoc]⟩
   ·exact rulesH_ext fs ls N rs c h
theorem appliesF_le(fs:List Fact)(r:PRule):appliesF fs r≤2:=by
 unfold appliesF
 split
 ·split
  ·omega
  ·split <;> omega
 ·omega
theorem rule_cells{w:World}{cb:Nat}{nv lv rv fv:Value}{h:Nat}{N:List PNode}{ls:List PLet}{rs:List PRule}{fs:List Fact}(H:CmpAt w cb nv lv rv fv h N ls rs fs){i:Nat}(hi:i<rs.length):∃ g o cap,rv=.slice (some ⟨g,o,none⟩) rs.length cap∧rs.length≤cap∧g<w.heap.size∧∀ j u,(cellU rs[i])[j]?=some u→w.cell? ⟨g,o+(i*8+j),none⟩=some u:=by
 obtain ⟨g,o,cap,hv,hcap,hg,hcl⟩:=H.pa.r.pos (by omega)
 refine ⟨g,o,cap,hv,hcap,hg,fun j u hu=>?_⟩
 have hj:j<8:=by
  have:=(List.getElem?_eq_some_iff.1 hu).1
  simpa[cellU] using this
 exact hcl (i*8+j) u ((flat_get cellU 8 (fun _=>rfl) rs i hi j hj).trans hu)
set_option maxHeartbeats 8000000 in
set_option maxRecDepth 100000 in
theorem rules_any{w:World}{cb:Nat}{nv lv rv fv:Value}{h:Nat}{N:List PNode}{ls:List PLet}{rs:List PRule}{fs:List Fact}(H:CmpAt w cb nv lv rv fv h N ls rs fs)(hp:CmpOk N ls rs fs)(C:List Nat)(h':Nat)(hc:rulesH fs ls N rs [] h=(C,h'))(hlen:C.length≤60000) :
  Calls Tryz.prog 48 #[.pointer (some ⟨cb,0,none⟩)] w fun e w'=>e=.returned (.string (bsN C))∧CmpAt w' cb nv lv rv fv h' N ls rs fs∧But cb w w':=by
 obtain ⟨ra,rc,rfl⟩:=H.pa.r.shape
 have hrb:=H.pa.rb
 have HC:=mH H
 have HP:=mH hp
 have HCC:=mH hc
 clear H hp hc
 go_enter Tryz.func48,Tryz.ntmps48
 go_wp2
 go_loopw [3,4] (fun vc vi wr=>∃ (i:Nat) (c:List Nat) (h1:Nat),i≤rs.length∧vi=.int .i64 i∧vc=.string (bsN c)∧CmpAt wr cb nv lv (.slice ra rs.length rc) fv h1 N ls rs fs∧But cb w wr∧rulesH fs ls N (rs.drop i) c h1=(C,h')) (fun _ i _=>1000-(intOf i).toNat)
 case atStart=>exact ⟨0,[],h,Nat.zero_le _,rfl,rfl,HC.out,But.refl _ _,HCC.out⟩
 case round =>
  obtain ⟨i,c,h1,hi,rfl,rfl,hcm,hbu,hgo⟩:=hrel
  clear HC HCC
  obtain ⟨dd,hdd⟩:=rulesH_ext fs ls N (rs.drop i) c h1
  rw[hgo]at hdd
  have hcl:c.length≤60000:=by
   have:=congrArg List.length hdd
   simp only[List.length_append]at this
   omega
  clear hdd dd
  have zc:(bsN c).size=c.length:=bsN_len _
  have hlc:=hcm.blk.lt
  have k2:=hcm.blk.cell 2
  simp only[List.getElem?_toArray,List.getElem?_cons_zero,List.getElem?_cons_succ]at k2
  have HBU:=mH hbu
  clear hbu
  by_cases hlt:i<rs.length
  ·obtain ⟨g,o,cap,hcut,hcap,hg,hcs⟩:=rule_cells hcm hlt
   cases hcut
   rw[List.drop_eq_getElem_cons hlt]at hgo
   have hmem:rs[i]∈rs:=List.getElem_mem hlt
   obtain ⟨r,hr⟩:∃ r,rs[i]=r:=⟨_,rfl⟩
   rw[hr]at hgo hcs hmem
   clear hr
   have d0:wr.cell? ⟨g,o+i*8,none⟩=some (.bool r.hw):=hcs 0 _ rfl
   have d1:wr.cell? ⟨g,o+i*8+1,none⟩=some (.int .i64 r.when.place):=by rw[Nat.add_assoc];exact hcs 1 _ rfl
   have d2:wr.cell? ⟨g,o+i*8+2,none⟩=some (.int .i64 r.when.fr):=by rw[Nat.add_assoc];exact hcs 2 _ rfl
   have d3:wr.cell? ⟨g,o+i*8+3,none⟩=some (.int .i64 r.when.behind):=by rw[Nat.add_assoc];exact hcs 3 _ rfl
   have d4:wr.cell? ⟨g,o+i*8+4,none⟩=some (.bool r.hs):=by rw[Nat.add_assoc];exact hcs 4 _ rfl
   have d5:wr.cell? ⟨g,o+i*8+5,none⟩=some (.int .i64 r.score.place):=by rw[Nat.add_assoc];exact hcs 5 _ rfl
   have d6:wr.cell? ⟨g,o+i*8+6,none⟩=some (.int .i64 r.score.fr):=by rw[Nat.add_assoc];exact hcs 6 _ rfl
   have d7:wr.cell? ⟨g,o+i*8+7,none⟩=some (.int .i64 r.score.behind):=by rw[Nat.add_assoc];exact hcs 7 _ rfl
   have HR:=mH (RuSt.start hcm r)
   have HWB:=mH (HP.out.wh r hmem)
   have hap:=appliesF_le fs r
   rw[rulesH]at hgo
   obtain ⟨ap,hapE⟩:∃ ap,appliesF fs r=ap:=⟨_,rfl⟩
   have HAP:=mH hapE
   rw[hapE]at hgo hap
   clear hapE hcs hcm
   obtain rfl | rfl | rfl:ap=2∨ap=1∨ap=0:=by omega
   ·rw[if_pos rfl]at hgo
    obtain ⟨ca,hA,hAx⟩:∃ ca hA,actH fs ls N r h1=(ca,hA):=⟨_,_,rfl⟩
    rw[hAx]at hgo
    simp only[Prod.mk.injEq]at hgo
    obtain ⟨hC,rfl⟩:=hgo
    have hcal:c.length+ca.length≤60000:=by
     have:=congrArg List.length hC
     simp only[List.length_append]at this
     omega
    have HY:Hid (∀ wx,CmpAt wx cb nv lv (.slice (some ⟨g,o,none⟩) rs.length rc) fv h1 N ls rs fs→Calls Tryz.prog 76 #[.pointer (some ⟨cb,0,none⟩),ruA r] wx fun e w'=>e=.returned (.string (bsN ca))∧CmpAt w' cb nv lv (.slice (some ⟨g,o,none⟩) rs.length rc) fv hA N ls rs fs∧But cb wx w'):=fun wx Hx=>act_any Hx HP.out r hmem ca hA hAx (by omega)
    unfold ruA at HY
    have HFin:Hid (bsN c++bsN ca=bsN C):=by rw[Hid,bsN_append,hC]
    have za:(bsN ca).size=ca.length:=bsN_len _
    clear hAx hC hmem hap
    go_wp2_with (first
     | (go_at_call 75;refine (applies_any HR.out.c r HWB.out).mono ?_;rintro e w1 ⟨rfl,hc1,hb1⟩;rw[HAP.out];replace HR:=mH (HR.out.call hc1 hb1);clear hc1 hb1;have u0:=HR.out.r.cell 0;have u1:=HR.out.r.cell 1;have u2:=HR.out.r.cell 2;have u3:=HR.out.r.cell 3;have u4:=HR.out.r.cell 4;have u5:=HR.out.r.cell 5;have u6:=HR.out.r.cell 6;have u7:=HR.out.r.cell 7;have hlr:=HR.out.r.lt;simp only[ruC,List.getElem?_toArray,List.getElem?_cons_zero,List.getElem?_cons_succ]at u0 u1 u2 u3 u4 u5 u6 u7)
     | (go_at_call 76;refine (HY.out _ HR.out.c).mono ?_;rintro e w2 ⟨rfl,hc2,hb2⟩;clear u0 u1 u2 u3 u4 u5 u6 u7 hlr;replace HR:=mH (HR.out.call hc2 hb2);clear hc2 hb2))
    go_ret
    exact ⟨by rw[← HFin.out];rfl,HR.out.c,HBU.out.trans HR.out.bu⟩
   ·rw[if_neg (by omega),if_pos rfl]at hgo
    obtain ⟨ca,hA,hAx⟩:∃ ca hA,guardH fs ls N r h1=(ca,hA):=⟨_,_,rfl⟩
    rw[hAx]at hgo
    simp only at hgo
    obtain ⟨dd,hdd⟩:=rulesH_ext fs ls N (rs.drop (i+1)) (c++ca) hA
    rw[hgo]at hdd
    have hcal:c.length+ca.length≤60000:=by
     have:=congrArg List.length hdd
     simp only[List.length_append]at this
     omega
    clear hdd dd
    have HGO:=mH hgo
    have HY:Hid (∀ wx,CmpAt wx cb nv lv (.slice (some ⟨g,o,none⟩) rs.length rc) fv h1 N ls rs fs→Calls Tryz.prog 77 #[.pointer (some ⟨cb,0,none⟩),ruA r] wx fun e w'=>e=.returned (.string (bsN ca))∧CmpAt w' cb nv lv (.slice (some ⟨g,o,none⟩) rs.length rc) fv hA N ls rs fs∧But cb wx w'):=fun wx Hx=>guarded_any Hx HP.out r hmem ca hA hAx (by omega)
    unfold ruA at HY
    have HFin:Hid (bsN c++bsN ca=bsN (c++ca)):=bsN_append _ _
    have za:(bsN ca).size=ca.length:=bsN_len _
    clear hAx hgo hmem hap
    go_wp2_with (first
     | (go_at_call 75;refine (applies_any HR.out.c r HWB.out).mono ?_;rintro e w1 ⟨rfl,hc1,hb1⟩;rw[HAP.out];replace HR:=mH (HR.out.call hc1 hb1);clear hc1 hb1;have u0:=HR.out.r.cell 0;have u1:=HR.out.r.cell 1;have u2:=HR.out.r.cell 2;have u3:=HR.out.r.cell 3;have u4:=HR.out.r.cell 4;have u5:=HR.out.r.cell 5;have u6:=HR.out.r.cell 6;have u7:=HR.out.r.cell 7;have hlr:=HR.out.r.lt;simp only[ruC,List.getElem?_toArray,List.getElem?_cons_zero,List.getElem?_cons_succ]at u0 u1 u2 u3 u4 u5 u6 u7)
     | (go_at_call 77;refine (HY.out _ HR.out.c).mono ?_;rintro e w2 ⟨rfl,hc2,hb2⟩;clear u0 u1 u2 u3 u4 u5 u6 u7 hlr;replace HR:=mH (HR.out.call hc2 hb2);clear hc2 hb2))
    go_roundw
    case rel=>exact ⟨i+1,c++ca,hA,by omega,by go_num,by rw[← HFin.out],HR.out.c,HBU.out.trans HR.out.bu,HGO.out⟩
    case measure=>simp[intOf];omega
   ·rw[if_neg (by omega),if_neg (by omega)]at hgo
    have HGO:=mH hgo
    clear hgo hmem hap
    go_wp2_with (go_at_call 75;refine (applies_any HR.out.c r HWB.out).mono ?_;rintro e w1 ⟨rfl,hc1,hb1⟩;rw[HAP.out];replace HR:=mH (HR.out.call hc1 hb1);clear hc1 hb1;have u0:=HR.out.r.cell 0;have u1:=HR.out.r.cell 1;have u2:=HR.out.r.cell 2;have u3:=HR.out.r.cell 3;have u4:=HR.out.r.cell 4;have u5:=HR.out.r.cell 5;have u6:=HR.out.r.cell 6;have u7:=HR.out.r.cell 7;have hlr:=HR.out.r.lt;simp only[ruC,List.getElem?_toArray,List.getElem?_cons_zero,List.getElem?_cons_succ]at u0 u1 u2 u3 u4 u5 u6 u7)
    go_roundw
    case rel=>exact ⟨i+1,c,h1,by omega,by go_num,rfl,HR.out.c,HBU.out.trans HR.out.bu,HGO.out⟩
    case measure=>simp[intOf];omega
  ·have hin:i=rs.length:=by omega
   subst hin
   rw[List.drop_length,rulesH]at hgo
   simp only[Prod.mk.injEq]at hgo
   obtain ⟨hC,rfl⟩:=hgo
   have HFin:Hid (bsN c++bsN (opC 17 0)=bsN C):=by rw[Hid,bsN_append,hC]
   have z17:(bsN (opC 17 0)).size=1:=by rw[opC_size];rfl
   have HCM:=mH hcm
   clear hC hcm
   go_wp2_with (go_at_call 78;refine (Bytes_any 17 (by omega) 0 (by decide) _ HCM.out.gb).mono ?_;rintro e w2 ⟨rfl,hb2⟩;replace HCM:=mH (HCM.out.below hb2);replace HBU:=mH (HBU.out.trans (But.of hb2));clear hb2)
   go_ret
   exact ⟨by rw[← HFin.out];rfl,HCM.out,HBU.out⟩
theorem i64_low(n:Nat)(hn:n<100000):bits .and .i64 (n:Int) 255=((n % 256:Nat):Int):=by
 have h:=bits_mask .i64 63 (by decide) (fun m h0 h1=>by rw[IntKind.wrap_i64];omega) 8 (by decide) (n:Int) (by omega) (by omega)
 have e:((2:Int) ^ 8-1)=255:=by decide
 have e2:((2:Int) ^ 8)=256:=by decide
 rw[e,e2]at h
 rw[h]
 omega
set_option maxHeartbeats 1000000 in
set_option maxRecDepth 100000 in
theorem Whole_any(h:Nat)(hh:h<100000)(c:List Nat)(hl:c.length≤60000)(w:World) :
  Calls Tryz.prog 49 #[.int .i64 h,.string (bsN c)] w fun e w'=>e=.returned (.string (bsN (imgC (h % 256) c)))∧Below w.heap.size w w':=by
 obtain ⟨k,hk⟩:∃ k,h % 256=k:=⟨_,rfl⟩
 have hk8:k<256:=by omega
 have hbits:bits BinOp.and IntKind.i64 (h:Int) 255=(k:Int):=by rw[← hk];exact i64_low h hh
 rw[hk]
 clear hk
 have hcv:=conv_bytes (w.alloc (Obj.cells #[Value.int .u8 83,Value.int .u8 76,Value.int .u8 k] 5)) w.heap.size [83,76,k] 5 (Blk.new w _ _)
 simp only[List.length_cons,List.length_nil,Nat.zero_add,Nat.reduceAdd]at hcv
 have z0:(bsN [83,76,k]).size=3:=bsN_len _
 have z1:(bsN c).size=c.length:=bsN_len _
 have HE:Hid (bsN [83,76,k]++bsN c=bsN (imgC k c)):=by rw[Hid,bsN_append];rfl
 go_enter Tryz.func49,Tryz.ntmps49
 go_wp2
 go_ret
 exact ⟨by rw[← HE.out];rfl,box3 _ _⟩
theorem cmp_start{w:World}{nv lv rv:Value}{N:List PNode}{ls:List PLet}{rs:List PRule}(h:PolAt w nv lv rv N ls rs){fb:Nat}{fs:List Fact}(hf:Blk w fb (cellsF fs).toArray 151)(hl:fs.length=N.length)(hg:GlobB w) :
  CmpAt (w.alloc (.cells #[nv,lv,rv,.slice (some ⟨fb,0,none⟩) N.length N.length,.int .i64 0] 116)) w.heap.size nv lv rv (.slice (some ⟨fb,0,none⟩) N.length N.length) 0 N ls rs fs:=by
 have hb:=box3 w (.cells #[nv,lv,rv,.slice (some ⟨fb,0,none⟩) N.length N.length,.int .i64 0] 116)
 have hnb:=h.nb
 have hfl:=hf.lt
 have hgs:=hg.size
 refine ⟨Blk.new w _ _,h.below hb, ?_,by omega,hg.below hb,apart_new h (Nat.le_refl _), ?_,by omega⟩
 ·refine Reads.below (.inr ⟨fb,0,N.length,by rw[hl],by omega,hfl,fun j u hj=>?_⟩) hb
  rw[Nat.zero_add,hf.cell]
  simpa using hj
 ·simp only[Value.ownBlock,ne_eq,Option.some.injEq];omega
set_option maxHeartbeats 2000000 in
set_option maxRecDepth 100000 in
theorem Image_any(nv lv rv:Value)(N:List PNode)(ls:List PLet)(rs:List PRule)(w:World)(h:PolAt w nv lv rv N ls rs)(hp:CmpOk N ls rs (factsP ls N))(hg:GlobB w)(C:List Nat)(H:Nat)(hc:rulesH (factsP ls N) ls N rs [] 0=(C,H))(hlen:C.length≤60000)(hh:H<100000) :
  Calls Tryz.prog 25 #[polA nv lv rv] w fun e w'=>e=.returned (.string (bsN (imageC N ls rs)))∧Below w.heap.size w w':=by
 obtain ⟨na,nc,rfl⟩:=h.n.shape
 obtain ⟨la,lc,rfl⟩:=h.l.shape
 obtain ⟨ra,rc,rfl⟩:=h.r.shape
 have HIM:Hid (imageC N ls rs=imgC (H % 256) C):=by rw[Hid,imageC,hc]
 have HG:=mH hg
 have HP:=mH hp
 have HCC:=mH hc
 have HPA:=mH h
 have HB0:=mH (box3 w (.cells #[.slice na N.length nc,.slice la ls.length lc,.slice ra rs.length rc] 73))
 have HBX:=mH (Blk.new w #[.slice na N.length nc,.slice la ls.length lc,.slice ra rs.length rc] 73)
 clear hg h hp hc
 unfold polA
 go_enter Tryz.func25,Tryz.ntmps25
 go_wp2
 have hz:(w.alloc (.cells #[.slice na N.length nc,.slice la ls.length lc,.slice ra rs.length rc] 73)).heap.size=w.heap.size+1:=by simp
 generalize hw1:w.alloc (.cells #[.slice na N.length nc,.slice la ls.length lc,.slice ra rs.length rc] 73)=w1 at *
 clear hw1
 have p0:=HBX.out.cell 0
 have p1:=HBX.out.cell 1
 have p2:=HBX.out.cell 2
 go_region_with (go_at_call 47;refine (factsOf_any (.slice na N.length nc) (.slice la ls.length lc) (.slice ra rs.length rc) N ls rs _ ((HPA.out.below HB0.out).below (below_drewN (Below.refl w1.heap.size w1) 1)) HP.out.nd HP.out.lt).mono ?_;rintro e w2 ⟨hb2,fb,hfb,rfl,hrow⟩;have hb2':Below w1.heap.size w1 w2:=(below_drewN (Below.refl w1.heap.size w1) 1).trans hb2;have HB2:=mH (HB0.out.trans (hb2'.mono (by omega)));have HROW:=mH hrow;replace HBX:=mH (HBX.out.below hb2' HBX.out.lt);have c0:=HBX.out.cell 0;have c1:=HBX.out.cell 1;have c2:=HBX.out.cell 2;have hs2:=hb2'.size;clear hb2 hb2' hrow)
 all_goals
  have HC:=mH (cmp_start (HPA.out.below HB2.out) HROW.out (factsP_length ls N) (HG.out.below HB2.out))
  go_wp2_with (first
   | (go_at_call 48;refine (rules_any HC.out HP.out C H HCC.out hlen).mono ?_;rintro e w3 ⟨rfl,hc3,hb3⟩;have HC3:=mH hc3;have HB3:=mH hb3;have k4:=hc3.blk.cell 4;have hl3:=hc3.blk.lt;simp only[List.getElem?_toArray,List.getElem?_cons_zero,List.getElem?_cons_succ]at k4;clear hc3 hb3)
   | (go_at_call 49;refine (Whole_any H hh C hlen _).mono ?_;rintro e w4 ⟨rfl,hb4⟩))
  go_ret
  have hs0:=HB2.out.size
  have hs3:=HB3.out.size
  refine ⟨by rw[HIM.out];rfl,((HB2.out.trans ((box3 w2 _).mono HB2.out.size)).trans (HB3.out.below ?_ ?_)).trans (hb4.mono ?_)⟩
  ·omega
  ·simp;omega
  ·simp at hs3;omega
end Go.Proofs.YtpcjadaeolkngaaGreatDoor
