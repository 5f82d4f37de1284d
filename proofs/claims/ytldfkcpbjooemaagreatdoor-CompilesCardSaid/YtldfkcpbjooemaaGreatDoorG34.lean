/-
  Compile: node, whatever stands there; expr.
-/
import Derived.Test.YtldfkcpbjooemaaGreatDoorG33
set_option linter.unusedVariables false
set_option linter.unusedSimpArgs false
namespace Go.Proofs.YtldfkcpbjooemaaGreatDoor
open Go.RowKit Go.Deep
theorem codeH_out {fs:List Fact} {ls:List PLet} {N:List PNode} {f b:Nat} {i:Int} {below h:Nat} (ho:i < 0∨(b:Int)≤i):codeH fs ls N (f+1) b i below h=([],h):=by
 rw[codeH,if_pos ho]
theorem codeH_some {fs:List Fact} {ls:List PLet} {N:List PNode} {f b j below h:Nat} {n:PNode} {v:Int} (hj:j < b) (hn:N[j]?=some n) (hfa:atF fs (j:Int)=some v):codeH fs ls N (f+1) b (j:Int) below h=(opC 0 v,layH below h):=by
 rw[codeH,if_neg (by omega)]
 simp only[Int.toNat_natCast,hn,hfa]
theorem codeH_none {fs:List Fact} {ls:List PLet} {N:List PNode} {f b j below h:Nat} {n:PNode} (hj:j < b) (hn:N[j]?=some n) (hfa:atF fs (j:Int)=none):codeH fs ls N (f+1) b (j:Int) below h =
  if n.ops=1 then ((codeH fs ls N f j n.left below h).1++opC (opK (kindP n.tok.text) n.ops) 0,(codeH fs ls N f j n.left below h).2)
  else if isChK (kindP n.tok.text) then chcH fs ls N f j n below h
  else if n.ops=2 then ((codeH fs ls N f j n.left below h).1++(codeH fs ls N f j n.right (below+1) (codeH fs ls N f j n.left below h).2).1++opC (opK (kindP n.tok.text) n.ops) 0,(codeH fs ls N f j n.right (below+1) (codeH fs ls N f j n.left below h).2).2)
  else if kindP n.tok.text=2 then codeH fs ls N f j (meantI ls n.tok.text) below h
  else (opC 1 ((kindP n.tok.text:Int) - 15),layH below h):=by
 rw[codeH,if_neg (by omega)]
 simp only[Int.toNat_natCast,hn,hfa,chcH]
theorem meantI_in {ls:List PLet} (hx:∀ p∈ls,1≤p.val.behind∧p.val.behind≤401) (t:Txt):-2≤meantI ls t∧meantI ls t≤1000:=by
 unfold meantI
 split
 ·omega
 ·rename_i p hp
  have:=hx p (List.mem_of_getElem? hp)
  omega
theorem node_all {cb:Nat} {na:Option Addr} {nc:Nat} {lv rv fv:Value} {N:List PNode} {ls:List PLet} {rs:List PRule} {fs:List Fact} (hfi:∀ i,FactIn (atF fs i)) (hN:∀ n∈N,NodeOk n) (hk:∀ n∈N,kindP n.tok.text≤100) (hx:∀ p∈ls,1≤p.val.behind∧p.val.behind≤401) :
  ∀ f,NodeDoes cb na nc lv rv fv N ls rs fs f
 | 0=>by
  intro b i below h w hb hbN hi1 hi2 hbl H hlen
  have hb0:b=0:=by omega
  subst hb0
  refine (node_out (na:=na) (nc:=nc) (cb:=cb) (lv:=lv) (rv:=rv) (fv:=fv) (N:=N) (ls:=ls) (rs:=rs) (fs:=fs) 0 below i (by omega) w).mono ?_
  rintro e w' ⟨rfl,rfl⟩
  exact ⟨rfl,H,But.refl _ _⟩
 | f+1=>by
  have IH:=node_all hfi hN hk hx (cb:=cb) (na:=na) (nc:=nc) (lv:=lv) (rv:=rv) (fv:=fv) (rs:=rs) f
  intro b i below h w hb hbN hi1 hi2 hbl H hlen
  by_cases ho:i < 0∨(b:Int)≤i
  ·rw[codeH_out ho]
   refine (node_out (na:=na) (nc:=nc) (cb:=cb) (lv:=lv) (rv:=rv) (fv:=fv) (N:=N) (ls:=ls) (rs:=rs) (fs:=fs) b below i ho w).mono ?_
   rintro e w' ⟨rfl,rfl⟩
   exact ⟨rfl,H,But.refl _ _⟩
  ·obtain ⟨j,rfl⟩:∃ j:Nat,i=(j:Int):=⟨i.toNat,by omega⟩
   have hj:j < b:=by omega
   obtain ⟨n,hnj⟩:∃ n,N[j]?=some n:=⟨N[j]'(by omega),List.getElem?_eq_getElem (by omega)⟩
   have hmem:=List.mem_of_getElem? hnj
   have hok:=hN n hmem
   have hl:=hok.left
   have hr:=hok.right
   cases hfa:atF fs (j:Int) with
   | some v =>
    rw[codeH_some hj hnj hfa]
    exact node_fact j b below h hj hbN hbl n hnj hok v hfa (hfi _ v hfa) w H
   | none =>
    rw[codeH_none hj hnj hfa] at hlen ⊢
    by_cases h1:n.ops=1
    ·rw[if_pos h1] at hlen ⊢
     simp only[List.length_append] at hlen
     exact node_one j b below h hj hbN hbl n hnj hok hfa h1 _ _ (by omega) (Hid.mk2 fun wx Hx=>IH j n.left below h wx (by omega) (by omega) (by omega) (by omega) (by omega) Hx (by omega)) w H
    ·rw[if_neg h1] at hlen ⊢
     cases hc:isChK (kindP n.tok.text) with
     | true =>
      rw[hc,if_pos rfl] at hlen
      rw[if_pos rfl]
      exact node_choice j b below h hj hbN hbl n hnj hok hfa h1 hc _ _ (Hid.mk2 fun wx Hx=>choice_any IH n hok j below h wx (by omega) (by omega) (by omega) Hx hlen) w H
     | false =>
      rw[hc,if_neg (by simp)] at hlen
      rw[if_neg (by simp)]
      by_cases h2:n.ops=2
      ·rw[if_pos h2] at hlen ⊢
       simp only[List.length_append] at hlen
       exact node_two j b below h hj hbN hbl n hnj hok hfa h2 hc _ _ _ _ (by omega) (Hid.mk2 fun wx Hx=>IH j n.left below h wx (by omega) (by omega) (by omega) (by omega) (by omega) Hx (by omega)) (Hid.mk2 fun wx Hx=>IH j n.right (below+1) _ wx (by omega) (by omega) (by omega) (by omega) (by omega) Hx (by omega)) w H
      ·rw[if_neg h2] at hlen ⊢
       have h0:n.ops=0:=by have:=hok.ops;omega
       by_cases hk2:kindP n.tok.text=2
       ·rw[if_pos hk2] at hlen ⊢
        have hm:=meantI_in hx n.tok.text
        exact node_name j b below h hj hbN hbl n hnj hok hfa h0 hc hk2 hx _ _ (Hid.mk2 fun wx Hx=>IH j (meantI ls n.tok.text) below h wx (by omega) (by omega) hm.1 hm.2 (by omega) Hx hlen) w H
       ·rw[if_neg hk2]
        exact node_attr j b below h hj hbN hbl n hnj hok hfa h0 hc hk2 (hk n hmem) w H
structure CmpOk (N:List PNode) (ls:List PLet) (rs:List PRule) (fs:List Fact):Prop where
 fi:∀ i,FactIn (atF fs i)
 nd:∀ n∈N,NodeOk n
 kd:∀ n∈N,kindP n.tok.text≤100
 lt:∀ p∈ls,1≤p.val.behind∧p.val.behind≤401
 wh:∀ r∈rs,r.when.behind≤401
 sc:∀ r∈rs,r.score.behind≤401
set_option maxHeartbeats 1000000 in
set_option maxRecDepth 100000 in
theorem expr_any {w:World} {cb:Nat} {nv lv rv fv:Value} {h:Nat} {N:List PNode} {ls:List PLet} {rs:List PRule} {fs:List Fact} (H:CmpAt w cb nv lv rv fv h N ls rs fs) (hp:CmpOk N ls rs fs) (e:PExp) (he:e.behind≤401) (c:List Nat) (h':Nat) (hc:exprH fs ls N e h=(c,h')) (hlen:c.length≤60000) :
  Calls Tryz.prog 158 #[.pointer (some ⟨cb,0,none⟩),expA e] w fun e w'=>e=.returned (.string (bsN c))∧CmpAt w' cb nv lv rv fv h' N ls rs fs∧But cb w w':=by
 obtain ⟨na,nc,rfl⟩:=H.pa.n.shape
 have hnb:=H.pa.nb
 have HI:Hid (∀ wx,CmpAt wx cb (.slice na N.length nc) lv rv fv h N ls rs fs→Calls Tryz.prog 177 #[.pointer (some ⟨cb,0,none⟩),.slice na N.length nc,.int .i64 ((e.behind:Int) - 1),.int .i64 0] wx fun e w'=>e=.returned (.string (bsN c))∧CmpAt w' cb (.slice na N.length nc) lv rv fv h' N ls rs fs∧But cb wx w'):=fun wx Hx=>by
  have:=node_all hp.fi hp.nd hp.kd hp.lt N.length N.length ((e.behind:Int) - 1) 0 h wx (Nat.le_refl _) (Nat.le_refl _) (by omega) (by omega) (by omega) Hx (by rw[show codeH fs ls N N.length N.length ((e.behind:Int) - 1) 0 h=(c,h') from hc];exact hlen)
  rw[show codeH fs ls N N.length N.length ((e.behind:Int) - 1) 0 h=(c,h') from hc,show ((0:Nat):Int)=0 from rfl] at this
  exact this
 obtain ⟨m,hm⟩:∃ m:Int,(e.behind:Int) - 1=m:=⟨_,rfl⟩
 have HWR:Hid (IntKind.i64.wrap m=m):=wrap_in (by unfold In64;omega)
 rw[hm] at HI
 have HC:=Hid.mk2 (H.al (.cells #[.int .i64 e.place,.int .i64 e.fr,.int .i64 e.behind] 111))
 have HE:=Hid.mk2 (Blk.new w #[.int .i64 e.place,.int .i64 e.fr,.int .i64 e.behind] 111)
 have HB:=Hid.mk2 (But.of (fb:=cb) (box3 w (.cells #[.int .i64 e.place,.int .i64 e.fr,.int .i64 e.behind] 111)))
 clear H hp hc
 unfold expA
 go_enter Tryz.func158,Tryz.ntmps158
 go_wp2
 generalize w.alloc (.cells #[.int .i64 e.place,.int .i64 e.fr,.int .i64 e.behind] 111)=w1 at HC HE HB ⊢
 have k0:=HC.out.blk.cell 0
 have e2:=HE.out.cell 2
 have hlc:=HC.out.blk.lt
 have hle:=HE.out.lt
 simp only[List.getElem?_toArray,List.getElem?_cons_zero,List.getElem?_cons_succ] at k0 e2
 go_region_with (go_at_call 177;(try rw[HWR.out]);refine (HI.out _ (by first | with_reducible exact HC.out.dr | with_reducible exact HC.out)).mono ?_;rintro e w2 ⟨rfl,hc2,hb2⟩;have HC2:=Hid.mk2 hc2;have HB2:Hid (But cb w1 w2):=(by first | with_reducible exact hb2 | exact (But.of (below_drewN (Below.refl _ w1) 1)).trans hb2);clear hc2 hb2)
 all_goals
  go_wp2
  go_ret
  exact ⟨rfl,HC2.out,HB.out.trans HB2.out⟩
end Go.Proofs.YtldfkcpbjooemaaGreatDoor
namespace Go.Proofs.YtldfkcpbjooemaaGreatDoor
open Go.RowKit Go.Deep
def applyN:Fact→Nat
 | none=>1
 | some v=>if v=0 then 0 else 2
def ruC (r:PRule):Array Value:=#[.bool r.hw,.int .i64 r.when.place,.int .i64 r.when.fr,.int .i64 r.when.behind,.bool r.hs,.int .i64 r.score.place,.int .i64 r.score.fr,.int .i64 r.score.behind]
def ruA (r:PRule):Value:=.agg #[.bool r.hw,.int .i64 r.when.place,.int .i64 r.when.fr,.int .i64 r.when.behind,.bool r.hs,.int .i64 r.score.place,.int .i64 r.score.fr,.int .i64 r.score.behind]
structure RuSt (w wx:World) (cb:Nat) (r:PRule) (nv lv rv fv:Value) (h:Nat) (N:List PNode) (ls:List PLet) (rs:List PRule) (fs:List Fact):Prop where
 c:CmpAt wx cb nv lv rv fv h N ls rs fs
 r:Blk wx w.heap.size (ruC r) 116
 bu:But cb w wx
 nn:cb < w.heap.size
theorem RuSt.start {w:World} {cb:Nat} {nv lv rv fv:Value} {h:Nat} {N:List PNode} {ls:List PLet} {rs:List PRule} {fs:List Fact} (H:CmpAt w cb nv lv rv fv h N ls rs fs) (r:PRule):RuSt w (w.alloc (.cells (ruC r) 116)) cb r nv lv rv fv h N ls rs fs :=
 ⟨H.al _,Blk.new w _ _,But.of (box3 w _),H.blk.lt⟩
theorem RuSt.call {w wx w':World} {cb:Nat} {r:PRule} {nv lv rv fv:Value} {h h':Nat} {N:List PNode} {ls:List PLet} {rs:List PRule} {fs:List Fact} (H:RuSt w wx cb r nv lv rv fv h N ls rs fs) (hc:CmpAt w' cb nv lv rv fv h' N ls rs fs) (hb:But cb wx w'):RuSt w w' cb r nv lv rv fv h' N ls rs fs :=
 ⟨hc,H.r.but hb (by have:=H.nn;omega),H.bu.trans hb,H.nn⟩
theorem RuSt.below {w wx w':World} {cb:Nat} {r:PRule} {nv lv rv fv:Value} {h:Nat} {N:List PNode} {ls:List PLet} {rs:List PRule} {fs:List Fact} (H:RuSt w wx cb r nv lv rv fv h N ls rs fs) (hb:Below wx.heap.size wx w'):RuSt w w' cb r nv lv rv fv h N ls rs fs:=H.call (H.c.below hb) (But.of hb)
theorem RuSt.dr {w wx:World} {cb:Nat} {r:PRule} {nv lv rv fv:Value} {h:Nat} {N:List PNode} {ls:List PLet} {rs:List PRule} {fs:List Fact} (H:RuSt w wx cb r nv lv rv fv h N ls rs fs):RuSt w wx.drew cb r nv lv rv fv h N ls rs fs:=H.below (below_drewN (Below.refl _ wx) 1)
set_option maxHeartbeats 4000000 in
set_option maxRecDepth 100000 in
theorem act_any {w:World} {cb:Nat} {nv lv rv fv:Value} {h:Nat} {N:List PNode} {ls:List PLet} {rs:List PRule} {fs:List Fact} (H:CmpAt w cb nv lv rv fv h N ls rs fs) (hp:CmpOk N ls rs fs) (r:PRule) (hr:r∈rs) (c:List Nat) (h':Nat) (hc:actH fs ls N r h=(c,h')) (hlen:c.length≤60000) :
  Calls Tryz.prog 127 #[.pointer (some ⟨cb,0,none⟩),ruA r] w fun e w'=>e=.returned (.string (bsN c))∧CmpAt w' cb nv lv rv fv h' N ls rs fs∧But cb w w':=by
 have HR:=Hid.mk2 (RuSt.start H r)
 unfold ruA
 cases hs:r.hs with
 | false =>
  rw[actH,hs,if_neg (by simp)] at hc
  cases hc
  have hrc:ruC r=#[.bool r.hw,.int .i64 r.when.place,.int .i64 r.when.fr,.int .i64 r.when.behind,.bool false,.int .i64 r.score.place,.int .i64 r.score.fr,.int .i64 r.score.behind]:=by unfold ruC;rw[hs]
  rw[hrc] at HR
  clear H hp hrc hs
  go_enter Tryz.func127,Tryz.ntmps127
  go_wp2_with (go_at_call 129;refine (Bytes_any 17 (by omega) 0 (by decide) _ HR.out.c.gb).mono ?_;rintro e w1 ⟨rfl,hb1⟩;have HC:=Hid.mk2 (HR.out.c.below hb1);have HB:=Hid.mk2 (HR.out.bu.trans (But.of hb1));clear hb1)
  go_ret
  exact ⟨rfl,HC.out,HB.out⟩
 | true =>
  obtain ⟨ce,hE,hEx⟩:∃ ce hE,exprH fs ls N r.score h=(ce,hE):=⟨_,_,rfl⟩
  rw[actH,hs,if_pos rfl,hEx] at hc
  simp only[Prod.mk.injEq] at hc
  obtain ⟨rfl,rfl⟩:=hc
  have hl16:(opC 16 0).length=1:=by rw[opC_length];rfl
  simp only[List.length_append,hl16] at hlen
  have HX:Hid (∀ wx,CmpAt wx cb nv lv rv fv h N ls rs fs→Calls Tryz.prog 158 #[.pointer (some ⟨cb,0,none⟩),expA r.score] wx fun e w'=>e=.returned (.string (bsN ce))∧CmpAt w' cb nv lv rv fv hE N ls rs fs∧But cb wx w'):=fun wx Hx=>expr_any Hx hp r.score (hp.sc r hr) ce hE hEx (by omega)
  unfold expA at HX
  have hrc:ruC r=#[.bool r.hw,.int .i64 r.when.place,.int .i64 r.when.fr,.int .i64 r.when.behind,.bool true,.int .i64 r.score.place,.int .i64 r.score.fr,.int .i64 r.score.behind]:=by unfold ruC;rw[hs]
  rw[hrc] at HR
  have HRC:=Hid.mk2 hrc
  have HFin:Hid (bsN ce++bsN (opC 16 0)=bsN (ce++opC 16 0)):=bsN_append _ _
  have zl:(bsN ce).size=ce.length:=bsN_len _
  have zo:(bsN (opC 16 0)).size=1:=by rw[opC_size];rfl
  clear H hp hrc hs hEx
  go_enter Tryz.func127,Tryz.ntmps127
  go_wp2_with (first
   | (go_at_call 158;refine (HX.out _ HR.out.c).mono ?_;rintro e w1 ⟨rfl,hc1,hb1⟩;replace HR:=Hid.mk2 (HR.out.call hc1 hb1);clear hc1 hb1)
   | (go_at_call 129;refine (Bytes_any 16 (by omega) 0 (by decide) _ HR.out.c.gb).mono ?_;rintro e w2 ⟨rfl,hb2⟩;replace HR:=Hid.mk2 (HR.out.below hb2);clear hb2))
  go_ret
  exact ⟨by rw[← HFin.out];rfl,HR.out.c,HR.out.bu⟩
set_option maxHeartbeats 4000000 in
set_option maxRecDepth 100000 in
theorem guarded_any {w:World} {cb:Nat} {nv lv rv fv:Value} {h:Nat} {N:List PNode} {ls:List PLet} {rs:List PRule} {fs:List Fact} (H:CmpAt w cb nv lv rv fv h N ls rs fs) (hp:CmpOk N ls rs fs) (r:PRule) (hr:r∈rs) (c:List Nat) (h':Nat) (hc:guardH fs ls N r h=(c,h')) (hlen:c.length≤60000) :
  Calls Tryz.prog 128 #[.pointer (some ⟨cb,0,none⟩),ruA r] w fun e w'=>e=.returned (.string (bsN c))∧CmpAt w' cb nv lv rv fv h' N ls rs fs∧But cb w w':=by
 have HR:=Hid.mk2 (RuSt.start H r)
 obtain ⟨cw,hW,hWx⟩:∃ cw hW,exprH fs ls N r.when h=(cw,hW):=⟨_,_,rfl⟩
 obtain ⟨ca,hA,hAx⟩:∃ ca hA,actH fs ls N r hW=(ca,hA):=⟨_,_,rfl⟩
 rw[guardH,hWx] at hc
 simp only at hc
 rw[hAx] at hc
 simp only[Prod.mk.injEq] at hc
 obtain ⟨rfl,rfl⟩:=hc
 have hl14:(opC 14 (ca.length:Int)).length=3:=by rw[opC_length];rfl
 simp only[List.length_append,hl14] at hlen
 have HX:Hid (∀ wx,CmpAt wx cb nv lv rv fv h N ls rs fs→Calls Tryz.prog 158 #[.pointer (some ⟨cb,0,none⟩),expA r.when] wx fun e w'=>e=.returned (.string (bsN cw))∧CmpAt w' cb nv lv rv fv hW N ls rs fs∧But cb wx w'):=fun wx Hx=>expr_any Hx hp r.when (hp.wh r hr) cw hW hWx (by omega)
 have HY:Hid (∀ wx,CmpAt wx cb nv lv rv fv hW N ls rs fs→Calls Tryz.prog 127 #[.pointer (some ⟨cb,0,none⟩),ruA r] wx fun e w'=>e=.returned (.string (bsN ca))∧CmpAt w' cb nv lv rv fv hA N ls rs fs∧But cb wx w'):=fun wx Hx=>act_any Hx hp r hr ca hA hAx (by omega)
 unfold expA at HX
 unfold ruA at HY ⊢
 have HFin:Hid (bsN cw++bsN (opC 14 (ca.length:Int))++bsN ca=bsN (cw++opC 14 (ca.length:Int)++ca)):=by rw[Hid,bsN_append,bsN_append]
 have zl:(bsN cw).size=cw.length:=bsN_len _
 have za:(bsN ca).size=ca.length:=bsN_len _
 have zo:(bsN (opC 14 (ca.length:Int))).size=3:=by rw[opC_size];rfl
 clear H hp hWx hAx
 go_enter Tryz.func128,Tryz.ntmps128
 go_wp2_with (first
  | (go_at_call 158;refine (HX.out _ HR.out.c).mono ?_;rintro e w1 ⟨rfl,hc1,hb1⟩;replace HR:=Hid.mk2 (HR.out.call hc1 hb1);clear hc1 hb1;have u0:=HR.out.r.cell 0;have u1:=HR.out.r.cell 1;have u2:=HR.out.r.cell 2;have u3:=HR.out.r.cell 3;have u4:=HR.out.r.cell 4;have u5:=HR.out.r.cell 5;have u6:=HR.out.r.cell 6;have u7:=HR.out.r.cell 7;have hlr:=HR.out.r.lt;simp only[ruC,List.getElem?_toArray,List.getElem?_cons_zero,List.getElem?_cons_succ] at u0 u1 u2 u3 u4 u5 u6 u7)
  | (go_at_call 127;refine (HY.out _ HR.out.c).mono ?_;rintro e w2 ⟨rfl,hc2,hb2⟩;clear u0 u1 u2 u3 u4 u5 u6 u7 hlr;replace HR:=Hid.mk2 (HR.out.call hc2 hb2);clear hc2 hb2)
  | (go_at_call 129;refine (Bytes_any 14 (by omega) (ca.length:Int) (by unfold In64;omega) _ HR.out.c.gb).mono ?_;rintro e w3 ⟨rfl,hb3⟩;replace HR:=Hid.mk2 (HR.out.below hb3);clear hb3))
 go_ret
 exact ⟨by rw[← HFin.out];rfl,HR.out.c,HR.out.bu⟩
theorem RuSt.al {w wx:World} {cb:Nat} {r:PRule} {nv lv rv fv:Value} {h:Nat} {N:List PNode} {ls:List PLet} {rs:List PRule} {fs:List Fact} (H:RuSt w wx cb r nv lv rv fv h N ls rs fs) (o:Obj):RuSt w (wx.alloc o) cb r nv lv rv fv h N ls rs fs:=H.below (box3 wx o)
theorem apEnd {w w1 W:World} {cb:Nat} {r:PRule} {nv lv rv fv:Value} {h:Nat} {N:List PNode} {ls:List PLet} {rs:List PRule} {fs:List Fact} (H:RuSt w w1 cb r nv lv rv fv h N ls rs fs) (hb:Below w1.heap.size w1 W):CmpAt W cb nv lv rv fv h N ls rs fs∧But cb w W:=⟨H.c.below hb,H.bu.trans (But.of hb)⟩
set_option maxHeartbeats 4000000 in
set_option maxRecDepth 100000 in
theorem applies_any {w:World} {cb:Nat} {nv lv rv fv:Value} {h:Nat} {N:List PNode} {ls:List PLet} {rs:List PRule} {fs:List Fact} (H:CmpAt w cb nv lv rv fv h N ls rs fs) (r:PRule) (hr:r.when.behind≤401) :
  Calls Tryz.prog 126 #[.pointer (some ⟨cb,0,none⟩),ruA r] w fun e w'=>e=.returned (.int .i64 (appliesF fs r:Nat))∧CmpAt w' cb nv lv rv fv h N ls rs fs∧But cb w w':=by
 have HR:=Hid.mk2 (RuSt.start H r)
 unfold ruA
 cases hs:r.hw with
 | false =>
  have HA:Hid (appliesF fs r=2):=by rw[Hid,appliesF,hs,if_neg (by simp)]
  have hrc:ruC r=#[.bool false,.int .i64 r.when.place,.int .i64 r.when.fr,.int .i64 r.when.behind,.bool r.hs,.int .i64 r.score.place,.int .i64 r.score.fr,.int .i64 r.score.behind]:=by unfold ruC;rw[hs]
  rw[hrc] at HR
  rw[HA.out]
  clear H hrc hs
  go_enter Tryz.func126,Tryz.ntmps126
  go_wp2
  go_ret
  exact ⟨rfl,HR.out.c,HR.out.bu⟩
 | true =>
  have hrc:ruC r=#[.bool true,.int .i64 r.when.place,.int .i64 r.when.fr,.int .i64 r.when.behind,.bool r.hs,.int .i64 r.score.place,.int .i64 r.score.fr,.int .i64 r.score.behind]:=by unfold ruC;rw[hs]
  have HRC:=Hid.mk2 hrc
  rw[hrc] at HR
  obtain ⟨F,hF⟩:∃ F,atF fs ((r.when.behind:Int) - 1)=F:=⟨_,rfl⟩
  obtain ⟨m,hm⟩:∃ m:Int,(r.when.behind:Int) - 1=m:=⟨_,rfl⟩
  have HWR:Hid (IntKind.i64.wrap m=m):=wrap_in (by unfold In64;omega)
  have hF2:=hF
  rw[hm] at hF2
  have HFF:=Hid.mk2 hF2
  have HFB:=Hid.mk2 H.fb
  clear hF2
  have HAP:Hid (appliesF fs r=applyN F):=by
   rw[Hid,appliesF,hs,if_pos rfl,hF]
   cases F <;> rfl
  clear H hrc hs hF
  go_enter Tryz.func126,Tryz.ntmps126
  go_wp2
  generalize w.alloc (.cells #[.bool true,.int .i64 r.when.place,.int .i64 r.when.fr,.int .i64 r.when.behind,.bool r.hs,.int .i64 r.score.place,.int .i64 r.score.fr,.int .i64 r.score.behind] 116)=w1 at HR ⊢
  have k3:=HR.out.c.blk.cell 3
  have hlc:=HR.out.c.blk.lt
  have u0:=HR.out.r.cell 0
  have u1:=HR.out.r.cell 1
  have u2:=HR.out.r.cell 2
  have u3:=HR.out.r.cell 3
  have u4:=HR.out.r.cell 4
  have u5:=HR.out.r.cell 5
  have u6:=HR.out.r.cell 6
  have u7:=HR.out.r.cell 7
  have hlr:=HR.out.r.lt
  simp only[ruC,List.getElem?_toArray,List.getElem?_cons_zero,List.getElem?_cons_succ] at u0 u1 u2 u3 u4 u5 u6 u7
  simp only[List.getElem?_toArray,List.getElem?_cons_zero,List.getElem?_cons_succ] at k3
  cases F with
  | none =>
   go_region_with (go_at_call 150;(try rw[HWR.out]);refine (factAt_any fs _ m _ (by first | with_reducible exact (HR.out.al (.cells #[.bool false,.int .i64 0] 172)).dr.c.fr | with_reducible exact HR.out.dr.c.fr) HFB.out ⟨by omega,by omega⟩).mono ?_;rintro e w2 ⟨rfl,hb2⟩;rw[HFF.out];rw[show factA none=.agg #[.bool false,.int .i64 0] from rfl];clear u0 u1 u2 u3 u4 u5 u6 u7 hlr;clear k3 hlc;(first | (have hb3:Below (w1.alloc (.cells #[.bool false,.int .i64 0] 172)).drew.heap.size (w1.alloc (.cells #[.bool false,.int .i64 0] 172)).drew w2:=(by with_reducible exact hb2);have hZ:=((Blk.new w1 #[.bool false,.int .i64 0] 172).drew).below hb3 (by simp);have hz0:=hZ.cell 0;have hz1:=hZ.cell 1;have fz0:=hZ.free 0;have fz1:=hZ.free 1;have hzl:=hZ.lt;have HBX:Hid (Below w1.heap.size w1 w2):=(below_drewN (box3 w1 (.cells #[.bool false,.int .i64 0] 172)) 1).trans (hb3.mono (by simp));clear hb2 hb3 hZ) | (have hb3:Below w1.drew.heap.size w1.drew w2:=(by with_reducible exact hb2);have HBX:Hid (Below w1.heap.size w1 w2):=(below_drewN (Below.refl _ w1) 1).trans hb3;clear hb2 hb3)))
   all_goals
    go_wp2
    go_ret
    (first
     | (have hq:=hz0;exact ⟨by rw[HAP.out];rfl,apEnd HR.out ((HBX.out.setCell (p:=⟨w1.heap.size,0,none⟩) (Nat.le_refl _) _).setCell (p:=⟨w1.heap.size,1,none⟩) (Nat.le_refl _) _)⟩)
     | exact ⟨by rw[HAP.out];rfl,apEnd HR.out (HBX.out.alloc HBX.out.size _)⟩)
  | some v =>
   by_cases hv:v=0
   ·subst hv
    go_region_with (go_at_call 150;(try rw[HWR.out]);refine (factAt_any fs _ m _ (by first | with_reducible exact (HR.out.al (.cells #[.bool false,.int .i64 0] 172)).dr.c.fr | with_reducible exact HR.out.dr.c.fr) HFB.out ⟨by omega,by omega⟩).mono ?_;rintro e w2 ⟨rfl,hb2⟩;rw[HFF.out];rw[show factA (some 0)=.agg #[.bool true,.int .i64 0] from rfl];clear u0 u1 u2 u3 u4 u5 u6 u7 hlr;clear k3 hlc;(first | (have hb3:Below (w1.alloc (.cells #[.bool false,.int .i64 0] 172)).drew.heap.size (w1.alloc (.cells #[.bool false,.int .i64 0] 172)).drew w2:=(by with_reducible exact hb2);have hZ:=((Blk.new w1 #[.bool false,.int .i64 0] 172).drew).below hb3 (by simp);have hz0:=hZ.cell 0;have hz1:=hZ.cell 1;have fz0:=hZ.free 0;have fz1:=hZ.free 1;have hzl:=hZ.lt;have HBX:Hid (Below w1.heap.size w1 w2):=(below_drewN (box3 w1 (.cells #[.bool false,.int .i64 0] 172)) 1).trans (hb3.mono (by simp));clear hb2 hb3 hZ) | (have hb3:Below w1.drew.heap.size w1.drew w2:=(by with_reducible exact hb2);have HBX:Hid (Below w1.heap.size w1 w2):=(below_drewN (Below.refl _ w1) 1).trans hb3;clear hb2 hb3)))
    all_goals
     go_wp2
     go_ret
     (first
     | (have hq:=hz0;exact ⟨by rw[HAP.out];rfl,apEnd HR.out ((HBX.out.setCell (p:=⟨w1.heap.size,0,none⟩) (Nat.le_refl _) _).setCell (p:=⟨w1.heap.size,1,none⟩) (Nat.le_refl _) _)⟩)
     | exact ⟨by rw[HAP.out];rfl,apEnd HR.out (HBX.out.alloc HBX.out.size _)⟩)
   ·have hv0:(v==0)=false:=by simp[hv]
    have HV:Hid (appliesF fs r=2):=by rw[Hid,HAP.out];simp[applyN,hv]
    clear hv HAP
    go_region_with (go_at_call 150;(try rw[HWR.out]);refine (factAt_any fs _ m _ (by first | with_reducible exact (HR.out.al (.cells #[.bool false,.int .i64 0] 172)).dr.c.fr | with_reducible exact HR.out.dr.c.fr) HFB.out ⟨by omega,by omega⟩).mono ?_;rintro e w2 ⟨rfl,hb2⟩;rw[HFF.out];rw[show factA (some v)=.agg #[.bool true,.int .i64 v] from rfl];clear u0 u1 u2 u3 u4 u5 u6 u7 hlr;clear k3 hlc;(first | (have hb3:Below (w1.alloc (.cells #[.bool false,.int .i64 0] 172)).drew.heap.size (w1.alloc (.cells #[.bool false,.int .i64 0] 172)).drew w2:=(by with_reducible exact hb2);have hZ:=((Blk.new w1 #[.bool false,.int .i64 0] 172).drew).below hb3 (by simp);have hz0:=hZ.cell 0;have hz1:=hZ.cell 1;have fz0:=hZ.free 0;have fz1:=hZ.free 1;have hzl:=hZ.lt;have HBX:Hid (Below w1.heap.size w1 w2):=(below_drewN (box3 w1 (.cells #[.bool false,.int .i64 0] 172)) 1).trans (hb3.mono (by simp));clear hb2 hb3 hZ) | (have hb3:Below w1.drew.heap.size w1.drew w2:=(by with_reducible exact hb2);have HBX:Hid (Below w1.heap.size w1 w2):=(below_drewN (Below.refl _ w1) 1).trans hb3;clear hb2 hb3)))
    all_goals
     go_wp2
     go_ret
     (first
     | (have hq:=hz0;exact ⟨by rw[HV.out];rfl,apEnd HR.out ((HBX.out.setCell (p:=⟨w1.heap.size,0,none⟩) (Nat.le_refl _) _).setCell (p:=⟨w1.heap.size,1,none⟩) (Nat.le_refl _) _)⟩)
     | exact ⟨by rw[HV.out];rfl,apEnd HR.out (HBX.out.alloc HBX.out.size _)⟩)
end Go.Proofs.YtldfkcpbjooemaaGreatDoor
