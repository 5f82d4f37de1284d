/-
  Compile: node and choice: what they do, and choice.
-/
import Derived.Test.YtpcjadaeolkngaaGreatDoorJ20
set_option linter.unusedVariables false
set_option linter.unusedSimpArgs false
namespace Go.Proofs.YtpcjadaeolkngaaGreatDoor
open Go.RowKit Go.Deep
def NodeDoes(cb:Nat)(na:Option Addr)(nc:Nat)(lv rv fv:Value)(N:List PNode)(ls:List PLet)(rs:List PRule)(fs:List Fact)(f:Nat):Prop :=
 ∀ (b:Nat) (i:Int) (below h:Nat) (w:World),b≤f→b≤N.length→-2≤i→i≤1000→below+b≤1000→CmpAt w cb (.slice na N.length nc) lv rv fv h N ls rs fs→(codeH fs ls N f b i below h).1.length≤60000 →
  Calls Tryz.prog 131 #[.pointer (some ⟨cb,0,none⟩),.slice na b nc,.int .i64 i,.int .i64 below] w fun e w'=>e=.returned (.string (bsN (codeH fs ls N f b i below h).1))∧CmpAt w' cb (.slice na N.length nc) lv rv fv (codeH fs ls N f b i below h).2 N ls rs fs∧But cb w w'
def chcH(fs:List Fact)(ls:List PLet)(N:List PNode)(f b:Nat)(n:PNode)(below h:Nat):List Nat×Nat :=
 ((codeH fs ls N f b n.left below h).1++opC (leaK (kindP n.tok.text)) (((codeH fs ls N f b n.right below (codeH fs ls N f b n.left below h).2).1.length+3:Nat):Int)++(codeH fs ls N f b n.right below (codeH fs ls N f b n.left below h).2).1++opC 13 9++opC 0 (decK (kindP n.tok.text)),
  layH below (codeH fs ls N f b n.right below (codeH fs ls N f b n.left below h).2).2)
structure NdSt(w wx:World)(cb:Nat)(n:PNode)(nv lv rv fv:Value)(h:Nat)(N:List PNode)(ls:List PLet)(rs:List PRule)(fs:List Fact):Prop where
 c:CmpAt wx cb nv lv rv fv h N ls rs fs
 nd:Blk wx w.heap.size (nodC n) 154
 bu:But cb w wx
 nn:cb<w.heap.size
theorem NdSt.start{w:World}{cb:Nat}{nv lv rv fv:Value}{h:Nat}{N:List PNode}{ls:List PLet}{rs:List PRule}{fs:List Fact}(H:CmpAt w cb nv lv rv fv h N ls rs fs)(n:PNode):NdSt w (w.alloc (.cells (nodC n) 154)) cb n nv lv rv fv h N ls rs fs :=
 ⟨H.al _,Blk.new w _ _,But.of (box3 w _),H.blk.lt⟩
theorem NdSt.call{w wx w':World}{cb:Nat}{n:PNode}{nv lv rv fv:Value}{h h':Nat}{N:List PNode}{ls:List PLet}{rs:List PRule}{fs:List Fact}(H:NdSt w wx cb n nv lv rv fv h N ls rs fs)(hc:CmpAt w' cb nv lv rv fv h' N ls rs fs)(hb:But cb wx w'):NdSt w w' cb n nv lv rv fv h' N ls rs fs :=
 ⟨hc,H.nd.but hb (by have:=H.nn;omega),H.bu.trans hb,H.nn⟩
theorem NdSt.below{w wx w':World}{cb:Nat}{n:PNode}{nv lv rv fv:Value}{h:Nat}{N:List PNode}{ls:List PLet}{rs:List PRule}{fs:List Fact}(H:NdSt w wx cb n nv lv rv fv h N ls rs fs)(hb:Below wx.heap.size wx w'):NdSt w w' cb n nv lv rv fv h N ls rs fs:=H.call (H.c.below hb) (But.of hb)
theorem NdSt.al{w wx:World}{cb:Nat}{n:PNode}{nv lv rv fv:Value}{h:Nat}{N:List PNode}{ls:List PLet}{rs:List PRule}{fs:List Fact}(H:NdSt w wx cb n nv lv rv fv h N ls rs fs)(o:Obj):NdSt w (wx.alloc o) cb n nv lv rv fv h N ls rs fs:=H.below (box3 wx o)
theorem NdSt.dr{w wx:World}{cb:Nat}{n:PNode}{nv lv rv fv:Value}{h:Nat}{N:List PNode}{ls:List PLet}{rs:List PRule}{fs:List Fact}(H:NdSt w wx cb n nv lv rv fv h N ls rs fs):NdSt w wx.drew cb n nv lv rv fv h N ls rs fs:=H.below (below_drewN (Below.refl _ wx) 1)
theorem leaK_lt(k:Nat):leaK k<18:=by unfold leaK;split <;> omega
theorem decK_in(k:Nat):In64 (decK k):=by unfold decK In64;split <;> omega
theorem opC_size(k:Nat)(v:Int):(bsN (opC k v)).size=behindN k+1:=by rw[bsN_len,opC_length]
theorem lea_behind(k:Nat):behindN (leaK k)=2:=by unfold leaK;split <;> rfl
set_option maxHeartbeats 4000000 in
set_option maxRecDepth 100000 in
theorem choice_any{cb:Nat}{na:Option Addr}{nc:Nat}{lv rv fv:Value}{N:List PNode}{ls:List PLet}{rs:List PRule}{fs:List Fact}{f:Nat}(IH:NodeDoes cb na nc lv rv fv N ls rs fs f)(n:PNode)(hn:NodeOk n)(b below h:Nat)(w:World)(hb:b≤f)(hbN:b≤N.length)(hbl:below+b≤1000)(H:CmpAt w cb (.slice na N.length nc) lv rv fv h N ls rs fs)(hlen:(chcH fs ls N f b n below h).1.length≤60000) :
  Calls Tryz.prog 151 #[.pointer (some ⟨cb,0,none⟩),.slice na b nc,nodA n,.int .i64 below] w fun e w'=>e=.returned (.string (bsN (chcH fs ls N f b n below h).1))∧CmpAt w' cb (.slice na N.length nc) lv rv fv (chcH fs ls N f b n below h).2 N ls rs fs∧But cb w w':=by
 have HM:=mH (NdSt.start H n)
 have hnl:=hn.left
 have hnr:=hn.right
 obtain ⟨kk,hkk⟩:∃ kk,kindP n.tok.text=kk:=⟨_,rfl⟩
 obtain ⟨cl,h1,hL⟩:∃ cl h1,codeH fs ls N f b n.left below h=(cl,h1):=⟨_,_,rfl⟩
 obtain ⟨cr,h2,hR⟩:∃ cr h2,codeH fs ls N f b n.right below h1=(cr,h2):=⟨_,_,rfl⟩
 have hCH:chcH fs ls N f b n below h=(cl++opC (leaK kk) ((cr.length+3:Nat):Int)++cr++opC 13 9++opC 0 (decK kk),layH below h2):=by
  unfold chcH
  rw[hL,hkk]
  simp only
  rw[hR]
 rw[hCH]at hlen ⊢
 simp only[List.length_append,opC_length,lea_behind]at hlen ⊢
 have hb13:behindN 13=2:=rfl
 have hb0:behindN 0=8:=rfl
 rw[hb13,hb0]at hlen
 have HIL:Hid (∀ wx,CmpAt wx cb (.slice na N.length nc) lv rv fv h N ls rs fs→Calls Tryz.prog 131 #[.pointer (some ⟨cb,0,none⟩),.slice na b nc,.int .i64 (n.left:Int),.int .i64 below] wx fun e w'=>e=.returned (.string (bsN cl))∧CmpAt w' cb (.slice na N.length nc) lv rv fv h1 N ls rs fs∧But cb wx w'):=fun wx Hx=>by
  have:=IH b n.left below h wx hb hbN (by omega) (by omega) hbl Hx (by rw[hL];simp only;omega)
  rw[hL]at this
  exact this
 have HIR:Hid (∀ wx,CmpAt wx cb (.slice na N.length nc) lv rv fv h1 N ls rs fs→Calls Tryz.prog 131 #[.pointer (some ⟨cb,0,none⟩),.slice na b nc,.int .i64 (n.right:Int),.int .i64 below] wx fun e w'=>e=.returned (.string (bsN cr))∧CmpAt w' cb (.slice na N.length nc) lv rv fv h2 N ls rs fs∧But cb wx w'):=fun wx Hx=>by
  have:=IH b n.right below h1 wx hb hbN (by omega) (by omega) hbl Hx (by rw[hR];simp only;omega)
  rw[hR]at this
  exact this
 have HKK:=mH hkk
 clear H hn hL hR hCH IH hkk
 obtain ⟨d,hd⟩:∃ d:Nat,(cr.length:Int)+3=(d:Int):=⟨cr.length+3,by omega⟩
 have HD:Hid (cr.length+3=d):=by rw[Hid];omega
 rw[HD.out]
 have hdm:d≤60000:=by have:=HD.out;omega
 have HFin:Hid (bsN cl++bsN (opC (leaK kk) (d:Int))++bsN cr++bsN (opC 13 9)++bsN (opC 0 (decK kk))=bsN (cl++opC (leaK kk) (d:Int)++cr++opC 13 9++opC 0 (decK kk))):=by rw[Hid,bsN_append,bsN_append,bsN_append,bsN_append]
 have zl:(bsN cl).size=cl.length:=bsN_len _
 have zr:(bsN cr).size=cr.length:=bsN_len _
 have z13:(bsN (opC 13 9)).size=3:=by rw[opC_size];rfl
 have z0:(bsN (opC 0 (decK kk))).size=9:=by rw[opC_size];rfl
 have zd:(bsN (opC (leaK kk) (d:Int))).size=3:=by rw[opC_size,lea_behind]
 unfold nodA
 rw[HKK.out]
 have hnc:nodC n=#[.int .i64 kk,.int .i64 n.tok.at',.string (bsOf n.tok.text),.int .i64 n.ops,.int .i64 n.left,.int .i64 n.right]:=by unfold nodC;rw[HKK.out]
 have HNC:=mH hnc
 rw[hnc]at HM
 clear hnc
 go_enter Tryz.func151,Tryz.ntmps151
 go_wp2_with (first
  | (go_at_call_of 131 (Value.int IntKind.i64 (n.left:Int));refine (HIL.out _ HM.out.c).mono ?_;rintro e w1 ⟨rfl,hc1,hb1⟩;replace HM:=mH (HM.out.call hc1 hb1);clear hc1 hb1;have n0:=HM.out.nd.cell 0;have n1:=HM.out.nd.cell 1;have n2:=HM.out.nd.cell 2;have n3:=HM.out.nd.cell 3;have n4:=HM.out.nd.cell 4;have n5:=HM.out.nd.cell 5;have k0:=HM.out.c.blk.cell 0;have k1:=HM.out.c.blk.cell 1;have k3:=HM.out.c.blk.cell 3;have hln:=HM.out.nd.lt;have hlc:=HM.out.c.blk.lt;simp only[HNC.out,List.getElem?_toArray,List.getElem?_cons_zero,List.getElem?_cons_succ]at n0 n1 n2 n3 n4 n5 k0 k1 k3)
  | (go_at_call_of 131 (Value.int IntKind.i64 (n.right:Int));refine (HIR.out _ HM.out.c).mono ?_;rintro e w2 ⟨rfl,hc2,hb2⟩;clear n0 n1 n2 n3 n4 n5 k0 k1 k3 hln hlc;replace HM:=mH (HM.out.call hc2 hb2);clear hc2 hb2;have n0:=HM.out.nd.cell 0;have n1:=HM.out.nd.cell 1;have n2:=HM.out.nd.cell 2;have n3:=HM.out.nd.cell 3;have n4:=HM.out.nd.cell 4;have n5:=HM.out.nd.cell 5;have k0:=HM.out.c.blk.cell 0;have k1:=HM.out.c.blk.cell 1;have k3:=HM.out.c.blk.cell 3;have hln:=HM.out.nd.lt;have hlc:=HM.out.c.blk.lt;simp only[HNC.out,List.getElem?_toArray,List.getElem?_cons_zero,List.getElem?_cons_succ]at n0 n1 n2 n3 n4 n5 k0 k1 k3)
  | (go_at_call 129;refine (decides_any kk _).mono ?_;rintro e w3 ⟨rfl,rfl⟩)
  | (go_at_call 150;refine (lay_any HM.out.c 0 (by omega) (decK kk) (decK_in kk) below (by omega)).mono ?_;rintro e w4 ⟨rfl,hc4,hb4⟩;clear n0 n1 n2 n3 n4 n5 k0 k1 k3 hln hlc;replace HM:=mH (HM.out.call hc4 hb4);clear hc4 hb4;have n0:=HM.out.nd.cell 0;have n1:=HM.out.nd.cell 1;have n2:=HM.out.nd.cell 2;have n3:=HM.out.nd.cell 3;have n4:=HM.out.nd.cell 4;have n5:=HM.out.nd.cell 5;have k0:=HM.out.c.blk.cell 0;have k1:=HM.out.c.blk.cell 1;have k3:=HM.out.c.blk.cell 3;have hln:=HM.out.nd.lt;have hlc:=HM.out.c.blk.lt;simp only[HNC.out,List.getElem?_toArray,List.getElem?_cons_zero,List.getElem?_cons_succ]at n0 n1 n2 n3 n4 n5 k0 k1 k3)
  | (go_at_call 156;refine (leaves_any kk _).mono ?_;rintro e w5 ⟨rfl,rfl⟩)
  | (go_at_call_of 78 (Value.int IntKind.i64 13);refine (Bytes_any 13 (by omega) 9 (by decide) _ HM.out.c.gb).mono ?_;rintro e w6 ⟨rfl,hb6⟩;clear n0 n1 n2 n3 n4 n5 k0 k1 k3 hln hlc;replace HM:=mH (HM.out.below hb6);clear hb6;have n0:=HM.out.nd.cell 0;have n1:=HM.out.nd.cell 1;have n2:=HM.out.nd.cell 2;have n3:=HM.out.nd.cell 3;have n4:=HM.out.nd.cell 4;have n5:=HM.out.nd.cell 5;have k0:=HM.out.c.blk.cell 0;have k1:=HM.out.c.blk.cell 1;have k3:=HM.out.c.blk.cell 3;have hln:=HM.out.nd.lt;have hlc:=HM.out.c.blk.lt;simp only[HNC.out,List.getElem?_toArray,List.getElem?_cons_zero,List.getElem?_cons_succ]at n0 n1 n2 n3 n4 n5 k0 k1 k3)
  | (go_at_call 78;refine (Bytes_any (leaK kk) (leaK_lt kk) (d:Int) (by unfold In64;omega) _ HM.out.c.gb).mono ?_;rintro e w7 ⟨rfl,hb7⟩;clear n0 n1 n2 n3 n4 n5 k0 k1 k3 hln hlc;replace HM:=mH (HM.out.below hb7);clear hb7))
 go_ret
 exact ⟨by rw[← HFin.out];rfl,HM.out.c,HM.out.bu⟩
theorem sliceN(g o n cap hi:Nat)(h1:hi≤n)(h2:n≤cap)(wx:World) :
  (Instr.slice 69 (.slice (some ⟨g,o,none⟩) n cap) none (some (.int .i64 hi)) none).run Tryz.prog wx=.ok (.slice (some ⟨g,o,none⟩) hi cap) wx:=by
 have el:Tryz.prog.elem 69=154:=by kernel_rfl
 have sz:(sizeOf 154).run Tryz.prog wx=.ok 6 wx:=by kernel_rfl
 rw[run_slice_h wx _ _ _ _ (by rw[el];exact Tryz.underlying69) .i64 _ (by omega) (by omega),el,sz]
 simp[Result.andThen,sliced,Addr.add]
theorem node_cells{cb:Nat}{na:Option Addr}{nc:Nat}{lv rv fv:Value}{N:List PNode}{ls:List PLet}{rs:List PRule}{fs:List Fact}{w:World}{h j:Nat}{n:PNode}(H:CmpAt w cb (.slice na N.length nc) lv rv fv h N ls rs fs)(hj:N[j]?=some n):∃ g o,na=some ⟨g,o,none⟩∧g<w.heap.size∧N.length≤nc∧w.cell? ⟨g,o+j*6,none⟩=some (.int .i64 (kindP n.tok.text))∧w.cell? ⟨g,o+j*6+1,none⟩=some (.int .i64 n.tok.at')∧w.cell? ⟨g,o+j*6+2,none⟩=some (.string (bsOf n.tok.text))∧w.cell? ⟨g,o+j*6+3,none⟩=some (.int .i64 n.ops)∧w.cell? ⟨g,o+j*6+4,none⟩=some (.int .i64 n.left)∧w.cell? ⟨g,o+j*6+5,none⟩=some (.int .i64 n.right):=by
 obtain ⟨hlt,rfl⟩:=List.getElem?_eq_some_iff.1 hj
 obtain ⟨g,o,cap,hcut,hcap,hg,hcl⟩:=H.pa.n.pos (by omega)
 cases hcut
 have fc:=fun i (hi:i<6) u (hu:(cellN N[j])[i]?=some u)=>hcl (j*6+i) u ((flat_get cellN 6 (fun _=>rfl) N j hlt i hi).trans hu)
 refine ⟨g,o,rfl,hg,hcap,fc 0 (by omega) _ rfl, ?_, ?_, ?_, ?_, ?_⟩
 ·rw[Nat.add_assoc];exact fc 1 (by omega) _ rfl
 ·rw[Nat.add_assoc];exact fc 2 (by omega) _ rfl
 ·rw[Nat.add_assoc];exact fc 3 (by omega) _ rfl
 ·rw[Nat.add_assoc];exact fc 4 (by omega) _ rfl
 ·rw[Nat.add_assoc];exact fc 5 (by omega) _ rfl
set_option maxHeartbeats 1000000 in
theorem node_out{cb:Nat}{na:Option Addr}{nc:Nat}{lv rv fv:Value}{N:List PNode}{ls:List PLet}{rs:List PRule}{fs:List Fact}(b below:Nat)(i:Int)(hi:i<0∨(b:Int)≤i)(w:World) :
  Calls Tryz.prog 131 #[.pointer (some ⟨cb,0,none⟩),.slice na b nc,.int .i64 i,.int .i64 below] w fun e w'=>e=.returned (.string (bsN []))∧w'=w:=by
 by_cases h0:i<0
 ·have e0:decide (i<0)=true:=decide_eq_true (by omega)
  clear hi h0
  go_enter Tryz.func131,Tryz.ntmps131
  go_wp2
  go_ret
  exact ⟨rfl,rfl⟩
 ·have e0:decide (i<0)=false:=decide_eq_false (by omega)
  have e1:decide ((b:Int)≤i)=true:=decide_eq_true (by omega)
  clear hi h0
  go_enter Tryz.func131,Tryz.ntmps131
  go_wp2
  go_ret
  exact ⟨rfl,rfl⟩
theorem behind_op{op:Nat}(h1:2≤op)(h2:op≤12):behindN op=0:=by
 obtain rfl | rfl | rfl | rfl | rfl | rfl | rfl | rfl | rfl | rfl | rfl:op=2∨op=3∨op=4∨op=5∨op=6∨op=7∨op=8∨op=9∨op=10∨op=11∨op=12:=by omega
 all_goals rfl
set_option maxHeartbeats 4000000 in
set_option maxRecDepth 100000 in
theorem node_fact{cb:Nat}{na:Option Addr}{nc:Nat}{lv rv fv:Value}{N:List PNode}{ls:List PLet}{rs:List PRule}{fs:List Fact}(j b below h:Nat)(hj:j<b)(hbN:b≤N.length)(hbl:below+b≤1000)(n:PNode)(hnj:N[j]?=some n)(hn:NodeOk n)(v:Int)(hfa:atF fs (j:Int)=some v)(hv:In64 v)(w:World)(H:CmpAt w cb (.slice na N.length nc) lv rv fv h N ls rs fs) :
  Calls Tryz.prog 131 #[.pointer (some ⟨cb,0,none⟩),.slice na b nc,.int .i64 j,.int .i64 below] w fun e w'=>e=.returned (.string (bsN (opC 0 v)))∧CmpAt w' cb (.slice na N.length nc) lv rv fv (layH below h) N ls rs fs∧But cb w w':=by
 have HM:=mH (NdSt.start H n)
 have hnl:=hn.left
 have hnr:=hn.right
 have hnb:=H.pa.nb
 obtain ⟨g,o,rfl,hg,hcap,d0,d1,d2,d3,d4,d5⟩:=node_cells H hnj
 have hsl:=fun wx=>sliceN g o b nc j (by omega) (by omega) wx
 have hlcb:=H.blk.lt
 have q3:=H.blk.cell 3
 simp only[List.getElem?_toArray,List.getElem?_cons_zero,List.getElem?_cons_succ]at q3
 have e0:decide ((j:Int)<0)=false:=decide_eq_false (by omega)
 have e1:decide ((b:Int)≤(j:Int))=false:=decide_eq_false (by omega)
 have HFA:Hid (atF fs (j:Int)=some v):=hfa
 have HV:=mH hv
 clear hv
 clear H hnj hfa
 have HN:=mH hn
 clear hn
 go_enter Tryz.func131,Tryz.ntmps131
 go_upto_region 6 with (go_at_call 110;refine (factAt_any fs _ (j:Int) _ HM.out.c.fr HM.out.c.fb ⟨by omega,by omega⟩).mono ?_;rintro e w1 ⟨rfl,hb1⟩;rw[HFA.out];rw[show factA (some v)=.agg #[.bool true,.int .i64 v] from rfl];clear q3;replace HM:=mH ((HM.out.below hb1).al (.cells #[.bool true,.int .i64 v] 151));clear hb1;have n0:=HM.out.nd.cell 0;have n1:=HM.out.nd.cell 1;have n2:=HM.out.nd.cell 2;have n3:=HM.out.nd.cell 3;have n4:=HM.out.nd.cell 4;have n5:=HM.out.nd.cell 5;have k0:=HM.out.c.blk.cell 0;have k1:=HM.out.c.blk.cell 1;have k3:=HM.out.c.blk.cell 3;have hln:=HM.out.nd.lt;have hlc:=HM.out.c.blk.lt;simp only[nodC,List.getElem?_toArray,List.getElem?_cons_zero,List.getElem?_cons_succ]at n0 n1 n2 n3 n4 n5 k0 k1 k3)
 go_wp2_with (go_at_call 150;refine (lay_any HM.out.c 0 (by omega) v HV.out below (by omega)).mono ?_;rintro e w2 ⟨rfl,hc2,hb2⟩;clear n0 n1 n2 n3 n4 n5 k0 k1 k3 hln hlc;replace HM:=mH (HM.out.call hc2 hb2);clear hc2 hb2)
 go_ret
 exact ⟨rfl,HM.out.c,HM.out.bu⟩
set_option maxHeartbeats 4000000 in
set_option maxRecDepth 100000 in
theorem node_one{cb:Nat}{na:Option Addr}{nc:Nat}{lv rv fv:Value}{N:List PNode}{ls:List PLet}{rs:List PRule}{fs:List Fact}(j b below h:Nat)(hj:j<b)(hbN:b≤N.length)(hbl:below+b≤1000)(n:PNode)(hnj:N[j]?=some n)(hn:NodeOk n)(hfa:atF fs (j:Int)=none)(h1:n.ops=1)(cl:List Nat)(h':Nat)(hcl:cl.length≤60000)(HI:Hid (∀ wx,CmpAt wx cb (.slice na N.length nc) lv rv fv h N ls rs fs→Calls Tryz.prog 131 #[.pointer (some ⟨cb,0,none⟩),.slice na j nc,.int .i64 (n.left:Int),.int .i64 below] wx fun e w'=>e=.returned (.string (bsN cl))∧CmpAt w' cb (.slice na N.length nc) lv rv fv h' N ls rs fs∧But cb wx w'))(w:World)(H:CmpAt w cb (.slice na N.length nc) lv rv fv h N ls rs fs) :
  Calls Tryz.prog 131 #[.pointer (some ⟨cb,0,none⟩),.slice na b nc,.int .i64 j,.int .i64 below] w fun e w'=>e=.returned (.string (bsN (cl++opC (opK (kindP n.tok.text) n.ops) 0)))∧CmpAt w' cb (.slice na N.length nc) lv rv fv h' N ls rs fs∧But cb w w':=by
 have HM:=mH (NdSt.start H n)
 have hnl:=hn.left
 have hnr:=hn.right
 have hnb:=H.pa.nb
 obtain ⟨g,o,rfl,hg,hcap,d0,d1,d2,d3,d4,d5⟩:=node_cells H hnj
 have hsl:=fun wx=>sliceN g o b nc j (by omega) (by omega) wx
 have hlcb:=H.blk.lt
 have q3:=H.blk.cell 3
 simp only[List.getElem?_toArray,List.getElem?_cons_zero,List.getElem?_cons_succ]at q3
 have e0:decide ((j:Int)<0)=false:=decide_eq_false (by omega)
 have e1:decide ((b:Int)≤(j:Int))=false:=decide_eq_false (by omega)
 have HFA:Hid (atF fs (j:Int)=none):=hfa
 have HON:=mH (hn.one h1)
 have e2:((n.ops:Int)==1)=true:=by simp;omega
 obtain ⟨op,hop⟩:∃ op,opK (kindP n.tok.text) n.ops=op:=⟨_,rfl⟩
 rw[hop]at HON ⊢
 have HOP:=mH hop
 have hop2:2≤op∧op≤3:=by have:=HON.out;omega
 have HFin:Hid (bsN cl++bsN (opC op 0)=bsN (cl++opC op 0)):=bsN_append _ _
 have zl:(bsN cl).size=cl.length:=bsN_len _
 have zo:(bsN (opC op 0)).size=1:=by rw[opC_size,behind_op (by omega) (by omega)]
 clear h1 hop
 clear H hnj hfa
 have HN:=mH hn
 clear hn
 go_enter Tryz.func131,Tryz.ntmps131
 go_upto_region 6 with (go_at_call 110;refine (factAt_any fs _ (j:Int) _ HM.out.c.fr HM.out.c.fb ⟨by omega,by omega⟩).mono ?_;rintro e w1 ⟨rfl,hb1⟩;rw[HFA.out];rw[show factA none=.agg #[.bool false,.int .i64 0] from rfl];clear q3;replace HM:=mH ((HM.out.below hb1).al (.cells #[.bool false,.int .i64 0] 151));clear hb1;have n0:=HM.out.nd.cell 0;have n1:=HM.out.nd.cell 1;have n2:=HM.out.nd.cell 2;have n3:=HM.out.nd.cell 3;have n4:=HM.out.nd.cell 4;have n5:=HM.out.nd.cell 5;have k0:=HM.out.c.blk.cell 0;have k1:=HM.out.c.blk.cell 1;have k3:=HM.out.c.blk.cell 3;have hln:=HM.out.nd.lt;have hlc:=HM.out.c.blk.lt;simp only[nodC,List.getElem?_toArray,List.getElem?_cons_zero,List.getElem?_cons_succ]at n0 n1 n2 n3 n4 n5 k0 k1 k3)
 go_wp2_with (first
  | (go_at_call 131;refine (HI.out _ HM.out.c).mono ?_;rintro e w2 ⟨rfl,hc2,hb2⟩;clear n0 n1 n2 n3 n4 n5 k0 k1 k3 hln hlc;replace HM:=mH (HM.out.call hc2 hb2);clear hc2 hb2;have n0:=HM.out.nd.cell 0;have n1:=HM.out.nd.cell 1;have n2:=HM.out.nd.cell 2;have n3:=HM.out.nd.cell 3;have n4:=HM.out.nd.cell 4;have n5:=HM.out.nd.cell 5;have k0:=HM.out.c.blk.cell 0;have k1:=HM.out.c.blk.cell 1;have k3:=HM.out.c.blk.cell 3;have hln:=HM.out.nd.lt;have hlc:=HM.out.c.blk.lt;simp only[nodC,List.getElem?_toArray,List.getElem?_cons_zero,List.getElem?_cons_succ]at n0 n1 n2 n3 n4 n5 k0 k1 k3)
  | (go_at_call 112;refine (operationOf_any n _).mono ?_;rintro e w3 ⟨rfl,hb3⟩;rw[HOP.out];clear n0 n1 n2 n3 n4 n5 k0 k1 k3 hln hlc;replace HM:=mH (HM.out.below hb3);clear hb3)
  | (go_at_call 78;refine (Bytes_any op (by omega) 0 (by decide) _ HM.out.c.gb).mono ?_;rintro e w4 ⟨rfl,hb4⟩;replace HM:=mH (HM.out.below hb4);clear hb4))
 go_ret
 exact ⟨by rw[← HFin.out];rfl,HM.out.c,HM.out.bu⟩
set_option maxHeartbeats 4000000 in
set_option maxRecDepth 100000 in
theorem node_choice{cb:Nat}{na:Option Addr}{nc:Nat}{lv rv fv:Value}{N:List PNode}{ls:List PLet}{rs:List PRule}{fs:List Fact}(j b below h:Nat)(hj:j<b)(hbN:b≤N.length)(hbl:below+b≤1000)(n:PNode)(hnj:N[j]?=some n)(hn:NodeOk n)(hfa:atF fs (j:Int)=none)(h1:n.ops≠1)(hc:isChK (kindP n.tok.text)=true)(cl:List Nat)(h':Nat)(HI:Hid (∀ wx,CmpAt wx cb (.slice na N.length nc) lv rv fv h N ls rs fs→Calls Tryz.prog 151 #[.pointer (some ⟨cb,0,none⟩),.slice na j nc,nodA n,.int .i64 below] wx fun e w'=>e=.returned (.string (bsN cl))∧CmpAt w' cb (.slice na N.length nc) lv rv fv h' N ls rs fs∧But cb wx w'))(w:World)(H:CmpAt w cb (.slice na N.length nc) lv rv fv h N ls rs fs) :
  Calls Tryz.prog 131 #[.pointer (some ⟨cb,0,none⟩),.slice na b nc,.int .i64 j,.int .i64 below] w fun e w'=>e=.returned (.string (bsN cl))∧CmpAt w' cb (.slice na N.length nc) lv rv fv h' N ls rs fs∧But cb w w':=by
 have HM:=mH (NdSt.start H n)
 have hnl:=hn.left
 have hnr:=hn.right
 have hnb:=H.pa.nb
 obtain ⟨g,o,rfl,hg,hcap,d0,d1,d2,d3,d4,d5⟩:=node_cells H hnj
 have hsl:=fun wx=>sliceN g o b nc j (by omega) (by omega) wx
 have hlcb:=H.blk.lt
 have q3:=H.blk.cell 3
 simp only[List.getElem?_toArray,List.getElem?_cons_zero,List.getElem?_cons_succ]at q3
 have e0:decide ((j:Int)<0)=false:=decide_eq_false (by omega)
 have e1:decide ((b:Int)≤(j:Int))=false:=decide_eq_false (by omega)
 have HFA:Hid (atF fs (j:Int)=none):=hfa
 have e2:((n.ops:Int)==1)=false:=by simp;omega
 have HCH:=mH hc
 clear h1 hc
 clear H hnj hfa
 have HN:=mH hn
 clear hn
 go_enter Tryz.func131,Tryz.ntmps131
 go_upto_region 6 with (go_at_call 110;refine (factAt_any fs _ (j:Int) _ HM.out.c.fr HM.out.c.fb ⟨by omega,by omega⟩).mono ?_;rintro e w1 ⟨rfl,hb1⟩;rw[HFA.out];rw[show factA none=.agg #[.bool false,.int .i64 0] from rfl];clear q3;replace HM:=mH ((HM.out.below hb1).al (.cells #[.bool false,.int .i64 0] 151));clear hb1;have n0:=HM.out.nd.cell 0;have n1:=HM.out.nd.cell 1;have n2:=HM.out.nd.cell 2;have n3:=HM.out.nd.cell 3;have n4:=HM.out.nd.cell 4;have n5:=HM.out.nd.cell 5;have k0:=HM.out.c.blk.cell 0;have k1:=HM.out.c.blk.cell 1;have k3:=HM.out.c.blk.cell 3;have hln:=HM.out.nd.lt;have hlc:=HM.out.c.blk.lt;simp only[nodC,List.getElem?_toArray,List.getElem?_cons_zero,List.getElem?_cons_succ]at n0 n1 n2 n3 n4 n5 k0 k1 k3)
 go_wp2_with (first
  | (go_at_call 113;refine (isChoice_any n _).mono ?_;rintro e w2 ⟨rfl,hb2⟩;rw[HCH.out];clear n0 n1 n2 n3 n4 n5 k0 k1 k3 hln hlc;replace HM:=mH (HM.out.below hb2);clear hb2;have n0:=HM.out.nd.cell 0;have n1:=HM.out.nd.cell 1;have n2:=HM.out.nd.cell 2;have n3:=HM.out.nd.cell 3;have n4:=HM.out.nd.cell 4;have n5:=HM.out.nd.cell 5;have k0:=HM.out.c.blk.cell 0;have k1:=HM.out.c.blk.cell 1;have k3:=HM.out.c.blk.cell 3;have hln:=HM.out.nd.lt;have hlc:=HM.out.c.blk.lt;simp only[nodC,List.getElem?_toArray,List.getElem?_cons_zero,List.getElem?_cons_succ]at n0 n1 n2 n3 n4 n5 k0 k1 k3)
  | (go_at_call 151;refine (HI.out _ HM.out.c).mono ?_;rintro e w3 ⟨rfl,hc3,hb3⟩;clear n0 n1 n2 n3 n4 n5 k0 k1 k3 hln hlc;replace HM:=mH (HM.out.call hc3 hb3);clear hc3 hb3))
 go_ret
 exact ⟨rfl,HM.out.c,HM.out.bu⟩
set_option maxHeartbeats 4000000 in
set_option maxRecDepth 100000 in
theorem node_two{cb:Nat}{na:Option Addr}{nc:Nat}{lv rv fv:Value}{N:List PNode}{ls:List PLet}{rs:List PRule}{fs:List Fact}(j b below h:Nat)(hj:j<b)(hbN:b≤N.length)(hbl:below+b≤1000)(n:PNode)(hnj:N[j]?=some n)(hn:NodeOk n)(hfa:atF fs (j:Int)=none)(h1:n.ops=2)(hc:isChK (kindP n.tok.text)=false)(cl cr:List Nat)(h' h'':Nat)(hcl:cl.length+cr.length≤60000)(HI:Hid (∀ wx,CmpAt wx cb (.slice na N.length nc) lv rv fv h N ls rs fs→Calls Tryz.prog 131 #[.pointer (some ⟨cb,0,none⟩),.slice na j nc,.int .i64 (n.left:Int),.int .i64 below] wx fun e w'=>e=.returned (.string (bsN cl))∧CmpAt w' cb (.slice na N.length nc) lv rv fv h' N ls rs fs∧But cb wx w'))(HJ:Hid (∀ wx,CmpAt wx cb (.slice na N.length nc) lv rv fv h' N ls rs fs→Calls Tryz.prog 131 #[.pointer (some ⟨cb,0,none⟩),.slice na j nc,.int .i64 (n.right:Int),.int .i64 (below+1:Nat)] wx fun e w'=>e=.returned (.string (bsN cr))∧CmpAt w' cb (.slice na N.length nc) lv rv fv h'' N ls rs fs∧But cb wx w'))(w:World)(H:CmpAt w cb (.slice na N.length nc) lv rv fv h N ls rs fs) :
  Calls Tryz.prog 131 #[.pointer (some ⟨cb,0,none⟩),.slice na b nc,.int .i64 j,.int .i64 below] w fun e w'=>e=.returned (.string (bsN (cl++cr++opC (opK (kindP n.tok.text) n.ops) 0)))∧CmpAt w' cb (.slice na N.length nc) lv rv fv h'' N ls rs fs∧But cb w w':=by
 have HM:=mH (NdSt.start H n)
 have hnl:=hn.left
 have hnr:=hn.right
 have hnb:=H.pa.nb
 obtain ⟨g,o,rfl,hg,hcap,d0,d1,d2,d3,d4,d5⟩:=node_cells H hnj
 have hsl:=fun wx=>sliceN g o b nc j (by omega) (by omega) wx
 have hlcb:=H.blk.lt
 have q3:=H.blk.cell 3
 simp only[List.getElem?_toArray,List.getElem?_cons_zero,List.getElem?_cons_succ]at q3
 have e0:decide ((j:Int)<0)=false:=decide_eq_false (by omega)
 have e1:decide ((b:Int)≤(j:Int))=false:=decide_eq_false (by omega)
 have HFA:Hid (atF fs (j:Int)=none):=hfa
 have HON:=mH (hn.two hc h1)
 have e2:((n.ops:Int)==1)=false:=by simp;omega
 have e3:((n.ops:Int)==2)=true:=by simp;omega
 have HCH:=mH hc
 obtain ⟨op,hop⟩:∃ op,opK (kindP n.tok.text) n.ops=op:=⟨_,rfl⟩
 rw[hop]at HON ⊢
 have HOP:=mH hop
 have hop2:4≤op∧op≤12:=HON.out
 have HFin:Hid (bsN cl++bsN cr++bsN (opC op 0)=bsN (cl++cr++opC op 0)):=by rw[Hid,bsN_append,bsN_append]
 have zl:(bsN cl).size=cl.length:=bsN_len _
 have zr:(bsN cr).size=cr.length:=bsN_len _
 have zo:(bsN (opC op 0)).size=1:=by rw[opC_size,behind_op (by omega) (by omega)]
 obtain ⟨b1,hb1⟩:∃ b1:Nat,(below:Int)+1=(b1:Int):=⟨below+1,by omega⟩
 have hb1e:below+1=b1:=by omega
 rw[hb1e]at HJ
 clear h1 hop hc hb1e
 clear H hnj hfa
 have HN:=mH hn
 clear hn
 go_enter Tryz.func131,Tryz.ntmps131
 go_upto_region 6 with (go_at_call 110;refine (factAt_any fs _ (j:Int) _ HM.out.c.fr HM.out.c.fb ⟨by omega,by omega⟩).mono ?_;rintro e w1 ⟨rfl,hb1⟩;rw[HFA.out];rw[show factA none=.agg #[.bool false,.int .i64 0] from rfl];clear q3;replace HM:=mH ((HM.out.below hb1).al (.cells #[.bool false,.int .i64 0] 151));clear hb1;have n0:=HM.out.nd.cell 0;have n1:=HM.out.nd.cell 1;have n2:=HM.out.nd.cell 2;have n3:=HM.out.nd.cell 3;have n4:=HM.out.nd.cell 4;have n5:=HM.out.nd.cell 5;have k0:=HM.out.c.blk.cell 0;have k1:=HM.out.c.blk.cell 1;have k3:=HM.out.c.blk.cell 3;have hln:=HM.out.nd.lt;have hlc:=HM.out.c.blk.lt;simp only[nodC,List.getElem?_toArray,List.getElem?_cons_zero,List.getElem?_cons_succ]at n0 n1 n2 n3 n4 n5 k0 k1 k3)
 go_wp2_with (first
  | (go_at_call 113;refine (isChoice_any n _).mono ?_;rintro e w2 ⟨rfl,hb2⟩;rw[HCH.out];clear n0 n1 n2 n3 n4 n5 k0 k1 k3 hln hlc;replace HM:=mH (HM.out.below hb2);clear hb2;have n0:=HM.out.nd.cell 0;have n1:=HM.out.nd.cell 1;have n2:=HM.out.nd.cell 2;have n3:=HM.out.nd.cell 3;have n4:=HM.out.nd.cell 4;have n5:=HM.out.nd.cell 5;have k0:=HM.out.c.blk.cell 0;have k1:=HM.out.c.blk.cell 1;have k3:=HM.out.c.blk.cell 3;have hln:=HM.out.nd.lt;have hlc:=HM.out.c.blk.lt;simp only[nodC,List.getElem?_toArray,List.getElem?_cons_zero,List.getElem?_cons_succ]at n0 n1 n2 n3 n4 n5 k0 k1 k3)
  | (go_at_call_of 131 (Value.int IntKind.i64 (n.left:Int));refine (HI.out _ HM.out.c).mono ?_;rintro e w3 ⟨rfl,hc3,hb3⟩;clear n0 n1 n2 n3 n4 n5 k0 k1 k3 hln hlc;replace HM:=mH (HM.out.call hc3 hb3);clear hc3 hb3;have n0:=HM.out.nd.cell 0;have n1:=HM.out.nd.cell 1;have n2:=HM.out.nd.cell 2;have n3:=HM.out.nd.cell 3;have n4:=HM.out.nd.cell 4;have n5:=HM.out.nd.cell 5;have k0:=HM.out.c.blk.cell 0;have k1:=HM.out.c.blk.cell 1;have k3:=HM.out.c.blk.cell 3;have hln:=HM.out.nd.lt;have hlc:=HM.out.c.blk.lt;simp only[nodC,List.getElem?_toArray,List.getElem?_cons_zero,List.getElem?_cons_succ]at n0 n1 n2 n3 n4 n5 k0 k1 k3)
  | (go_at_call_of 131 (Value.int IntKind.i64 (n.right:Int));refine (HJ.out _ HM.out.c).mono ?_;rintro e w4 ⟨rfl,hc4,hb4⟩;clear n0 n1 n2 n3 n4 n5 k0 k1 k3 hln hlc;replace HM:=mH (HM.out.call hc4 hb4);clear hc4 hb4;have n0:=HM.out.nd.cell 0;have n1:=HM.out.nd.cell 1;have n2:=HM.out.nd.cell 2;have n3:=HM.out.nd.cell 3;have n4:=HM.out.nd.cell 4;have n5:=HM.out.nd.cell 5;have k0:=HM.out.c.blk.cell 0;have k1:=HM.out.c.blk.cell 1;have k3:=HM.out.c.blk.cell 3;have hln:=HM.out.nd.lt;have hlc:=HM.out.c.blk.lt;simp only[nodC,List.getElem?_toArray,List.getElem?_cons_zero,List.getElem?_cons_succ]at n0 n1 n2 n3 n4 n5 k0 k1 k3)
  | (go_at_call 112;refine (operationOf_any n _).mono ?_;rintro e w5 ⟨rfl,hb5⟩;rw[HOP.out];clear n0 n1 n2 n3 n4 n5 k0 k1 k3 hln hlc;replace HM:=mH (HM.out.below hb5);clear hb5)
  | (go_at_call 78;refine (Bytes_any op (by omega) 0 (by decide) _ HM.out.c.gb).mono ?_;rintro e w6 ⟨rfl,hb6⟩;replace HM:=mH (HM.out.below hb6);clear hb6))
 go_ret
 exact ⟨by rw[← HFin.out];rfl,HM.out.c,HM.out.bu⟩
end Go.Proofs.YtpcjadaeolkngaaGreatDoor
