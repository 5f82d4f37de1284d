/-
  Compile: the bytes of an operation.
-/
import Derived.Test.YtldfkcpbjooemaaGreatDoorG31
import Derived.Laws.Bits64
import Derived.Laws.BitsLemmas
import Derived.Laws.OwnMore
set_option linter.unusedVariables false
set_option linter.unusedSimpArgs false
namespace Go.Proofs.YtldfkcpbjooemaaGreatDoor
open Go.RowKit Go.Deep
theorem conv_row (w:World) (g o cap:Nat) (l:List Nat) (hc:∀ j u,(l.map fun n:Nat=>Value.int .u8 (n:Int))[j]?=some u→w.cell? ⟨g,o+j,none⟩=some u) :
  (convert 179 9 (.slice (some ⟨g,o,none⟩) l.length cap)).run Tryz.prog w=.ok (.string (bsN l)) w:=by
 rw[run_convert_bytes_string w 179 9 5 _ _ _ Tryz.underlying179 Tryz.underlying5 Tryz.underlying9]
 rw[run_bytesToString w ⟨g,o,none⟩ l.length cap (l.map Int.ofNat) ?_]
 ·rw[bsN_fold]
  simp[bsN]
 ·have h:=run_loadCells_list (P:=Tryz.prog) w ⟨g,o,none⟩ ((l.map Int.ofNat).map (Value.int .u8)) ?_
  ·simpa using h
  ·intro j v hj
   simp at hj
   obtain ⟨c,hc',rfl⟩:=hj
   rw[show (⟨g,o,none⟩:Addr).add j=⟨g,o+j,none⟩ by unfold Addr.add;split <;> simp_all]
   exact hc j _ (by simp[hc'])
theorem u64_low (n:Nat) (hn:n < 18446744073709551616):bits .and .u64 (n:Int) 255=((n % 256:Nat):Int):=by
 have h:=bits_mask .u64 64 (by decide) (fun m h0 h1=>by rw[IntKind.wrap_u64];omega) 8 (by decide) (n:Int) (by omega) (by omega)
 have e:((2:Int) ^ 8 - 1)=255:=by decide
 have e2:((2:Int) ^ 8)=256:=by decide
 rw[e,e2] at h
 rw[h]
 omega
def cellsY (l:List Nat):List Value:=l.map fun n:Nat=>Value.int .u8 (n:Int)
theorem Tryz.infoU8:(Tryz.prog.info? 5).map (fun i=>(i.zero,i.size,i.bytes))=some (some (.int .u8 0),1,1):=by kernel_rfl
theorem own_stepY {w wr w2:World} {acc:List Nat} {v v':Value} {b:Nat} {o:Obj} (hbel:Below w.heap.size w wr)
  (hown2:w2.ownsRow w.heap.size 5 1 v' (acc.length+1) (cellsY acc++[.int .u8 b])) (hg:(wr.alloc o).grownBy w2 v.ownBlock) (hown1:wr.ownsRow w.heap.size 5 1 v acc.length (cellsY acc)) :
  w2.ownsRow w.heap.size 5 1 v' (acc++[b]).length (cellsY (acc++[b]))∧Below w.heap.size w w2:=by
 have hs1:=hbel.size
 refine ⟨?_, ?_⟩
 ·simpa[cellsY] using hown2
 ·exact (hbel.alloc (by omega) o).grown hg (by simp;omega) (fun k hk=>(hown1.lt k hk).1)
theorem behindN_le (k:Nat):behindN k≤8:=by
 unfold behindN
 repeat' split
 all_goals omega
set_option maxHeartbeats 2000000 in
set_option maxRecDepth 100000 in
theorem Bytes_any (k:Nat) (hk:k < 18) (v:Int) (hv:In64 v) (w:World) (hg:GlobB w) :
  Calls Tryz.prog 129 #[.int .i64 k,.int .i64 v] w fun e w'=>e=.returned (.string (bsN (opC k v)))∧Below w.heap.size w w':=by
 obtain ⟨i0,hi0,hz0,hz1,hz2⟩:=info_parts Tryz.infoU8
 obtain ⟨u,hu⟩:∃ u:Nat,u=(v % 18446744073709551616).toNat:=⟨_,rfl⟩
 have eu:v % 18446744073709551616=(u:Int):=by omega
 have hlt:u < 18446744073709551616:=by omega
 have e8:opC k v=k :: bytesN u (behindN k):=by unfold opC;rw[hu]
 rw[e8]
 have ew:IntKind.u64.wrap v=(u:Int):=by rw[← eu];simp[IntKind.wrap,IntKind.signed,IntKind.bits]
 clear eu hu e8
 have hb8:=behindN_le k
 obtain ⟨m,hm⟩:∃ m,m=behindN k:=⟨_,rfl⟩
 have HM:=Hid.mk2 hm
 rw[← hm] at hb8 ⊢
 have HC:Hid (∀ wr,Below w.heap.size w wr→wr.cell? ⟨0,k,none⟩=some (.int .i64 m)):=by
  intro wr hb
  rw[hm]
  exact (hb.cell (p:=⟨0,k,none⟩) hg.size).trans (hg.bytes k hk)
 have hgz:=hg.size
 clear hm hg
 have hk8:k < 256:=by omega
 have H0:Hid ((w.alloc (.cells #[.int .u8 k] 5)).ownsRow w.heap.size 5 1 (.slice (some ⟨w.heap.size,0,none⟩) 1 1) ([k]:List Nat).length (cellsY [k])):=World.ownsRow_lit w #[.int .u8 k] 1 (Nat.le_refl _) (by unfold maxLen;omega) rfl
 go_enter Tryz.func129,Tryz.ntmps129
 go_wp2
 go_loopw [5,6,7] (fun vr vu vi wr=>∃ (n i:Nat) (acc:List Nat),i≤m∧vi=.int .i64 i∧vu=.int .u64 n∧n < 18446744073709551616∧acc.length=i+1∧wr.ownsRow w.heap.size 5 1 vr acc.length (cellsY acc)∧Below w.heap.size w wr∧k :: bytesN u m=acc++bytesN n (m - i)) (fun _ _ i _=>8 - (intOf i).toNat)
 case atStart=>exact ⟨u,0,[k],by omega,rfl,rfl,hlt,rfl,H0.out,box3 w _,rfl⟩
 case round =>
  obtain ⟨n,i,acc,hi,rfl,rfl,hn,hl,hown,hb,hq⟩:=hrel
  have c0:=HC.out _ hb
  by_cases h8:i < m
  ·obtain ⟨lo,hlo⟩:∃ lo,lo=n % 256:=⟨_,rfl⟩
   obtain ⟨hi',hhi⟩:∃ hi,hi=n / 256:=⟨_,rfl⟩
   have e1:bits .and .u64 (n:Int) 255=(lo:Int):=by rw[hlo];exact u64_low n hn
   have e2:(n:Int) / 256=(hi':Int):=by omega
   have hlo8:lo < 256:=by omega
   have hq':k :: bytesN u m=(acc++[lo])++bytesN hi' (m - (i+1)):=by
    rw[hq,show m - i=(m - (i+1))+1 by omega,bytesN,hlo,hhi]
    simp
   have HQ:=Hid.mk2 hq'
   have HB:=Hid.mk2 hb
   have HL:=Hid.mk2 hl
   have HO:=Hid.mk2 hown
   have hal:acc.length≤9:=by omega
   have hhi':hi' < 18446744073709551616:=by omega
   have hbs:=hb.size
   clear hq hq' hlo hhi hb hl hown
   go_wp2_with (at_builtin;refine wpList_append_own _ rfl (.tmp 26) (.tmp 30) 179 rfl w.heap.size 5 i0 (.int .u8 0) 1 1 Tryz.underlying179 hi0 hz0 hz1 hz2 rfl (by decide) _ _ _ rfl (HO.out.alloc _) ⟨wr.heap.size,0,none⟩ 1 1 [.int .u8 lo] rfl rfl (cell_one_at _ _ _ _ rfl) one_int1 (by unfold maxLen;omega) (by omega) (by simp;omega) ?_;intro v' w4 hown2 hgrow2 _;obtain ⟨ho3,hb3⟩:=own_stepY HB.out hown2 hgrow2 HO.out;clear hown2 hgrow2;have HO3:=Hid.mk2 ho3;have HB3:=Hid.mk2 hb3;clear ho3 hb3)
   go_roundw
   case rel=>exact ⟨hi',i+1,acc++[lo],by omega,by go_num,rfl,hhi',by simp[HL.out],HO3.out,HB3.out,HQ.out⟩
   case measure=>simp[intOf];omega
  ·have him:i=m:=by omega
   subst him
   have e:k :: bytesN u i=acc:=by rw[hq];simp[bytesN]
   have HE:=Hid.mk2 e
   have HB:=Hid.mk2 hb
   obtain ⟨g,o,cap,hv,hcap,hgl,hc⟩:=(reads_of_own hown).pos (by omega)
   subst hv
   have hcv:=conv_row wr g o cap acc hc
   clear hb hq e hown hc hl
   go_wp2
   go_ret
   exact ⟨by rw[HE.out];rfl,HB.out⟩
end Go.Proofs.YtldfkcpbjooemaaGreatDoor
namespace Go.Proofs.YtldfkcpbjooemaaGreatDoor
open Go.RowKit Go.Deep
theorem GlobB.set {w:World} (h:GlobB w) {cb:Nat} (hne:0≠cb) (i:Nat) (v:Value):GlobB (w.setCell ⟨cb,i,none⟩ v):=by
 refine ⟨fun c hc=>?_,by have:=h.size;simpa using this⟩
 rw[← h.bytes c hc]
 show (w.setCell ⟨cb,i,none⟩ v).cell? ⟨0,c,none⟩=_
 unfold World.cell?
 rw[Below.heap_setCell _ _ _ _ hne]
structure CmpAt (w:World) (cb:Nat) (nv lv rv fv:Value) (h:Nat) (N:List PNode) (ls:List PLet) (rs:List PRule) (fs:List Fact):Prop where
 blk:Blk w cb #[nv,lv,rv,fv,.int .i64 h] 150
 pa:PolAt w nv lv rv N ls rs
 fr:Reads w fv fs.length (cellsF fs)
 fb:fs.length≤401
 gb:GlobB w
 ap:Apart2 cb cb nv lv rv
 af:fv.ownBlock≠some cb
 ag:0≠cb
theorem CmpAt.below {w w':World} {cb:Nat} {nv lv rv fv:Value} {h:Nat} {N:List PNode} {ls:List PLet} {rs:List PRule} {fs:List Fact} (H:CmpAt w cb nv lv rv fv h N ls rs fs) (hb:Below w.heap.size w w'):CmpAt w' cb nv lv rv fv h N ls rs fs :=
 ⟨H.blk.below hb H.blk.lt,H.pa.below hb,H.fr.below hb,H.fb,H.gb.below hb,H.ap,H.af,H.ag⟩
theorem CmpAt.al {w:World} {cb:Nat} {nv lv rv fv:Value} {h:Nat} {N:List PNode} {ls:List PLet} {rs:List PRule} {fs:List Fact} (H:CmpAt w cb nv lv rv fv h N ls rs fs) (o:Obj):CmpAt (w.alloc o) cb nv lv rv fv h N ls rs fs:=H.below (box3 w o)
theorem CmpAt.dr {w:World} {cb:Nat} {nv lv rv fv:Value} {h:Nat} {N:List PNode} {ls:List PLet} {rs:List PRule} {fs:List Fact} (H:CmpAt w cb nv lv rv fv h N ls rs fs):CmpAt w.drew cb nv lv rv fv h N ls rs fs:=H.below (below_drewN (Below.refl _ w) 1)
theorem CmpAt.high {w:World} {cb:Nat} {nv lv rv fv:Value} {h:Nat} {N:List PNode} {ls:List PLet} {rs:List PRule} {fs:List Fact} (H:CmpAt w cb nv lv rv fv h N ls rs fs) (k:Nat):CmpAt (w.setCell ⟨cb,4,none⟩ (.int .i64 k)) cb nv lv rv fv k N ls rs fs :=
 ⟨H.blk.set 4 (.int .i64 k),H.pa.set1 H.ap 4 _,H.fr.set H.af,H.fb,H.gb.set H.ag 4 _,H.ap,H.af,H.ag⟩
set_option maxHeartbeats 1000000 in
set_option maxRecDepth 100000 in
theorem lay_any {w:World} {cb:Nat} {nv lv rv fv:Value} {h:Nat} {N:List PNode} {ls:List PLet} {rs:List PRule} {fs:List Fact} (H:CmpAt w cb nv lv rv fv h N ls rs fs) (k:Nat) (hk:k < 18) (v:Int) (hv:In64 v) (below:Nat) (hb:below≤1000) :
  Calls Tryz.prog 191 #[.pointer (some ⟨cb,0,none⟩),.int .i64 k,.int .i64 v,.int .i64 below] w fun e w'=>e=.returned (.string (bsN (opC k v)))∧CmpAt w' cb nv lv rv fv (layH below h) N ls rs fs∧But cb w w':=by
 have HC:=Hid.mk2 H
 have HV:=Hid.mk2 hv
 have c4:=H.blk.cell 4
 have f4:=H.blk.free 4
 have hlt:=H.blk.lt
 simp only[List.getElem?_toArray,List.getElem?_cons_zero,List.getElem?_cons_succ] at c4
 clear H hv
 by_cases hl:h < below+1
 ·have hd:decide ((h:Int) < (below:Int)+1)=true:=by simp;omega
  rw[layH,if_pos hl]
  clear hl
  go_enter Tryz.func191,Tryz.ntmps191
  go_wp2_with (go_at_call 129;refine (Bytes_any k hk v HV.out _ (HC.out.high (below+1)).gb).mono ?_;rintro e w1 ⟨rfl,hb1⟩)
  go_ret
  exact ⟨rfl,(HC.out.high (below+1)).below hb1,(But.set cb 4 _ hlt).trans (But.of hb1)⟩
 ·have hd:decide ((h:Int) < (below:Int)+1)=false:=by simp;omega
  rw[layH,if_neg hl]
  clear hl
  go_enter Tryz.func191,Tryz.ntmps191
  go_wp2_with (go_at_call 129;refine (Bytes_any k hk v HV.out _ HC.out.gb).mono ?_;rintro e w1 ⟨rfl,hb1⟩)
  go_ret
  exact ⟨rfl,HC.out.below hb1,But.of hb1⟩
end Go.Proofs.YtldfkcpbjooemaaGreatDoor
namespace Go.Proofs.YtldfkcpbjooemaaGreatDoor
open Go.RowKit Go.Deep
def NodeDoes (cb:Nat) (na:Option Addr) (nc:Nat) (lv rv fv:Value) (N:List PNode) (ls:List PLet) (rs:List PRule) (fs:List Fact) (f:Nat):Prop :=
 ∀ (b:Nat) (i:Int) (below h:Nat) (w:World),b≤f→b≤N.length→-2≤i→i≤1000→below+b≤1000→CmpAt w cb (.slice na N.length nc) lv rv fv h N ls rs fs→(codeH fs ls N f b i below h).1.length≤60000 →
  Calls Tryz.prog 177 #[.pointer (some ⟨cb,0,none⟩),.slice na b nc,.int .i64 i,.int .i64 below] w fun e w'=>e=.returned (.string (bsN (codeH fs ls N f b i below h).1))∧CmpAt w' cb (.slice na N.length nc) lv rv fv (codeH fs ls N f b i below h).2 N ls rs fs∧But cb w w'
def chcH (fs:List Fact) (ls:List PLet) (N:List PNode) (f b:Nat) (n:PNode) (below h:Nat):List Nat × Nat :=
 ((codeH fs ls N f b n.left below h).1++opC (leaK (kindP n.tok.text)) (((codeH fs ls N f b n.right below (codeH fs ls N f b n.left below h).2).1.length+3:Nat):Int)++(codeH fs ls N f b n.right below (codeH fs ls N f b n.left below h).2).1++opC 13 9++opC 0 (decK (kindP n.tok.text)),
  layH below (codeH fs ls N f b n.right below (codeH fs ls N f b n.left below h).2).2)
structure NdSt (w wx:World) (cb:Nat) (n:PNode) (nv lv rv fv:Value) (h:Nat) (N:List PNode) (ls:List PLet) (rs:List PRule) (fs:List Fact):Prop where
 c:CmpAt wx cb nv lv rv fv h N ls rs fs
 nd:Blk wx w.heap.size (nodC n) 175
 bu:But cb w wx
 nn:cb < w.heap.size
theorem NdSt.start {w:World} {cb:Nat} {nv lv rv fv:Value} {h:Nat} {N:List PNode} {ls:List PLet} {rs:List PRule} {fs:List Fact} (H:CmpAt w cb nv lv rv fv h N ls rs fs) (n:PNode):NdSt w (w.alloc (.cells (nodC n) 175)) cb n nv lv rv fv h N ls rs fs :=
 ⟨H.al _,Blk.new w _ _,But.of (box3 w _),H.blk.lt⟩
theorem NdSt.call {w wx w':World} {cb:Nat} {n:PNode} {nv lv rv fv:Value} {h h':Nat} {N:List PNode} {ls:List PLet} {rs:List PRule} {fs:List Fact} (H:NdSt w wx cb n nv lv rv fv h N ls rs fs) (hc:CmpAt w' cb nv lv rv fv h' N ls rs fs) (hb:But cb wx w'):NdSt w w' cb n nv lv rv fv h' N ls rs fs :=
 ⟨hc,H.nd.but hb (by have:=H.nn;omega),H.bu.trans hb,H.nn⟩
theorem NdSt.below {w wx w':World} {cb:Nat} {n:PNode} {nv lv rv fv:Value} {h:Nat} {N:List PNode} {ls:List PLet} {rs:List PRule} {fs:List Fact} (H:NdSt w wx cb n nv lv rv fv h N ls rs fs) (hb:Below wx.heap.size wx w'):NdSt w w' cb n nv lv rv fv h N ls rs fs:=H.call (H.c.below hb) (But.of hb)
theorem NdSt.al {w wx:World} {cb:Nat} {n:PNode} {nv lv rv fv:Value} {h:Nat} {N:List PNode} {ls:List PLet} {rs:List PRule} {fs:List Fact} (H:NdSt w wx cb n nv lv rv fv h N ls rs fs) (o:Obj):NdSt w (wx.alloc o) cb n nv lv rv fv h N ls rs fs:=H.below (box3 wx o)
theorem NdSt.dr {w wx:World} {cb:Nat} {n:PNode} {nv lv rv fv:Value} {h:Nat} {N:List PNode} {ls:List PLet} {rs:List PRule} {fs:List Fact} (H:NdSt w wx cb n nv lv rv fv h N ls rs fs):NdSt w wx.drew cb n nv lv rv fv h N ls rs fs:=H.below (below_drewN (Below.refl _ wx) 1)
theorem leaK_lt (k:Nat):leaK k < 18:=by unfold leaK;split <;> omega
theorem decK_in (k:Nat):In64 (decK k):=by unfold decK In64;split <;> omega
theorem opC_size (k:Nat) (v:Int):(bsN (opC k v)).size=behindN k+1:=by rw[bsN_len,opC_length]
theorem lea_behind (k:Nat):behindN (leaK k)=2:=by unfold leaK;split <;> rfl
set_option maxHeartbeats 4000000 in
set_option maxRecDepth 100000 in
theorem choice_any {cb:Nat} {na:Option Addr} {nc:Nat} {lv rv fv:Value} {N:List PNode} {ls:List PLet} {rs:List PRule} {fs:List Fact} {f:Nat} (IH:NodeDoes cb na nc lv rv fv N ls rs fs f) (n:PNode) (hn:NodeOk n) (b below h:Nat) (w:World) (hb:b≤f) (hbN:b≤N.length) (hbl:below+b≤1000) (H:CmpAt w cb (.slice na N.length nc) lv rv fv h N ls rs fs) (hlen:(chcH fs ls N f b n below h).1.length≤60000) :
  Calls Tryz.prog 192 #[.pointer (some ⟨cb,0,none⟩),.slice na b nc,nodA n,.int .i64 below] w fun e w'=>e=.returned (.string (bsN (chcH fs ls N f b n below h).1))∧CmpAt w' cb (.slice na N.length nc) lv rv fv (chcH fs ls N f b n below h).2 N ls rs fs∧But cb w w':=by
 have HM:=Hid.mk2 (NdSt.start H n)
 have hnl:=hn.left
 have hnr:=hn.right
 obtain ⟨kk,hkk⟩:∃ kk,kindP n.tok.text=kk:=⟨_,rfl⟩
 obtain ⟨cl,h1,hL⟩:∃ cl h1,codeH fs ls N f b n.left below h=(cl,h1):=⟨_,_,rfl⟩
 obtain ⟨cr,h2,hR⟩:∃ cr h2,codeH fs ls N f b n.right below h1=(cr,h2):=⟨_,_,rfl⟩
 have hCH:chcH fs ls N f b n below h=(cl++opC (leaK kk) ((cr.length+3:Nat):Int)++cr++opC 13 9++opC 0 (decK kk),layH below h2):=by
  unfold chcH
  rw[hL,hkk]
  simp only
  rw[hR]
 rw[hCH] at hlen ⊢
 simp only[List.length_append,opC_length,lea_behind] at hlen ⊢
 have hb13:behindN 13=2:=rfl
 have hb0:behindN 0=8:=rfl
 rw[hb13,hb0] at hlen
 have HIL:Hid (∀ wx,CmpAt wx cb (.slice na N.length nc) lv rv fv h N ls rs fs→Calls Tryz.prog 177 #[.pointer (some ⟨cb,0,none⟩),.slice na b nc,.int .i64 (n.left:Int),.int .i64 below] wx fun e w'=>e=.returned (.string (bsN cl))∧CmpAt w' cb (.slice na N.length nc) lv rv fv h1 N ls rs fs∧But cb wx w'):=fun wx Hx=>by
  have:=IH b n.left below h wx hb hbN (by omega) (by omega) hbl Hx (by rw[hL];simp only;omega)
  rw[hL] at this
  exact this
 have HIR:Hid (∀ wx,CmpAt wx cb (.slice na N.length nc) lv rv fv h1 N ls rs fs→Calls Tryz.prog 177 #[.pointer (some ⟨cb,0,none⟩),.slice na b nc,.int .i64 (n.right:Int),.int .i64 below] wx fun e w'=>e=.returned (.string (bsN cr))∧CmpAt w' cb (.slice na N.length nc) lv rv fv h2 N ls rs fs∧But cb wx w'):=fun wx Hx=>by
  have:=IH b n.right below h1 wx hb hbN (by omega) (by omega) hbl Hx (by rw[hR];simp only;omega)
  rw[hR] at this
  exact this
 have HKK:=Hid.mk2 hkk
 clear H hn hL hR hCH IH hkk
 obtain ⟨d,hd⟩:∃ d:Nat,(cr.length:Int)+3=(d:Int):=⟨cr.length+3,by omega⟩
 have HD:Hid (cr.length+3=d):=by rw[Hid];omega
 rw[HD.out]
 have hdm:d≤60000:=by have:=HD.out;omega
 have HFin:Hid (bsN cl++bsN (opC (leaK kk) (d:Int))++bsN cr++bsN (opC 13 9)++bsN (opC 0 (decK kk))=bsN (cl++opC (leaK kk) (d:Int)++cr++opC 13 9++opC 0 (decK kk))):=by rw[Hid,bsN_append,bsN_append,bsN_append,bsN_append]
 have zl:(bsN cl).size=cl.length:=bsN_len _
 have zr:(bsN cr).size=cr.length:=bsN_len _
 have z13:(bsN (opC 13 9)).size=3:=by rw[opC_size];rfl
 have z0:(bsN (opC 0 (decK kk))).size=9:=by rw[opC_size];rfl
 have zd:(bsN (opC (leaK kk) (d:Int))).size=3:=by rw[opC_size,lea_behind]
 unfold nodA
 rw[HKK.out]
 have hnc:nodC n=#[.int .i64 kk,.int .i64 n.tok.at',.string (bsOf n.tok.text),.int .i64 n.ops,.int .i64 n.left,.int .i64 n.right]:=by unfold nodC;rw[HKK.out]
 have HNC:=Hid.mk2 hnc
 rw[hnc] at HM
 clear hnc
 go_enter Tryz.func192,Tryz.ntmps192
 go_wp2_with (first
  | (go_at_call_of 177 (Value.int IntKind.i64 (n.left:Int));refine (HIL.out _ HM.out.c).mono ?_;rintro e w1 ⟨rfl,hc1,hb1⟩;replace HM:=Hid.mk2 (HM.out.call hc1 hb1);clear hc1 hb1;have n0:=HM.out.nd.cell 0;have n1:=HM.out.nd.cell 1;have n2:=HM.out.nd.cell 2;have n3:=HM.out.nd.cell 3;have n4:=HM.out.nd.cell 4;have n5:=HM.out.nd.cell 5;have k0:=HM.out.c.blk.cell 0;have k1:=HM.out.c.blk.cell 1;have k3:=HM.out.c.blk.cell 3;have hln:=HM.out.nd.lt;have hlc:=HM.out.c.blk.lt;simp only[HNC.out,List.getElem?_toArray,List.getElem?_cons_zero,List.getElem?_cons_succ] at n0 n1 n2 n3 n4 n5 k0 k1 k3)
  | (go_at_call_of 177 (Value.int IntKind.i64 (n.right:Int));refine (HIR.out _ HM.out.c).mono ?_;rintro e w2 ⟨rfl,hc2,hb2⟩;clear n0 n1 n2 n3 n4 n5 k0 k1 k3 hln hlc;replace HM:=Hid.mk2 (HM.out.call hc2 hb2);clear hc2 hb2;have n0:=HM.out.nd.cell 0;have n1:=HM.out.nd.cell 1;have n2:=HM.out.nd.cell 2;have n3:=HM.out.nd.cell 3;have n4:=HM.out.nd.cell 4;have n5:=HM.out.nd.cell 5;have k0:=HM.out.c.blk.cell 0;have k1:=HM.out.c.blk.cell 1;have k3:=HM.out.c.blk.cell 3;have hln:=HM.out.nd.lt;have hlc:=HM.out.c.blk.lt;simp only[HNC.out,List.getElem?_toArray,List.getElem?_cons_zero,List.getElem?_cons_succ] at n0 n1 n2 n3 n4 n5 k0 k1 k3)
  | (go_at_call 175;refine (decides_any kk _).mono ?_;rintro e w3 ⟨rfl,rfl⟩)
  | (go_at_call 191;refine (lay_any HM.out.c 0 (by omega) (decK kk) (decK_in kk) below (by omega)).mono ?_;rintro e w4 ⟨rfl,hc4,hb4⟩;clear n0 n1 n2 n3 n4 n5 k0 k1 k3 hln hlc;replace HM:=Hid.mk2 (HM.out.call hc4 hb4);clear hc4 hb4;have n0:=HM.out.nd.cell 0;have n1:=HM.out.nd.cell 1;have n2:=HM.out.nd.cell 2;have n3:=HM.out.nd.cell 3;have n4:=HM.out.nd.cell 4;have n5:=HM.out.nd.cell 5;have k0:=HM.out.c.blk.cell 0;have k1:=HM.out.c.blk.cell 1;have k3:=HM.out.c.blk.cell 3;have hln:=HM.out.nd.lt;have hlc:=HM.out.c.blk.lt;simp only[HNC.out,List.getElem?_toArray,List.getElem?_cons_zero,List.getElem?_cons_succ] at n0 n1 n2 n3 n4 n5 k0 k1 k3)
  | (go_at_call 201;refine (leaves_any kk _).mono ?_;rintro e w5 ⟨rfl,rfl⟩)
  | (go_at_call_of 129 (Value.int IntKind.i64 13);refine (Bytes_any 13 (by omega) 9 (by decide) _ HM.out.c.gb).mono ?_;rintro e w6 ⟨rfl,hb6⟩;clear n0 n1 n2 n3 n4 n5 k0 k1 k3 hln hlc;replace HM:=Hid.mk2 (HM.out.below hb6);clear hb6;have n0:=HM.out.nd.cell 0;have n1:=HM.out.nd.cell 1;have n2:=HM.out.nd.cell 2;have n3:=HM.out.nd.cell 3;have n4:=HM.out.nd.cell 4;have n5:=HM.out.nd.cell 5;have k0:=HM.out.c.blk.cell 0;have k1:=HM.out.c.blk.cell 1;have k3:=HM.out.c.blk.cell 3;have hln:=HM.out.nd.lt;have hlc:=HM.out.c.blk.lt;simp only[HNC.out,List.getElem?_toArray,List.getElem?_cons_zero,List.getElem?_cons_succ] at n0 n1 n2 n3 n4 n5 k0 k1 k3)
  | (go_at_call 129;refine (Bytes_any (leaK kk) (leaK_lt kk) (d:Int) (by unfold In64;omega) _ HM.out.c.gb).mono ?_;rintro e w7 ⟨rfl,hb7⟩;clear n0 n1 n2 n3 n4 n5 k0 k1 k3 hln hlc;replace HM:=Hid.mk2 (HM.out.below hb7);clear hb7))
 go_ret
 exact ⟨by rw[← HFin.out];rfl,HM.out.c,HM.out.bu⟩
end Go.Proofs.YtldfkcpbjooemaaGreatDoor
namespace Go.Proofs.YtldfkcpbjooemaaGreatDoor
open Go.RowKit Go.Deep
theorem sliceN (g o n cap hi:Nat) (h1:hi≤n) (h2:n≤cap) (wx:World) :
  (Instr.slice 60 (.slice (some ⟨g,o,none⟩) n cap) none (some (.int .i64 hi)) none).run Tryz.prog wx=.ok (.slice (some ⟨g,o,none⟩) hi cap) wx:=by
 have el:Tryz.prog.elem 60=175:=by kernel_rfl
 have sz:(sizeOf 175).run Tryz.prog wx=.ok 6 wx:=by kernel_rfl
 rw[run_slice_h wx _ _ _ _ (by rw[el];exact Tryz.underlying60) .i64 _ (by omega) (by omega),el,sz]
 simp[Result.andThen,sliced,Addr.add]
theorem node_cells {cb:Nat} {na:Option Addr} {nc:Nat} {lv rv fv:Value} {N:List PNode} {ls:List PLet} {rs:List PRule} {fs:List Fact} {w:World} {h j:Nat} {n:PNode} (H:CmpAt w cb (.slice na N.length nc) lv rv fv h N ls rs fs) (hj:N[j]?=some n):∃ g o,na=some ⟨g,o,none⟩∧g < w.heap.size∧N.length≤nc∧w.cell? ⟨g,o+j * 6,none⟩=some (.int .i64 (kindP n.tok.text))∧w.cell? ⟨g,o+j * 6+1,none⟩=some (.int .i64 n.tok.at')∧w.cell? ⟨g,o+j * 6+2,none⟩=some (.string (bsOf n.tok.text))∧w.cell? ⟨g,o+j * 6+3,none⟩=some (.int .i64 n.ops)∧w.cell? ⟨g,o+j * 6+4,none⟩=some (.int .i64 n.left)∧w.cell? ⟨g,o+j * 6+5,none⟩=some (.int .i64 n.right):=by
 obtain ⟨hlt,rfl⟩:=List.getElem?_eq_some_iff.1 hj
 obtain ⟨g,o,cap,hcut,hcap,hg,hcl⟩:=H.pa.n.pos (by omega)
 cases hcut
 have fc:=fun i (hi:i < 6) u (hu:(cellN N[j])[i]?=some u)=>hcl (j * 6+i) u ((flat_get cellN 6 (fun _=>rfl) N j hlt i hi).trans hu)
 refine ⟨g,o,rfl,hg,hcap,fc 0 (by omega) _ rfl, ?_, ?_, ?_, ?_, ?_⟩
 ·rw[Nat.add_assoc];exact fc 1 (by omega) _ rfl
 ·rw[Nat.add_assoc];exact fc 2 (by omega) _ rfl
 ·rw[Nat.add_assoc];exact fc 3 (by omega) _ rfl
 ·rw[Nat.add_assoc];exact fc 4 (by omega) _ rfl
 ·rw[Nat.add_assoc];exact fc 5 (by omega) _ rfl
set_option maxHeartbeats 1000000 in
theorem node_out {cb:Nat} {na:Option Addr} {nc:Nat} {lv rv fv:Value} {N:List PNode} {ls:List PLet} {rs:List PRule} {fs:List Fact} (b below:Nat) (i:Int) (hi:i < 0∨(b:Int)≤i) (w:World) :
  Calls Tryz.prog 177 #[.pointer (some ⟨cb,0,none⟩),.slice na b nc,.int .i64 i,.int .i64 below] w fun e w'=>e=.returned (.string (bsN []))∧w'=w:=by
 by_cases h0:i < 0
 ·have e0:decide (i < 0)=true:=decide_eq_true (by omega)
  clear hi h0
  go_enter Tryz.func177,Tryz.ntmps177
  go_wp2
  go_ret
  exact ⟨rfl,rfl⟩
 ·have e0:decide (i < 0)=false:=decide_eq_false (by omega)
  have e1:decide ((b:Int)≤i)=true:=decide_eq_true (by omega)
  clear hi h0
  go_enter Tryz.func177,Tryz.ntmps177
  go_wp2
  go_ret
  exact ⟨rfl,rfl⟩
theorem behind_op {op:Nat} (h1:2≤op) (h2:op≤12):behindN op=0:=by
 obtain rfl | rfl | rfl | rfl | rfl | rfl | rfl | rfl | rfl | rfl | rfl:op=2∨op=3∨op=4∨op=5∨op=6∨op=7∨op=8∨op=9∨op=10∨op=11∨op=12:=by omega
 all_goals rfl
end Go.Proofs.YtldfkcpbjooemaaGreatDoor
namespace Go.Proofs.YtldfkcpbjooemaaGreatDoor
open Go.RowKit Go.Deep
set_option maxHeartbeats 4000000 in
set_option maxRecDepth 100000 in
theorem node_fact {cb:Nat} {na:Option Addr} {nc:Nat} {lv rv fv:Value} {N:List PNode} {ls:List PLet} {rs:List PRule} {fs:List Fact} (j b below h:Nat) (hj:j < b) (hbN:b≤N.length) (hbl:below+b≤1000) (n:PNode) (hnj:N[j]?=some n) (hn:NodeOk n) (v:Int) (hfa:atF fs (j:Int)=some v) (hv:In64 v) (w:World) (H:CmpAt w cb (.slice na N.length nc) lv rv fv h N ls rs fs) :
  Calls Tryz.prog 177 #[.pointer (some ⟨cb,0,none⟩),.slice na b nc,.int .i64 j,.int .i64 below] w fun e w'=>e=.returned (.string (bsN (opC 0 v)))∧CmpAt w' cb (.slice na N.length nc) lv rv fv (layH below h) N ls rs fs∧But cb w w':=by
 have HM:=Hid.mk2 (NdSt.start H n)
 have hnl:=hn.left
 have hnr:=hn.right
 have hnb:=H.pa.nb
 obtain ⟨g,o,rfl,hg,hcap,d0,d1,d2,d3,d4,d5⟩:=node_cells H hnj
 have hsl:=fun wx=>sliceN g o b nc j (by omega) (by omega) wx
 have hlcb:=H.blk.lt
 have q3:=H.blk.cell 3
 simp only[List.getElem?_toArray,List.getElem?_cons_zero,List.getElem?_cons_succ] at q3
 have e0:decide ((j:Int) < 0)=false:=decide_eq_false (by omega)
 have e1:decide ((b:Int)≤(j:Int))=false:=decide_eq_false (by omega)
 have HFA:Hid (atF fs (j:Int)=some v):=hfa
 have HV:=Hid.mk2 hv
 clear hv
 clear H hnj hfa
 have HN:=Hid.mk2 hn
 clear hn
 go_enter Tryz.func177,Tryz.ntmps177
 go_upto_region 6 with (go_at_call 150;refine (factAt_any fs _ (j:Int) _ HM.out.c.fr HM.out.c.fb ⟨by omega,by omega⟩).mono ?_;rintro e w1 ⟨rfl,hb1⟩;rw[HFA.out];rw[show factA (some v)=.agg #[.bool true,.int .i64 v] from rfl];clear q3;replace HM:=Hid.mk2 ((HM.out.below hb1).al (.cells #[.bool true,.int .i64 v] 172));clear hb1;have n0:=HM.out.nd.cell 0;have n1:=HM.out.nd.cell 1;have n2:=HM.out.nd.cell 2;have n3:=HM.out.nd.cell 3;have n4:=HM.out.nd.cell 4;have n5:=HM.out.nd.cell 5;have k0:=HM.out.c.blk.cell 0;have k1:=HM.out.c.blk.cell 1;have k3:=HM.out.c.blk.cell 3;have hln:=HM.out.nd.lt;have hlc:=HM.out.c.blk.lt;simp only[nodC,List.getElem?_toArray,List.getElem?_cons_zero,List.getElem?_cons_succ] at n0 n1 n2 n3 n4 n5 k0 k1 k3)
 go_wp2_with (go_at_call 191;refine (lay_any HM.out.c 0 (by omega) v HV.out below (by omega)).mono ?_;rintro e w2 ⟨rfl,hc2,hb2⟩;clear n0 n1 n2 n3 n4 n5 k0 k1 k3 hln hlc;replace HM:=Hid.mk2 (HM.out.call hc2 hb2);clear hc2 hb2)
 go_ret
 exact ⟨rfl,HM.out.c,HM.out.bu⟩
set_option maxHeartbeats 4000000 in
set_option maxRecDepth 100000 in
theorem node_one {cb:Nat} {na:Option Addr} {nc:Nat} {lv rv fv:Value} {N:List PNode} {ls:List PLet} {rs:List PRule} {fs:List Fact} (j b below h:Nat) (hj:j < b) (hbN:b≤N.length) (hbl:below+b≤1000) (n:PNode) (hnj:N[j]?=some n) (hn:NodeOk n) (hfa:atF fs (j:Int)=none) (h1:n.ops=1) (cl:List Nat) (h':Nat) (hcl:cl.length≤60000) (HI:Hid (∀ wx,CmpAt wx cb (.slice na N.length nc) lv rv fv h N ls rs fs→Calls Tryz.prog 177 #[.pointer (some ⟨cb,0,none⟩),.slice na j nc,.int .i64 (n.left:Int),.int .i64 below] wx fun e w'=>e=.returned (.string (bsN cl))∧CmpAt w' cb (.slice na N.length nc) lv rv fv h' N ls rs fs∧But cb wx w')) (w:World) (H:CmpAt w cb (.slice na N.length nc) lv rv fv h N ls rs fs) :
  Calls Tryz.prog 177 #[.pointer (some ⟨cb,0,none⟩),.slice na b nc,.int .i64 j,.int .i64 below] w fun e w'=>e=.returned (.string (bsN (cl++opC (opK (kindP n.tok.text) n.ops) 0)))∧CmpAt w' cb (.slice na N.length nc) lv rv fv h' N ls rs fs∧But cb w w':=by
 have HM:=Hid.mk2 (NdSt.start H n)
 have hnl:=hn.left
 have hnr:=hn.right
 have hnb:=H.pa.nb
 obtain ⟨g,o,rfl,hg,hcap,d0,d1,d2,d3,d4,d5⟩:=node_cells H hnj
 have hsl:=fun wx=>sliceN g o b nc j (by omega) (by omega) wx
 have hlcb:=H.blk.lt
 have q3:=H.blk.cell 3
 simp only[List.getElem?_toArray,List.getElem?_cons_zero,List.getElem?_cons_succ] at q3
 have e0:decide ((j:Int) < 0)=false:=decide_eq_false (by omega)
 have e1:decide ((b:Int)≤(j:Int))=false:=decide_eq_false (by omega)
 have HFA:Hid (atF fs (j:Int)=none):=hfa
 have HON:=Hid.mk2 (hn.one h1)
 have e2:((n.ops:Int)==1)=true:=by simp;omega
 obtain ⟨op,hop⟩:∃ op,opK (kindP n.tok.text) n.ops=op:=⟨_,rfl⟩
 rw[hop] at HON ⊢
 have HOP:=Hid.mk2 hop
 have hop2:2≤op∧op≤3:=by have:=HON.out;omega
 have HFin:Hid (bsN cl++bsN (opC op 0)=bsN (cl++opC op 0)):=bsN_append _ _
 have zl:(bsN cl).size=cl.length:=bsN_len _
 have zo:(bsN (opC op 0)).size=1:=by rw[opC_size,behind_op (by omega) (by omega)]
 clear h1 hop
 clear H hnj hfa
 have HN:=Hid.mk2 hn
 clear hn
 go_enter Tryz.func177,Tryz.ntmps177
 go_upto_region 6 with (go_at_call 150;refine (factAt_any fs _ (j:Int) _ HM.out.c.fr HM.out.c.fb ⟨by omega,by omega⟩).mono ?_;rintro e w1 ⟨rfl,hb1⟩;rw[HFA.out];rw[show factA none=.agg #[.bool false,.int .i64 0] from rfl];clear q3;replace HM:=Hid.mk2 ((HM.out.below hb1).al (.cells #[.bool false,.int .i64 0] 172));clear hb1;have n0:=HM.out.nd.cell 0;have n1:=HM.out.nd.cell 1;have n2:=HM.out.nd.cell 2;have n3:=HM.out.nd.cell 3;have n4:=HM.out.nd.cell 4;have n5:=HM.out.nd.cell 5;have k0:=HM.out.c.blk.cell 0;have k1:=HM.out.c.blk.cell 1;have k3:=HM.out.c.blk.cell 3;have hln:=HM.out.nd.lt;have hlc:=HM.out.c.blk.lt;simp only[nodC,List.getElem?_toArray,List.getElem?_cons_zero,List.getElem?_cons_succ] at n0 n1 n2 n3 n4 n5 k0 k1 k3)
 go_wp2_with (first
  | (go_at_call 177;refine (HI.out _ HM.out.c).mono ?_;rintro e w2 ⟨rfl,hc2,hb2⟩;clear n0 n1 n2 n3 n4 n5 k0 k1 k3 hln hlc;replace HM:=Hid.mk2 (HM.out.call hc2 hb2);clear hc2 hb2;have n0:=HM.out.nd.cell 0;have n1:=HM.out.nd.cell 1;have n2:=HM.out.nd.cell 2;have n3:=HM.out.nd.cell 3;have n4:=HM.out.nd.cell 4;have n5:=HM.out.nd.cell 5;have k0:=HM.out.c.blk.cell 0;have k1:=HM.out.c.blk.cell 1;have k3:=HM.out.c.blk.cell 3;have hln:=HM.out.nd.lt;have hlc:=HM.out.c.blk.lt;simp only[nodC,List.getElem?_toArray,List.getElem?_cons_zero,List.getElem?_cons_succ] at n0 n1 n2 n3 n4 n5 k0 k1 k3)
  | (go_at_call 152;refine (operationOf_any n _).mono ?_;rintro e w3 ⟨rfl,hb3⟩;rw[HOP.out];clear n0 n1 n2 n3 n4 n5 k0 k1 k3 hln hlc;replace HM:=Hid.mk2 (HM.out.below hb3);clear hb3)
  | (go_at_call 129;refine (Bytes_any op (by omega) 0 (by decide) _ HM.out.c.gb).mono ?_;rintro e w4 ⟨rfl,hb4⟩;replace HM:=Hid.mk2 (HM.out.below hb4);clear hb4))
 go_ret
 exact ⟨by rw[← HFin.out];rfl,HM.out.c,HM.out.bu⟩
end Go.Proofs.YtldfkcpbjooemaaGreatDoor
