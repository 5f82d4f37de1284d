/-
  ranks: is it the rank of these bins?
-/
import Derived.Test.YtpcjadaeolkngaaGreatDoorK30
import Derived.BigQuiet
import Derived.Deep.Cut
import Derived.Test.YtpcjadaeolkngaaGreatDoorK25
set_option linter.unusedVariables false
set_option linter.unusedSimpArgs false
namespace Go.Proofs.YtpcjadaeolkngaaGreatDoor
open Go.RowKit Go.Deep
abbrev sayR (f:Bn→Rs):SayB:=fun b=>((f b).1,(f b).2.1)
structure RkM (w wx:World) (a0 a1 a2 a3 lv sv:Value) (l:List Bn) (ss:List Rs):Prop where
 box:Blk wx w.heap.size #[a0,a1,a2,a3] 51
 bs:Reads wx lv l.length (cellsB l)
 ss:Reads wx sv ss.length (cellsS ss)
 bl:Below w.heap.size w wx
theorem RkM.start {w:World} {lv sv:Value} {l:List Bn} {ss:List Rs} (a0 a1 a2 a3:Value) (hl:Reads w lv l.length (cellsB l)) (hs:Reads w sv ss.length (cellsS ss)):RkM w (w.alloc (.cells #[a0,a1,a2,a3] 51)) a0 a1 a2 a3 lv sv l ss:=⟨Blk.new w _ _,hl.alloc _,hs.alloc _,box3 w _⟩
theorem RkM.below {w wx w':World} {a0 a1 a2 a3 lv sv:Value} {l:List Bn} {ss:List Rs} (h:RkM w wx a0 a1 a2 a3 lv sv l ss) (hb:Below wx.heap.size wx w'):RkM w w' a0 a1 a2 a3 lv sv l ss:=⟨h.box.below hb h.box.lt,h.bs.below hb,h.ss.below hb,h.bl.trans (hb.mono h.bl.size)⟩
theorem bin_at {w:World} {v:Value} {l:List Bn} (h:Reads w v l.length (cellsB l)) {i:Nat} (hi:i < l.length):∃ g o cap,v=.slice (some ⟨g,o,none⟩) l.length cap∧l.length≤cap∧g < w.heap.size∧w.cell? ⟨g,o+i * 5,none⟩=some (.int .i64 l[i].id):=by
 obtain ⟨g,o,cap,hv,hcap,hg,hc⟩:=h.pos (by omega)
 exact ⟨g,o,cap,hv,hcap,hg,(bin_cells hc i hi).1⟩
theorem map_at {f:Bn→Rs} {l:List Bn} {i:Nat} (hi:i < (l.map f).length) (h2:i < l.length):(l.map f)[i]=f l[i]:=by simp
set_option maxHeartbeats 4000000 in
set_option maxRecDepth 100000 in
theorem ranks_fault (f:Bn→Rs) (l:List Bn) (h12:l.length≤12) (b:Bn) (hf:faultB (sayR f) l=some b) (lv sv:Value) (k:Int) (w:World) (hl:Reads w lv l.length (cellsB l)) (hs:Reads w sv (l.map f).length (cellsS (l.map f))) :
  Calls Tryz.prog 16 #[.agg #[.int .i64 0,.int .i64 (f b).2.1,.int .i64 b.id,.slice none 0 0],lv,sv,.int .i64 k] w fun e w'=>e=.returned (.bool true)∧Below w.heap.size w w':=by
 have HM:=Hid.mk2 (RkM.start (.int .i64 0) (.int .i64 (f b).2.1) (.int .i64 b.id) (.slice none 0 0) hl hs)
 obtain ⟨a,c,rfl⟩:=hl.shape
 obtain ⟨a2,c2,rfl⟩:=hs.shape
 have HF:=Hid.mk2 hf
 clear hl hs hf
 go_enter Tryz.func16,Tryz.ntmps16
 go_upto_region 2 with fail
 generalize w.alloc (.cells #[.int .i64 0,.int .i64 (f b).2.1,.int .i64 b.id,.slice none 0 0] 51)=W at HM ⊢
 go_wp2
 go_loopw [9,10] (fun v9 vi wr=>∃ i:Nat,i≤l.length∧(∃ n:Nat,n≤i∧v9=.int .i64 n)∧vi=.int .i64 i∧wr=W∧∀ b∈l.take i,(f b).1≠2) (fun _ i _=>1000 - (intOf i).toNat)
 case atStart=>exact ⟨0,Nat.zero_le _,⟨0,Nat.le_refl _,rfl⟩,rfl,rfl,fun b hb=>by simp at hb⟩
 case round =>
  obtain ⟨i,hi,⟨n,hn,rfl⟩,rfl,rfl,hno⟩:=hrel
  have HNO:=Hid.mk2 hno
  clear hno
  by_cases hlt:i < l.length
  ·obtain ⟨g,o,cap,hcut,hcap,hg,d0⟩:=bin_at HM.out.bs hlt
   cases hcut
   obtain ⟨g2,o2,cap2,hcut2,hcap2,hg2,d1,d2⟩:=res_cells HM.out.ss (i:=i) (by simpa using hlt)
   rw[map_at (by simpa using hlt) hlt] at d1 d2
   cases hcut2
   rw[List.length_map] at hcap2
   have hlm:(l.map f).length=l.length:=by simp
   have HTK:Hid (l.take (i+1)=l.take i++[l[i]]):=List.take_succ_eq_append_getElem hlt
   by_cases hk2:(f l[i]).1=2
   ·have hfa:=fault_at (r:=sayR f) hlt hk2 HNO.out
    have hbe:b=l[i]:=Option.some.inj (HF.out.symm.trans hfa)
    rw[hbe] at HM
    clear HTK HF hfa hbe
    generalize l[i]=y at *
    obtain ⟨p,hp⟩:∃ p,f y=p:=⟨_,rfl⟩
    rw[hp] at hk2 d1 d2 HM
    obtain ⟨p1,p2,p3⟩:=p
    simp only at hk2 d1 d2 HM
    subst hk2
    clear hp
    have b0:=HM.out.box.cell 0
    have b1:=HM.out.box.cell 1
    have b2:=HM.out.box.cell 2
    have b3:=HM.out.box.cell 3
    go_upto_region 6 with fail
    go_quiet (fail)
    go_wp2
    go_ret
    exact ⟨rfl,below_drewN HM.out.bl _⟩
   ·have HK2:=Hid.mk2 hk2
    have q2:(((f l[i]).1:Int)==2)=false:=by simp;omega
    obtain ⟨p1,hp1⟩:∃ p1,(f l[i]).1=p1:=⟨_,rfl⟩
    rw[hp1] at d1 q2
    have HRL:Hid (∀ b∈l.take (i+1),(f b).1≠2):=(fun b hb=>by
     rw[HTK.out,List.mem_append] at hb
     rcases hb with hb | hb
     ·exact HNO.out b hb
     ·rw[List.mem_singleton] at hb
      subst hb
      exact HK2.out)
    clear hk2 hp1 d0 d2
    by_cases hk1:p1=1
    ·subst hk1
     go_wp2
     go_roundw
     case rel=>exact ⟨i+1,by omega,⟨n+1,by omega,by go_num⟩,by go_num,trivial,HRL.out⟩
     case measure=>simp[intOf];omega
    ·have q1:((p1:Int)==1)=false:=by simp;omega
     go_wp2
     go_roundw
     case rel=>exact ⟨i+1,by omega,⟨n,by omega,rfl⟩,by go_num,trivial,HRL.out⟩
     case measure=>simp[intOf];omega
  ·exfalso
   have:=fault_none (r:=sayR f) (bs:=l) (fun b hb=>HNO.out b (by rw[List.take_of_length_le (by omega)];exact hb))
   rw[this] at HF
   exact absurd HF.out (by simp)
end Go.Proofs.YtpcjadaeolkngaaGreatDoor
namespace Go.Proofs.YtpcjadaeolkngaaGreatDoor
open Go.RowKit Go.Deep
theorem last_of {q:List Plc} {m:Nat} (h:q.length=m+1):q.getLast?=some (q[m]'(by omega)):=by
 rw[List.getLast?_eq_getElem?,List.getElem?_eq_getElem (by omega)]
 congr 2
 omega
set_option maxHeartbeats 8000000 in
set_option maxRecDepth 100000 in
theorem ranks_fine (f:Bn→Rs) (l:List Bn) (h12:l.length≤12) (hno2:∀ b∈l,(f b).1≠2) (k:Nat) (hk:k≤1000) (q:List Plc) (hq:BestQ (sayR f) l k q) (hql:q.length≤12) (lv sv qv:Value) (w:World) (hl:Reads w lv l.length (cellsB l)) (hs:Reads w sv (l.map f).length (cellsS (l.map f))) (hr:Reads w qv q.length (cellsQ q)) :
  Calls Tryz.prog 16 #[.agg #[.int .i64 0,.int .i64 0,.int .i64 0,qv],lv,sv,.int .i64 k] w fun e w'=>e=.returned (.bool true)∧Below w.heap.size w w':=by
 have HM:=Hid.mk2 (RkM.start (.int .i64 0) (.int .i64 0) (.int .i64 0) qv hl hs)
 have HR:=Hid.mk2 (hr.alloc (.cells #[.int .i64 0,.int .i64 0,.int .i64 0,qv] 51))
 obtain ⟨a,c,rfl⟩:=hl.shape
 obtain ⟨a2,c2,rfl⟩:=hs.shape
 obtain ⟨a3,c3,rfl⟩:=hr.shape
 have HN2:=Hid.mk2 hno2
 have HQ:=Hid.mk2 hq
 clear hl hs hr hno2 hq
 go_enter Tryz.func16,Tryz.ntmps16
 go_upto_region 2 with fail
 generalize w.alloc (.cells #[.int .i64 0,.int .i64 0,.int .i64 0,.slice a3 q.length c3] 51)=W at HM HR ⊢
 go_wp2
 go_loopw [9,10] (fun v9 vi wr=>∃ i:Nat,i≤l.length∧v9=.int .i64 (scoredL (sayR f) (l.take i)).length∧vi=.int .i64 i∧wr=W) (fun _ i _=>1000 - (intOf i).toNat)
 case atStart=>exact ⟨0,Nat.zero_le _,rfl,rfl,rfl⟩
 case round =>
  obtain ⟨i,hi,rfl,rfl,rfl⟩:=hrel
  by_cases hlt:i < l.length
  ·obtain ⟨g2,o2,cap2,hcut2,hcap2,hg2,d1,d2⟩:=res_cells HM.out.ss (i:=i) (by simpa using hlt)
   rw[map_at (by simpa using hlt) hlt] at d1 d2
   cases hcut2
   rw[List.length_map] at hcap2
   have hlm:(l.map f).length=l.length:=by simp
   have hk2:=HN2.out l[i] (List.getElem_mem hlt)
   have HSN:Hid ((scoredL (sayR f) (l.take (i+1))).length=(scoredL (sayR f) (l.take i)).length+(if (f l[i]).1=1 then 1 else 0)):=scored_snoc (sayR f) l hlt
   have q2:(((f l[i]).1:Int)==2)=false:=by simp;omega
   have hsl:(scoredL (sayR f) (l.take i)).length≤i:=Nat.le_trans (scoredL_len _ _) (by simp;omega)
   obtain ⟨p1,hp1⟩:∃ p1,(f l[i]).1=p1:=⟨_,rfl⟩
   rw[hp1] at d1 q2 HSN
   obtain ⟨sn,hsn⟩:∃ sn,(scoredL (sayR f) (l.take i)).length=sn:=⟨_,rfl⟩
   rw[hsn] at HSN hsl ⊢
   clear hk2 hp1 d2 hsn
   by_cases hk1:p1=1
   ·subst hk1
    rw[if_pos rfl] at HSN
    go_wp2
    go_roundw
    case rel=>exact ⟨i+1,by omega,by rw[HSN.out];go_num,by go_num,trivial⟩
    case measure=>simp[intOf];omega
   ·have q1:((p1:Int)==1)=false:=by simp;omega
    rw[if_neg hk1] at HSN
    go_wp2
    go_roundw
    case rel=>exact ⟨i+1,by omega,by rw[HSN.out];rfl,by go_num,trivial⟩
    case measure=>simp[intOf];omega
  ·rw[List.take_of_length_le (by omega)]
   have hlen:=HQ.out.len
   have hsl:(scoredL (sayR f) l).length≤12:=Nat.le_trans (scoredL_len _ _) h12
   obtain ⟨sn,hsn⟩:∃ sn,(scoredL (sayR f) l).length=sn:=⟨_,rfl⟩
   rw[hsn] at hlen hsl ⊢
   have HLEN:=Hid.mk2 hlen
   clear hsn hlen
   have b3:=HM.out.box.cell 3
   have hi1:decide ((i:Int) < (l.length:Int))=false:=by simp;omega
   go_upto_if 72 with (go_at_call 34;refine (order_any q HQ.out.ord (by omega) _ _ HR.out).mono ?_;rintro e w1 ⟨rfl,hb1⟩;replace HM:=Hid.mk2 (HM.out.below hb1);replace HR:=Hid.mk2 (HR.out.below hb1);clear hb1 b3)
   go_cut [12] (fun s12 wx=>s12=.int .i64 q.length∧RkM w wx (.int .i64 0) (.int .i64 0) (.int .i64 0) (.slice a3 q.length c3) (.slice a l.length c) (.slice a2 (l.map f).length c2) l (l.map f)∧Reads wx (.slice a3 q.length c3) q.length (cellsQ q))
   case first =>
    by_cases hks:k < sn
    ·have HL2:Hid (q.length=k):=HLEN.out.trans (if_pos hks)
     have hd:decide ((k:Int) < (sn:Int))=true:=by simp;omega
     go_wp2
     go_meet
     case rel=>exact ⟨by rw[HL2.out],HM.out,HR.out⟩
    ·have HL2:Hid (q.length=sn):=HLEN.out.trans (if_neg hks)
     have hd:decide ((k:Int) < (sn:Int))=false:=by simp;omega
     go_wp2
     go_meet
     case rel=>exact ⟨by rw[HL2.out],HM.out,HR.out⟩
   case rest =>
    obtain ⟨rfl,hm,hr⟩:=hcut
    clear HM HR HLEN hi1 hsl
    have HM:=Hid.mk2 hm
    have HR:=Hid.mk2 hr
    clear hm hr
    have b0:=HM.out.box.cell 0
    have b1:=HM.out.box.cell 1
    have b2:=HM.out.box.cell 2
    have b3:=HM.out.box.cell 3
    have hqq:((q.length:Int) != (q.length:Int))=false:=by simp
    go_wp2
    clear b0 b1 b2 b3
    go_loopw [13,14] (fun v13 vi wr=>∃ i:Nat,i≤l.length∧v13=.int .i64 (toldC q (l.take i))∧vi=.int .i64 i∧RkM w wr (.int .i64 0) (.int .i64 0) (.int .i64 0) (.slice a3 q.length c3) (.slice a l.length c) (.slice a2 (l.map f).length c2) l (l.map f)∧Reads wr (.slice a3 q.length c3) q.length (cellsQ q)) (fun _ i _=>1000 - (intOf i).toNat)
    case atStart=>exact ⟨0,Nat.zero_le _,rfl,rfl,HM.out,HR.out⟩
    case round =>
     obtain ⟨i,hi,rfl,rfl,hm,hr⟩:=hrel
     clear HM HR
     have HM:=Hid.mk2 hm
     have HR:=Hid.mk2 hr
     clear hm hr
     have b3:=HM.out.box.cell 3
     have htl:toldC q (l.take i)≤12:=Nat.le_trans (told_le _ _) (by simp;omega)
     by_cases hlt:i < l.length
     ·have hi1:decide ((i:Int) < (l.length:Int))=true:=by simp;omega
      have HTN:Hid (toldC q (l.take (i+1))=toldC q (l.take i)+(if inQ q l[i] then 1 else 0)):=told_snoc q l hlt
      obtain ⟨g,o,cap,hcut,hcap,hg,d0⟩:=bin_at HM.out.bs hlt
      cases hcut
      obtain ⟨g2,o2,cap2,hcut2,hcap2,hg2,d1,d2⟩:=res_cells HM.out.ss (i:=i) (by simpa using hlt)
      rw[map_at (by simpa using hlt) hlt] at d1 d2
      cases hcut2
      rw[List.length_map] at hcap2
      have hlm:(l.map f).length=l.length:=by simp
      obtain ⟨tn,htn⟩:∃ tn,toldC q (l.take i)=tn:=⟨_,rfl⟩
      rw[htn] at HTN htl ⊢
      clear htn
      have hmem:l[i]∈l:=List.getElem_mem hlt
      obtain ⟨y,hy⟩:∃ y,l[i]=y:=⟨_,rfl⟩
      rw[hy] at HTN d0 d1 d2 hmem
      clear hy
      have HMEM:=Hid.mk2 hmem
      clear hmem
      rcases placeI_or q y.id with ⟨j,hj,hjid,hpl⟩ | ⟨hout,hpl⟩
      ·obtain ⟨h1,h2⟩:=HQ.out.mem q[j] (List.getElem_mem hj) y HMEM.out hjid
       simp only at h1 h2
       rw[inQ_yes hj hjid,if_pos rfl] at HTN
       have HPL:Hid (∀ wx,Reads wx (.slice a3 q.length c3) q.length (cellsQ q)→Calls Tryz.prog 35 #[.slice a3 q.length c3,.int .i64 y.id] wx fun e w'=>e=.returned (.int .i64 j)∧w'=wx):=(fun wx hx=>by rw[← hpl];exact place_any q (by omega) y.id _ wx hx)
       obtain ⟨g3,o3,cap3,hcut3,hcap3,hg3,d3,d4⟩:=plc_cells HR.out hj
       cases hcut3
       rw[h2] at d4
       rw[h1] at d1
       obtain ⟨y2,hy2⟩:∃ y2,(f y).2.1=y2:=⟨_,rfl⟩
       rw[hy2] at d2 d4
       have hj0:decide ((0:Int)≤(j:Int))=true:=by simp
       clear h1 h2 hy2 hpl hjid d3
       go_upto_region 19 with fail
       go_quiet ((go_at_call 35;exact Calls.quiet_of_same (HPL.out _ HR.out.drew)))
       go_upto_region 21 with fail
       go_quiet (fail)
       go_wp2
       go_roundw
       case rel=>exact ⟨i+1,by omega,by rw[HTN.out];go_num,by go_num,HM.out.below (below_drewN (Below.refl _ _) _),HR.out.below (below_drewN (Below.refl _ _) _)⟩
       case measure=>simp[intOf];omega
      ·rw[inQ_no hout,if_neg (by simp)] at HTN
       have HOUT:=Hid.mk2 hout
       have HPL:Hid (∀ wx,Reads wx (.slice a3 q.length c3) q.length (cellsQ q)→Calls Tryz.prog 35 #[.slice a3 q.length c3,.int .i64 y.id] wx fun e w'=>e=.returned (.int .i64 (-1))∧w'=wx):=(fun wx hx=>by rw[← hpl];exact place_any q (by omega) y.id _ wx hx)
       clear hpl hout
       go_upto_region 19 with fail
       go_quiet ((go_at_call 35;exact Calls.quiet_of_same (HPL.out _ HR.out.drew)))
       by_cases hk1:(f y).1=1
       ·rw[hk1] at d1
        rcases Nat.eq_zero_or_pos q.length with hq0 | hq0
        ·have hq1:decide ((0:Int) < (q.length:Int))=false:=decide_eq_false (by omega)
         have hq2:decide (0 < q.length)=false:=decide_eq_false (by omega)
         have hq3:(0 < q.length)=False:=by simp only[eq_iff_iff,iff_false];omega
         clear hq0 hk1 d2
         go_wp2
         go_roundw
         case rel=>exact ⟨i+1,by omega,by rw[HTN.out];rfl,by go_num,HM.out.below (below_drewN (Below.refl _ _) _),HR.out.below (below_drewN (Below.refl _ _) _)⟩
         case measure=>simp[intOf];omega
        ·obtain ⟨m,hm⟩:∃ m,q.length=m+1:=⟨q.length - 1,by omega⟩
         have hnb:=HQ.out.out y HMEM.out hk1 HOUT.out _ (last_of hm)
         obtain ⟨g3,o3,cap3,hcut3,hcap3,hg3,d3,d4⟩:=plc_cells HR.out (i:=m) (by omega)
         cases hcut3
         rw[bet_iff] at hnb
         simp only at hnb
         obtain ⟨p,hp⟩:∃ p,q[m]=p:=⟨_,rfl⟩
         rw[hp] at d3 d4 hnb
         obtain ⟨y2,hy2⟩:∃ y2,(f y).2.1=y2:=⟨_,rfl⟩
         rw[hy2] at d2 hnb
         have hq1:decide ((0:Int) < (q.length:Int))=true:=decide_eq_true (by omega)
         have hsub:(q.length:Int) - 1=(m:Int):=by omega
         have hml:m < q.length:=by omega
         have hs1:decide (p.score < y2)=false:=by simp;omega
         have HNB:=Hid.mk2 hnb
         have hbq:=below_drewN (Below.refl wr.heap.size wr) nq
         have k0:=(hbq.cell (p:=⟨g,o+i * 5,none⟩) hg).trans d0
         have k1:=(hbq.cell (p:=⟨g2,o2+i * 3,none⟩) hg2).trans d1
         have k2:=(hbq.cell (p:=⟨g2,o2+i * 3+1,none⟩) hg2).trans d2
         have k3:=(hbq.cell (p:=⟨g3,o3+m * 2,none⟩) hg3).trans d3
         have k4:=(hbq.cell (p:=⟨g3,o3+m * 2+1,none⟩) hg3).trans d4
         have k5:=(HM.out.below hbq).box.cell 3
         replace HM:=Hid.mk2 (HM.out.below hbq)
         replace HR:=Hid.mk2 (HR.out.below hbq)
         have hgw:g3 < (wr.drewN nq).heap.size:=Nat.lt_of_lt_of_le hg3 hbq.size
         have hgw2:g2 < (wr.drewN nq).heap.size:=Nat.lt_of_lt_of_le hg2 hbq.size
         have hgw1:g < (wr.drewN nq).heap.size:=Nat.lt_of_lt_of_le hg hbq.size
         clear hq0 hk1 hp hy2 hnb hm d0 d1 d2 d3 d4 b3 hbq hg hg2 hg3
         generalize wr.drewN nq=wq at HM HR k0 k1 k2 k3 k4 k5 hgw hgw1 hgw2 ⊢
         have hgn:g3≠wq.heap.size:=by omega
         have hgn1:g≠wq.heap.size:=by omega
         have hgn2:g2≠wq.heap.size:=by omega
         go_upto_region 26 with fail
         by_cases hs2:y2=p.score
         ·have hs3:(y2==p.score)=true:=by simpa using hs2
          have hs4:decide (y.id < p.id)=false:=by
           have:=HNB.out
           simp
           omega
          clear hs2
          go_quiet (fail)
          go_wp2
          go_roundw
          case rel=>exact ⟨i+1,by omega,by rw[HTN.out];rfl,by go_num,HM.out.below (below_drewN (box3 _ _) _),HR.out.below (below_drewN (box3 _ _) _)⟩
          case measure=>simp[intOf];omega
         ·have hs3:(y2==p.score)=false:=by simpa using hs2
          clear hs2
          go_quiet (fail)
          go_wp2
          go_roundw
          case rel=>exact ⟨i+1,by omega,by rw[HTN.out];rfl,by go_num,HM.out.below (below_drewN (box3 _ _) _),HR.out.below (below_drewN (box3 _ _) _)⟩
          case measure=>simp[intOf];omega
       ·have q1:(((f y).1:Int)==1)=false:=by simp;omega
        obtain ⟨p1,hp1⟩:∃ p1,(f y).1=p1:=⟨_,rfl⟩
        rw[hp1] at d1 q1
        clear hk1 hp1 d2
        go_wp2
        go_roundw
        case rel=>exact ⟨i+1,by omega,by rw[HTN.out];rfl,by go_num,HM.out.below (below_drewN (Below.refl _ _) _),HR.out.below (below_drewN (Below.refl _ _) _)⟩
        case measure=>simp[intOf];omega
     ·have hi1:decide ((i:Int) < (l.length:Int))=false:=by simp;omega
      have htd:toldC q (l.take i)=q.length:=by rw[List.take_of_length_le (by omega)];exact HQ.out.all
      rw[htd]
      clear htd htl
      go_wp2
      go_ret
      exact ⟨rfl,HM.out.bl⟩
end Go.Proofs.YtpcjadaeolkngaaGreatDoor
namespace Go.Proofs.YtpcjadaeolkngaaGreatDoor
def pbI (fs:List Fact) (ls:List PLet) (N:List PNode) (x:Itm) (y:Bn):Nat→Int→PB
 | 0,_=>leafI 0
 | f+1,i =>
  match N[i.toNat]? with
  | none=>leafI 0
  | some n =>
   match atF fs i with
   | some v=>leafI v
   | none =>
    if n.ops=1 then oneP (opK (kindP n.tok.text) n.ops) (pbI fs ls N x y f n.left)
    else if isChK (kindP n.tok.text) then choiceP (leaK (kindP n.tok.text)) (pbI fs ls N x y f n.left) (pbI fs ls N x y f n.right) (leafI (decK (kindP n.tok.text)))
    else if n.ops=2 then twoP (opK (kindP n.tok.text) n.ops) (pbI fs ls N x y f n.left) (pbI fs ls N x y f n.right)
    else if kindP n.tok.text=2 then pbI fs ls N x y f (meantI ls n.tok.text)
    else leafA (kindP n.tok.text - 15) x y
structure RefOk (ls:List PLet) (fs:List Fact) (j:Nat) (n:PNode):Prop where
 one:n.ops=1→n.left < j
 two:n.ops≠1→(isChK (kindP n.tok.text)=true∨n.ops=2)→n.left < j∧n.right < j
 nam:n.ops=0→isChK (kindP n.tok.text)=false→kindP n.tok.text=2→0≤meantI ls n.tok.text∧meantI ls n.tok.text < (j:Int)
 att:n.ops=0→isChK (kindP n.tok.text)=false→kindP n.tok.text≠2→atF fs (j:Int)=none→15≤kindP n.tok.text∧kindP n.tok.text≤21
def RefsOk (ls:List PLet) (fs:List Fact) (N:List PNode):Prop:=∀ j n,N[j]?=some n→NodeOk n∧RefOk ls fs j n
theorem oneP_code (n:Nat) (p:PB):(oneP n p).code=p.code++[n]∧(oneP n p).high=p.high:=by
 unfold oneP
 (repeat' split) <;> exact ⟨rfl,rfl⟩
theorem twoP_code (n:Nat) (p q:PB):(twoP n p q).code=p.code++q.code++[n]∧(twoP n p q).high=maxN p.high (q.high+1):=by
 unfold twoP
 (repeat' split) <;> exact ⟨rfl,rfl⟩
theorem choiceP_code (n:Nat) (p a b:PB):(choiceP n p a b).code=choiceC n p a b∧(choiceP n p a b).high=choiceH p a b:=by
 unfold choiceP
 (repeat' split) <;> exact ⟨rfl,rfl⟩
theorem opC_bare {k:Nat} (v:Int) (h:behindN k=0):opC k v=[k]:=by unfold opC;rw[h];rfl
theorem opC_int (v:Int):opC 0 v=(leafI v).code:=rfl
theorem opC_jump {k:Nat} (h:behindN k=2) (d:Nat) (hd:d < 65536):opC k (d:Int)=jumpC k d:=by
 have e:((d:Int) % 18446744073709551616).toNat=d:=by omega
 unfold opC jumpC
 rw[h,e]
 simp only[bytesN]
 have:d / 256 % 256=d / 256:=by omega
 first | rw[this] | skip
theorem opC_attr {k:Nat} (h1:15≤k) (h2:k≤21) (x:Itm) (y:Bn):opC 1 ((k:Int) - 15)=(leafA (k - 15) x y).code:=by
 obtain rfl | rfl | rfl | rfl | rfl | rfl | rfl:k=15∨k=16∨k=17∨k=18∨k=19∨k=20∨k=21:=by omega
 all_goals rfl
theorem layH_max (below h:Nat):layH below h=max h (below+1):=by unfold layH;split <;> omega
theorem maxN_max (a b:Nat):maxN a b=max a b:=by unfold maxN;split <;> omega
theorem pb_ok {fs:List Fact} {ls:List PLet} {N:List PNode} {x:Itm} {y:Bn} (hx:x.Ok) (hy:y.Ok) (hfi:∀ i,FactIn (atF fs i)) (hR:RefsOk ls fs N):∀ (f:Nat) (i:Int),0≤i→(pbI fs ls N x y f i).code.length < 60000→(pbI fs ls N x y f i).Ok x y
 | 0,i,_,_=>leafI_ok (by decide)
 | f+1,i,hi0,hlen=>by
  rw[pbI] at hlen ⊢
  cases hn:N[i.toNat]? with
  | none=>exact leafI_ok (by decide)
  | some n =>
   obtain ⟨hok,hrf⟩:=hR i.toNat n hn
   rw[hn] at hlen
   simp only at hlen ⊢
   cases hfa:atF fs i with
   | some v=>exact leafI_ok (hfi i v hfa)
   | none =>
    rw[hfa] at hlen
    simp only at hlen ⊢
    by_cases h1:n.ops=1
    ·rw[if_pos h1] at hlen ⊢
     rw[(oneP_code _ _).1,List.length_append] at hlen
     exact oneP_ok (pb_ok hx hy hfi hR f n.left (by omega) (by omega)) (hok.one h1)
    ·rw[if_neg h1] at hlen ⊢
     cases hc:isChK (kindP n.tok.text) with
     | true =>
      rw[hc,if_pos rfl] at hlen
      rw[if_pos rfl]
      rw[(choiceP_code _ _ _ _).1] at hlen
      unfold choiceC at hlen
      simp only[List.length_append] at hlen
      exact choiceP_ok (pb_ok hx hy hfi hR f n.left (by omega) (by omega)) (pb_ok hx hy hfi hR f n.right (by omega) (by omega)) (leafI_ok (decK_in _)) (by unfold leaK;split <;> omega) (by omega) (by omega)
     | false =>
      rw[hc,if_neg (by simp)] at hlen
      rw[if_neg (by simp)]
      by_cases h2:n.ops=2
      ·rw[if_pos h2] at hlen ⊢
       rw[(twoP_code _ _ _).1,List.length_append,List.length_append] at hlen
       exact twoP_ok (pb_ok hx hy hfi hR f n.left (by omega) (by omega)) (pb_ok hx hy hfi hR f n.right (by omega) (by omega)) (hok.two hc h2)
      ·rw[if_neg h2] at hlen ⊢
       have h0:n.ops=0:=by have:=hok.ops;omega
       by_cases hk:kindP n.tok.text=2
       ·rw[if_pos hk] at hlen ⊢
        exact pb_ok hx hy hfi hR f _ (hrf.nam h0 hc hk).1 hlen
       ·rw[if_neg hk]
        have hfa2:atF fs ((i.toNat:Nat):Int)=none:=by rw[Int.toNat_of_nonneg hi0];exact hfa
        obtain ⟨hk1,hk2⟩:=hrf.att h0 hc hk hfa2
        exact leafA_ok hx hy (by omega)
end Go.Proofs.YtpcjadaeolkngaaGreatDoor
