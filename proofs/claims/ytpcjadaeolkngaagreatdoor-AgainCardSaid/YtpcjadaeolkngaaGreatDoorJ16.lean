/-
  The program's check: the walk of kinds.
-/
import Derived.Test.YtpcjadaeolkngaaGreatDoorJ15
import Derived.Deep.RegionWith
import Derived.BigQuiet
import Derived.Test.YtpcjadaeolkngaaGreatDoorJ04
set_option linter.unusedVariables false
set_option linter.unusedSimpArgs false
namespace Go.Proofs.YtpcjadaeolkngaaGreatDoor
open Go.RowKit Go.Deep
theorem Tryz.infoInt3:(Tryz.prog.info? 3).map (fun i=>(i.zero,i.size,i.bytes))=some (some (.int .i64 0),1,8):=by kernel_rfl
def zeroK(n:Nat):Array Value:=(cellsK (padK [] n)).toArray
theorem zeroK_eq(n:Nat):zeroK n=Array.replicate n (Value.int .i64 0):=by
 unfold zeroK padK cellsK
 simp
theorem made_zero2(n:Nat):madeCells (Value.int .i64 0).cells (n*1)=zeroK n:=by
 rw[zeroK_eq]
 apply Array.ext
 ·simp[madeCells]
 ·intro i h1 h2
  have e:(Value.int .i64 0).cells=#[Value.int .i64 0]:=rfl
  simp[e,madeCells,Nat.mod_one]
structure KiIn(w wr:World)(B kb:Nat)(nv lv rv:Value)(ks:List Nat)(f:Option Nat)(N:List PNode)(ls:List PLet)(rs:List PRule):Prop where
 lk:LkAt wr B kb nv lv rv ks f N ls rs
 bx:Blk wr w.heap.size #[nv,lv,rv] 73
 hB:w.heap.size<B
 hk:w.heap.size<kb
 bl:Below w.heap.size w wr
theorem KiIn.step{w wr w':World}{B kb:Nat}{nv lv rv:Value}{ks ks':List Nat}{f f':Option Nat}{N:List PNode}{ls:List PLet}{rs:List PRule}(h:KiIn w wr B kb nv lv rv ks f N ls rs)(hl:LkAt w' B kb nv lv rv ks' f' N ls rs)(hk:But2 B kb wr w'):KiIn w w' B kb nv lv rv ks' f' N ls rs:=by
 have h1:=h.hB
 have h2:=h.hk
 have h3:=h.bx.lt
 exact ⟨hl,h.bx.but2 hk (by omega) (by omega),h1,h2,h.bl.trans (hk.below (by omega) (by omega) (by omega))⟩
theorem ki_start{w:World}{nv lv rv:Value}{N:List PNode}{ls:List PLet}{rs:List PRule}(h:PolAt w nv lv rv N ls rs):KiIn w (((w.alloc (.cells #[nv,lv,rv] 73)).alloc (.cells (zeroK N.length) 3)).alloc (.cells #[nv,lv,rv,.slice (some ⟨w.heap.size+1,0,none⟩) N.length N.length,.bool false,.int .i64 0] 180)).drew (w.heap.size+1+1) (w.heap.size+1) nv lv rv [] none N ls rs:=by
 have hb:Below w.heap.size w (((w.alloc (.cells #[nv,lv,rv] 73)).alloc (.cells (zeroK N.length) 3)).alloc (.cells #[nv,lv,rv,.slice (some ⟨w.heap.size+1,0,none⟩) N.length N.length,.bool false,.int .i64 0] 180)).drew:=below_drewN (((new_below w _).alloc (by simp) _).alloc (by simp;omega) _) 1
 refine ⟨⟨?_, ?_,h.below hb,by omega,Nat.zero_le _⟩,(((Blk.new w _ _).alloc _).alloc _).drew,by omega,by omega,hb⟩
 ·have:=(Blk.new ((w.alloc (.cells #[nv,lv,rv] 73)).alloc (.cells (zeroK N.length) 3)) #[nv,lv,rv,.slice (some ⟨w.heap.size+1,0,none⟩) N.length N.length,.bool false,.int .i64 0] 180).drew
  simpa using this
 ·have:=((Blk.new (w.alloc (.cells #[nv,lv,rv] 73)) (zeroK N.length) 3).alloc (.cells #[nv,lv,rv,.slice (some ⟨w.heap.size+1,0,none⟩) N.length N.length,.bool false,.int .i64 0] 180)).drew
  have e:(w.alloc (.cells #[nv,lv,rv] 73)).heap.size=w.heap.size+1:=by simp
  rw[e]at this
  exact this
theorem apart_start{w:World}{nv lv rv:Value}{N:List PNode}{ls:List PLet}{rs:List PRule}(h:PolAt w nv lv rv N ls rs):Apart2 (w.heap.size+1+1) (w.heap.size+1) nv lv rv:=by
 have key:∀ (v:Value) (n:Nat) (xs:List Value),Reads w v n xs→v.ownBlock≠some (w.heap.size+1+1)∧v.ownBlock≠some (w.heap.size+1):=by
  intro v n xs hr
  rcases hr with ⟨rfl,_⟩ | ⟨b,o,cap,rfl,_,hlt,_⟩
  ·exact ⟨by simp[Value.ownBlock],by simp[Value.ownBlock]⟩
  ·constructor <;> (simp only[Value.ownBlock,ne_eq,Option.some.injEq];omega)
 exact ⟨key _ _ _ h.n,key _ _ _ h.l,key _ _ _ h.r⟩
theorem KiIn.let3{w wr:World}{B kb:Nat}{nv rv:Value}{la:Option Addr}{lc:Nat}{ks:List Nat}{f:Option Nat}{N:List PNode}{ls:List PLet}{rs:List PRule}(h:KiIn w wr B kb nv (.slice la ls.length lc) rv ks f N ls rs){i:Nat}(hi:i<ls.length){pl:PLet}(hp:ls[i]=pl):∃ g o,la=some ⟨g,o,none⟩∧g<wr.heap.size∧ls.length≤lc ∧
  wr.cell? ⟨g,o+i*6+3,none⟩=some (.int .i64 pl.val.place)∧wr.cell? ⟨g,o+i*6+4,none⟩=some (.int .i64 pl.val.fr)∧wr.cell? ⟨g,o+i*6+5,none⟩=some (.int .i64 pl.val.behind):=by
 subst hp
 obtain ⟨g,o,cap,hcut,hcap,hg,hc⟩:=h.lk.pa.l.pos (by omega)
 cases hcut
 have f:=fun j (hj:j<6) u (hu:(cellL ls[i])[j]?=some u)=>hc (i*6+j) u ((flat_get cellL 6 (fun _=>rfl) ls i hi j hj).trans hu)
 refine ⟨g,o,rfl,hg,hcap, ?_, ?_, ?_⟩
 ·rw[Nat.add_assoc];exact f 3 (by omega) _ rfl
 ·rw[Nat.add_assoc];exact f 4 (by omega) _ rfl
 ·rw[Nat.add_assoc];exact f 5 (by omega) _ rfl
set_option maxHeartbeats 8000000 in
set_option maxRecDepth 100000 in
theorem kinds_any(nv lv rv:Value)(N:List PNode)(ls:List PLet)(rs:List PRule)(w:World)(h:PolAt w nv lv rv N ls rs)(hx:Fits N ls rs) :
  Calls Tryz.prog 72 #[polA nv lv rv] w fun e' w'=>e'=.returned (resN (pKinds N ls rs))∧Below w.heap.size w w':=by
 obtain ⟨na,nc,rfl⟩:=h.n.shape
 obtain ⟨la,lc,rfl⟩:=h.l.shape
 obtain ⟨ra,rc,rfl⟩:=h.r.shape
 obtain ⟨i0,hin,hz0,hz1,hz2⟩:=info_parts Tryz.infoInt3
 have hnb:=h.nb
 have hlb:=h.lb
 have hrb:=h.rb
 have hmk:∀ wx:World,(Instr.makeSlice 120 (.int .i64 N.length) (.int .i64 N.length)).run Tryz.prog wx=.ok (.slice (some ⟨wx.heap.size,0,none⟩) N.length N.length) (wx.alloc (.cells (zeroK N.length) 3)):=by
  intro wx
  have:=run_make (P:=Tryz.prog) wx 120 3 i0 _ Tryz.underlying120 hin hz0 .i64 .i64 N.length N.length (by omega) (by omega) (by rw[hz2];omega) (by omega)
  rw[this,hz1,Int.toNat_natCast,made_zero2]
 have HK:=hideP (ki_start h)
 have HA:=hideP (apart_start h)
 have HX:=hideP hx
 have HLT:=hideP (hx.lets h.nb)
 clear h hx
 have p0:=HK.out.bx.cell 0
 clear p0
 unfold polA
 go_enter Tryz.func72,Tryz.ntmps72
 go_wp2
 go_region
 all_goals
  generalize (((w.alloc (.cells #[.slice na N.length nc,.slice la ls.length lc,.slice ra rs.length rc] 73)).alloc (.cells (zeroK N.length) 3)).alloc (.cells #[.slice na N.length nc,.slice la ls.length lc,.slice ra rs.length rc,.slice (some ⟨w.heap.size+1,0,none⟩) N.length N.length,.bool false,.int .i64 0] 180)).drew=w1 at HK ⊢
  generalize w.heap.size+1+1=B at HK HA ⊢
  generalize w.heap.size+1=kb at HK HA ⊢
  go_wp2
  go_loopw [5] (fun vi wr=>∃ (i:Nat) (ks:List Nat) (f:Option Nat),i≤ls.length∧vi=.int .i64 i∧KiIn w wr B kb (.slice na N.length nc) (.slice la ls.length lc) (.slice ra rs.length rc) ks f N ls rs∧ConsL ks.length (ls.drop i)∧endL 0 ls=endL ks.length (ls.drop i)∧kindsL ls N ([],none) ls=kindsL ls N (ks,f) (ls.drop i)) (fun i _=>1000-(intOf i).toNat)
  case atStart=>exact ⟨0,[],none,Nat.zero_le _,rfl,HK.out,HX.out.l,rfl,rfl⟩
  case round =>
   obtain ⟨i,ks,f,hi,rfl,hk,hcs,hen,hgo⟩:=hrel
   clear HK
   have HK:=hideP hk
   have HGO:=hideP hgo
   have HCS:=hideP hcs
   have HEN:=hideP hen
   have hB:=hk.bx.lt
   have p0:=hk.bx.cell 0
   have p1:=hk.bx.cell 1
   have p2:=hk.bx.cell 2
   simp only[List.getElem?_toArray,List.getElem?_cons_zero,List.getElem?_cons_succ]at p0 p1 p2
   clear hgo hcs hen
   by_cases hlt:i<ls.length
   ·have hdrop:=List.drop_eq_getElem_cons hlt
    obtain ⟨pl,hpl⟩:∃ pl,ls[i]=pl:=⟨_,rfl⟩
    obtain ⟨g,o,rfl,hg,hcap,d3,d4,d5⟩:=hk.let3 hlt hpl
    have hc2:=HCS.out
    have hg2:=HGO.out
    have he2:=HEN.out
    rw[hdrop,hpl]at hc2 hg2 he2
    obtain ⟨hc3,hc4,hc5⟩:=hc2
    have hex:=HX.out.x.l ls[i] (List.getElem_mem hlt)
    rw[hpl]at hex
    have HEX:=hideP hex
    have HFR:=hideP hc3.symm
    have hlen:=look_len (ls:=ls) (f:=f) hex hc3.symm
    have HG2:Hid (kindsL ls N ([],none) ls=kindsL ls N (lookGo ls ks f (segE N pl.val)) (ls.drop (i+1))):=hg2
    obtain ⟨st,hst⟩:∃ st,lookGo ls ks f (segE N pl.val)=st:=⟨_,rfl⟩
    obtain ⟨ks2,f2⟩:=st
    have HST:=hideP hst
    rw[hst]at hlen HG2
    have HL2:Hid (ks2.length=pl.val.behind):=hlen
    have HC5:=hideP hc5
    have HE2:Hid (endL 0 ls=endL pl.val.behind (ls.drop (i+1))):=he2
    clear hdrop hpl hc3 hc4 hc5 hex hlen hg2 he2 hst hk HGO HCS HEN
    go_wp2_with (go_at_call 107;refine (look_any HK.out.lk HA.out pl.val HEX.out HFR.out HLT.out HX.out.n).mono ?_;rintro e' w5 ⟨rfl,hl5,hb5⟩;rw[HST.out]at hl5;have HK5:=hideP (HK.out.step hl5 hb5);clear hl5 hb5)
    go_roundw
    case rel=>exact ⟨i+1,ks2,f2,by omega,by go_num,HK5.out,by rw[HL2.out];exact HC5.out,by rw[HL2.out];exact HE2.out,HG2.out⟩
    case measure=>simp[intOf];omega
   ·have hdn:ls.drop i=[]:=List.drop_eq_nil_of_le (by omega)
    have HKL:Hid (kindsL ls N ([],none) ls=(ks,f)):=by rw[Hid,HGO.out,hdn];rfl
    have HED:Hid (endL 0 ls=ks.length):=by rw[Hid,HEN.out,hdn];rfl
    clear hdn HGO HCS HEN hk
    go_wp2
    go_loopw [6] (fun vi wr=>∃ (j:Nat) (ks:List Nat) (f:Option Nat),j≤rs.length∧vi=.int .i64 j∧KiIn w wr B kb (.slice na N.length nc) (.slice la ls.length lc) (.slice ra rs.length rc) ks f N ls rs∧ConsR ks.length (rs.drop j)∧kindsR ls N (kindsL ls N ([],none) ls) rs=kindsR ls N (ks,f) (rs.drop j)) (fun i _=>1000-(intOf i).toNat)
    case atStart=>exact ⟨0,ks,f,Nat.zero_le _,rfl,HK.out,by rw[← HED.out];exact HX.out.r,by rw[HKL.out];rfl⟩
    case round =>
     obtain ⟨j,ks,f,hj,rfl,hk,hcs,hgo⟩:=hrel
     clear HK HKL HED
     have HK:=hideP hk
     have HGO:=hideP hgo
     have HCS:=hideP hcs
     have hB:=hk.bx.lt
     have hBr:=hk.lk.blk.lt
     have hkr:=hk.lk.row.lt
     have p0:=hk.bx.cell 0
     have p1:=hk.bx.cell 1
     have p2:=hk.bx.cell 2
     simp only[List.getElem?_toArray,List.getElem?_cons_zero,List.getElem?_cons_succ]at p0 p1 p2
     clear hgo hcs
     by_cases hlt:j<rs.length
     ·have hdrop:=List.drop_eq_getElem_cons hlt
      obtain ⟨pr,hpr⟩:∃ pr,rs[j]=pr:=⟨_,rfl⟩
      obtain ⟨g,o,rfl,hg,hcap,d0,d1,d2,d3,d4,d5,d6,d7⟩:=(Chk1.mk hk.bx hk.lk.pa hk.bl).rule8p hlt hpr
      have hc2:=HCS.out
      have hg2:=HGO.out
      rw[hdrop,hpr]at hc2 hg2
      obtain ⟨hc3,hc4,hc5⟩:=hc2
      have hew:=HX.out.x.w rs[j] (List.getElem_mem hlt)
      have hes:=HX.out.x.s rs[j] (List.getElem_mem hlt)
      rw[hpr]at hew hes
      have HEW:=hideP hew
      have HES:=hideP hes
      have HW0:=hideP (LkW.mk (hk.lk.below (new_below wr (.cells #[.bool pr.hw,.int .i64 pr.when.place,.int .i64 pr.when.fr,.int .i64 pr.when.behind,.bool pr.hs,.int .i64 pr.score.place,.int .i64 pr.score.fr,.int .i64 pr.score.behind] 110))) (Blk.new wr #[.bool pr.hw,.int .i64 pr.when.place,.int .i64 pr.when.fr,.int .i64 pr.when.behind,.bool pr.hs,.int .i64 pr.score.place,.int .i64 pr.score.fr,.int .i64 pr.score.behind] 110) (by omega) (by omega) (But2.of (new_below wr _)))
      have HG2:Hid (kindsR ls N (kindsL ls N ([],none) ls) rs=kindsR ls N (scoreK ls N pr (whenK ls N pr (ks,f))) (rs.drop (j+1))):=hg2
      have z0:=HW0.out.bx.cell 0
      have z1:=HW0.out.bx.cell 1
      have z2:=HW0.out.bx.cell 2
      have z3:=HW0.out.bx.cell 3
      have z4:=HW0.out.bx.cell 4
      have z5:=HW0.out.bx.cell 5
      have z6:=HW0.out.bx.cell 6
      have z7:=HW0.out.bx.cell 7
      simp only[List.getElem?_toArray,List.getElem?_cons_zero,List.getElem?_cons_succ]at z0 z1 z2 z3 z4 z5 z6 z7
      clear z0 z1 z2 z3 z4 z5 z6 z7
      obtain ⟨hw,hhw⟩:∃ hw,pr.hw=hw:=⟨_,rfl⟩
      obtain ⟨hs,hhs⟩:∃ hs,pr.hs=hs:=⟨_,rfl⟩
      rw[hhw]at d0
      rw[hhs]at d4
      rw[hhw]at hc3 hc4 hc5
      rw[hhs]at hc4 hc5
      rw[hhw,hhs]at HW0
      cases hw with
      | true =>
       obtain ⟨hwf,hwl⟩:=hc3 rfl
       obtain ⟨st,hst⟩:∃ st,lookFor ls N 2 pr.when (ks,f)=st:=⟨_,rfl⟩
       obtain ⟨ks2,f2⟩:=st
       have HL2:Hid (ks2.length=pr.when.behind):=by
        have:=look_len (ls:=ls) (f:=f) hew hwf.symm
        have e:ks2=(lookGo ls ks f (segE N pr.when)).1:=by
         have:=congrArg Prod.fst hst
         exact this.symm
        rw[Hid,e];exact this
       have hwk:whenK ls N pr (ks,f)=(ks2,f2):=by rw[whenK,hhw];exact hst
       rw[hwk]at HG2
       have HSW:=hideP hst
       have HWF:=hideP hwf
       clear hst hwk hc3 hwf
       cases hs with
       | true =>
        obtain ⟨hsf,hsl⟩:=hc4 rfl
        simp only[if_true]at hsf hc5
        obtain ⟨st,hst⟩:∃ st,lookFor ls N 1 pr.score (ks2,f2)=st:=⟨_,rfl⟩
        obtain ⟨ks3,f3⟩:=st
        have HL3:Hid (ks3.length=pr.score.behind):=by
         have:=look_len (ls:=ls) (f:=f2) hes (HL2.out.trans hsf.symm)
         have e:ks3=(lookGo ls ks2 f2 (segE N pr.score)).1:=by
          have:=congrArg Prod.fst hst
          exact this.symm
         rw[Hid,e];exact this
        have hsk:scoreK ls N pr (ks2,f2)=(ks3,f3):=by rw[scoreK,hhs];exact hst
        rw[hsk]at HG2
        have HSS:=hideP hst
        have HC5:=hideP hc5
        have HSF:=hideP hsf
        clear hst hsk hc4 hsf hdrop hpr hew hes hg2 hk HGO HCS hc5
        go_wp2_with (first | (go_at_call_of 108 (Value.int IntKind.i64 2);refine (lookFor_any HW0.out.lk HA.out 2 pr.when HEW.out (by omega) HWF.out.symm HLT.out HX.out.n).mono ?_;rintro e' w5 ⟨rfl,hl5,hb5⟩;rw[HSW.out]at hl5;have HW5:=hideP (HW0.out.step hl5 hb5);have y0:=HW5.out.bx.cell 4;have y1:=HW5.out.bx.cell 5;have y2:=HW5.out.bx.cell 6;have y3:=HW5.out.bx.cell 7;simp only[List.getElem?_toArray,List.getElem?_cons_zero,List.getElem?_cons_succ]at y0 y1 y2 y3;clear hl5 hb5) | (go_at_call_of 108 (Value.int IntKind.i64 1);refine (lookFor_any HW5.out.lk HA.out 1 pr.score HES.out (by omega) (HL2.out.trans HSF.out.symm) HLT.out HX.out.n).mono ?_;rintro e' w6 ⟨rfl,hl6,hb6⟩;rw[HSS.out]at hl6;have HW6:=hideP (HW5.out.step hl6 hb6);clear hl6 hb6))
        have HKF:=hideP (HK.out.step HW6.out.lk HW6.out.kp)
        go_roundw
        case rel=>exact ⟨j+1,ks3,f3,by omega,by go_num,HKF.out,by rw[HL3.out];exact HC5.out,HG2.out⟩
        case measure=>simp[intOf];omega
       | false =>
        simp only[if_true,Bool.false_eq_true,if_false]at hc5
        have hsk:scoreK ls N pr (ks2,f2)=(ks2,f2):=by rw[scoreK,hhs];rfl
        rw[hsk]at HG2
        have HC5:=hideP hc5
        clear hsk hc4 hdrop hpr hew hes hg2 hk HGO HCS hc5
        go_wp2_with (go_at_call_of 108 (Value.int IntKind.i64 2);refine (lookFor_any HW0.out.lk HA.out 2 pr.when HEW.out (by omega) HWF.out.symm HLT.out HX.out.n).mono ?_;rintro e' w5 ⟨rfl,hl5,hb5⟩;rw[HSW.out]at hl5;have HW5:=hideP (HW0.out.step hl5 hb5);have y0:=HW5.out.bx.cell 4;have y1:=HW5.out.bx.cell 5;have y2:=HW5.out.bx.cell 6;have y3:=HW5.out.bx.cell 7;simp only[List.getElem?_toArray,List.getElem?_cons_zero,List.getElem?_cons_succ]at y0 y1 y2 y3;clear hl5 hb5)
        have HKF:=hideP (HK.out.step HW5.out.lk HW5.out.kp)
        go_roundw
        case rel=>exact ⟨j+1,ks2,f2,by omega,by go_num,HKF.out,by rw[HL2.out];exact HC5.out,HG2.out⟩
        case measure=>simp[intOf];omega
      | false =>
       have hwk:whenK ls N pr (ks,f)=(ks,f):=by rw[whenK,hhw];rfl
       rw[hwk]at HG2
       clear hwk hc3
       cases hs with
       | true =>
        obtain ⟨hsf,hsl⟩:=hc4 rfl
        simp only[if_true,Bool.false_eq_true,if_false]at hsf hc5
        obtain ⟨st,hst⟩:∃ st,lookFor ls N 1 pr.score (ks,f)=st:=⟨_,rfl⟩
        obtain ⟨ks3,f3⟩:=st
        have HL3:Hid (ks3.length=pr.score.behind):=by
         have:=look_len (ls:=ls) (f:=f) hes hsf.symm
         have e:ks3=(lookGo ls ks f (segE N pr.score)).1:=by
          have:=congrArg Prod.fst hst
          exact this.symm
         rw[Hid,e];exact this
        have hsk:scoreK ls N pr (ks,f)=(ks3,f3):=by rw[scoreK,hhs];exact hst
        rw[hsk]at HG2
        have HSS:=hideP hst
        have HC5:=hideP hc5
        have HSF:=hideP hsf
        clear hst hsk hc4 hsf hdrop hpr hew hes hg2 hk HGO HCS hc5
        go_wp2_with (go_at_call_of 108 (Value.int IntKind.i64 1);refine (lookFor_any HW0.out.lk HA.out 1 pr.score HES.out (by omega) HSF.out.symm HLT.out HX.out.n).mono ?_;rintro e' w6 ⟨rfl,hl6,hb6⟩;rw[HSS.out]at hl6;have HW6:=hideP (HW0.out.step hl6 hb6);clear hl6 hb6)
        have HKF:=hideP (HK.out.step HW6.out.lk HW6.out.kp)
        go_roundw
        case rel=>exact ⟨j+1,ks3,f3,by omega,by go_num,HKF.out,by rw[HL3.out];exact HC5.out,HG2.out⟩
        case measure=>simp[intOf];omega
       | false =>
        simp only[Bool.false_eq_true,if_false]at hc5
        have hsk:scoreK ls N pr (ks,f)=(ks,f):=by rw[scoreK,hhs];rfl
        rw[hsk]at HG2
        have HC5:=hideP hc5
        clear hsk hc4 hdrop hpr hew hes hg2 hk HGO HCS hc5
        go_wp2
        have HKF:=hideP (HK.out.step HW0.out.lk HW0.out.kp)
        go_roundw
        case rel=>exact ⟨j+1,ks,f,by omega,by go_num,HKF.out,HC5.out,HG2.out⟩
        case measure=>simp[intOf];omega
     ·have hdn:rs.drop j=[]:=List.drop_eq_nil_of_le (by omega)
      have HRES:Hid (pKinds N ls rs=f):=by rw[Hid,pKinds,HGO.out,hdn];rfl
      have c4:=hk.lk.blk.cell 4
      have c5:=hk.lk.blk.cell 5
      simp only[List.getElem?_toArray,List.getElem?_cons_zero,List.getElem?_cons_succ]at c4 c5
      clear hdn HGO HCS hk
      have HBL:=hideP HK.out.bl
      cases f with
      | none =>
       have c4':wr.cell? ⟨B,4,none⟩=some (.bool false):=c4
       have c5':wr.cell? ⟨B,5,none⟩=some (.int .i64 0):=c5
       clear c4 c5
       go_wp2
       go_quiet (fail)
       go_wp2
       go_ret2
       exact ⟨by rw[HRES.out];rfl,below_drewN HK.out.bl _⟩
      | some q =>
       have c4':wr.cell? ⟨B,4,none⟩=some (.bool true):=c4
       have c5':wr.cell? ⟨B,5,none⟩=some (.int .i64 q):=c5
       clear c4 c5
       go_wp2
       go_quiet (fail)
       go_wp2
       go_ret2
       exact ⟨by rw[HRES.out];rfl,below_drewN HK.out.bl _⟩
structure PtAt(w:World)(kb:Nat)(nv lv rv:Value)(sz:List Nat)(N:List PNode)(ls:List PLet)(rs:List PRule):Prop where
 row:Blk w kb (cellsK (padK sz ls.length)).toArray 3
 pa:PolAt w nv lv rv N ls rs
 le:sz.length≤ls.length
 bd:∀ s∈sz,s≤150*sz.length+1
theorem PtAt.below{w w':World}{kb:Nat}{nv lv rv:Value}{sz:List Nat}{N:List PNode}{ls:List PLet}{rs:List PRule}(h:PtAt w kb nv lv rv sz N ls rs)(hb:Below w.heap.size w w'):PtAt w' kb nv lv rv sz N ls rs :=
 ⟨h.row.below hb h.row.lt,h.pa.below hb,h.le,h.bd⟩
theorem PtAt.reads{w:World}{kb:Nat}{nv lv rv:Value}{sz:List Nat}{N:List PNode}{ls:List PLet}{rs:List PRule}(h:PtAt w kb nv lv rv sz N ls rs):Reads w (.slice (some ⟨kb,0,none⟩) ls.length ls.length) (padK sz ls.length).length (cellsK (padK sz ls.length)):=by
 refine .inr ⟨kb,0,ls.length,by rw[padK_len _ _ h.le],by rw[padK_len _ _ h.le];exact Nat.le_refl _,h.row.lt,fun j u hj=>?_⟩
 rw[Nat.zero_add,h.row.cell]
 simpa using hj
theorem at_pt{w:World}{kb:Nat}{nv lv rv:Value}{sz:List Nat}{N:List PNode}{ls:List PLet}{rs:List PRule}(h:PtAt w kb nv lv rv sz N ls rs)(i:Nat)(hi:i≤1000) :
  Calls Tryz.prog 145 #[.slice (some ⟨kb,0,none⟩) ls.length ls.length,.int .i64 i] w fun e w'=>e=.returned (.int .i64 (sz.getD i 0:Nat))∧w'=w:=by
 have hl:=padK_len _ _ h.le
 have:=at_any (padK sz ls.length) (.slice (some ⟨kb,0,none⟩) ls.length ls.length) i w h.reads (by rw[hl];exact h.pa.lb) ⟨by omega,by omega⟩
 have e:atN (padK sz ls.length) i=sz.getD i 0:=by rw[atN_nat,padK_get]
 rw[e]at this
 exact this
theorem getD_le{l:List Nat}{M i:Nat}(h:∀ s∈l,s≤M):l.getD i 0≤M:=by
 rw[List.getD_eq_getElem?_getD]
 cases hx:l[i]? with
 | none=>exact Nat.zero_le _
 | some s=>exact h s (List.mem_of_getElem? hx)
theorem partNode_le{ls:List PLet}{sz:List Nat}{M:Nat}(h:∀ s∈sz,s≤M)(h1:1≤M)(t:RTok):partNode ls sz t≤M:=by
 unfold partNode;split
 ·exact getD_le h
 ·exact h1
theorem countGo_le{ls:List PLet}{sz:List Nat}{M:Nat}(h:∀ s∈sz,s≤M)(h1:1≤M):∀ (l:List PNode) (c:Nat),c≤150+M→countGo ls sz c l≤150+M
 | [],c,hc=>hc
 | n :: r,c,hc=>by
  rw[countGo]
  split
  ·have:=partNode_le (ls:=ls) h h1 n.tok
   exact countGo_le h h1 r _ (by omega)
  ·exact hc
theorem sum_wrap(a b:Nat)(h:a+b<1000000000):Value.int .i64 (IntKind.i64.wrap ((a:Int)+(b:Int)))=Value.int .i64 ((a+b:Nat):Int):=by
 rw[IntWalk.i64_in _ ⟨by omega,by omega⟩];rfl
def tokV(t:RTok):Value:=.agg #[.int .i64 (kindP t.text),.int .i64 t.at',.string (bsOf t.text)]
set_option maxHeartbeats 1000000 in
theorem partsOfNode_any{w:World}{kb:Nat}{nv lv rv:Value}{sz:List Nat}{N:List PNode}{ls:List PLet}{rs:List PRule}(h:PtAt w kb nv lv rv sz N ls rs)(t:RTok) :
  Calls Tryz.prog 128 #[polA nv lv rv,tokV t,.slice (some ⟨kb,0,none⟩) ls.length ls.length] w fun e' w'=>e'=.returned (.int .i64 (partNode ls sz t:Nat))∧Below w.heap.size w w':=by
 obtain ⟨la,lc,rfl⟩:=h.pa.l.shape
 have hlb:=h.pa.lb
 have hb:Below w.heap.size w ((w.alloc (.cells #[nv,.slice la ls.length lc,rv] 73)).alloc (.cells #[.int .i64 (kindP t.text),.int .i64 t.at',.string (bsOf t.text)] 101)):=(new_below w _).alloc (by simp) _
 have HP:=hideP (h.below hb)
 have HB:=hideP hb
 have hle:=letIx_le ls t.text
 obtain ⟨ix,hix⟩:∃ ix,letIx ls t.text=ix:=⟨_,rfl⟩
 have HIE:Hid (letIx ls (bsOf t.text).toList=ix):=by rw[Hid,bsOf_toList,hix]
 have HPN:Hid (partNode ls sz t=if kindP t.text=2 then sz.getD ix 0 else 1):=by rw[Hid,partNode,hix]
 rw[hix]at hle
 have hix2:ix≤1000:=by omega
 clear h hb hix
 unfold polA tokV
 by_cases hk:kindP t.text=2
 ·have hk':((kindP t.text:Int) != 2)=false:=by rw[hk];rfl
  rw[HPN.out,if_pos hk]
  clear HPN hk
  go_enter Tryz.func128,Tryz.ntmps128
  go_wp2_with (first | (go_at_call 105;refine (LetOf_any ls _ (bsOf t.text) _ HP.out.pa.l hlb).mono ?_;rintro e' w4 ⟨rfl,rfl⟩;rw[HIE.out]) | (go_at_call 145;refine (at_pt HP.out ix hix2).mono ?_;rintro e' w5 ⟨rfl,rfl⟩))
  go_ret
  exact ⟨rfl,HB.out⟩
 ·have hk':((kindP t.text:Int) != 2)=true:=by simp;omega
  rw[HPN.out,if_neg hk]
  clear HPN
  go_enter Tryz.func128,Tryz.ntmps128
  go_wp2
  go_ret
  exact ⟨rfl,HB.out⟩
structure PtW(w wr:World)(kb:Nat)(nv lv rv:Value)(sz:List Nat)(e:PExp)(N:List PNode)(ls:List PLet)(rs:List PRule):Prop where
 c:Chk2 w wr nv lv rv e N ls rs
 p:PtAt wr kb nv lv rv sz N ls rs
theorem PtW.below{w wr w':World}{kb:Nat}{nv lv rv:Value}{sz:List Nat}{e:PExp}{N:List PNode}{ls:List PLet}{rs:List PRule}(h:PtW w wr kb nv lv rv sz e N ls rs)(hb:Below wr.heap.size wr w'):PtW w w' kb nv lv rv sz e N ls rs:=⟨h.c.below hb,h.p.below hb⟩
theorem PtW.drew{w wr:World}{kb:Nat}{nv lv rv:Value}{sz:List Nat}{e:PExp}{N:List PNode}{ls:List PLet}{rs:List PRule}(h:PtW w wr kb nv lv rv sz e N ls rs):PtW w wr.drew kb nv lv rv sz e N ls rs:=h.below (below_drewN (Below.refl _ wr) 1)
theorem PtW.node3{w wr:World}{kb:Nat}{na:Option Addr}{nc:Nat}{lv rv:Value}{sz:List Nat}{e:PExp}{N:List PNode}{ls:List PLet}{rs:List PRule}(h:PtW w wr kb (.slice na N.length nc) lv rv sz e N ls rs){i:Nat}(hi:i<N.length){tk:RTok}(ht:N[i].tok=tk):∃ g o,na=some ⟨g,o,none⟩∧g<wr.heap.size∧N.length≤nc ∧
  wr.cell? ⟨g,o+i*6,none⟩=some (.int .i64 (kindP tk.text))∧wr.cell? ⟨g,o+i*6+1,none⟩=some (.int .i64 tk.at')∧wr.cell? ⟨g,o+i*6+2,none⟩=some (.string (bsOf tk.text)):=by
 subst ht
 obtain ⟨g,o,cap,hcut,hcap,hg,hc⟩:=h.p.pa.n.pos (by omega)
 cases hcut
 have f:=fun j (hj:j<6) u (hu:(cellN N[i])[j]?=some u)=>hc (i*6+j) u ((flat_get cellN 6 (fun _=>rfl) N i hi j hj).trans hu)
 refine ⟨g,o,rfl,hg,hcap,f 0 (by omega) _ rfl, ?_, ?_⟩
 ·rw[Nat.add_assoc];exact f 1 (by omega) _ rfl
 ·rw[Nat.add_assoc];exact f 2 (by omega) _ rfl
set_option maxHeartbeats 4000000 in
set_option maxRecDepth 100000 in
theorem partsOf_any{w:World}{kb:Nat}{nv lv rv:Value}{sz:List Nat}{N:List PNode}{ls:List PLet}{rs:List PRule}(h:PtAt w kb nv lv rv sz N ls rs)(e:PExp)(he:ExpOk N e) :
  Calls Tryz.prog 109 #[polA nv lv rv,expA e,.slice (some ⟨kb,0,none⟩) ls.length ls.length] w fun e' w'=>e'=.returned (.int .i64 (countGo ls sz 0 (segE N e):Nat))∧Below w.heap.size w w':=by
 obtain ⟨na,nc,rfl⟩:=h.pa.n.shape
 obtain ⟨la,lc,rfl⟩:=h.pa.l.shape
 obtain ⟨ra,rc,rfl⟩:=h.pa.r.shape
 have hnb:=h.pa.nb
 have hlb:=h.pa.lb
 have hrb:=h.pa.rb
 have hc0:=chk2_start (e:=e) h.pa
 have HC:=hideP (PtW.mk hc0 (h.below (hc0.bl)))
 have hbd:∀ s∈sz,s≤60151:=fun s hs=>by have:=h.bd s hs;have:=h.le;omega
 have HBD:=hideP hbd
 obtain ⟨he1,he2⟩:=he
 clear h hc0 hbd
 unfold polA expA
 go_enter Tryz.func109,Tryz.ntmps109
 go_wp2
 go_loopw [7,8] (fun vc vi wr=>∃ c i:Nat,e.fr≤i∧i≤e.behind∧c≤60301∧vc=.int .i64 c∧vi=.int .i64 i∧PtW w wr kb (.slice na N.length nc) (.slice la ls.length lc) (.slice ra rs.length rc) sz e N ls rs∧countGo ls sz 0 (segE N e)=countGo ls sz c ((N.drop i).take (e.behind-i))) (fun _ i _=>1000-(intOf i).toNat)
 case atStart=>exact ⟨0,e.fr,Nat.le_refl _,he1,by omega,rfl,rfl,HC.out,rfl⟩
 case round =>
  obtain ⟨c,i,hi1,hi2,hcb,rfl,rfl,hc,hgo⟩:=hrel
  clear HC
  have HC:=hideP hc
  have HGO:=hideP hgo
  have hB:=hc.c.bp.lt
  have hB2:=hc.c.be.lt
  have p0:=hc.c.bp.cell 0
  have p1:=hc.c.bp.cell 1
  have p2:=hc.c.bp.cell 2
  have e2:=hc.c.be.cell 2
  simp only[List.getElem?_toArray,List.getElem?_cons_zero,List.getElem?_cons_succ]at p0 p1 p2 e2
  clear hc hgo
  by_cases hlt:i<e.behind
  ·have hiN:i<N.length:=by omega
   have hseg:=seg_at N i e.behind hlt hiN
   obtain ⟨tk,htk⟩:∃ tk,N[i].tok=tk:=⟨_,rfl⟩
   obtain ⟨g,o,rfl,hg,hcap,d0,d1,d2⟩:=HC.out.node3 hiN htk
   by_cases hc:c≤150
   ·have HSG:Hid (countGo ls sz 0 (segE N e)=countGo ls sz (c+partNode ls sz tk) ((N.drop (i+1)).take (e.behind-(i+1)))):=by
     rw[Hid,HGO.out,hseg,countGo,if_pos hc,htk]
    have hpn:=partNode_le (ls:=ls) HBD.out (by omega) tk
    obtain ⟨pn,hpne⟩:∃ pn,partNode ls sz tk=pn:=⟨_,rfl⟩
    have HPE:=hideP hpne
    rw[hpne]at HSG hpn
    have HTK:=hideP htk
    have hc':decide ((c:Int)≤150)=true:=by simp;omega
    clear hseg htk hpne HGO
    go_wp2
    go_region_held3 (fun w'=>w'.cell? ⟨w.heap.size,0,none⟩=some (.slice (some ⟨g,o,none⟩) N.length nc)∧w'.cell? ⟨w.heap.size,1,none⟩=some (.slice la ls.length lc)∧w'.cell? ⟨w.heap.size,2,none⟩=some (.slice ra rs.length rc)∧w'.cell? ⟨g,o+i*6,none⟩=some (.int .i64 (kindP tk.text))∧w'.cell? ⟨g,o+i*6+1,none⟩=some (.int .i64 tk.at')∧w'.cell? ⟨g,o+i*6+2,none⟩=some (.string (bsOf tk.text))) (go_keep) ((go_at_call 128;refine (partsOfNode_any HC.out.drew.p tk).mono ?_;rintro e' w5 ⟨rfl,hb5⟩;rw[HPE.out];replace HC:=hideP (HC.out.drew.below hb5);clear hb5;have p0':=HC.out.c.bp.cell 0;have p1':=HC.out.c.bp.cell 1;have p2':=HC.out.c.bp.cell 2;obtain ⟨g',o',he',hg',_,c0,c1,c2⟩:=HC.out.node3 hiN HTK.out;cases he'))
    go_wp2
    go_roundw
    case rel=>exact ⟨c+pn,i+1,by omega,by omega,by omega,sum_wrap c pn (by omega),by go_num,HC.out,HSG.out⟩
    case measure=>simp[intOf];omega
   ·have HRES:Hid (countGo ls sz 0 (segE N e)=c):=by rw[Hid,HGO.out,hseg,countGo,if_neg hc]
    have hc':decide ((c:Int)≤150)=false:=by simp;omega
    clear hseg htk HGO
    go_wp2
    go_ret
    exact ⟨ret_int (by rw[HRES.out]),HC.out.c.bl⟩
  ·have HRES:Hid (countGo ls sz 0 (segE N e)=c):=by rw[Hid,HGO.out,seg_none N i e.behind (by omega)];rfl
   clear HGO
   go_wp2
   go_ret
   exact ⟨ret_int (by rw[HRES.out]),HC.out.c.bl⟩
end Go.Proofs.YtpcjadaeolkngaaGreatDoor
