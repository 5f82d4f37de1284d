/-
  The document's Heights: do the operations have heights as an image's must?
-/
import Derived.Test.YtldfkcpbjooemaaGreatDoorG40
import Derived.Deep.LoopGhost
import Derived.Deep.Light
import Derived.Test.YtldfkcpbjooemaaGreatDoorG39
import Derived.Test.YtldfkcpbjooemaaGreatDoorG12
import Derived.Test.YtldfkcpbjooemaaGreatDoorG15
import Derived.Test.YtldfkcpbjooemaaGreatDoorG07
import Derived.Deep.AppendLies
import Derived.Deep.RegionHeld3
import Derived.Deep.Cut
import Derived.Deep.DeepCutAuto
set_option linter.unusedVariables false
set_option linter.unusedSimpArgs false
namespace Go.Proofs.YtldfkcpbjooemaaGreatDoor
open Go.RowKit
def arrH (hs:Nat→Int) (n:Nat):Array Value:=((List.range n).map fun q=>Value.int .i64 (hs q)).toArray
theorem arrH_get (hs:Nat→Int) (n i:Nat) (h:i < n):(arrH hs n)[i]?=some (.int .i64 (hs i)):=by simp[arrH,h]
theorem arrH_set (hs:Nat→Int) (n k:Nat) (v:Int):(arrH hs n).setIfInBounds k (.int .i64 v)=arrH (upd hs k v) n:=by
 apply Array.ext
 ·simp[arrH]
 ·intro i h1 h2
  have hi:i < n:=by simpa[arrH] using h2
  rw[Array.getElem_setIfInBounds (by simpa[arrH] using hi)]
  simp only[arrH,upd,List.getElem_toArray,List.getElem_map,List.getElem_range]
  by_cases h:k=i
  ·subst h;simp
  ·simp[h,Ne.symm h]
theorem arrH_congr {hs gs:Nat→Int} {n:Nat} (h:∀ i,i < n→hs i=gs i):arrH hs n=arrH gs n:=by
 unfold arrH
 congr 1
 exact List.map_congr_left fun q hq=>by rw[h q (by simpa using hq)]
theorem made_zero (n:Nat):madeCells (Value.int .i64 0).cells (n * 1)=arrH (fun _=>0) n:=by
 apply Array.ext
 ·simp[arrH,madeCells]
 ·intro i h1 h2
  have e:(Value.int .i64 0).cells=#[Value.int .i64 0]:=rfl
  simp[e,arrH,madeCells,Nat.mod_one]
def iniH (i:Nat):Nat→Int:=fun q=>if 1≤q∧q < i then -1 else 0
def startH:Nat→Int:=fun q=>if q=0 then 0 else -1
theorem iniH_one (n:Nat):arrH (fun _=>0) n=arrH (iniH 1) n:=arrH_congr fun q _=>by unfold iniH;rw[if_neg (by omega)]
theorem iniH_set (i n:Nat) (h:1≤i):arrH (upd (iniH i) i (-1)) n=arrH (iniH (i+1)) n:=arrH_congr fun q _=>by
 unfold upd iniH
 by_cases h1:q=i
 ·rw[if_pos h1,if_pos (by omega)]
 ·rw[if_neg h1]
  by_cases h2:1≤q∧q < i
  ·rw[if_pos h2,if_pos (by omega)]
  ·rw[if_neg h2,if_neg (by omega)]
theorem iniH_end (i n:Nat) (h:n≤i):arrH (iniH i) n=arrH startH n:=arrH_congr fun q hq=>by
 unfold iniH startH
 by_cases h1:q=0
 ·rw[if_pos h1,if_neg (by omega)]
 ·rw[if_neg h1,if_pos (by omega)]
theorem run_make_ints {P:Program} (w:World) (t e:TypeId) (i:TypeInfo) (ht:P.underlying t=some (.slice e)) (hi:P.info? e=some i) (hz:i.zero=some (.int .i64 0)) (hs:i.size=1) (hb:i.bytes=8) (n:Nat) (hn:n≤4000) :
  (Instr.makeSlice t (.int .i64 n) (.int .i64 n)).run P w=.ok (.slice (some ⟨w.heap.size,0,none⟩) n n) (w.alloc (.cells (arrH (fun _=>0) n) e)):=by
 have:=run_make (P:=P) w t e i _ ht hi hz .i64 .i64 n n (by omega) (by omega) (by rw[hb];omega) (by omega)
 rw[this,hs,Int.toNat_natCast,made_zero]
theorem own_setCell {w:World} {base:Nat} {e:TypeId} {size:Nat} {v:Value} {n:Nat} {xs:List Value} (h:w.ownsRow base e size v n xs) (p:Addr) (x:Value) (hp:p.block < base):(w.setCell p x).ownsRow base e size v n xs:=by
 refine ⟨h.1, ?_⟩
 rcases h.2 with hn | ⟨g,cap,cur,rfl,hbg,hg,r⟩
 ·exact .inl hn
 ·exact .inr ⟨g,cap,cur,rfl,hbg,by rw[Below.heap_setCell _ _ _ _ (by omega)];exact hg,r⟩
theorem own_pos {w:World} {base:Nat} {e:TypeId} {a:Option Addr} {n c:Nat} {xs:List Value} (h:w.ownsRow base e 1 (.slice a n c) n xs) (hn:0 < n):∃ g,a=some ⟨g,0,none⟩∧base≤g∧∀ j u,xs[j]?=some u→w.cell? ⟨g,j,none⟩=some u:=by
 have hr:=reads_of_own h
 rcases hr with ⟨_,h0,_⟩ | ⟨g,o,cap,he,_,_,hc⟩
 ·omega
 rcases h.2 with hn' | ⟨g',cap',cur,he',hbg,_⟩
 ·rw[hn'.1] at he;cases he
 ·cases he
  cases he'
  exact ⟨g,rfl,hbg,fun j u hj=>by have:=hc j u hj;simpa using this⟩
theorem settled_zero (l:List Ins) (most:Nat) (hs:Nat→Int):Settled l most hs 0:=fun j hj=>by omega
set_option maxHeartbeats 1600000 in
set_option maxRecDepth 100000 in
theorem Heights_any (s:ByteArray) (hs4:s.size≤4000) (l:List Ins) (hc:Chain s 3 l s.size) (h0:0 < l.length) (hl4:l.length≤4000) (most:Nat) (hm:most < 256) (v:Value) (w:World) (hv:Reads w v l.length (cellsV l)) :
  Calls Tryz.prog 38 #[v,.int .i64 most] w fun e w'=>Below w.heap.size w w' ∧
   (((∃ G,Lawful l most G)∧∃ u,e=.returned (.tuple #[u,.bool true]))∨((∀ G,¬ Lawful l most G)∧e=.returned (.tuple #[.slice none 0 0,.bool false]))):=by
 obtain ⟨i0,hin,hz0,hz1,hz2⟩:=info_parts Tryz.infoInt
 have HV:Hid (Reads w v l.length (cellsV l)):=hv
 have HC:Hid (Chain s 3 l s.size):=hc
 obtain ⟨g,o,cap,rfl,_,hlt,hcc⟩:=hv.pos (by omega)
 have HCC:Hid (∀ j u,(cellsV l)[j]?=some u→w.cell? ⟨g,o+j,none⟩=some u):=hcc
 clear hv hc hcc
 go_enter Tryz.func38,Tryz.ntmps38
 have hmk:=fun wx=>run_make_ints (P:=Tryz.prog) wx 40 3 i0 Tryz.underlying40 hin hz0 hz1 hz2 l.length hl4
 go_wp2
 go_loopw [7] (fun vi wr=>∃ i:Nat,1≤i∧i≤l.length∧vi=.int .i64 i∧Below w.heap.size w wr∧Blk wr w.heap.size (arrH (iniH i) l.length) 3) (fun i _=>l.length - (intOf i).toNat)
 case atStart=>exact ⟨1,Nat.le_refl _,h0,rfl,(Below.refl _ _).alloc (Nat.le_refl _) _,iniH_one l.length ▸ Blk.new w (arrH (fun _=>0) l.length) 3⟩
 case round =>
  obtain ⟨i,hi1,hil,rfl,hbel,hblk⟩:=hrel
  have HB:Hid (Blk wr w.heap.size (arrH (iniH i) l.length) 3):=hblk
  clear hblk
  by_cases hlti:i < l.length
  ·have cx:wr.cell? ⟨w.heap.size,i,none⟩=some (.int .i64 0):=by rw[HB.out.cell,arrH_get _ _ _ hlti];unfold iniH;rw[if_neg (by omega)]
   have fx:wr.frozen? ⟨w.heap.size,i,none⟩=false:=HB.out.free i
   go_wp2
   go_roundw
   case rel=>exact ⟨i+1,by omega,by omega,by go_num,hbel.setCell (p:=⟨w.heap.size,i,none⟩) (Nat.le_refl _) _,by
    have:=HB.out.set i (.int .i64 (-1))
    rw[arrH_set,iniH_set i _ hi1] at this
    exact this⟩
   case measure=>simp[intOf];omega
  ·have HK:Hid (Blk wr w.heap.size (arrH startH l.length) 3):=(by
    have:=HB.out
    rw[iniH_end i _ (by omega)] at this
    exact this:Blk wr w.heap.size (arrH startH l.length) 3)
   clear HB
   go_wp2
   go_loopg [8] 2 (fun k c wx=>∃ (hs:Nat→Int) (b:Bool),c=.bool b∧Blk wx w.heap.size (arrH hs l.length) 3∧Below w.heap.size w wx∧Known s l most hs∧((k=2∧b=true)∨(k=1∧Settled l most hs l.length)∨(k=0∧b=false∧Settled l most hs l.length)))
   case atStart=>exact ⟨_,true,rfl,HK.out,hbel,known_start HC.out h0,.inl ⟨rfl,rfl⟩⟩
   case round =>
    clear HK hbel
    obtain ⟨hs,b,rfl,hblk,hbel,hkn,hmode⟩:=hrel
    have HB:Hid (Blk wr w.heap.size (arrH hs l.length) 3):=hblk
    have HKn:Hid (Known s l most hs):=hkn
    clear hblk hkn
    cases b
    case false =>
     have HS:Hid (Settled l most hs l.length):=(by rcases hmode with ⟨_,h⟩ | ⟨_,h⟩ | ⟨_,_,h⟩;exact absurd h (by decide);exact h;exact h:Settled l most hs l.length)
     clear hmode
     go_wp2
     go_loop [14] (fun vi=>∃ i:Nat,i≤l.length∧vi=.int .i64 i∧∀ j,j < i→0≤hs j) (fun i=>l.length - (intOf i).toNat)
     case atStart=>exact ⟨0,Nat.zero_le _,rfl,by intro j hj;omega⟩
     case round =>
      obtain ⟨i,hil,rfl,hall⟩:=hrel
      have HA:Hid (∀ j,j < i→0≤hs j):=hall
      clear hall
      by_cases hi:i < l.length
      ·have cx:wr.cell? ⟨w.heap.size,i,none⟩=some (.int .i64 (hs i)):=by rw[HB.out.cell,arrH_get _ _ _ hi]
       by_cases hneg:hs i < 0
       ·go_wp2
        go_ret2
        exact ⟨hbel,.inr ⟨HKn.out.bad_none HS.out hi hneg,rfl⟩⟩
       ·go_wp2
        go_round
        case rel=>exact ⟨i+1,by omega,by go_num,fun j hj=>by
         by_cases h:j=i
         ·subst h;omega
         ·exact HA.out j (by omega)⟩
        case measure=>simp[intOf];omega
      ·go_wp2
       go_ret2
       exact ⟨hbel,.inl ⟨HKn.out.lawful HS.out (fun j hj=>HA.out j (by omega)),_,rfl⟩⟩
    case true =>
     have HMo:Hid ((gk=2)∨(gk=1∧Settled l most hs l.length)):=(by rcases hmode with ⟨h,_⟩ | ⟨h,h2⟩ | ⟨_,h,_⟩;exact .inl h;exact .inr ⟨h,h2⟩;exact absurd h (by decide):(gk=2)∨(gk=1∧Settled l most hs l.length))
     clear hmode
     go_wp2
     go_loopw [8,9] (fun c vi wx=>∃ (i:Nat) (gs:Nat→Int) (b:Bool),i≤l.length∧c=.bool b∧vi=.int .i64 i∧Blk wx w.heap.size (arrH gs l.length) 3∧Below w.heap.size w wx∧Known s l most gs∧Settled l most gs i∧(gk=2∨(gk=1∧b=false∧Settled l most gs l.length))) (fun _ i _=>l.length - (intOf i).toNat)
     case atStart=>exact ⟨0,hs,false,Nat.zero_le _,rfl,rfl,HB.out,hbel,HKn.out,settled_zero _ _ _,by rcases HMo.out with h | ⟨h,h2⟩;exact .inl h;exact .inr ⟨h,rfl,h2⟩⟩
     case round =>
      clear HB hbel HKn HMo
      clear hs
      obtain ⟨i,hs,b,hil,rfl,rfl,hblk,hbel,hkn,hse,hmode⟩:=hrel
      have HB:Hid (Blk wr w.heap.size (arrH hs l.length) 3):=hblk
      have HKn:Hid (Known s l most hs):=hkn
      have HSe:Hid (Settled l most hs i):=hse
      have HMo:Hid (gk=2∨(gk=1∧b=false∧Settled l most hs l.length)):=hmode
      clear hblk hkn hse hmode
      by_cases hi:i < l.length
      case neg =>
       have:i=l.length:=by omega
       subst this
       go_wp2
       rcases HMo.out with h | ⟨h,h2,h3⟩
       ·go_roundg 1
        case measure=>omega
        case rel=>exact ⟨hs,b,rfl,HB.out,hbel,HKn.out,.inr (.inl ⟨rfl,HSe.out⟩)⟩
       ·go_roundg 0
        case measure=>omega
        case rel=>exact ⟨hs,b,rfl,HB.out,hbel,HKn.out,.inr (.inr ⟨rfl,h2,h3⟩)⟩
      have cx:wr.cell? ⟨w.heap.size,i,none⟩=some (.int .i64 (hs i)):=by rw[HB.out.cell,arrH_get _ _ _ hi]
      by_cases hneg:hs i < 0
      ·go_wp2
       go_roundw
       case rel=>exact ⟨i+1,hs,b,by omega,rfl,by go_num,HB.out,hbel,HKn.out,HSe.out.skip hneg,HMo.out⟩
       case measure=>simp[intOf];omega
      have hlow:-1≤hs i:=HKn.out.low i
      have hhigh:hs i≤most+1:=HKn.out.high i
      have co:wr.cell? ⟨g,o+i * 4+1,none⟩=some (.int .i64 (nth l i).op):=by
       have:=HCC.out _ _ (cellsN_get l i hi).2.1
       rw[← Nat.add_assoc] at this
       exact (hbel.cell (p:=⟨g,o+i * 4+1,none⟩) hlt).trans this
      have htk:takesN (nth l i).op≤2:=by unfold takesN;(repeat' split) <;> omega
      have hly:laysN (nth l i).op≤1:=by unfold laysN;split <;> omega
      go_wp2
      go_quiet ((go_at_call 44;exact Calls.quiet_of_same (takes_any _ _)))
      by_cases htak:hs i < takesN (nth l i).op
      ·go_wp2_with (first | (go_at_call 76;(refine (ways_any s hs4 l HC.out i hi hl4 _ _ (HV.out.below (below_drewN hbel _))).mono ?_;rintro e w1 ⟨hb1,⟨ks,v',hwk,rfl,hown⟩ | ⟨⟨q,hfq,hno⟩,rfl⟩⟩ <;> (replace hb1:=after_drew hb1;have hbel1:=hbel.trans (hb1.mono hbel.size);have HB1:Hid (Blk w1 w.heap.size (arrH hs l.length) 3):=Blk.below HB.out hb1 HB.out.lt;have cx1:w1.cell? ⟨w.heap.size,i,none⟩=some (.int .i64 (hs i)):=(by rw[HB1.out.cell,arrH_get _ _ _ hi]);have co1:w1.cell? ⟨g,o+i * 4+1,none⟩=some (.int .i64 (nth l i).op):=(hb1.cell (p:=⟨g,o+i * 4+1,none⟩) (Nat.lt_of_lt_of_le hlt hbel.size)).trans co))) | (go_at_call 50;refine (lays_any _ _).mono ?_;rintro e w' ⟨rfl,rfl⟩))
       all_goals go_ret2
       all_goals exact ⟨hbel1,.inr ⟨HKn.out.bad_high hi (by omega) (.inl htak),rfl⟩⟩
      by_cases hmst:(most:Int) < hs i
      ·go_wp2_with (first | (go_at_call 76;(refine (ways_any s hs4 l HC.out i hi hl4 _ _ (HV.out.below (below_drewN hbel _))).mono ?_;rintro e w1 ⟨hb1,⟨ks,v',hwk,rfl,hown⟩ | ⟨⟨q,hfq,hno⟩,rfl⟩⟩ <;> (replace hb1:=after_drew hb1;have hbel1:=hbel.trans (hb1.mono hbel.size);have HB1:Hid (Blk w1 w.heap.size (arrH hs l.length) 3):=Blk.below HB.out hb1 HB.out.lt;have cx1:w1.cell? ⟨w.heap.size,i,none⟩=some (.int .i64 (hs i)):=(by rw[HB1.out.cell,arrH_get _ _ _ hi]);have co1:w1.cell? ⟨g,o+i * 4+1,none⟩=some (.int .i64 (nth l i).op):=(hb1.cell (p:=⟨g,o+i * 4+1,none⟩) (Nat.lt_of_lt_of_le hlt hbel.size)).trans co))) | (go_at_call 50;refine (lays_any _ _).mono ?_;rintro e w' ⟨rfl,rfl⟩))
       all_goals go_ret2
       all_goals exact ⟨hbel1,.inr ⟨HKn.out.bad_high hi (by omega) (.inr hmst),rfl⟩⟩
      ·go_wp2_with (first | (go_at_call 76;(refine (ways_any s hs4 l HC.out i hi hl4 _ _ (HV.out.below (below_drewN hbel _))).mono ?_;rintro e w1 ⟨hb1,⟨ks,v',hwk,rfl,hown⟩ | ⟨⟨q,hfq,hno⟩,rfl⟩⟩ <;> (replace hb1:=after_drew hb1;have hbel1:=hbel.trans (hb1.mono hbel.size);have HB1:Hid (Blk w1 w.heap.size (arrH hs l.length) 3):=Blk.below HB.out hb1 HB.out.lt;have cx1:w1.cell? ⟨w.heap.size,i,none⟩=some (.int .i64 (hs i)):=(by rw[HB1.out.cell,arrH_get _ _ _ hi]);have co1:w1.cell? ⟨g,o+i * 4+1,none⟩=some (.int .i64 (nth l i).op):=(hb1.cell (p:=⟨g,o+i * 4+1,none⟩) (Nat.lt_of_lt_of_le hlt hbel.size)).trans co))) | (go_at_call 50;refine (lays_any _ _).mono ?_;rintro e w' ⟨rfl,rfl⟩))
       ·obtain ⟨a',c',rfl⟩:=(reads_of_own hown).shape
        have HW:Hid (WaysOk l i ks):=hwk
        have hgb:w.heap.size < wr.heap.size:=HB.out.lt
        have HKL:Hid (ks.length≤2):=hwk.short
        clear hwk
        obtain ⟨B,hBd⟩:∃ B,B=wr.heap.size:=⟨_,rfl⟩
        have hown':w'.ownsRow B 3 1 (.slice a' ks.length c') ks.length (cellsKv ks):=by rw[hBd];exact hown
        rw[← hBd] at hgb
        clear hown hBd
        go_loopw [8,13] (fun c vk wx=>∃ (m:Nat) (gs:Nat→Int) (b':Bool),m≤ks.length∧c=.bool b'∧vk=.int .i64 m∧Blk wx w.heap.size (arrH gs l.length) 3∧Below w.heap.size w wx∧wx.ownsRow B 3 1 (.slice a' ks.length c') ks.length (cellsKv ks)∧Known s l most gs∧Settled l most gs i∧gs i=hs i∧(∀ m',m' < m→gs (ks[m']?.getD 0)=afterH (nth l i) (hs i))∧(gk=2∨(gk=1∧b'=false∧Settled l most gs l.length))) (fun _ k _=>ks.length - (intOf k).toNat)
        case atStart=>exact ⟨0,hs,b,Nat.zero_le _,rfl,rfl,HB1.out,hbel1,hown',HKn.out,HSe.out,rfl,by intro m hm;omega,HMo.out⟩
        case round =>
         clear HB1 hbel1 hown' cx1 co1 hb1 HB HMo HSe HKn cx co hbel
         obtain ⟨m,gs,b',hml,rfl,rfl,hblk,hbel,hown,hkn,hse,hgi,hdone,hmode⟩:=hrel
         have HB:Hid (Blk wr w.heap.size (arrH gs l.length) 3):=hblk
         have HKn:Hid (Known s l most gs):=hkn
         have HSe:Hid (Settled l most gs i):=hse
         have HGI:Hid (gs i=hs i):=hgi
         have HDo:Hid (∀ m',m' < m→gs (ks[m']?.getD 0)=afterH (nth l i) (hs i)):=hdone
         have HMo:Hid (gk=2∨(gk=1∧b'=false∧Settled l most gs l.length)):=hmode
         have HO:Hid (wr.ownsRow B 3 1 (.slice a' ks.length c') ks.length (cellsKv ks)):=hown
         clear hblk hkn hse hgi hdone hmode hown
         have hkl2:=HKL.out
         by_cases hm:m < ks.length
         case neg =>
          go_wp2
          go_roundw
          case rel=>exact ⟨i+1,gs,b',by omega,rfl,by go_num,HB.out,hbel,HKn.out,Settled.more HSe.out (by rw[HGI.out];omega) (by rw[HGI.out];omega) HW.out (fun k hk=>by
           obtain ⟨m',hm',he⟩:=List.getElem_of_mem hk
           have:=HDo.out m' (by omega)
           rw[List.getElem?_eq_getElem hm',he] at this
           rw[HGI.out];exact this),HMo.out⟩
          case measure=>simp[intOf];omega
         obtain ⟨g',rfl,hBg,hcg⟩:=own_pos HO.out (by omega)
         obtain ⟨kk,hkk⟩:∃ kk,kk=ks[m]:=⟨_,rfl⟩
         have ck:wr.cell? ⟨g',m,none⟩=some (.int .i64 kk):=by rw[hkk];exact hcg _ _ (by simp[cellsKv,hm])
         have hkw:=HW.out.only kk (by rw[hkk];exact List.getElem_mem hm)
         have HKK:Hid (ks[m]?.getD 0=kk):=(by rw[hkk];simp[hm]:ks[m]?.getD 0=kk)
         have hkn':kk < l.length:=hkw.1
         have HFl:Hid (Flows (nth l i) (nth l kk).pos):=hkw.2
         have hgne:g'≠w.heap.size:=by omega
         have hgne':w.heap.size≠g':=by omega
         clear hkw hkk hcg
         have ch:wr.cell? ⟨w.heap.size,kk,none⟩=some (.int .i64 (gs kk)):=by rw[HB.out.cell,arrH_get _ _ _ hkn']
         have fh:wr.frozen? ⟨w.heap.size,kk,none⟩=false:=HB.out.free kk
         have HDs:Hid (∀ m',m' < m+1→m'≠m→gs (ks[m']?.getD 0)=afterH (nth l i) (hs i)):=fun m' h1 h2=>HDo.out m' (by omega)
         by_cases hgk:gs kk < 0
         ·have hg2:gk=2:=by
           rcases HMo.out with h | ⟨_,_,h⟩
           ·exact h
           ·have:=(h.same HC.out hi (by rw[HGI.out];omega) hkn' HFl.out).2
            omega
          have HP:Hid (Known s l most (upd gs kk (afterH (nth l i) (gs i)))∧(Settled l most gs i→Settled l most (upd gs kk (afterH (nth l i) (gs i))) i)∧i < kk):=HKn.out.put hi (by rw[HGI.out];omega) (by rw[HGI.out];omega) (by rw[HGI.out];omega) hkn' HFl.out hgk
          go_wp2
          go_roundw
          case rel =>
           refine ⟨m+1,upd gs kk (afterH (nth l i) (hs i)),true,by omega,rfl,by go_num, ?_,hbel.setCell (p:=⟨w.heap.size,kk,none⟩) (Nat.le_refl _) _,own_setCell HO.out ⟨w.heap.size,kk,none⟩ _ hgb, ?_, ?_, ?_, ?_,.inl hg2⟩
           ·have:=HB.out.set kk (.int .i64 (afterH (nth l i) (hs i)))
            rw[arrH_set] at this
            exact this
           ·have:=HP.out.1
            rw[HGI.out] at this
            exact this
           ·have:=HP.out.2.1 HSe.out
            rw[HGI.out] at this
            exact this
           ·have:=HP.out.2.2
            unfold upd
            rw[if_neg (by omega)]
            exact HGI.out
           ·intro m' hm'
            unfold upd
            by_cases h:m'=m
            ·subst h;rw[HKK.out,if_pos rfl]
            ·split
             ·rfl
             ·exact HDs.out m' hm' h
          case measure=>simp[intOf];omega
         ·by_cases hsame:gs kk=hs i - takesN (nth l i).op+laysN (nth l i).op
          ·have hsb:(gs kk==hs i - takesN (nth l i).op+laysN (nth l i).op)=true:=by simpa using hsame
           have HSm:Hid (gs kk=hs i - takesN (nth l i).op+laysN (nth l i).op):=hsame
           clear hsame
           go_wp2
           go_roundw
           case rel=>exact ⟨m+1,gs,b',by omega,rfl,by go_num,HB.out,hbel,HO.out,HKn.out,HSe.out,HGI.out,fun m' hm'=>by
            by_cases h:m'=m
            ·subst h;rw[HKK.out];exact HSm.out
            ·exact HDs.out m' hm' h,HMo.out⟩
           case measure=>simp[intOf];omega
          ·have hsb:(gs kk==hs i - takesN (nth l i).op+laysN (nth l i).op)=false:=by simpa using hsame
           have HSm:Hid (¬ gs kk=hs i - takesN (nth l i).op+laysN (nth l i).op):=hsame
           clear hsame
           go_wp2
           go_ret2
           exact ⟨hbel,.inr ⟨HKn.out.bad_two hi (by rw[HGI.out];omega) hkn' HFl.out (by omega) (by rw[HGI.out];exact HSm.out),rfl⟩⟩
       ·go_ret2
        exact ⟨hbel1,.inr ⟨HKn.out.bad_way hi hfq hno,rfl⟩⟩
end Go.Proofs.YtldfkcpbjooemaaGreatDoor
namespace Go.Proofs.YtldfkcpbjooemaaGreatDoor
open Go.RowKit
end Go.Proofs.YtldfkcpbjooemaaGreatDoor
namespace Go.Proofs.YtldfkcpbjooemaaGreatDoor
open Go.RowKit
def cellsZ (l:List Int):List Value:=l.map fun n=>.int .i64 n
section
variable {w w':World} {mb:Nat} {x:Itm} {y:Bn} {sv:Value} {st:List Int} {p:Nat} {en:Bool} {k v n:Int}
end
end Go.Proofs.YtldfkcpbjooemaaGreatDoor
namespace Go.Proofs.YtldfkcpbjooemaaGreatDoor
open Go.RowKit
end Go.Proofs.YtldfkcpbjooemaaGreatDoor
namespace Go.Proofs.YtldfkcpbjooemaaGreatDoor
open Go.RowKit
theorem join_le2 (c:Nat) (a b:Int):(joinN c a b).2≤2:=by
 have e:∀ v,(exact64 v).2≤2:=fun v=>by unfold exact64;split <;> simp
 unfold joinN
 (repeat' split) <;> first | exact e _ | simp
end Go.Proofs.YtldfkcpbjooemaaGreatDoor
namespace Go.Proofs.YtldfkcpbjooemaaGreatDoor
open Go.RowKit
section
variable {w0 w w':World} {B vb hb:Nat} {s:ByteArray} {H H':Nat→Int} {wg wg':Bool} {xb c:Nat} {a:Int} {nx:Nat}
end
end Go.Proofs.YtldfkcpbjooemaaGreatDoor
namespace Go.Proofs.YtldfkcpbjooemaaGreatDoor
open Go.RowKit
end Go.Proofs.YtldfkcpbjooemaaGreatDoor
namespace Go.Proofs.YtldfkcpbjooemaaGreatDoor
open Go.RowKit
end Go.Proofs.YtldfkcpbjooemaaGreatDoor
namespace Go.Proofs.YtldfkcpbjooemaaGreatDoor
open Go.RowKit
def resA (r:Nat × Int × Nat):Value:=.agg #[.int .i64 r.1,.int .i64 r.2.1,.int .i64 r.2.2]
end Go.Proofs.YtldfkcpbjooemaaGreatDoor
namespace Go.Proofs.YtldfkcpbjooemaaGreatDoor
open Go.RowKit Go.Deep
end Go.Proofs.YtldfkcpbjooemaaGreatDoor
namespace Go.Proofs.YtldfkcpbjooemaaGreatDoor
open Go.RowKit Go.Deep
end Go.Proofs.YtldfkcpbjooemaaGreatDoor
namespace Go.Proofs.YtldfkcpbjooemaaGreatDoor
open Go.RowKit Go.Deep
theorem sits_bsN2 (l:List Nat) (h:∀ b∈l,b < 256):Sits (bsN l) 0 l:=by
 intro i b hi
 have hlt:i < l.length:=(List.getElem?_eq_some_iff.1 hi).1
 have hb:b < 256:=h b (List.mem_of_getElem? hi)
 have hsz:i < (bsN l).size:=by rw[bsN_len];exact hlt
 refine ⟨by rw[Nat.zero_add];exact hsz, ?_⟩
 rw[Nat.zero_add,bt_get _ _ hsz]
 have e:(bsN l)[i]=UInt8.ofNat l[i]:=by
  show (bsN l).data[i]'(by rw[ByteArray.size] at hsz;exact hsz)=_
  simp[bsN]
 have hl:l[i]=b:=(List.getElem?_eq_some_iff.1 hi).2
 rw[e,hl]
 simp[UInt8.toNat_ofNat',Nat.mod_eq_of_lt hb]
end Go.Proofs.YtldfkcpbjooemaaGreatDoor
