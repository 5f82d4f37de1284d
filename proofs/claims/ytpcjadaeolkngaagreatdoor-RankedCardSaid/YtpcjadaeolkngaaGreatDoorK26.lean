/-
  The best places: with.
-/
import Derived.Test.YtpcjadaeolkngaaGreatDoorK25
import Derived.Deep.DeepCutAuto
import Derived.Test.YtpcjadaeolkngaaGreatDoorProg
import Derived.Test.YtpcjadaeolkngaaGreatDoorK07
import Derived.Test.YtpcjadaeolkngaaGreatDoorK04
import Derived.WalkLawsBesides
import Derived.Deep.QuietTactic
import Derived.BigQuiet
import Derived.Deep.Light
import Derived.Test.YtpcjadaeolkngaaGreatDoorK00
import Derived.Test.YtpcjadaeolkngaaGreatDoorK05
import Derived.Laws.BitsAllLaws
import Derived.Test.YtpcjadaeolkngaaGreatDoorK17
import Derived.Deep.LoopGhost
set_option linter.unusedVariables false
set_option linter.unusedSimpArgs false
namespace Go.Proofs.YtpcjadaeolkngaaGreatDoor
open Go.RowKit Go.Deep
structure VSt (w wr:World) (vl v:Value) (l acc:List Plc) (p:Plc):Prop where
 s:WSt w wr (w.heap.size+1) vl v l acc
 bx:Blk wr w.heap.size #[.int .i64 p.id,.int .i64 p.score] 89
theorem VSt.below {w wr w':World} {vl v:Value} {l acc:List Plc} {p:Plc} (h:VSt w wr vl v l acc p) (hb:Below wr.heap.size wr w'):VSt w w' vl v l acc p:=⟨h.s.below hb,h.bx.below hb h.bx.lt⟩
theorem VSt.dr {w wr:World} {vl v:Value} {l acc:List Plc} {p:Plc} (h:VSt w wr vl v l acc p):VSt w wr.drew vl v l acc p:=h.below (below_drewN (Below.refl _ wr) 1)
theorem VSt.snoc {w wr w2:World} {vl v v':Value} {l acc:List Plc} {p q:Plc} {o:Obj} (h:VSt w wr vl v l acc p) (hvl:∀ k,vl.ownBlock=some k→k < w.heap.size)
  (hown2:w2.ownsRow (w.heap.size+1) 89 2 v' (acc.length+1) (cellsQ acc++[.int .i64 q.id,.int .i64 q.score])) (hg:(wr.alloc o).grownBy w2 v.ownBlock):VSt w w2 vl v' l (acc++[q]) p:=by
 refine ⟨h.s.snoc hvl hown2 hg, ?_⟩
 have hne:v.ownBlock≠some w.heap.size:=fun e=>by have:=(h.s.own.lt _ e).1;omega
 have hb:=h.bx.alloc o
 have:=hg.block w.heap.size hb.lt (fun e=>hne e.symm)
 unfold Blk
 rw[this]
 exact hb
set_option maxHeartbeats 4000000 in
set_option maxRecDepth 100000 in
theorem rwith_any (l:List Plc) (hl:l.length≤1000) (p:Plc) (vl:Value) (w:World) (h:Reads w vl l.length (cellsQ l)) :
  Calls Tryz.prog 58 #[vl,plcA p] w fun e w'=>Below w.heap.size w w'∧∃ v',e=.returned v'∧w'.ownsRow w.heap.size 89 2 v' (withL l p).length (cellsQ (withL l p)):=by
 obtain ⟨i0,hi0,hz0,hz1,hz2⟩:=info_parts Tryz.infoPlc
 have HV:=Hid.mk2 (reads_own h)
 obtain ⟨a,c,rfl⟩:=h.shape
 have HM:Hid (VSt w ((w.alloc (.cells #[.int .i64 p.id,.int .i64 p.score] 89)).alloc (.cells #[] 89)) (.slice a l.length c) (.slice (some ⟨w.heap.size+1,0,none⟩) 0 0) l (l.take 0) p):=by
  have e:=own_nilQ (w.alloc (.cells #[.int .i64 p.id,.int .i64 p.score] 89)) (w.heap.size+1) (by simp)
  have e2:(w.alloc (.cells #[.int .i64 p.id,.int .i64 p.score] 89)).heap.size=w.heap.size+1:=by simp
  rw[e2] at e
  exact ⟨⟨e,(h.alloc _).alloc _,by omega,two_below w _ _⟩,(Blk.new w _ _).alloc _⟩
 clear h
 unfold plcA
 go_enter Tryz.func58,Tryz.ntmps58
 go_wp2
 go_loopw [5,6] (fun v vi wr=>∃ i:Nat,∃ hi:i≤l.length,vi=.int .i64 i∧(∀ j (hj:j < i),betterL (l[j]'(by omega)) p=true)∧VSt w wr (.slice a l.length c) v l (l.take i) p) (fun _ i _=>2000 - (intOf i).toNat)
 case atStart=>exact ⟨0,Nat.zero_le _,rfl,fun j hj=>by omega,HM.out⟩
 case round =>
  obtain ⟨i,hi,rfl,hbt,hm⟩:=hrel
  clear HM
  have HQ:=Hid.mk2 hm
  have HBT:=Hid.mk2 hbt
  have hws:=hm.s.bl.size
  have b0:=hm.bx.cell 0
  have b1:=hm.bx.cell 1
  have hbl:=hm.bx.lt
  simp only[List.getElem?_toArray,List.getElem?_cons_zero,List.getElem?_cons_succ] at b0 b1
  clear hbt
  go_upto_region 3 with fail
  go_cut [19] from 8 to 28 (fun s19 wx=>s19=.bool (decide (i < l.length)&&(if h:i < l.length then betterL l[i] p else false))∧VSt w wx (.slice a l.length c) u5 l (l.take i) p)
  case first =>
   by_cases hlt:i < l.length
   ·obtain ⟨g,o,cap,hcut,hcap,hg,d0,d1⟩:=plc_cells hm.s.rd hlt
    cases hcut
    have HEQ:Hid ((decide (i < l.length)&&(if h:i < l.length then betterL l[i] p else false))=betterL l[i] p):=by simp[Hid,hlt]
    obtain ⟨q,hq⟩:∃ q,l[i]=q:=⟨_,rfl⟩
    rw[hq] at d0 d1 HEQ
    have hd:decide ((i:Int) < (l.length:Int))=true:=decide_eq_true (by omega)
    clear hm hq
    go_region_with (go_at_call 96;refine (better_any q p _).mono ?_;rintro e w3 ⟨rfl,hb3⟩;replace HQ:=Hid.mk2 (by first | with_reducible exact HQ.out.below hb3 | with_reducible exact HQ.out.dr.below hb3);clear hb3)
    all_goals
     go_wp2_with fail
     go_meet
     case rel=>exact ⟨by rw[HEQ.out],HQ.out⟩
   ·have HEQ:Hid ((decide (i < l.length)&&(if h:i < l.length then betterL l[i] p else false))=false):=by simp[Hid,hlt]
    have hd:decide ((i:Int) < (l.length:Int))=false:=decide_eq_false (by omega)
    clear hm
    go_region
    all_goals
     go_wp2_with fail
     go_meet
     case rel=>exact ⟨by rw[HEQ.out],HQ.out.dr⟩
  case rest =>
   obtain ⟨rfl,hm2⟩:=hcut
   clear HQ b0 b1 hbl hws hm
   have HQ:=Hid.mk2 hm2
   have hws:=hm2.s.bl.size
   have b0:=hm2.bx.cell 0
   have b1:=hm2.bx.cell 1
   have hbl:=hm2.bx.lt
   simp only[List.getElem?_toArray,List.getElem?_cons_zero,List.getElem?_cons_succ] at b0 b1
   by_cases hb:(decide (i < l.length)&&(if h:i < l.length then betterL l[i] p else false))=true
   ·have hlt:i < l.length:=by
     simp only[Bool.and_eq_true,decide_eq_true_eq] at hb
     exact hb.1
    have hbi:betterL l[i] p=true:=by rw[decide_eq_true hlt,Bool.true_and,dif_pos hlt] at hb;exact hb
    rw[hb]
    obtain ⟨g,o,cap,hcut,hcap,hg,d0,d1⟩:=plc_cells hm2.s.rd hlt
    cases hcut
    have HTK:Hid (l.take (i+1)=l.take i++[l[i]]):=List.take_succ_eq_append_getElem hlt
    have HB2:Hid (∀ j (hj:j < i+1),betterL (l[j]'(by omega)) p=true):=fun j hj=>by
     by_cases hji:j < i
     ·exact HBT.out j hji
     ·have:j=i:=by omega
      subst this
      exact hbi
    obtain ⟨q,hq⟩:∃ q,l[i]=q:=⟨_,rfl⟩
    rw[hq] at d0 d1 HTK
    have hll:(l.take i).length≤1000:=by simp;omega
    clear hm2 hq hb hbi
    go_wp2_with (at_builtin;refine wpList_append_own _ rfl (.tmp 20) (.tmp 25) 49 rfl (w.heap.size+1) 89 i0 (.agg #[.int .i64 0,.int .i64 0]) 2 16 Tryz.underlying49 hi0 hz0 hz1 hz2 rfl (by decide) _ _ _ rfl (HQ.out.s.own.alloc _) ⟨wc.heap.size,0,none⟩ 1 1 [.int .i64 q.id,.int .i64 q.score] rfl rfl (cell_two_at _ _ _ _ _ rfl) (one_plc q) (by unfold maxLen;omega) (by omega) (by simp;omega) ?_;intro v' w4 hown2 hgrow2 _;have HQ2:=Hid.mk2 (HQ.out.snoc (q:=q) HV.out hown2 hgrow2);clear hown2 hgrow2)
    go_roundw
    case rel=>exact ⟨i+1,by omega,by go_num,HB2.out,by rw[HTK.out];exact HQ2.out⟩
    case measure=>simp[intOf];omega
   ·have hbf:(decide (i < l.length)&&(if h:i < l.length then betterL l[i] p else false))=false:=Bool.eq_false_iff.2 hb
    rw[hbf]
    have hno:∀ h:i < l.length,betterL l[i] p=false:=fun h=>by rw[decide_eq_true h,Bool.true_and,dif_pos h] at hbf;exact hbf
    obtain ⟨et,ed⟩:=take_while_at (p:=fun a=>betterL a p) l i hi HBT.out hno
    have HW:Hid (withL l p=(l.take i++[p])++l.drop i):=by rw[Hid,withL,et,ed];simp
    have hll:(l.take i).length≤1000:=by simp;omega
    clear hm2 hb hbf hno et ed HBT
    go_wp2_with (at_builtin;refine wpList_append_own _ rfl (.tmp 29) (.tmp 31) 49 rfl (w.heap.size+1) 89 i0 (.agg #[.int .i64 0,.int .i64 0]) 2 16 Tryz.underlying49 hi0 hz0 hz1 hz2 rfl (by decide) _ _ _ rfl (HQ.out.s.own.alloc _) ⟨wc.heap.size,0,none⟩ 1 1 [.int .i64 p.id,.int .i64 p.score] rfl rfl (cell_two_at _ _ _ _ _ rfl) (one_plc p) (by unfold maxLen;omega) (by omega) (by simp;omega) ?_;intro v' w4 hown2 hgrow2 _;have HQ2:=Hid.mk2 (HQ.out.snoc (q:=p) HV.out hown2 hgrow2);clear hown2 hgrow2)
    go_loopw [5,6] (fun v vi wr=>∃ m:Nat,i≤m∧m≤l.length∧vi=.int .i64 m∧VSt w wr (.slice a l.length c) v l (l.take i++[p]++(l.drop i).take (m - i)) p) (fun _ i _=>2000 - (intOf i).toNat)
    case atStart=>exact ⟨i,Nat.le_refl _,hi,rfl,by rw[Nat.sub_self,List.take_zero,List.append_nil];exact HQ2.out⟩
    case round =>
     obtain ⟨m,him,hml,rfl,hm⟩:=hrel
     clear HQ HQ2 b0 b1 hbl hws
     have HQ:=Hid.mk2 hm
     have hws:=hm.s.bl.size
     by_cases hlt:m < l.length
     ·obtain ⟨g,o,cap,hcut,hcap,hg,d0,d1⟩:=plc_cells hm.s.rd hlt
      cases hcut
      have HTK:Hid (l.take i++[p]++(l.drop i).take (m+1 - i)=(l.take i++[p]++(l.drop i).take (m - i))++[l[m]]):=by
       have hd:m - i < (l.drop i).length:=by simp;omega
       rw[Hid,show m+1 - i=(m - i)+1 by omega,List.take_succ_eq_append_getElem hd]
       simp[show i+(m - i)=m by omega]
      obtain ⟨q,hq⟩:∃ q,l[m]=q:=⟨_,rfl⟩
      rw[hq] at d0 d1 HTK
      have hll2:(l.take i++[p]++(l.drop i).take (m - i)).length≤2001:=by simp;omega
      obtain ⟨acc,hacc⟩:∃ acc,l.take i++[p]++(l.drop i).take (m - i)=acc:=⟨_,rfl⟩
      rw[hacc] at HTK HQ hll2
      clear hm hq hacc
      go_wp2_with (at_builtin;refine wpList_append_own _ rfl (.tmp 37) (.tmp 42) 49 rfl (w.heap.size+1) 89 i0 (.agg #[.int .i64 0,.int .i64 0]) 2 16 Tryz.underlying49 hi0 hz0 hz1 hz2 rfl (by decide) _ _ _ rfl (HQ.out.s.own.alloc _) ⟨wr.heap.size,0,none⟩ 1 1 [.int .i64 q.id,.int .i64 q.score] rfl rfl (cell_two_at _ _ _ _ _ rfl) (one_plc q) (by unfold maxLen;omega) (by omega) (by simp;omega) ?_;intro v' w5 hown2 hgrow2 _;have HQ3:=Hid.mk2 (HQ.out.snoc (q:=q) HV.out hown2 hgrow2);clear hown2 hgrow2)
      go_roundw
      case rel=>exact ⟨m+1,by omega,by omega,by go_num,by rw[HTK.out];exact HQ3.out⟩
      case measure=>simp[intOf];omega
     ·have hml':m=l.length:=by omega
      have HFI:Hid (withL l p=l.take i++[p]++(l.drop i).take (m - i)):=by rw[Hid,HW.out,List.take_of_length_le (l:=l.drop i) (by simp;omega)]
      clear hm
      go_wp2
      go_ret
      exact ⟨HQ.out.s.bl,_,rfl,by rw[HFI.out];exact own_low HQ.out.s.own (by omega)⟩
end Go.Proofs.YtpcjadaeolkngaaGreatDoor
namespace Go.Proofs.YtpcjadaeolkngaaGreatDoor
open Go.RowKit
theorem lowU_step (s:ByteArray) (p j n:Nat) (hj:0 < j) (hn:j≤n):lowU s (p+(j - 1)) (n - (j - 1))=bt s (p+(j - 1))+256 * lowU s (p+j) (n - j):=by
 have e:n - (j - 1)=(n - j)+1:=by omega
 rw[e]
 simp only[lowU]
 rw[show p+(j - 1)+1=p+j by omega]
end Go.Proofs.YtpcjadaeolkngaaGreatDoor
namespace Go.Proofs.YtpcjadaeolkngaaGreatDoor
open Go.RowKit
structure GlobP (w:World):Prop where
 bytes:∀ c,c < 18→w.cell? ⟨0,c,none⟩=some (.int .i64 (behindN c))
 takes:∀ c,c < 18→w.cell? ⟨1,c,none⟩=some (.int .i64 (takesN c))
 lays:∀ c,c < 18→w.cell? ⟨2,c,none⟩=some (.int .i64 (laysN c))
 size:0 < w.heap.size∧1 < w.heap.size∧2 < w.heap.size
theorem GlobP.below {w w':World} (h:GlobP w) (hb:Below w.heap.size w w'):GlobP w' :=
 ⟨fun c hc=>(hb.cell (p:=⟨0,c,none⟩) h.size.1).trans (h.bytes c hc),fun c hc=>(hb.cell (p:=⟨1,c,none⟩) h.size.2.1).trans (h.takes c hc),fun c hc=>(hb.cell (p:=⟨2,c,none⟩) h.size.2.2).trans (h.lays c hc),⟨Nat.lt_of_lt_of_le h.size.1 hb.size,Nat.lt_of_lt_of_le h.size.2.1 hb.size,Nat.lt_of_lt_of_le h.size.2.2 hb.size⟩⟩
structure GlobY (w:World):Prop where
 bytes:∀ c,c < 18→w.cell? ⟨0,c,none⟩=some (.int .i64 (behindN c))
 size:0 < w.heap.size
theorem GlobY.below {w w':World} (h:GlobY w) (hb:Below w.heap.size w w'):GlobY w' :=
 ⟨fun c hc=>(hb.cell (p:=⟨0,c,none⟩) h.size).trans (h.bytes c hc),Nat.lt_of_lt_of_le h.size hb.size⟩
theorem GlobP.y {w:World} (h:GlobP w):GlobY w:=⟨h.bytes,h.size.1⟩
def headB (s:ByteArray):Bool:=decide (4≤s.size)&&decide (s.size≤4000)&&decide (bt s 0=83)&&decide (bt s 1=76)
theorem headB_iff (s:ByteArray):headB s=true ↔ HeadOk s:=by
 unfold headB HeadOk
 simp only[Bool.and_eq_true,decide_eq_true_eq,and_assoc]
theorem headB_false {s:ByteArray} (h:¬ HeadOk s):headB s=false:=by
 cases hb:headB s
 ·rfl
 ·exact absurd ((headB_iff s).1 hb) h
set_option maxHeartbeats 400000 in
theorem hasHead_any (s:ByteArray) (w:World) :
  Calls Tryz.prog 50 #[.string s] w fun e w'=>e=.returned (.bool (headB s))∧w'=w:=by
 by_cases h1:s.size≤3
 ·go_enter Tryz.func50,Tryz.ntmps50
  go_wp2
  go_ret
  exact ⟨ret_bool (by symm;apply headB_false;intro h;have:=h.1;omega),rfl⟩
 by_cases h2:4000 < s.size
 ·go_enter Tryz.func50,Tryz.ntmps50
  go_wp2
  go_ret
  exact ⟨ret_bool (by symm;apply headB_false;intro h;have:=h.2.1;omega),rfl⟩
 have hi0:=fun wx=>run_index_nat (P:=Tryz.prog) wx 9 s .i64 0 0 Tryz.underlying9 rfl (by omega)
 have hi1:=fun wx=>run_index_nat (P:=Tryz.prog) wx 9 s .i64 1 1 Tryz.underlying9 rfl (by omega)
 have HB0:Hid (bt s 0=s[0].toNat):=bt_get s 0 (by omega)
 have HB1:Hid (bt s 1=s[1].toNat):=bt_get s 1 (by omega)
 obtain ⟨c0,hc0⟩:∃ c,c=(s[0]'(by omega)).toNat:=⟨_,rfl⟩
 obtain ⟨c1,hc1⟩:∃ c,c=(s[1]'(by omega)).toNat:=⟨_,rfl⟩
 rw[← hc0] at hi0 HB0
 rw[← hc1] at hi1 HB1
 clear hc0 hc1
 have HD:Hid (headB s=(((c0:Int)==83)&&((c1:Int)==76))):=(by
  rw[Bool.eq_iff_iff,headB_iff]
  unfold HeadOk
  rw[HB0.out,HB1.out]
  simp
  omega:headB s=(((c0:Int)==83)&&((c1:Int)==76)))
 cases h3:((c0:Int)==83)
 all_goals
  go_enter Tryz.func50,Tryz.ntmps50
  go_wp2
  go_ret
  exact ⟨ret_bool (by rw[HD.out];simp[h3]),rfl⟩
theorem bt_ext (s:ByteArray) (a b i:Nat) (h:i < (s.extract a b).size):bt (s.extract a b) i=bt s (a+i):=by
 have h2:a+i < s.size:=by rw[ByteArray.size_extract] at h;omega
 rw[bt_get _ _ h,bt_get _ _ h2]
 congr 1
 have h3:=getElem_toList (s.extract a b) i h
 have h4:=getElem_toList s (a+i) h2
 have e:(s.extract a b).toList=(s.toList.drop a).take (b - a):=by rw[extract_bsOf,bsOf_toList]
 rw[ByteArray.size_extract] at h
 rw[e,List.getElem?_take,if_pos (by omega),List.getElem?_drop,h4] at h3
 exact (Option.some.inj h3).symm
theorem lowU_ext (s:ByteArray) (a b:Nat):∀ (n k:Nat),k+n≤(s.extract a b).size→lowU (s.extract a b) k n=lowU s (a+k) n
 | 0,_,_=>rfl
 | n+1,k,h=>by
  simp only[lowU]
  rw[bt_ext s a b k (by omega),lowU_ext s a b n (k+1) (by omega),Nat.add_assoc]
theorem lowU_lt (s:ByteArray):∀ (n k:Nat),lowU s k n < 256 ^ n
 | 0,_=>by simp[lowU]
 | n+1,k=>by
  have h1:=lowU_lt s n (k+1)
  have h2:=bt_lt s k
  simp only[lowU,Nat.pow_succ]
  omega
theorem or_low (L b:Nat) (hL:L < 72057594037927936) (hb:b < 256):bits .or .u64 (IntKind.u64.wrap ((L:Int) * 256)) (IntKind.u64.wrap (b:Nat))=((b+256 * L:Nat):Int):=by
 rw[IntWalk.u64_in _ ⟨by omega,by omega⟩,IntWalk.u64_in _ ⟨by omega,by omega⟩]
 have e:(L:Int) * 256=((L * 256:Nat):Int):=by omega
 rw[e,u64_or_nat _ _ (by omega) (by omega)]
 have h:=Nat.shiftLeft_add_eq_or_of_lt (i:=8) (b:=b) (by omega) L
 rw[Nat.shiftLeft_eq] at h
 rw[← h]
 omega
set_option maxHeartbeats 1000000 in
theorem lowestFirst_any (t:ByteArray) (ht:t.size≤8) (w:World) :
  Calls Tryz.prog 86 #[.string t] w fun e w'=>e=.returned (.int .i64 (IntKind.i64.wrap (lowU t 0 t.size:Nat)))∧w'=w:=by
 go_enter Tryz.func86,Tryz.ntmps86
 go_wp2
 go_loop [3,4] (fun v i=>∃ j:Nat,j≤t.size∧i=.int .i64 ((j:Int) - 1)∧v=.int .u64 (lowU t j (t.size - j):Nat)) (fun _ i=>(intOf i+1).toNat)
 case atStart=>exact ⟨t.size,Nat.le_refl _,by go_num,by simp[lowU]⟩
 case round =>
  obtain ⟨j,hj,rfl,rfl⟩:=hrel
  by_cases h0:0 < j
  ·have hb:j - 1 < t.size:=by omega
   have hbt:(t[j - 1]'hb).toNat=bt t (j - 1):=(bt_get t _ hb).symm
   have hix:=fun wx=>run_index_nat (P:=Tryz.prog) wx 9 t .i64 ((j:Int) - 1) (j - 1) Tryz.underlying9 (by omega) hb
   go_wp2
   go_round
   case rel=>exact ⟨j - 1,by omega,by go_num,by
     have hL:=lowU_lt t (t.size - j) j
     have h7:256 ^ (t.size - j)≤256 ^ 7:=Nat.pow_le_pow_right (by omega) (by omega)
     have e:=lowU_step t 0 j t.size h0 hj
     simp only[Nat.zero_add] at e
     rw[e,or_low _ _ (by omega) (bt_lt t (j - 1))]⟩
   case measure=>simp[intOf];omega
  ·go_wp2
   go_ret
   have:j=0:=by omega
   subst this
   exact ⟨ret_int (by rw[IntWalk.i64_left];simp),rfl⟩
end Go.Proofs.YtpcjadaeolkngaaGreatDoor
namespace Go.Proofs.YtpcjadaeolkngaaGreatDoor
open Go.RowKit
def opV (o:Ins):Value:=.agg #[.int .i64 o.op,.int .i64 o.arg,.int .i64 o.next]
def noV:Value:=.agg #[.int .i64 0,.int .i64 0,.int .i64 0]
set_option maxHeartbeats 1000000 in
set_option maxRecDepth 10000 in
theorem At_any (s:ByteArray) (hs:s.size≤4000) (p:Nat) (hp:p≤100000) (w:World) (hg:GlobY w) :
  Calls Tryz.prog 55 #[.string s,.int .i64 p] w fun e w'=>Below w.heap.size w w' ∧
   ((OpOkI s p∧e=.returned (.tuple #[opV (mkIns s p),.bool true]))∨(¬ OpOkI s p∧e=.returned (.tuple #[noV,.bool false]))):=by
 have HG:Hid (GlobY w):=hg
 clear hg
 by_cases hlt:p < s.size
 case neg =>
  go_enter Tryz.func55,Tryz.ntmps55
  go_wp2
  refine bodyPost_ret (v:=.tuple #[noV,.bool false]) (by simp[results,Tryz.results55,go_sem,noV]) rfl ?_
  exact ⟨box3 _ _,.inr ⟨fun h=>hlt h.1,rfl⟩⟩
 have HB:Hid (bt s p=s[p].toNat):=bt_get s p hlt
 obtain ⟨c,hc⟩:∃ c,c=s[p].toNat:=⟨_,rfl⟩
 have hc256:c < 256:=by rw[hc];exact UInt8.toNat_lt _
 obtain ⟨n,hn⟩:∃ n,n=behindN c:=⟨_,rfl⟩
 have hn8:n≤8:=by rw[hn];unfold behindN;(repeat' split) <;> omega
 have hm:mkIns s p=⟨p,c,IntKind.i64.wrap (lowU s (p+1) n:Nat),p+1+n⟩:=by simp only[mkIns,HB.out,← hc,← hn]
 obtain ⟨a,ha⟩:∃ a,a=IntKind.i64.wrap (lowU s (p+1) n:Nat):=⟨_,rfl⟩
 have ha1:c=1→a=bt s (p+1):=by
  intro h
  have h1:n=1:=by rw[hn,h];rfl
  rw[ha,h1,lowU_one]
  exact wrap_small _ (by have:=bt_lt s (p+1);omega)
 rw[← ha] at hm
 have hopk:OpOkI s p ↔ c≤17∧p+1+n≤s.size∧(c=1→a≤6):=by
  unfold OpOkI
  rw[HB.out,← hc,← hn]
  constructor
  ·rintro ⟨_,h1,h2,h3⟩
   exact ⟨h1,h2,fun h=>by rw[ha1 h];have:=h3 h;omega⟩
  ·rintro ⟨h1,h2,h3⟩
   exact ⟨hlt,h1,h2,fun h=>by have:=h3 h;rw[ha1 h] at this;omega⟩
 have HO:Hid (OpOkI s p ↔ c≤17∧p+1+n≤s.size∧(c=1→a≤6)):=hopk
 have HM:Hid (mkIns s p=⟨p,c,a,p+1+n⟩):=hm
 have HA:Hid (IntKind.i64.wrap (lowU s (p+1) n:Nat)=a):=ha.symm
 have HN:Hid (behindN c=n):=hn.symm
 have hix:=fun wx=>run_index_nat (P:=Tryz.prog) wx 9 s .i64 (p:Int) p Tryz.underlying9 rfl hlt
 rw[← hc] at hix
 clear hopk hm ha hn ha1 HB hc
 by_cases h17:c≤17
 case neg =>
  go_enter Tryz.func55,Tryz.ntmps55
  go_wp2
  refine bodyPost_ret (v:=.tuple #[noV,.bool false]) (by simp[results,Tryz.results55,go_sem,noV]) rfl ?_
  exact ⟨box3 _ _,.inr ⟨fun h=>h17 (HO.out.1 h).1,rfl⟩⟩
 have ct:w.cell? ⟨0,c,none⟩=some (.int .i64 n):=by rw[HG.out.bytes c (by omega),HN.out]
 have hb0:0 < w.heap.size:=HG.out.size
 by_cases hfit:p+1+n≤s.size
 case neg =>
  go_enter Tryz.func55,Tryz.ntmps55
  go_wp2
  refine bodyPost_ret (v:=.tuple #[noV,.bool false]) (by simp[results,Tryz.results55,go_sem,noV]) rfl ?_
  exact ⟨box3 _ _,.inr ⟨fun h=>hfit (HO.out.1 h).2.1,rfl⟩⟩
 have hsz:(s.extract (p+1) s.size).size=s.size - (p+1):=by rw[ByteArray.size_extract];omega
 have hszn:((s.extract (p+1) s.size).extract 0 n).size=n:=by rw[ByteArray.size_extract,hsz];omega
 have HL:Hid (IntKind.i64.wrap (lowU ((s.extract (p+1) s.size).extract 0 n) 0 ((s.extract (p+1) s.size).extract 0 n).size:Nat)=a):=(by
  rw[hszn,lowU_ext _ 0 n n 0 (by rw[hszn];omega),lowU_ext s (p+1) s.size n _ (by rw[hsz];omega)]
  exact HA.out:_=a)
 have hz8:Hid (((s.extract (p+1) s.size).extract 0 n).size≤8):=(by rw[hszn];exact hn8:_≤8)
 clear hsz hszn
 by_cases hatt:c=1∧6 < a
 ·obtain ⟨h1,h6⟩:=hatt
  have HX:Hid (c=1):=h1
  have hcb:((c:Int)==1)=true:=by simp;omega
  clear h1
  go_enter Tryz.func55,Tryz.ntmps55
  go_wp2_with (go_at_call 86;refine (lowestFirst_any _ hz8.out _).mono ?_;rintro e w' ⟨rfl,rfl⟩;rw[HL.out])
  refine bodyPost_ret (v:=.tuple #[noV,.bool false]) (by simp[results,Tryz.results55,go_sem,noV]) rfl ?_
  exact ⟨box3 _ _,.inr ⟨fun h=>by have:=(HO.out.1 h).2.2 HX.out;omega,rfl⟩⟩
 have HK:Hid (OpOkI s p):=HO.out.2 ⟨h17,hfit,fun h=>by
  by_cases h6:6 < a
  ·exact absurd ⟨h,h6⟩ hatt
  ·omega⟩
 have hcase:((c:Int)==1)=false∨(((c:Int)==1)=true∧¬ 6 < a):=by
  by_cases h:c=1
  ·exact .inr ⟨by simp;omega,fun h6=>hatt ⟨h,h6⟩⟩
  ·exact .inl (by simp;omega)
 clear hatt
 rcases hcase with hc1 | ⟨hc1,hc6⟩
 all_goals
  go_enter Tryz.func55,Tryz.ntmps55
  go_wp2_with (go_at_call 86;refine (lowestFirst_any _ hz8.out _).mono ?_;rintro e w' ⟨rfl,rfl⟩;rw[HL.out])
  refine bodyPost_ret (v:=.tuple #[.agg #[.int .i64 c,.int .i64 a,.int .i64 ((p:Int)+1+n)],.bool true]) (by simp[results,Tryz.results55,go_sem]) rfl ?_
  exact ⟨box3 _ _,.inl ⟨HK.out,by rw[HM.out];rfl⟩⟩
set_option maxHeartbeats 1000000 in
theorem Takes_any (o:Ins) (ho:o.op≤17) (w:World) (hg:GlobP w) :
  Calls Tryz.prog 80 #[opV o] w fun e w'=>e=.returned (.int .i64 (takesN o.op))∧Below w.heap.size w w':=by
 have ct:=hg.takes o.op (by omega)
 have hb:=hg.size.2.1
 clear hg
 unfold opV
 go_enter Tryz.func80,Tryz.ntmps80
 go_wp2
 go_ret
 exact ⟨rfl,box3 _ _⟩
set_option maxHeartbeats 1000000 in
theorem Lays_any (o:Ins) (ho:o.op≤17) (w:World) (hg:GlobP w) :
  Calls Tryz.prog 83 #[opV o] w fun e w'=>e=.returned (.int .i64 (laysN o.op))∧Below w.heap.size w w':=by
 have ct:=hg.lays o.op (by omega)
 have hb:=hg.size.2.2
 clear hg
 unfold opV
 go_enter Tryz.func83,Tryz.ntmps83
 go_wp2
 go_ret
 exact ⟨rfl,box3 _ _⟩
set_option maxHeartbeats 1000000 in
theorem Ends_any (o:Ins) (w:World) :
  Calls Tryz.prog 82 #[opV o] w fun e w'=>e=.returned (.bool (((o.op:Int)==16)||((o.op:Int)==17)))∧Below w.heap.size w w':=by
 unfold opV
 cases h:((o.op:Int)==16)
 all_goals
  go_enter Tryz.func82,Tryz.ntmps82
  go_wp2
  go_ret
  exact ⟨ret_bool (by simp[h]),box3 _ _⟩
set_option maxHeartbeats 1000000 in
theorem Jumps_any (o:Ins) (w:World) :
  Calls Tryz.prog 84 #[opV o] w fun e w'=>e=.returned (.bool ((((o.op:Int)==13)||((o.op:Int)==14))||((o.op:Int)==15)))∧Below w.heap.size w w':=by
 unfold opV
 cases h:((o.op:Int)==13) <;> cases h2:((o.op:Int)==14)
 all_goals
  go_enter Tryz.func84,Tryz.ntmps84
  go_wp2
  go_ret
  exact ⟨ret_bool (by simp[h,h2]),box3 _ _⟩
set_option maxHeartbeats 1000000 in
theorem Target_any (o:Ins) (h1:0≤o.arg) (h2:o.arg≤65535) (h3:o.next≤100000) (w:World) :
  Calls Tryz.prog 85 #[opV o] w fun e w'=>e=.returned (.int .i64 ((o.next:Int)+o.arg))∧Below w.heap.size w w':=by
 unfold opV
 go_enter Tryz.func85,Tryz.ntmps85
 go_wp2
 go_ret
 exact ⟨rfl,box3 _ _⟩
end Go.Proofs.YtpcjadaeolkngaaGreatDoor
namespace Go.Proofs.YtpcjadaeolkngaaGreatDoor
open Go.RowKit
end Go.Proofs.YtpcjadaeolkngaaGreatDoor
namespace Go.Proofs.YtpcjadaeolkngaaGreatDoor
open Go.RowKit
theorem Tryz.infoInt:(Tryz.prog.info? 3).map (fun i=>(i.zero,i.size,i.bytes))=some (some (.int .i64 0),1,8):=by kernel_rfl
end Go.Proofs.YtpcjadaeolkngaaGreatDoor
namespace Go.Proofs.YtpcjadaeolkngaaGreatDoor
open Go.RowKit
def arrH (hs:Nat→Int) (n:Nat):Array Value:=((List.range n).map fun q=>Value.int .i64 (hs q)).toArray
theorem arrH_get (hs:Nat→Int) (n i:Nat) (h:i < n):(arrH hs n)[i]?=some (.int .i64 (hs i)):=by simp[arrH,h]
theorem arrH_set (hs:Nat→Int) (n k:Nat) (v:Int):(arrH hs n).setIfInBounds k (.int .i64 v)=arrH (upd hs k v) n:=by
 apply Array.ext
 ·simp[arrH]
 ·intro i h1 h2
  have hi:i < n:=by simpa[arrH] using h2
  rw[Array.getElem_setIfInBounds (by simpa[arrH] using hi)]
  simp only[arrH,upd,List.getElem_toArray,List.getElem_map,List.getElem_range]
  by_cases h:k=i
  ·subst h;simp
  ·simp[h,Ne.symm h]
theorem arrH_congr {hs gs:Nat→Int} {n:Nat} (h:∀ i,i < n→hs i=gs i):arrH hs n=arrH gs n:=by
 unfold arrH
 congr 1
 exact List.map_congr_left fun q hq=>by rw[h q (by simpa using hq)]
theorem made_zero (n:Nat):madeCells (Value.int .i64 0).cells (n * 1)=arrH (fun _=>0) n:=by
 apply Array.ext
 ·simp[arrH,madeCells]
 ·intro i h1 h2
  have e:(Value.int .i64 0).cells=#[Value.int .i64 0]:=rfl
  simp[e,arrH,madeCells,Nat.mod_one]
theorem run_make_ints {P:Program} (w:World) (t e:TypeId) (i:TypeInfo) (ht:P.underlying t=some (.slice e)) (hi:P.info? e=some i) (hz:i.zero=some (.int .i64 0)) (hs:i.size=1) (hb:i.bytes=8) (n:Nat) (hn:n≤4000) :
  (Instr.makeSlice t (.int .i64 n) (.int .i64 n)).run P w=.ok (.slice (some ⟨w.heap.size,0,none⟩) n n) (w.alloc (.cells (arrH (fun _=>0) n) e)):=by
 have:=run_make (P:=P) w t e i _ ht hi hz .i64 .i64 n n (by omega) (by omega) (by rw[hb];omega) (by omega)
 rw[this,hs,Int.toNat_natCast,made_zero]
theorem own_setCell {w:World} {base:Nat} {e:TypeId} {size:Nat} {v:Value} {n:Nat} {xs:List Value} (h:w.ownsRow base e size v n xs) (p:Addr) (x:Value) (hp:p.block < base):(w.setCell p x).ownsRow base e size v n xs:=by
 refine ⟨h.1, ?_⟩
 rcases h.2 with hn | ⟨g,cap,cur,rfl,hbg,hg,r⟩
 ·exact .inl hn
 ·exact .inr ⟨g,cap,cur,rfl,hbg,by rw[Below.heap_setCell _ _ _ _ (by omega)];exact hg,r⟩
end Go.Proofs.YtpcjadaeolkngaaGreatDoor
