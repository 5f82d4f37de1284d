/-
  A policy with which nothing is wrong, as it is read.
-/
import Derived.Test.YtpcjadaeolkngaaGreatDoorJ17
import Derived.Test.YtpcjadaeolkngaaGreatDoorJ05
import Derived.Test.YtpcjadaeolkngaaGreatDoorJ06
import Derived.Test.YtpcjadaeolkngaaGreatDoorProg
import Derived.Deep.Light
import Derived.Test.YtpcjadaeolkngaaGreatDoorJ07
import Derived.Laws.BytesString
import Derived.Laws.Cells
import Derived.BigQuiet
import Derived.Deep.RegionHeld3
import Derived.Deep.RegionWith
import Derived.Test.YtpcjadaeolkngaaGreatDoorJ14
set_option linter.unusedVariables false
set_option linter.unusedSimpArgs false
namespace Go.Proofs.YtpcjadaeolkngaaGreatDoor
open Go.RowKit
theorem Read_pol(s:ByteArray)(w:World)(hg:GlobT w)(hz:s.size≤maxLen){l:List RTok}(h:tokened s.toList=.fine l) :
  Calls Tryz.prog 22 #[.string s] w fun e w'=>Below w.heap.size w w'∧∃ L R na nc la lc ra rc,PolicyOf s.toList L R∧e=.returned (.tuple #[.agg #[.slice na (nodesS 0 (L++R)).length nc,.slice la (letsS 0 (L++R)).length lc,.slice ra (rulesS 0 (L++R)).length rc],.int .i64 0,.int .i64 0])∧PolMem w' w.heap.size (.slice na (nodesS 0 (L++R)).length nc) (.slice la (letsS 0 (L++R)).length lc) (.slice ra (rulesS 0 (L++R)).length rc) L R:=by
 refine (Read_any s w hg hz).mono ?_
 rintro e w' ⟨hb,⟨c',p',ht,hc,rfl⟩ | ⟨L,R,nv,lv,rv,hp,rfl,hm⟩⟩
 ·rw[h]at ht;cases ht
 ·have hpa:=PolAt.of hm hp
  obtain ⟨na,nc,rfl⟩:=hpa.n.shape
  obtain ⟨la,lc,rfl⟩:=hpa.l.shape
  obtain ⟨ra,rc,rfl⟩:=hpa.r.shape
  exact ⟨hb,L,R,na,nc,la,lc,ra,rc,hp,rfl,hm⟩
theorem PolMem.set{w:World}{base:Nat}{nv lv rv:Value}{L R:List RSt}(h:PolMem w base nv lv rv L R)(b i:Nat)(hb:b<base)(v:Value):PolMem (w.setCell ⟨b,i,none⟩ v) base nv lv rv L R :=
 ⟨ownsRow_setCell_below h.ond (a:=⟨b,i,none⟩) hb v,ownsRow_setCell_below h.olt (a:=⟨b,i,none⟩) hb v,ownsRow_setCell_below h.orl (a:=⟨b,i,none⟩) hb v⟩
set_option maxHeartbeats 2000000 in
set_option maxRecDepth 100000 in
theorem readSound_fine(s:ByteArray)(w:World)(hg:GlobT w)(hz:s.size≤maxLen){l:List RTok}(htk:tokened s.toList=.fine l)(herr:∀ L R,PolicyOf s.toList L R→errsOf (nodesS 0 (L++R)) (letsS 0 (L++R)) (rulesS 0 (L++R))=(0,0)) :
  Calls Tryz.prog 24 #[.string s] w fun e w'=>Below w.heap.size w w'∧∃ L R na nc la lc ra rc,PolicyOf s.toList L R∧e=.returned (.tuple #[.agg #[.slice na (nodesS 0 (L++R)).length nc,.slice la (letsS 0 (L++R)).length lc,.slice ra (rulesS 0 (L++R)).length rc],.int .i64 0,.int .i64 0])∧PolMem w' w.heap.size (.slice na (nodesS 0 (L++R)).length nc) (.slice la (letsS 0 (L++R)).length lc) (.slice ra (rulesS 0 (L++R)).length rc) L R:=by
 have hbz:=new_below w (.cells #[nilS,nilS,nilS] 73)
 have HG:=hideP (hg.below hbz)
 have HZ:=hideP (Blk.new w #[nilS,nilS,nilS] 73)
 have HBZ:=hideP hbz
 have HSZ:=hideP hz
 have HER:=hideP herr
 clear hg hbz hz herr
 have HTK:Hid (tokened s.toList=.fine l):=htk
 clear htk
 go_enter Tryz.func24,Tryz.ntmps24
 go_wp2_with (first | (go_at_call 22;refine (Read_pol s _ HG.out HSZ.out HTK.out).mono ?_;rintro e w1 ⟨hb1,L,R,na,nc,la,lc,ra,rc,hp,rfl,hpm⟩;have hpa:=PolAt.of hpm hp;have HPM:=hideP hpm;clear hpm;have HZ1:=hideP (HZ.out.below hb1 HZ.out.lt);have HB1:=hideP (HBZ.out.trans (hb1.mono HBZ.out.size));have hz1:=HZ1.out.lt;have HP:=hideP hp;have HPA:=hideP hpa;clear hb1 hp hpa) | (go_at_call 46;refine (Errors_any _ _ _ _ _ _ _ (HPA.out.below (new_below w1 _)) (fits_of HP.out HPA.out.nb)).mono ?_;rintro e w3 ⟨rfl,hb3⟩;have HPM3:=hideP ((HPM.out.below (new_below w1 (.cells #[.slice na (nodesS 0 (L++R)).length nc,.slice la (letsS 0 (L++R)).length lc,.slice ra (rulesS 0 (L++R)).length rc] 73))).below hb3);obtain ⟨np,hnp⟩:∃ np,errsOf (nodesS 0 (L++R)) (letsS 0 (L++R)) (rulesS 0 (L++R))=np:=⟨_,rfl⟩;obtain ⟨n,p⟩:=np;rw[hnp];dsimp only;have HNP:=hideP hnp;have HZ3:=hideP ((HZ1.out.alloc (.cells #[.slice na (nodesS 0 (L++R)).length nc,.slice la (letsS 0 (L++R)).length lc,.slice ra (rulesS 0 (L++R)).length rc] 73)).below hb3 (HZ1.out.alloc (.cells #[.slice na (nodesS 0 (L++R)).length nc,.slice la (letsS 0 (L++R)).length lc,.slice ra (rulesS 0 (L++R)).length rc] 73)).lt);have HV3:=hideP ((Blk.new w1 #[.slice na (nodesS 0 (L++R)).length nc,.slice la (letsS 0 (L++R)).length lc,.slice ra (rulesS 0 (L++R)).length rc] 73).below hb3 (Blk.new w1 #[.slice na (nodesS 0 (L++R)).length nc,.slice la (letsS 0 (L++R)).length lc,.slice ra (rulesS 0 (L++R)).length rc] 73).lt);have HB3:=hideP ((HB1.out.trans ((new_below w1 (.cells #[.slice na (nodesS 0 (L++R)).length nc,.slice la (letsS 0 (L++R)).length lc,.slice ra (rulesS 0 (L++R)).length rc] 73)).mono HB1.out.size)).trans (hb3.mono (by simp;omega)));have hz3:=HZ3.out.lt;have hv3:=HV3.out.lt;have z0:=HZ3.out.cell 0;have z1:=HZ3.out.cell 1;have z2:=HZ3.out.cell 2;have f0:=HZ3.out.free 0;have f1:=HZ3.out.free 1;have f2:=HZ3.out.free 2;have v0:=HV3.out.cell 0;have v1:=HV3.out.cell 1;have v2:=HV3.out.cell 2;clear hb3 hnp))
 ·rename_i hn0
  have:=HER.out L R HP.out
  rw[HNP.out]at this
  cases this
  simp at hn0
 ·rename_i hn0
  have hn1:n=0:=by simpa using hn0
  subst hn1
  have hp0:=errs_zero HNP.out
  subst hp0
  have hfb:=((HZ3.out.set 0 (.slice na (nodesS 0 (L++R)).length nc)).set 1 (.slice la (letsS 0 (L++R)).length lc)).set 2 (.slice ra (rulesS 0 (L++R)).length rc)
  have g0:=hfb.cell 0
  have g1:=hfb.cell 1
  have g2:=hfb.cell 2
  have hbl:=three_sets HB3.out (.slice na (nodesS 0 (L++R)).length nc) (.slice la (letsS 0 (L++R)).length lc) (.slice ra (rulesS 0 (L++R)).length rc)
  have hpm:=((HPM3.out.set w.heap.size 0 (by simp) (.slice na (nodesS 0 (L++R)).length nc)).set w.heap.size 1 (by simp) (.slice la (letsS 0 (L++R)).length lc)).set w.heap.size 2 (by simp) (.slice ra (rulesS 0 (L++R)).length rc)
  exact bodyPost_ret (v:=.tuple #[.agg #[.slice na (nodesS 0 (L++R)).length nc,.slice la (letsS 0 (L++R)).length lc,.slice ra (rulesS 0 (L++R)).length rc],.int .i64 0,.int .i64 0]) (by simp[results,Tryz.results24,go_sem,g0,g1,g2]) rfl ⟨hbl,L,R,na,nc,la,lc,ra,rc,HP.out,rfl,⟨own_base hpm.ond (by simp),own_base hpm.olt (by simp),own_base hpm.orl (by simp)⟩⟩
theorem box3(w:World)(o:Obj):Below w.heap.size w (w.alloc o):=(Below.refl _ _).alloc (Nat.le_refl _) _
def itmA(x:Itm):Value:=.agg #[.int .i64 x.size,.int .i64 x.speed,.int .i64 x.need]
def bnA(y:Bn):Value:=.agg #[.int .i64 y.id,.int .i64 y.zone,.int .i64 y.cap,.int .i64 y.used,.int .i64 y.has]
def btw(n a b:Int):Bool:=decide (a≤n)&&decide (n≤b)
def itmB(x:Itm):Bool:=btw x.size 1 1000&&btw x.speed 0 1000&&btw x.need 0 2
def bnB(y:Bn):Bool:=btw y.id 0 1000&&btw y.zone 0 9&&btw y.cap 1 1000&&btw y.used 0 y.cap&&btw y.has 0 2
theorem itmB_iff(x:Itm):itmB x=true↔x.Ok:=by unfold itmB btw Itm.Ok;simp[and_assoc]
theorem bnB_iff(y:Bn):bnB y=true↔y.Ok:=by unfold bnB btw Bn.Ok;simp[and_assoc]
set_option maxHeartbeats 400000 in
theorem within_any(n a b:Int)(w:World) :
  Calls Tryz.prog 53 #[.int .i64 n,.int .i64 a,.int .i64 b] w fun e w'=>e=.returned (.bool (btw n a b))∧w'=w:=by
 unfold btw
 by_cases h:a≤n
 all_goals
  go_enter Tryz.func53,Tryz.ntmps53
  go_wp2
  all_goals go_ret
  all_goals exact ⟨ret_bool (by go_light;first | (simp[h];done) | (simp;omega)),rfl⟩
set_option maxHeartbeats 400000 in
theorem isClass_any(n:Int)(w:World) :
  Calls Tryz.prog 54 #[.int .i64 n] w fun e w'=>e=.returned (.bool (btw n 0 2))∧w'=w:=by
 go_enter Tryz.func54,Tryz.ntmps54
 go_wp2_with (go_at_call 53;refine (within_any _ _ _ _).mono ?_;rintro e w' ⟨rfl,rfl⟩)
 go_ret
 exact ⟨rfl,rfl⟩
set_option maxHeartbeats 1000000 in
theorem pIsItem_any(x:Itm)(w:World) :
  Calls Tryz.prog 27 #[itmA x] w fun e w'=>e=.returned (.bool (itmB x))∧Below w.heap.size w w':=by
 unfold itmA itmB
 cases h1:btw x.size 1 1000 <;> cases h2:btw x.speed 0 1000
 all_goals
  go_enter Tryz.func27,Tryz.ntmps27
  go_wp2_with (first | (go_at_call 53;refine (within_any _ _ _ _).mono ?_;rintro e w' ⟨rfl,rfl⟩) | (go_at_call 54;refine (isClass_any _ _).mono ?_;rintro e w' ⟨rfl,rfl⟩))
  go_ret
  exact ⟨ret_bool (by simp),box3 _ _⟩
set_option maxHeartbeats 1000000 in
theorem pIsBin_any(y:Bn)(w:World) :
  Calls Tryz.prog 28 #[bnA y] w fun e w'=>e=.returned (.bool (bnB y))∧Below w.heap.size w w':=by
 unfold bnA bnB
 cases h1:btw y.id 0 1000 <;> cases h2:btw y.zone 0 9 <;> cases h3:btw y.cap 1 1000 <;> cases h4:btw y.used 0 y.cap
 all_goals
  go_enter Tryz.func28,Tryz.ntmps28
  go_wp2_with (first | (go_at_call 53;refine (within_any _ _ _ _).mono ?_;rintro e w' ⟨rfl,rfl⟩) | (go_at_call 54;refine (isClass_any _ _).mono ?_;rintro e w' ⟨rfl,rfl⟩))
  go_ret
  exact ⟨ret_bool (by simp),box3 _ _⟩
set_option maxHeartbeats 400000 in
theorem pick_any(c n:Int)(hc:In64 c)(hn:0<n∧n≤2000)(w:World) :
  Calls Tryz.prog 13 #[.int .i64 c,.int .i64 n] w fun e w'=>(∃ r:Int,0≤r∧r<n∧e=.returned (.int .i64 r))∧w'=w:=by
 obtain ⟨h1,h2⟩:=hc
 obtain ⟨h3,h4⟩:=hn
 have en:(n==0)=false:=by simp;omega
 by_cases h:c<0
 ·have hm:=Int.emod_nonneg (-(c+1)) (b:=n) (by omega)
  have hl:=Int.emod_lt_of_pos (-(c+1)) h3
  have ht:(-(c+1)).tmod n=(-(c+1)) % n:=Int.tmod_eq_emod_of_nonneg (by omega)
  have HM:=mH hm
  have HL:=mH hl
  have HT:=mH ht
  clear hm hl ht
  go_enter Tryz.func13,Tryz.ntmps13
  go_wp2
  all_goals go_ret
  have e1:-((c+1).tmod n)=(-(c+1)) % n:=by rw[← HT.out,Int.neg_tmod]
  exact ⟨⟨-((c+1).tmod n),by rw[e1];exact HM.out,by rw[e1];exact HL.out,rfl⟩,rfl⟩
 ·have hm:=Int.emod_nonneg c (b:=n) (by omega)
  have hl:=Int.emod_lt_of_pos c h3
  have HM:=mH hm
  have HL:=mH hl
  clear hm hl
  go_enter Tryz.func13,Tryz.ntmps13
  go_wp2
  all_goals go_ret
  exact ⟨⟨c % n,HM.out,HL.out,rfl⟩,rfl⟩
theorem Blk.drewN{w:World}{b:Nat}{cs:Array Value}{t:TypeId}(h:Blk w b cs t)(n:Nat):Blk (w.drewN n) b cs t:=h
structure But(fb:Nat)(w w':World):Prop where
 os:w'.os=w.os
 tape:w'.tape=w.tape
 output:w'.output=w.output
 size:w.heap.size≤w'.heap.size
 block:∀ k,k≠fb→k<w.heap.size→w'.heap[k]?=w.heap[k]?
theorem But.refl(fb:Nat)(w:World):But fb w w:=⟨rfl,rfl,rfl,Nat.le_refl _,fun _ _ _=>rfl⟩
theorem But.trans{fb:Nat}{w w1 w2:World}(h:But fb w w1)(g:But fb w1 w2):But fb w w2 :=
 ⟨g.os.trans h.os,g.tape.trans h.tape,g.output.trans h.output,Nat.le_trans h.size g.size,fun k h1 h2=>(g.block k h1 (Nat.lt_of_lt_of_le h2 h.size)).trans (h.block k h1 h2)⟩
theorem But.of{fb:Nat}{w w':World}(h:Below w.heap.size w w'):But fb w w':=⟨h.os,h.tape,h.output,h.size,fun k _ h2=>h.block k h2⟩
theorem But.below{fb B:Nat}{w w':World}(h:But fb w w')(h1:B≤fb)(h2:B≤w.heap.size):Below B w w':=⟨h.os,h.tape,h.output,h.size,fun k hk=>h.block k (by omega) (by omega)⟩
theorem Blk.but{w w':World}{b fb:Nat}{cs:Array Value}{t:TypeId}(h:Blk w b cs t)(hb:But fb w w')(hne:b≠fb):Blk w' b cs t:=(hb.block b hne h.lt).trans h
theorem But.set{w:World}(fb i:Nat)(v:Value)(h:fb<w.heap.size):But fb w (w.setCell ⟨fb,i,none⟩ v):=by
 have g:=(Below.refl fb w).setCell (p:=⟨fb,i,none⟩) (Nat.le_refl _) v
 exact ⟨g.os,g.tape,g.output,g.size,fun k h1 _=>Below.heap_setCell _ _ _ _ h1⟩
structure FeedAt(w:World)(fb:Nat):Prop where
 ok:∃ (s:ByteArray) (k:Nat),Blk w fb #[.string s,.int .i64 k] 59∧k≤s.size∧s.size≤maxLen
theorem FeedAt.below{w w':World}{fb:Nat}(h:FeedAt w fb)(hb:Below w.heap.size w w'):FeedAt w' fb:=by
 obtain ⟨s,k,h1,h2⟩:=h.ok
 exact ⟨s,k,h1.below hb h1.lt,h2⟩
set_option maxHeartbeats 1000000 in
theorem next_any(n:Int)(hn:0<n∧n≤2000)(fb:Nat)(w:World)(h:FeedAt w fb) :
  Calls Tryz.prog 19 #[.pointer (some ⟨fb,0,none⟩),.int .i64 n] w fun e w'=>(∃ r:Int,0≤r∧r<n∧e=.returned (.int .i64 r))∧FeedAt w' fb∧But fb w w':=by
 obtain ⟨s,k,hb,hk,hs⟩:=h.ok
 have HB:=mH hb
 have HFd:=mH h
 have c0:=hb.cell 0
 have c1:=hb.cell 1
 have f1:=hb.free 1
 have hs':(s.size:Int)≤9223372036854775807:=by have h:=hs;simp[maxLen]at h;omega
 obtain ⟨h3,h4⟩:=hn
 have en:(n==0)=false:=by simp;omega
 have HSm:=mH hs
 clear h hb hs
 by_cases hlt:k<s.size
 ·have hix:=fun wx=>run_index_nat (P:=Tryz.prog) wx 9 s .i64 (k:Int) k Tryz.underlying9 rfl hlt
  obtain ⟨c,hc⟩:∃ c,c=s[k].toNat:=⟨_,rfl⟩
  have hc256:c<256:=by rw[hc];exact UInt8.toNat_lt _
  rw[← hc]at hix
  have hm:=Int.emod_nonneg (c:Int) (b:=n) (by omega)
  have hl:=Int.emod_lt_of_pos (c:Int) h3
  have HM:=mH hm
  have HL:=mH hl
  have dk:decide ((s.size:Int)≤(k:Int))=false:=by simp;omega
  clear hc hm hl
  go_enter Tryz.func19,Tryz.ntmps19
  go_wp2
  go_quiet (fail)
  go_wp2
  go_quiet (fail)
  go_wp2
  go_ret
  exact ⟨⟨_,HM.out,HL.out,rfl⟩,⟨s,k+1,(HB.out.drewN _).set 1 _,by omega,HSm.out⟩,(But.of (below_drewN (Below.refl _ w) _)).trans (But.set fb 1 _ HB.out.lt)⟩
 ·have dk:decide ((s.size:Int)≤(k:Int))=true:=by simp;omega
  go_enter Tryz.func19,Tryz.ntmps19
  go_wp2
  go_quiet (fail)
  go_wp2
  go_ret
  exact ⟨⟨0,Int.le_refl _,h3,rfl⟩,⟨s,k,HB.out.drewN _,hk,HSm.out⟩,But.of (below_drewN (Below.refl _ w) _)⟩
def bsN(l:List Nat):ByteArray:=⟨(l.map UInt8.ofNat).toArray⟩
theorem bsN_fold(l:List Nat):∀ r:ByteArray,(l.map Int.ofNat).foldl (fun r n=>r.push (UInt8.ofNat n.toNat)) r=⟨r.data++(l.map UInt8.ofNat).toArray⟩:=by
 induction l with
 | nil=>intro r;simp
 | cons c l ih =>
  intro r
  simp only[List.map_cons,List.foldl_cons]
  rw[ih]
  simp[ByteArray.push]
theorem bsN_append(l m:List Nat):bsN l++bsN m=bsN (l++m):=by
 apply ByteArray.ext
 simp[bsN,ByteArray.data_append]
theorem conv_bytes(w:World)(b:Nat)(l:List Nat)(t:TypeId)(hb:Blk w b ((l.map fun n:Nat=>Value.int .u8 (n:Int)).toArray) t) :
  (convert 158 9 (.slice (some ⟨b,0,none⟩) l.length l.length)).run Tryz.prog w=.ok (.string (bsN l)) w:=by
 rw[run_convert_bytes_string w 158 9 5 _ _ _ Tryz.underlying158 Tryz.underlying5 Tryz.underlying9]
 rw[run_bytesToString w ⟨b,0,none⟩ l.length l.length (l.map Int.ofNat) ?_]
 ·rw[bsN_fold]
  simp[bsN]
 ·have h:=run_loadCells_list (P:=Tryz.prog) w ⟨b,0,none⟩ ((l.map Int.ofNat).map (Value.int .u8)) ?_
  ·simpa using h
  ·intro j v hj
   simp at hj
   obtain ⟨c,hc,rfl⟩:=hj
   have:=hb.cell j
   simp[hc]at this
   rw[show (⟨b,0,none⟩:Addr).add j=⟨b,j,none⟩ by unfold Addr.add;split <;> simp_all]
   exact this
structure GlobB(w:World):Prop where
 bytes:∀ c,c<18→w.cell? ⟨0,c,none⟩=some (.int .i64 (behindN c))
 size:0<w.heap.size
theorem GlobB.below{w w':World}(h:GlobB w)(hb:Below w.heap.size w w'):GlobB w' :=
 ⟨fun c hc=>(hb.cell (p:=⟨0,c,none⟩) h.size).trans (h.bytes c hc),Nat.lt_of_lt_of_le h.size hb.size⟩
theorem bsN_len(l:List Nat):(bsN l).size=l.length:=by simp[bsN,ByteArray.size]
theorem Tryz.infoFact:(Tryz.prog.info? 151).map (fun i=>(i.zero,i.size,i.bytes))=some (some (.agg #[.bool false,.int .i64 0]),2,16):=by kernel_rfl
open Go.Deep
set_option maxHeartbeats 1000000 in
theorem isChoice_any(n:PNode)(w:World) :
  Calls Tryz.prog 113 #[nodA n] w fun e w'=>e=.returned (.bool (isChK (kindP n.tok.text)))∧Below w.heap.size w w':=by
 unfold nodA
 generalize kindP n.tok.text=k
 by_cases h7:k=7
 ·subst h7
  go_enter Tryz.func113,Tryz.ntmps113
  go_wp2
  go_ret
  exact ⟨rfl,box3 w _⟩
 ·by_cases h8:k=8
  ·subst h8
   go_enter Tryz.func113,Tryz.ntmps113
   go_wp2
   go_ret
   exact ⟨rfl,box3 w _⟩
  ·have e7:((k:Int)==7)=false:=by simp;omega
   have e8:((k:Int)==8)=false:=by simp;omega
   have HK:Hid (isChK k=false):=by simp[Hid,isChK,h7,h8]
   go_enter Tryz.func113,Tryz.ntmps113
   go_wp2
   go_ret
   exact ⟨by rw[HK.out];rfl,box3 w _⟩
set_option maxHeartbeats 1000000 in
theorem decides_any(k:Nat)(w:World) :
  Calls Tryz.prog 129 #[.int .i64 k] w fun e w'=>e=.returned (.int .i64 (decK k))∧w'=w:=by
 by_cases h8:k=8
 ·subst h8
  go_enter Tryz.func129,Tryz.ntmps129
  go_wp2
  go_ret
  exact ⟨rfl,rfl⟩
 ·have e8:((k:Int)==8)=false:=by simp;omega
  have HK:Hid (decK k=0):=by simp[Hid,decK,h8]
  go_enter Tryz.func129,Tryz.ntmps129
  go_wp2
  go_ret
  exact ⟨by rw[HK.out];rfl,rfl⟩
set_option maxHeartbeats 1000000 in
theorem leaves_any(k:Nat)(w:World) :
  Calls Tryz.prog 156 #[.int .i64 k] w fun e w'=>e=.returned (.int .i64 (leaK k:Nat))∧w'=w:=by
 by_cases h8:k=8
 ·subst h8
  go_enter Tryz.func156,Tryz.ntmps156
  go_wp2
  go_ret
  exact ⟨rfl,rfl⟩
 ·have e8:((k:Int)==8)=false:=by simp;omega
  have HK:Hid (leaK k=14):=by simp[Hid,leaK,h8]
  go_enter Tryz.func156,Tryz.ntmps156
  go_wp2
  go_ret
  exact ⟨by rw[HK.out];rfl,rfl⟩
set_option maxHeartbeats 4000000 in
set_option maxRecDepth 100000 in
theorem operationOf_any(n:PNode)(w:World) :
  Calls Tryz.prog 112 #[nodA n] w fun e w'=>e=.returned (.int .i64 (opK (kindP n.tok.text) n.ops:Nat))∧Below w.heap.size w w':=by
 unfold nodA
 generalize kindP n.tok.text=k
 generalize n.ops=o
 have hd:(k=9∨k=28∨k=27∨k=29∨k=30∨k=31∨k=25∨k=26∨k=23)∨(k≠9∧k≠28∧k≠27∧k≠29∧k≠30∧k≠31∧k≠25∧k≠26∧k≠23):=by omega
 rcases hd with (rfl | rfl | rfl | rfl | rfl | rfl | rfl | rfl | rfl) | ⟨h1,h2,h3,h4,h5,h6,h7,h8,h9⟩
 case inl.inr.inl =>
  by_cases ho:o=1
  ·subst ho
   go_enter Tryz.func112,Tryz.ntmps112
   go_wp2
   go_ret
   exact ⟨rfl,box3 w _⟩
  ·have e1:((o:Int)==1)=false:=by simp;omega
   have HK:Hid (opK 28 o=5):=by simp[Hid,opK,ho]
   go_enter Tryz.func112,Tryz.ntmps112
   go_wp2
   go_ret
   exact ⟨by rw[HK.out];rfl,box3 w _⟩
 case inr =>
  have e1:((k:Int)==9)=false:=by simp;omega
  have e2:((k:Int)==28)=false:=by simp;omega
  have e3:((k:Int)==27)=false:=by simp;omega
  have e4:((k:Int)==29)=false:=by simp;omega
  have e5:((k:Int)==30)=false:=by simp;omega
  have e6:((k:Int)==31)=false:=by simp;omega
  have e7:((k:Int)==25)=false:=by simp;omega
  have e8:((k:Int)==26)=false:=by simp;omega
  have e9:((k:Int)==23)=false:=by simp;omega
  have HK:Hid (opK k o=12):=by simp[Hid,opK,h1,h2,h3,h4,h5,h6,h7,h8,h9]
  go_enter Tryz.func112,Tryz.ntmps112
  go_wp2
  go_ret
  exact ⟨by rw[HK.out];rfl,box3 w _⟩
 all_goals
  go_enter Tryz.func112,Tryz.ntmps112
  go_wp2
  go_ret
  exact ⟨rfl,box3 w _⟩
def cellF(f:Fact):List Value:=[.bool f.isSome,.int .i64 (f.getD 0)]
def cellsF(l:List Fact):List Value:=l.flatMap cellF
def factA(f:Fact):Value:=.agg #[.bool f.isSome,.int .i64 (f.getD 0)]
theorem cellF_length(f:Fact):(cellF f).length=2:=rfl
theorem atF_neg{fs:List Fact}{i:Int}(h:i<0):atF fs i=none:=if_pos h
theorem atF_nat(fs:List Fact)(n:Nat):atF fs (n:Int)=fs.getD n none:=by
 rw[atF,if_neg (by omega),Int.toNat_natCast]
theorem two_below(w:World)(o o':Obj):Below w.heap.size w ((w.alloc o).alloc o'):=(box3 w o).trans ((box3 _ o').mono (by simp))
theorem three_below(w:World)(o o' o'':Obj):Below w.heap.size w (((w.alloc o).alloc o').alloc o''):=(two_below w o o').trans ((box3 _ o'').mono (by simp;omega))
set_option maxHeartbeats 1000000 in
theorem factAt_any(fs:List Fact)(fv:Value)(i:Int)(w:World)(h:Reads w fv fs.length (cellsF fs))(hb:fs.length≤401)(hi:-2≤i∧i≤1000) :
  Calls Tryz.prog 110 #[fv,.int .i64 i] w fun e w'=>e=.returned (factA (atF fs i))∧Below w.heap.size w w':=by
 obtain ⟨a,c,rfl⟩:=h.shape
 have HH:=hideP h
 clear h
 by_cases h0:i<0
 ·have hd:decide (i<0)=true:=by simpa using h0
  have HN:=hideP (atF_neg (fs:=fs) h0)
  go_enter Tryz.func110,Tryz.ntmps110
  go_wp2
  refine bodyPost_ret (v:=.agg #[.bool false,.int .i64 0]) (by simp[results,Tryz.results110,go_sem]) rfl ⟨by rw[HN.out];rfl,box3 w _⟩
 ·obtain ⟨n,rfl⟩:∃ n:Nat,i=n:=⟨i.toNat,by omega⟩
  by_cases hn:n<fs.length
  ·obtain ⟨g,o,cap,hcut,hcap,hg,hc⟩:=HH.out.pos (by omega)
   cases hcut
   have e0:=hc (n*2+0) _ (flat_get cellF 2 (fun _=>rfl) fs n hn 0 (by omega))
   have e1:=hc (n*2+1) _ (flat_get cellF 2 (fun _=>rfl) fs n hn 1 (by omega))
   have HN:Hid (atF fs (n:Int)=fs[n]):=by rw[Hid,atF_nat,List.getD_eq_getElem?_getD,List.getElem?_eq_getElem hn];rfl
   generalize fs[n]=f at *
   have e0':w.cell? ⟨g,o+n*2,none⟩=some (.bool f.isSome):=by rw[Nat.add_zero]at e0;exact e0
   have e1':w.cell? ⟨g,o+n*2+1,none⟩=some (.int .i64 (f.getD 0)):=by rw[Nat.add_assoc];exact e1
   clear e0 e1 hc
   go_enter Tryz.func110,Tryz.ntmps110
   go_wp2
   refine bodyPost_ret (v:=.agg #[.bool f.isSome,.int .i64 (f.getD 0)]) (by simp[results,Tryz.results110,go_sem]) rfl ⟨by rw[HN.out];rfl,box3 w _⟩
  ·have HN:Hid (atF fs (n:Int)=none):=by rw[Hid,atF_nat,List.getD_eq_getElem?_getD,List.getElem?_eq_none (by omega)];rfl
   go_enter Tryz.func110,Tryz.ntmps110
   go_wp2
   refine bodyPost_ret (v:=.agg #[.bool false,.int .i64 0]) (by simp[results,Tryz.results110,go_sem]) rfl ⟨by rw[HN.out];rfl,box3 w _⟩
set_option maxHeartbeats 1000000 in
theorem meantBy_any(ls:List PLet)(lv:Value)(d:ByteArray)(w:World)(h:Reads w lv ls.length (cellsLt ls))(hb:ls.length≤401)(hx:∀ p∈ls,1≤p.val.behind∧p.val.behind≤401) :
  Calls Tryz.prog 116 #[.string d,lv] w fun e w'=>e=.returned (.int .i64 (meantI ls d.toList))∧Below w.heap.size w w':=by
 obtain ⟨a,c,rfl⟩:=h.shape
 have HH:=hideP h
 have hle:=letIx_le ls d.toList
 by_cases hlt:letIx ls d.toList<ls.length
 ·obtain ⟨g,o,cap,hcut,hcap,hg,hc⟩:=h.pos (by omega)
  cases hcut
  have fc:=hc (letIx ls d.toList*6+5) _ (flat_get cellL 6 (fun _=>rfl) ls _ hlt 5 (by omega))
  obtain ⟨pl,hpl⟩:∃ pl,pl=ls[letIx ls d.toList]:=⟨_,rfl⟩
  have hbe:=hx pl (by rw[hpl];exact List.getElem_mem hlt)
  have HNK:Hid (meantI ls d.toList=(pl.val.behind:Int)-1):=by rw[Hid,meantI,List.getElem?_eq_getElem hlt,hpl]
  rw[← hpl]at fc
  obtain ⟨ix,hix⟩:∃ ix,letIx ls d.toList=ix:=⟨_,rfl⟩
  have HIX:=hideP hix
  rw[hix]at fc hlt
  have d5:w.cell? ⟨g,o+ix*6+5,none⟩=some (.int .i64 pl.val.behind):=by rw[Nat.add_assoc];exact fc
  clear fc hpl hc h hx hle hix
  rw[HNK.out]
  go_enter Tryz.func116,Tryz.ntmps116
  go_wp2_with (go_at_call 105;refine (LetOf_any ls _ d _ HH.out hb).mono ?_;rintro e' w4 ⟨rfl,rfl⟩;rw[HIX.out])
  go_ret
  exact ⟨rfl,Below.refl _ _⟩
 ·have hix:letIx ls d.toList=ls.length:=by omega
  have HIX:=hideP hix
  have HNK:Hid (meantI ls d.toList=-1):=by rw[Hid,meantI,List.getElem?_eq_none (by omega)]
  clear hx hle hix h
  rw[HNK.out]
  go_enter Tryz.func116,Tryz.ntmps116
  go_wp2_with (go_at_call 105;refine (LetOf_any ls _ d _ HH.out hb).mono ?_;rintro e' w4 ⟨rfl,rfl⟩;rw[HIX.out])
  go_ret
  exact ⟨rfl,Below.refl _ _⟩
theorem numT_step(t:Txt)(i:Nat)(h:i<t.length):numT (t.take (i+1))=numT (t.take i)*10+(t[i].toNat:Int)-48:=by
 rw[numT,numT,List.take_succ_eq_append_getElem h,List.foldl_append]
 rfl
theorem numT_bound(t:Txt)(hd:∀ c∈t,isDig c=true):0≤numT t∧numT t<10 ^ t.length:=by
 have:∀ k,k≤t.length→0≤numT (t.take k)∧numT (t.take k)<10 ^ k:=by
  intro k
  induction k with
  | zero=>intro _;simp[numT]
  | succ k ih =>
   intro hk
   have:=ih (by omega)
   rw[numT_step t k (by omega),Int.pow_succ]
   have hc:=hd t[k] (List.getElem_mem _)
   rw[isDig_int]at hc
   simp only[Bool.and_eq_true,decide_eq_true_eq]at hc
   omega
 have h1:=this t.length (Nat.le_refl _)
 rw[List.take_length]at h1
 exact h1
theorem pow_le17(k:Nat)(h:k≤17):(10:Int) ^ k≤100000000000000000:=by
 have:(10:Nat) ^ k≤10 ^ 17:=Nat.pow_le_pow_right (by omega) h
 have h2:((10 ^ k:Nat):Int)≤((10 ^ 17:Nat):Int):=Int.ofNat_le.2 this
 simpa using h2
set_option maxHeartbeats 1000000 in
theorem numberOf_any(d:ByteArray)(w:World)(hl:d.size≤18)(hd:∀ c∈d.toList,isDig c=true) :
  Calls Tryz.prog 130 #[.string d] w fun e w'=>e=.returned (.int .i64 (numT d.toList))∧w'=w:=by
 have HD:=hideP hd
 clear hd
 go_enter Tryz.func130,Tryz.ntmps130
 go_wp2
 go_loop [3,4] (fun vn vi=>∃ i:Nat,i≤d.size∧vi=.int .i64 i∧vn=.int .i64 (numT (d.toList.take i))) (fun _ i=>d.size-(intOf i).toNat)
 case atStart=>exact ⟨0,Nat.zero_le _,rfl,rfl⟩
 case round =>
  obtain ⟨i,hi,rfl,rfl⟩:=hrel
  by_cases hlt:i<d.size
  ·have hs:=numT_step d.toList i (by rw[toList_length];exact hlt)
   have hge:d.toList[i]'(by rw[toList_length];exact hlt)=d[i]:=by
    have:=getElem_toList d i hlt
    rw[List.getElem?_eq_getElem (by rw[toList_length];exact hlt)]at this
    exact Option.some.inj this
   have hb:=numT_bound (d.toList.take i) (fun c hc=>HD.out c (List.mem_of_mem_take hc))
   rw[List.length_take,toList_length]at hb
   have hp:=pow_le17 (min i d.size) (by omega)
   rw[hge]at hs
   have hc8:=(d[i]).toNat_lt
   generalize numT (d.toList.take i)=z at *
   have HS:=hideP hs
   clear hs hge
   go_wp2
   go_round
   case rel =>
    refine ⟨i+1,by omega,by go_num, ?_⟩
    rw[HS.out]
   case measure=>simp[intOf];omega
  ·go_wp2
   go_ret
   exact ⟨ret_int (by rw[show i=d.size by omega,← toList_length,List.take_length]),rfl⟩
end Go.Proofs.YtpcjadaeolkngaaGreatDoor
