/-
  The program's list of bins: Add, Remove, Put, Pick.
-/
import Derived.Test.YtpcjadaeolkngaaGreatDoorK18
import Derived.Deep.RegionHeld3
import Derived.Test.YtpcjadaeolkngaaGreatDoorK17
import Derived.Deep.RegionWith
import Derived.Test.YtpcjadaeolkngaaGreatDoorK07
import Derived.Test.YtpcjadaeolkngaaGreatDoorK15
set_option linter.unusedVariables false
set_option linter.unusedSimpArgs false
namespace Go.Proofs.YtpcjadaeolkngaaGreatDoor
open Go.RowKit
structure Lst (w wx:World) (bs:List Bn) (v:Value):Prop where
 reads:Reads wx v bs.length (cellsB bs)
 bl:Below w.heap.size w wx
theorem Lst.below {w wx w':World} {bs:List Bn} {v:Value} (h:Lst w wx bs v) (hb:Below wx.heap.size wx w'):Lst w w' bs v:=⟨h.reads.below hb,h.bl.trans (hb.mono h.bl.size)⟩
theorem Lst.al {w wx:World} {bs:List Bn} {v:Value} (h:Lst w wx bs v) (o:Obj):Lst w (wx.alloc o) bs v:=h.below (box3 wx o)
theorem Lst.to {w wx w':World} {bs:List Bn} {v:Value} (h:Lst w wx bs v) (hb:Below wx.heap.size wx w'):Below w.heap.size w w':=h.bl.trans (hb.mono h.bl.size)
theorem Lst.own {w wx w':World} {bs:List Bn} {v v':Value} {n:Nat} {xs:List Value} (h:Lst w wx bs v) (ho:w'.ownsRow wx.heap.size 25 5 v' n xs):w'.ownsRow w.heap.size 25 5 v' n xs:=own_low ho h.bl.size
theorem find_some {bs:List Bn} {id:Int} {b:Bn} {e:Ending} {P:Prop} (hf:findB bs id=some b) (h:P∧((∃ b,findB bs id=some b∧e=.returned (.tuple #[bnA b,.bool true]))∨(findB bs id=none∧e=.returned (.tuple #[bnA zeroB,.bool false])))):P∧e=.returned (.tuple #[bnA b,.bool true]):=by
 obtain ⟨hp,⟨b',h1,h2⟩ | ⟨h1,_⟩⟩:=h
 ·rw[hf] at h1;cases h1;exact ⟨hp,h2⟩
 ·rw[hf] at h1;cases h1
theorem find_no {bs:List Bn} {id:Int} {e:Ending} {P:Prop} (hf:findB bs id=none) (h:P∧((∃ b,findB bs id=some b∧e=.returned (.tuple #[bnA b,.bool true]))∨(findB bs id=none∧e=.returned (.tuple #[bnA zeroB,.bool false])))):P∧e=.returned (.tuple #[bnA zeroB,.bool false]):=by
 obtain ⟨hp,⟨b',h1,h2⟩ | ⟨_,h2⟩⟩:=h
 ·rw[hf] at h1;cases h1
 ·exact ⟨hp,h2⟩
def addK (bs:List Bn) (b:Bn):Nat:=if bnB b=false then 9 else if (findB bs b.id).isSome then 10 else if 12≤bs.length then 11 else 0
def RowOr (w w':World) (e:Ending) (k:Nat) (bs':List Bn):Prop :=
 (k≠0∧e=.returned (.tuple #[.slice none 0 0,.int .i64 k]))∨(k=0∧∃ a c,e=.returned (.tuple #[.slice a bs'.length c,.int .i64 0])∧w'.ownsRow w.heap.size 25 5 (.slice a bs'.length c) bs'.length (cellsB bs'))
set_option maxHeartbeats 2000000 in
theorem sAdd_any (bs:List Bn) (b:Bn) (v:Value) (w:World) (h:Reads w v bs.length (cellsB bs)) (hl:bs.length≤100) :
  Calls Tryz.prog 57 #[v,bnA b] w fun e w'=>Below w.heap.size w w'∧RowOr w w' e (addK bs b) (insB bs b):=by
 have HL:Hid (Lst w (w.alloc (.cells #[.int .i64 b.id,.int .i64 b.zone,.int .i64 b.cap,.int .i64 b.used,.int .i64 b.has] 25)) bs v):=⟨h.alloc _,box3 w _⟩
 have HN:=Hid.mk2 (Blk.new w #[.int .i64 b.id,.int .i64 b.zone,.int .i64 b.cap,.int .i64 b.used,.int .i64 b.has] 25)
 obtain ⟨a,c,rfl⟩:=h.shape
 clear h
 cases hy:bnB b
 ·have HK:Hid (addK bs b=9):=by rw[Hid,addK,if_pos hy]
  unfold bnA
  go_enter Tryz.func57,Tryz.ntmps57
  go_wp2_with (go_at_call 28;refine (pIsBin_any b _).mono ?_;rintro e w1 ⟨rfl,hb1⟩;rw[hy])
  first | go_ret2 | go_ret3 | go_ret
  exact ⟨HL.out.to hb1,.inl ⟨by rw[HK.out];decide,by rw[HK.out];rfl⟩⟩
 cases hf:findB bs b.id with
 | some x =>
  have HK:Hid (addK bs b=10):=by rw[Hid,addK,if_neg (by simp[hy]),hf];rfl
  have HF:=Hid.mk2 hf
  clear hf
  unfold bnA
  go_enter Tryz.func57,Tryz.ntmps57
  go_wp2_with (first
   | (go_at_call 28;refine (pIsBin_any b _).mono ?_;rintro e w1 ⟨rfl,hb1⟩;rw[hy];replace HL:=Hid.mk2 (HL.out.below hb1);replace HN:=Hid.mk2 (HN.out.below hb1 HN.out.lt);have d0:=HN.out.cell 0)
   | (go_at_call 94;refine (find_any bs b.id _ _ HL.out.reads hl).mono ?_;intro e w2 hor;obtain ⟨hb2,rfl⟩:=find_some HF.out hor;unfold bnA))
  first | go_ret2 | go_ret3 | go_ret
  exact ⟨HL.out.to (hb2.trans ((box3 w2 _).mono hb2.size)),.inl ⟨by rw[HK.out];decide,by rw[HK.out];rfl⟩⟩
 | none =>
  have HF:=Hid.mk2 hf
  by_cases h12:12≤bs.length
  ·have HK:Hid (addK bs b=11):=by rw[Hid,addK,if_neg (by simp[hy]),hf,if_neg (by simp),if_pos h12]
   clear hf
   unfold bnA
   go_enter Tryz.func57,Tryz.ntmps57
   go_wp2_with (first
    | (go_at_call 28;refine (pIsBin_any b _).mono ?_;rintro e w1 ⟨rfl,hb1⟩;rw[hy];replace HL:=Hid.mk2 (HL.out.below hb1);replace HN:=Hid.mk2 (HN.out.below hb1 HN.out.lt);have d0:=HN.out.cell 0)
    | (go_at_call 94;refine (find_any bs b.id _ _ HL.out.reads hl).mono ?_;intro e w2 hor;obtain ⟨hb2,rfl⟩:=find_no HF.out hor;unfold bnA zeroB))
   first | go_ret2 | go_ret3 | go_ret
   exact ⟨HL.out.to (hb2.trans ((box3 w2 _).mono hb2.size)),.inl ⟨by rw[HK.out];decide,by rw[HK.out];rfl⟩⟩
  ·have HK:Hid (addK bs b=0):=by rw[Hid,addK,if_neg (by simp[hy]),hf,if_neg (by simp),if_neg h12]
   clear hf
   unfold bnA
   go_enter Tryz.func57,Tryz.ntmps57
   go_wp2_with (first
    | (go_at_call 28;refine (pIsBin_any b _).mono ?_;rintro e w1 ⟨rfl,hb1⟩;rw[hy];replace HL:=Hid.mk2 (HL.out.below hb1);replace HN:=Hid.mk2 (HN.out.below hb1 HN.out.lt);have d0:=HN.out.cell 0)
    | (go_at_call 94;refine (find_any bs b.id _ _ HL.out.reads hl).mono ?_;intro e w2 hor;obtain ⟨hb2,rfl⟩:=find_no HF.out hor;unfold bnA zeroB;replace HL:=Hid.mk2 ((HL.out.below hb2).al (.cells #[.int .i64 0,.int .i64 0,.int .i64 0,.int .i64 0,.int .i64 0] 25));replace HN:=Hid.mk2 ((HN.out.below hb2 HN.out.lt).alloc (.cells #[.int .i64 0,.int .i64 0,.int .i64 0,.int .i64 0,.int .i64 0] 25));have d0:=HN.out.cell 0;have d1:=HN.out.cell 1;have d2:=HN.out.cell 2;have d3:=HN.out.cell 3;have d4:=HN.out.cell 4)
    | (go_at_call 95;refine (with_any bs b _ _ HL.out.reads hl).mono ?_;rintro e w3 ⟨hb3,v',rfl,hown⟩;obtain ⟨a',c',rfl⟩:=(reads_of_own hown).shape))
   first | go_ret2 | go_ret3 | go_ret
   exact ⟨HL.out.to hb3,.inr ⟨HK.out,_,_,rfl,HL.out.own hown⟩⟩
end Go.Proofs.YtpcjadaeolkngaaGreatDoor
namespace Go.Proofs.YtpcjadaeolkngaaGreatDoor
open Go.RowKit
end Go.Proofs.YtpcjadaeolkngaaGreatDoor
namespace Go.Proofs.YtpcjadaeolkngaaGreatDoor
open Go.RowKit
structure StoreAt (w:World) (sb:Nat) (bs:List Bn) (im:ByteArray):Prop where
 ok:∃ a c,Blk w sb #[.slice a bs.length c,.string im] 84∧w.ownsRow (sb+1) 25 5 (.slice a bs.length c) bs.length (cellsB bs)
theorem StoreAt.lt {w:World} {sb:Nat} {bs:List Bn} {im:ByteArray} (h:StoreAt w sb bs im):sb < w.heap.size:=by
 obtain ⟨a,c,h1,_⟩:=h.ok
 exact h1.lt
theorem StoreAt.below {w w':World} {sb:Nat} {bs:List Bn} {im:ByteArray} (h:StoreAt w sb bs im) (hb:Below w.heap.size w w'):StoreAt w' sb bs im:=by
 obtain ⟨a,c,h1,h2⟩:=h.ok
 exact ⟨a,c,h1.below hb h1.lt,own_below h2 hb⟩
theorem own_but {w w':World} {base fb:Nat} {e:TypeId} {s n:Nat} {v:Value} {xs:List Value} (h:w.ownsRow base e s v n xs) (hb:But fb w w') (hne:∀ k,v.ownBlock=some k→k≠fb):w'.ownsRow base e s v n xs:=by
 refine ⟨h.1, ?_⟩
 rcases h.2 with hn | ⟨g,cap,cur,rfl,hbg,hh,r⟩
 ·exact .inl hn
 ·exact .inr ⟨g,cap,cur,rfl,hbg,(hb.block g (hne g rfl) (lt_of_block hh)).trans hh,r⟩
def RowNew (w w':World) (sb:Nat):Prop:=∀ v im,Blk w' sb #[v,.string im] 84→(∃ im0,Blk w sb #[v,.string im0] 84)∨∀ k,v.ownBlock=some k→w.heap.size≤k
theorem Blk.same {w:World} {b:Nat} {c1 c2:Array Value} {t1 t2:TypeId} (h1:Blk w b c1 t1) (h2:Blk w b c2 t2):c1=c2:=by
 unfold Blk at h1 h2
 rw[h1] at h2
 injection h2 with h2
 injection h2
theorem RowNew.same {w w1:World} {sb:Nat} (hlt:sb < w.heap.size) (hb:Below w.heap.size w w1):RowNew w w1 sb:=fun v im h=>.inl ⟨im,(hb.block sb hlt).symm.trans h⟩
theorem RowNew.pre {w w1 w':World} {sb:Nat} (hlt:sb < w.heap.size) (hb:Below w.heap.size w w1) (h:RowNew w1 w' sb):RowNew w w' sb:=by
 intro v im hv
 rcases h v im hv with ⟨im0,h0⟩ | h0
 ·exact .inl ⟨im0,(hb.block sb hlt).symm.trans h0⟩
 ·exact .inr fun k hk=>Nat.le_trans hb.size (h0 k hk)
theorem StoreAt.put {w w1:World} {sb:Nat} {bs bs':List Bn} {im:ByteArray} (h:StoreAt w sb bs im) (hb:Below w.heap.size w w1) {a:Option Addr} {c:Nat} (ho:w1.ownsRow w.heap.size 25 5 (.slice a bs'.length c) bs'.length (cellsB bs')) :
  StoreAt (w1.setCell ⟨sb,0,none⟩ (.slice a bs'.length c)) sb bs' im∧But sb w (w1.setCell ⟨sb,0,none⟩ (.slice a bs'.length c))∧RowNew w (w1.setCell ⟨sb,0,none⟩ (.slice a bs'.length c)) sb:=by
 obtain ⟨a0,c0,h1,h2⟩:=h.ok
 have h1':=h1.below hb h1.lt
 have hlt:=h1.lt
 refine ⟨⟨a,c,h1'.set 0 _, ?_⟩,(But.of hb).trans (But.set sb 0 _ h1'.lt), ?_⟩
 ·refine own_low (own_but ho (But.set sb 0 _ h1'.lt) fun k hk=>?_) hlt
  have:=(ho.lt k hk).1
  omega
 ·intro v im' hv
  have:=Blk.same hv (h1'.set 0 (.slice a bs'.length c))
  have hv':v=.slice a bs'.length c:=by
   have h3:=congrArg (fun x:Array Value=>x[0]?) this
   simpa using h3
  subst hv'
  exact .inr fun k hk=>(ho.lt k hk).1
set_option maxHeartbeats 2000000 in
theorem stAdd_any (sb:Nat) (bs:List Bn) (im:ByteArray) (b:Bn) (w:World) (h:StoreAt w sb bs im) (hl:bs.length≤100) :
  Calls Tryz.prog 31 #[.pointer (some ⟨sb,0,none⟩),bnA b] w fun e w'=>e=.returned (.int .i64 (addK bs b:Nat))∧StoreAt w' sb (if addK bs b=0 then insB bs b else bs) im∧But sb w w'∧RowNew w w' sb:=by
 have HS:=Hid.mk2 (h.below (box3 w (.cells #[.int .i64 b.id,.int .i64 b.zone,.int .i64 b.cap,.int .i64 b.used,.int .i64 b.has] 25)))
 have hlt:=h.lt
 have HN:=Hid.mk2 (Blk.new w #[.int .i64 b.id,.int .i64 b.zone,.int .i64 b.cap,.int .i64 b.used,.int .i64 b.has] 25)
 have HWB:=Hid.mk2 (box3 w (.cells #[.int .i64 b.id,.int .i64 b.zone,.int .i64 b.cap,.int .i64 b.used,.int .i64 b.has] 25))
 have HW:Hid (But sb w (w.alloc (.cells #[.int .i64 b.id,.int .i64 b.zone,.int .i64 b.cap,.int .i64 b.used,.int .i64 b.has] 25))):=But.of (box3 w _)
 obtain ⟨a,c,h1,h2⟩:=HS.out.ok
 have HO:=Hid.mk2 (reads_of_own h2)
 have H1:=Hid.mk2 h1
 clear h h1 h2
 generalize hk:addK bs b=k
 have HK:=Hid.mk2 hk
 clear hk
 unfold bnA
 go_enter Tryz.func31,Tryz.ntmps31
 go_wp2
 generalize hw1:w.alloc (.cells #[.int .i64 b.id,.int .i64 b.zone,.int .i64 b.cap,.int .i64 b.used,.int .i64 b.has] 25)=w1 at *
 clear hw1
 have c0:=H1.out.cell 0
 have d0:=HN.out.cell 0
 have d1:=HN.out.cell 1
 have d2:=HN.out.cell 2
 have d3:=HN.out.cell 3
 have d4:=HN.out.cell 4
 by_cases hk0:k=0
 ·subst hk0
  go_region_with (go_at_call 57;refine (sAdd_any bs b _ _ (HO.out.drew) hl).mono ?_;rintro e w2 ⟨hb1,hor⟩;rw[HK.out] at hor;have hB:=H1.out.drew.below hb1 H1.out.lt;have c1:=hB.cell 0;have f1:=hB.free 0;obtain ⟨_,a',c',rfl,hown⟩:=hor.resolve_left (fun h=>h.1 rfl))
  all_goals
   go_wp2
   go_ret
   have hb1':Below w1.heap.size w1 w2:=(below_drewN (Below.refl w1.heap.size w1) 1).trans hb1
   have:=HS.out.put hb1' hown
   exact ⟨rfl,this.1,HW.out.trans this.2.1,RowNew.pre hlt HWB.out this.2.2⟩
 ·have hk1:((k:Int)==0)=false:=by simp;omega
  go_region_with (go_at_call 57;refine (sAdd_any bs b _ _ (HO.out.drew) hl).mono ?_;rintro e w2 ⟨hb1,hor⟩;rw[HK.out] at hor;have hB:=H1.out.drew.below hb1 H1.out.lt;have c1:=hB.cell 0;have f1:=hB.free 0;obtain ⟨_,rfl⟩:=hor.resolve_right (fun h=>hk0 h.1))
  all_goals
   go_wp2
   go_ret
   have hb1':Below w1.heap.size w1 w2:=(below_drewN (Below.refl w1.heap.size w1) 1).trans hb1
   exact ⟨rfl,HS.out.below hb1',HW.out.trans (But.of hb1'),RowNew.pre hlt HWB.out (RowNew.same HS.out.lt hb1')⟩
end Go.Proofs.YtpcjadaeolkngaaGreatDoor
namespace Go.Proofs.YtpcjadaeolkngaaGreatDoor
open Go.RowKit
structure GlobB (w:World):Prop where
 bytes:∀ c,c < 18→w.cell? ⟨0,c,none⟩=some (.int .i64 (behindN c))
 size:0 < w.heap.size
theorem GlobB.below {w w':World} (h:GlobB w) (hb:Below w.heap.size w w'):GlobB w' :=
 ⟨fun c hc=>(hb.cell (p:=⟨0,c,none⟩) h.size).trans (h.bytes c hc),Nat.lt_of_lt_of_le h.size hb.size⟩
theorem bsN_len (l:List Nat):(bsN l).size=l.length:=by simp[bsN,ByteArray.size]
theorem Tryz.infoFact:(Tryz.prog.info? 151).map (fun i=>(i.zero,i.size,i.bytes))=some (some (.agg #[.bool false,.int .i64 0]),2,16):=by kernel_rfl
def rejB:ByteArray:={ data:=#[114,101,106,101,99,116,59] }
theorem rejB_list:rejB.toList=rejT:=bsOf_toList rejT
theorem rej_errs {L R:List RSt} (h:PolicyOf rejT L R):errsOf (nodesS 0 (L++R)) (letsS 0 (L++R)) (rulesS 0 (L++R))=(0,0):=by
 obtain ⟨act,semi,rfl,rfl⟩:=rej_pol h
 rfl
end Go.Proofs.YtpcjadaeolkngaaGreatDoor
namespace Go.Proofs.YtpcjadaeolkngaaGreatDoor
open Go.RowKit Go.Deep
set_option maxHeartbeats 1000000 in
theorem isChoice_any (n:PNode) (w:World) :
  Calls Tryz.prog 113 #[nodA n] w fun e w'=>e=.returned (.bool (isChK (kindP n.tok.text)))∧Below w.heap.size w w':=by
 unfold nodA
 generalize kindP n.tok.text=k
 by_cases h7:k=7
 ·subst h7
  go_enter Tryz.func113,Tryz.ntmps113
  go_wp2
  go_ret
  exact ⟨rfl,box3 w _⟩
 ·by_cases h8:k=8
  ·subst h8
   go_enter Tryz.func113,Tryz.ntmps113
   go_wp2
   go_ret
   exact ⟨rfl,box3 w _⟩
  ·have e7:((k:Int)==7)=false:=by simp;omega
   have e8:((k:Int)==8)=false:=by simp;omega
   have HK:Hid (isChK k=false):=by simp[Hid,isChK,h7,h8]
   go_enter Tryz.func113,Tryz.ntmps113
   go_wp2
   go_ret
   exact ⟨by rw[HK.out];rfl,box3 w _⟩
set_option maxHeartbeats 1000000 in
theorem decides_any (k:Nat) (w:World) :
  Calls Tryz.prog 129 #[.int .i64 k] w fun e w'=>e=.returned (.int .i64 (decK k))∧w'=w:=by
 by_cases h8:k=8
 ·subst h8
  go_enter Tryz.func129,Tryz.ntmps129
  go_wp2
  go_ret
  exact ⟨rfl,rfl⟩
 ·have e8:((k:Int)==8)=false:=by simp;omega
  have HK:Hid (decK k=0):=by simp[Hid,decK,h8]
  go_enter Tryz.func129,Tryz.ntmps129
  go_wp2
  go_ret
  exact ⟨by rw[HK.out];rfl,rfl⟩
set_option maxHeartbeats 1000000 in
theorem leaves_any (k:Nat) (w:World) :
  Calls Tryz.prog 156 #[.int .i64 k] w fun e w'=>e=.returned (.int .i64 (leaK k:Nat))∧w'=w:=by
 by_cases h8:k=8
 ·subst h8
  go_enter Tryz.func156,Tryz.ntmps156
  go_wp2
  go_ret
  exact ⟨rfl,rfl⟩
 ·have e8:((k:Int)==8)=false:=by simp;omega
  have HK:Hid (leaK k=14):=by simp[Hid,leaK,h8]
  go_enter Tryz.func156,Tryz.ntmps156
  go_wp2
  go_ret
  exact ⟨by rw[HK.out];rfl,rfl⟩
set_option maxHeartbeats 4000000 in
set_option maxRecDepth 100000 in
theorem operationOf_any (n:PNode) (w:World) :
  Calls Tryz.prog 112 #[nodA n] w fun e w'=>e=.returned (.int .i64 (opK (kindP n.tok.text) n.ops:Nat))∧Below w.heap.size w w':=by
 unfold nodA
 generalize kindP n.tok.text=k
 generalize n.ops=o
 have hd:(k=9∨k=28∨k=27∨k=29∨k=30∨k=31∨k=25∨k=26∨k=23)∨(k≠9∧k≠28∧k≠27∧k≠29∧k≠30∧k≠31∧k≠25∧k≠26∧k≠23):=by omega
 rcases hd with (rfl | rfl | rfl | rfl | rfl | rfl | rfl | rfl | rfl) | ⟨h1,h2,h3,h4,h5,h6,h7,h8,h9⟩
 case inl.inr.inl =>
  by_cases ho:o=1
  ·subst ho
   go_enter Tryz.func112,Tryz.ntmps112
   go_wp2
   go_ret
   exact ⟨rfl,box3 w _⟩
  ·have e1:((o:Int)==1)=false:=by simp;omega
   have HK:Hid (opK 28 o=5):=by simp[Hid,opK,ho]
   go_enter Tryz.func112,Tryz.ntmps112
   go_wp2
   go_ret
   exact ⟨by rw[HK.out];rfl,box3 w _⟩
 case inr =>
  have e1:((k:Int)==9)=false:=by simp;omega
  have e2:((k:Int)==28)=false:=by simp;omega
  have e3:((k:Int)==27)=false:=by simp;omega
  have e4:((k:Int)==29)=false:=by simp;omega
  have e5:((k:Int)==30)=false:=by simp;omega
  have e6:((k:Int)==31)=false:=by simp;omega
  have e7:((k:Int)==25)=false:=by simp;omega
  have e8:((k:Int)==26)=false:=by simp;omega
  have e9:((k:Int)==23)=false:=by simp;omega
  have HK:Hid (opK k o=12):=by simp[Hid,opK,h1,h2,h3,h4,h5,h6,h7,h8,h9]
  go_enter Tryz.func112,Tryz.ntmps112
  go_wp2
  go_ret
  exact ⟨by rw[HK.out];rfl,box3 w _⟩
 all_goals
  go_enter Tryz.func112,Tryz.ntmps112
  go_wp2
  go_ret
  exact ⟨rfl,box3 w _⟩
def cellF (f:Fact):List Value:=[.bool f.isSome,.int .i64 (f.getD 0)]
def cellsF (l:List Fact):List Value:=l.flatMap cellF
def factA (f:Fact):Value:=.agg #[.bool f.isSome,.int .i64 (f.getD 0)]
theorem cellF_length (f:Fact):(cellF f).length=2:=rfl
theorem atF_neg {fs:List Fact} {i:Int} (h:i < 0):atF fs i=none:=if_pos h
theorem atF_nat (fs:List Fact) (n:Nat):atF fs (n:Int)=fs.getD n none:=by
 rw[atF,if_neg (by omega),Int.toNat_natCast]
end Go.Proofs.YtpcjadaeolkngaaGreatDoor
namespace Go.Proofs.YtpcjadaeolkngaaGreatDoor
open Go.RowKit Go.Deep
theorem two_below (w:World) (o o':Obj):Below w.heap.size w ((w.alloc o).alloc o'):=(box3 w o).trans ((box3 _ o').mono (by simp))
theorem three_below (w:World) (o o' o'':Obj):Below w.heap.size w (((w.alloc o).alloc o').alloc o''):=(two_below w o o').trans ((box3 _ o'').mono (by simp;omega))
set_option maxHeartbeats 1000000 in
theorem factAt_any (fs:List Fact) (fv:Value) (i:Int) (w:World) (h:Reads w fv fs.length (cellsF fs)) (hb:fs.length≤401) (hi:-2≤i∧i≤1000) :
  Calls Tryz.prog 110 #[fv,.int .i64 i] w fun e w'=>e=.returned (factA (atF fs i))∧Below w.heap.size w w':=by
 obtain ⟨a,c,rfl⟩:=h.shape
 have HH:=hideP h
 clear h
 by_cases h0:i < 0
 ·have hd:decide (i < 0)=true:=by simpa using h0
  have HN:=hideP (atF_neg (fs:=fs) h0)
  go_enter Tryz.func110,Tryz.ntmps110
  go_wp2
  refine bodyPost_ret (v:=.agg #[.bool false,.int .i64 0]) (by simp[results,Tryz.results110,go_sem]) rfl ⟨by rw[HN.out];rfl,box3 w _⟩
 ·obtain ⟨n,rfl⟩:∃ n:Nat,i=n:=⟨i.toNat,by omega⟩
  by_cases hn:n < fs.length
  ·obtain ⟨g,o,cap,hcut,hcap,hg,hc⟩:=HH.out.pos (by omega)
   cases hcut
   have e0:=hc (n * 2+0) _ (flat_get cellF 2 (fun _=>rfl) fs n hn 0 (by omega))
   have e1:=hc (n * 2+1) _ (flat_get cellF 2 (fun _=>rfl) fs n hn 1 (by omega))
   have HN:Hid (atF fs (n:Int)=fs[n]):=by rw[Hid,atF_nat,List.getD_eq_getElem?_getD,List.getElem?_eq_getElem hn];rfl
   generalize fs[n]=f at *
   have e0':w.cell? ⟨g,o+n * 2,none⟩=some (.bool f.isSome):=by rw[Nat.add_zero] at e0;exact e0
   have e1':w.cell? ⟨g,o+n * 2+1,none⟩=some (.int .i64 (f.getD 0)):=by rw[Nat.add_assoc];exact e1
   clear e0 e1 hc
   go_enter Tryz.func110,Tryz.ntmps110
   go_wp2
   refine bodyPost_ret (v:=.agg #[.bool f.isSome,.int .i64 (f.getD 0)]) (by simp[results,Tryz.results110,go_sem]) rfl ⟨by rw[HN.out];rfl,box3 w _⟩
  ·have HN:Hid (atF fs (n:Int)=none):=by rw[Hid,atF_nat,List.getD_eq_getElem?_getD,List.getElem?_eq_none (by omega)];rfl
   go_enter Tryz.func110,Tryz.ntmps110
   go_wp2
   refine bodyPost_ret (v:=.agg #[.bool false,.int .i64 0]) (by simp[results,Tryz.results110,go_sem]) rfl ⟨by rw[HN.out];rfl,box3 w _⟩
set_option maxHeartbeats 1000000 in
theorem meantBy_any (ls:List PLet) (lv:Value) (d:ByteArray) (w:World) (h:Reads w lv ls.length (cellsLt ls)) (hb:ls.length≤401) (hx:∀ p∈ls,1≤p.val.behind∧p.val.behind≤401) :
  Calls Tryz.prog 116 #[.string d,lv] w fun e w'=>e=.returned (.int .i64 (meantI ls d.toList))∧Below w.heap.size w w':=by
 obtain ⟨a,c,rfl⟩:=h.shape
 have HH:=hideP h
 have hle:=letIx_le ls d.toList
 by_cases hlt:letIx ls d.toList < ls.length
 ·obtain ⟨g,o,cap,hcut,hcap,hg,hc⟩:=h.pos (by omega)
  cases hcut
  have fc:=hc (letIx ls d.toList * 6+5) _ (flat_get cellL 6 (fun _=>rfl) ls _ hlt 5 (by omega))
  obtain ⟨pl,hpl⟩:∃ pl,pl=ls[letIx ls d.toList]:=⟨_,rfl⟩
  have hbe:=hx pl (by rw[hpl];exact List.getElem_mem hlt)
  have HNK:Hid (meantI ls d.toList=(pl.val.behind:Int) - 1):=by rw[Hid,meantI,List.getElem?_eq_getElem hlt,hpl]
  rw[← hpl] at fc
  obtain ⟨ix,hix⟩:∃ ix,letIx ls d.toList=ix:=⟨_,rfl⟩
  have HIX:=hideP hix
  rw[hix] at fc hlt
  have d5:w.cell? ⟨g,o+ix * 6+5,none⟩=some (.int .i64 pl.val.behind):=by rw[Nat.add_assoc];exact fc
  clear fc hpl hc h hx hle hix
  rw[HNK.out]
  go_enter Tryz.func116,Tryz.ntmps116
  go_wp2_with (go_at_call 105;refine (LetOf_any ls _ d _ HH.out hb).mono ?_;rintro e' w4 ⟨rfl,rfl⟩;rw[HIX.out])
  go_ret
  exact ⟨rfl,Below.refl _ _⟩
 ·have hix:letIx ls d.toList=ls.length:=by omega
  have HIX:=hideP hix
  have HNK:Hid (meantI ls d.toList=-1):=by rw[Hid,meantI,List.getElem?_eq_none (by omega)]
  clear hx hle hix h
  rw[HNK.out]
  go_enter Tryz.func116,Tryz.ntmps116
  go_wp2_with (go_at_call 105;refine (LetOf_any ls _ d _ HH.out hb).mono ?_;rintro e' w4 ⟨rfl,rfl⟩;rw[HIX.out])
  go_ret
  exact ⟨rfl,Below.refl _ _⟩
theorem numT_step (t:Txt) (i:Nat) (h:i < t.length):numT (t.take (i+1))=numT (t.take i) * 10+(t[i].toNat:Int) - 48:=by
 rw[numT,numT,List.take_succ_eq_append_getElem h,List.foldl_append]
 rfl
theorem numT_bound (t:Txt) (hd:∀ c∈t,isDig c=true):0≤numT t∧numT t < 10 ^ t.length:=by
 have:∀ k,k≤t.length→0≤numT (t.take k)∧numT (t.take k) < 10 ^ k:=by
  intro k
  induction k with
  | zero=>intro _;simp[numT]
  | succ k ih =>
   intro hk
   have:=ih (by omega)
   rw[numT_step t k (by omega),Int.pow_succ]
   have hc:=hd t[k] (List.getElem_mem _)
   rw[isDig_int] at hc
   simp only[Bool.and_eq_true,decide_eq_true_eq] at hc
   omega
 have h1:=this t.length (Nat.le_refl _)
 rw[List.take_length] at h1
 exact h1
theorem pow_le17 (k:Nat) (h:k≤17):(10:Int) ^ k≤100000000000000000:=by
 have:(10:Nat) ^ k≤10 ^ 17:=Nat.pow_le_pow_right (by omega) h
 have h2:((10 ^ k:Nat):Int)≤((10 ^ 17:Nat):Int):=Int.ofNat_le.2 this
 simpa using h2
set_option maxHeartbeats 1000000 in
theorem numberOf_any (d:ByteArray) (w:World) (hl:d.size≤18) (hd:∀ c∈d.toList,isDig c=true) :
  Calls Tryz.prog 130 #[.string d] w fun e w'=>e=.returned (.int .i64 (numT d.toList))∧w'=w:=by
 have HD:=hideP hd
 clear hd
 go_enter Tryz.func130,Tryz.ntmps130
 go_wp2
 go_loop [3,4] (fun vn vi=>∃ i:Nat,i≤d.size∧vi=.int .i64 i∧vn=.int .i64 (numT (d.toList.take i))) (fun _ i=>d.size - (intOf i).toNat)
 case atStart=>exact ⟨0,Nat.zero_le _,rfl,rfl⟩
 case round =>
  obtain ⟨i,hi,rfl,rfl⟩:=hrel
  by_cases hlt:i < d.size
  ·have hs:=numT_step d.toList i (by rw[toList_length];exact hlt)
   have hge:d.toList[i]'(by rw[toList_length];exact hlt)=d[i]:=by
    have:=getElem_toList d i hlt
    rw[List.getElem?_eq_getElem (by rw[toList_length];exact hlt)] at this
    exact Option.some.inj this
   have hb:=numT_bound (d.toList.take i) (fun c hc=>HD.out c (List.mem_of_mem_take hc))
   rw[List.length_take,toList_length] at hb
   have hp:=pow_le17 (min i d.size) (by omega)
   rw[hge] at hs
   have hc8:=(d[i]).toNat_lt
   generalize numT (d.toList.take i)=z at *
   have HS:=hideP hs
   clear hs hge
   go_wp2
   go_round
   case rel =>
    refine ⟨i+1,by omega,by go_num, ?_⟩
    rw[HS.out]
   case measure=>simp[intOf];omega
  ·go_wp2
   go_ret
   exact ⟨ret_int (by rw[show i=d.size by omega,← toList_length,List.take_length]),rfl⟩
end Go.Proofs.YtpcjadaeolkngaaGreatDoor
namespace Go.Proofs.YtpcjadaeolkngaaGreatDoor
open Go.RowKit Go.Deep
def FactIn (f:Fact):Prop:=∀ v,f=some v→In64 v
theorem FactIn.none:FactIn none:=by intro v h;cases h
theorem oneF_in {c:Nat} {f:Fact}:FactIn (oneF c f):=by
 intro v h
 cases f with
 | none=>cases h
 | some a =>
  simp only[oneF] at h
  split at h
  ·cases h
   unfold oneN
   split
   ·exact neg_in _
   ·show In64 (bitN _);unfold bitN;split <;> decide
  ·cases h
theorem twoF_in {c:Nat} {f g:Fact} (hf:FactIn f) (hg:FactIn g):FactIn (twoF c f g):=by
 intro v h
 cases f with
 | none=>cases h
 | some a =>
  cases g with
  | none=>cases h
  | some b =>
   simp only[twoF] at h
   split at h
   ·cases h
    exact join_in _ _ _ (hf a rfl) (hg b rfl)
   ·cases h
theorem choiceF_in {k:Nat} {f g:Fact} (hf:FactIn f) (hg:FactIn g):FactIn (choiceF k f g):=by
 intro v h
 cases f with
 | none=>cases h
 | some a =>
  simp only[choiceF] at h
  split at h
  ·cases h;exact hf _ rfl
  ·exact hg v h
theorem join_flt0 {c:Nat} {a b:Int} (h:(joinN c a b).2≠0):(joinN c a b).1=0:=by
 have e2:∀ v,(exact64 v).2≠0→(exact64 v).1=0:=fun v=>by unfold exact64;split <;> simp
 revert h
 unfold joinN
 (repeat' split) <;> first | exact e2 _ | simp
theorem one_flt0 {c:Nat} {a:Int} (h:(oneN c a).2≠0):(oneN c a).1=0:=by
 revert h
 unfold oneN negN exact64
 (repeat' split) <;> simp
set_option maxHeartbeats 1000000 in
theorem factOfOne_any (c:Nat) (hc:c=2∨c=3) (f:Fact) (hf:FactIn f) (w:World) :
  Calls Tryz.prog 111 #[.int .i64 c,factA f] w fun e w'=>e=.returned (factA (oneF c f))∧Below w.heap.size w w':=by
 unfold factA
 cases f with
 | none =>
  simp only[Option.isSome_none,Option.getD_none,oneF]
  go_enter Tryz.func111,Tryz.ntmps111
  go_wp2
  refine bodyPost_ret (v:=.agg #[.bool false,.int .i64 0]) (by simp[results,Tryz.results111,go_sem]) rfl ⟨rfl,two_below w _ _⟩
 | some a =>
  simp only[Option.isSome_some,Option.getD_some]
  have ha:=hf a rfl
  have HO:Hid (oneF c (some a)=if (oneN c a).2=0 then some (oneN c a).1 else none):=rfl
  have HF:Hid ((oneN c a).2≠0→(oneN c a).1=0):=one_flt0
  obtain ⟨u,hu⟩:∃ u,oneN c a=u:=⟨_,rfl⟩
  obtain ⟨v,q⟩:=u
  have HU:=hideP hu
  clear hu hf
  by_cases hq:q=0
  ·subst hq
   have HE:Hid (oneF c (some a)=some v):=by rw[Hid,HO.out,HU.out];rfl
   clear HO
   go_enter Tryz.func111,Tryz.ntmps111
   go_wp2_with (go_at_call 119;refine (One_any c hc a ha _).mono ?_;rintro e' w4 ⟨rfl,rfl⟩;rw[HU.out];dsimp only)
   refine bodyPost_ret (v:=.agg #[.bool true,.int .i64 v]) (by simp[results,Tryz.results111,go_sem]) rfl ⟨by rw[HE.out];rfl,two_below w _ _⟩
  ·have HE:Hid (oneF c (some a)=none):=by rw[Hid,HO.out,HU.out];exact if_neg hq
   have hv:v=0:=by have:=HF.out;rw[HU.out] at this;exact this hq
   subst hv
   have e0:((q:Int)==0)=false:=by simp;omega
   clear HO
   go_enter Tryz.func111,Tryz.ntmps111
   go_wp2_with (go_at_call 119;refine (One_any c hc a ha _).mono ?_;rintro e' w4 ⟨rfl,rfl⟩;rw[HU.out];dsimp only)
   refine bodyPost_ret (v:=.agg #[.bool false,.int .i64 0]) (by simp[results,Tryz.results111,go_sem]) rfl ⟨by rw[HE.out];rfl,two_below w _ _⟩
set_option maxHeartbeats 1000000 in
theorem factOfTwo_any (c:Nat) (hc:4≤c∧c≤12) (f g:Fact) (hf:FactIn f) (hg:FactIn g) (w:World) :
  Calls Tryz.prog 115 #[.int .i64 c,factA f,factA g] w fun e w'=>e=.returned (factA (twoF c f g))∧Below w.heap.size w w':=by
 unfold factA
 cases f with
 | none =>
  have HE:Hid (twoF c none g=none):=rfl
  simp only[Option.isSome_none,Option.getD_none]
  generalize g.isSome=gs
  generalize g.getD 0=gv
  go_enter Tryz.func115,Tryz.ntmps115
  go_wp2
  refine bodyPost_ret (v:=.agg #[.bool false,.int .i64 0]) (by simp[results,Tryz.results115,go_sem]) rfl ⟨by rw[HE.out];rfl,three_below w _ _ _⟩
 | some a =>
  cases g with
  | none =>
   simp only[Option.isSome_none,Option.getD_none,Option.isSome_some,Option.getD_some,twoF]
   go_enter Tryz.func115,Tryz.ntmps115
   go_wp2
   refine bodyPost_ret (v:=.agg #[.bool false,.int .i64 0]) (by simp[results,Tryz.results115,go_sem]) rfl ⟨rfl,three_below w _ _ _⟩
  | some b =>
   simp only[Option.isSome_some,Option.getD_some]
   have ha:=hf a rfl
   have hb:=hg b rfl
   have HO:Hid (twoF c (some a) (some b)=if (joinN c a b).2=0 then some (joinN c a b).1 else none):=rfl
   have HF:Hid ((joinN c a b).2≠0→(joinN c a b).1=0):=join_flt0
   obtain ⟨u,hu⟩:∃ u,joinN c a b=u:=⟨_,rfl⟩
   obtain ⟨v,q⟩:=u
   have HU:=hideP hu
   clear hu hf hg
   by_cases hq:q=0
   ·subst hq
    have HE:Hid (twoF c (some a) (some b)=some v):=by rw[Hid,HO.out,HU.out];rfl
    clear HO
    go_enter Tryz.func115,Tryz.ntmps115
    go_wp2_with (go_at_call 121;refine (Two_any c hc a b ha hb _).mono ?_;rintro e' w4 ⟨rfl,rfl⟩;rw[HU.out];dsimp only)
    refine bodyPost_ret (v:=.agg #[.bool true,.int .i64 v]) (by simp[results,Tryz.results115,go_sem]) rfl ⟨by rw[HE.out];rfl,three_below w _ _ _⟩
   ·have HE:Hid (twoF c (some a) (some b)=none):=by rw[Hid,HO.out,HU.out];exact if_neg hq
    have hv:v=0:=by have:=HF.out;rw[HU.out] at this;exact this hq
    subst hv
    have e0:((q:Int)==0)=false:=by simp;omega
    clear HO
    go_enter Tryz.func115,Tryz.ntmps115
    go_wp2_with (go_at_call 121;refine (Two_any c hc a b ha hb _).mono ?_;rintro e' w4 ⟨rfl,rfl⟩;rw[HU.out];dsimp only)
    refine bodyPost_ret (v:=.agg #[.bool false,.int .i64 0]) (by simp[results,Tryz.results115,go_sem]) rfl ⟨by rw[HE.out];rfl,three_below w _ _ _⟩
end Go.Proofs.YtpcjadaeolkngaaGreatDoor
