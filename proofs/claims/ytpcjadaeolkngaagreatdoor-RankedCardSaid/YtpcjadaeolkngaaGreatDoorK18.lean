/-
  What is an item, what is a bin: by both sides.
-/
import Derived.Test.YtpcjadaeolkngaaGreatDoorK17
import Derived.Test.YtpcjadaeolkngaaGreatDoorK07
import Derived.Laws.BytesString
import Derived.Laws.Cells
import Derived.BigQuiet
set_option linter.unusedVariables false
set_option linter.unusedSimpArgs false
namespace Go.Proofs.YtpcjadaeolkngaaGreatDoor
open Go.RowKit
def btw (n a b:Int):Bool:=decide (a≤n)&&decide (n≤b)
def itmB (x:Itm):Bool:=btw x.size 1 1000&&btw x.speed 0 1000&&btw x.need 0 2
def bnB (y:Bn):Bool:=btw y.id 0 1000&&btw y.zone 0 9&&btw y.cap 1 1000&&btw y.used 0 y.cap&&btw y.has 0 2
theorem itmB_iff (x:Itm):itmB x=true ↔ x.Ok:=by unfold itmB btw Itm.Ok;simp[and_assoc]
theorem bnB_iff (y:Bn):bnB y=true ↔ y.Ok:=by unfold bnB btw Bn.Ok;simp[and_assoc]
set_option maxHeartbeats 400000 in
theorem within_any (n a b:Int) (w:World) :
  Calls Tryz.prog 53 #[.int .i64 n,.int .i64 a,.int .i64 b] w fun e w'=>e=.returned (.bool (btw n a b))∧w'=w:=by
 unfold btw
 by_cases h:a≤n
 all_goals
  go_enter Tryz.func53,Tryz.ntmps53
  go_wp2
  all_goals go_ret
  all_goals exact ⟨ret_bool (by go_light;first | (simp[h];done) | (simp;omega)),rfl⟩
set_option maxHeartbeats 400000 in
theorem isClass_any (n:Int) (w:World) :
  Calls Tryz.prog 54 #[.int .i64 n] w fun e w'=>e=.returned (.bool (btw n 0 2))∧w'=w:=by
 go_enter Tryz.func54,Tryz.ntmps54
 go_wp2_with (go_at_call 53;refine (within_any _ _ _ _).mono ?_;rintro e w' ⟨rfl,rfl⟩)
 go_ret
 exact ⟨rfl,rfl⟩
set_option maxHeartbeats 1000000 in
theorem pIsItem_any (x:Itm) (w:World) :
  Calls Tryz.prog 27 #[itmA x] w fun e w'=>e=.returned (.bool (itmB x))∧Below w.heap.size w w':=by
 unfold itmA itmB
 cases h1:btw x.size 1 1000 <;> cases h2:btw x.speed 0 1000
 all_goals
  go_enter Tryz.func27,Tryz.ntmps27
  go_wp2_with (first | (go_at_call 53;refine (within_any _ _ _ _).mono ?_;rintro e w' ⟨rfl,rfl⟩) | (go_at_call 54;refine (isClass_any _ _).mono ?_;rintro e w' ⟨rfl,rfl⟩))
  go_ret
  exact ⟨ret_bool (by simp),box3 _ _⟩
set_option maxHeartbeats 1000000 in
theorem pIsBin_any (y:Bn) (w:World) :
  Calls Tryz.prog 28 #[bnA y] w fun e w'=>e=.returned (.bool (bnB y))∧Below w.heap.size w w':=by
 unfold bnA bnB
 cases h1:btw y.id 0 1000 <;> cases h2:btw y.zone 0 9 <;> cases h3:btw y.cap 1 1000 <;> cases h4:btw y.used 0 y.cap
 all_goals
  go_enter Tryz.func28,Tryz.ntmps28
  go_wp2_with (first | (go_at_call 53;refine (within_any _ _ _ _).mono ?_;rintro e w' ⟨rfl,rfl⟩) | (go_at_call 54;refine (isClass_any _ _).mono ?_;rintro e w' ⟨rfl,rfl⟩))
  go_ret
  exact ⟨ret_bool (by simp),box3 _ _⟩
end Go.Proofs.YtpcjadaeolkngaaGreatDoor
namespace Go.Proofs.YtpcjadaeolkngaaGreatDoor
open Go.RowKit
set_option maxHeartbeats 400000 in
theorem pick_any (c n:Int) (hc:In64 c) (hn:0 < n∧n≤2000) (w:World) :
  Calls Tryz.prog 13 #[.int .i64 c,.int .i64 n] w fun e w'=>(∃ r:Int,0≤r∧r < n∧e=.returned (.int .i64 r))∧w'=w:=by
 obtain ⟨h1,h2⟩:=hc
 obtain ⟨h3,h4⟩:=hn
 have en:(n==0)=false:=by simp;omega
 by_cases h:c < 0
 ·have hm:=Int.emod_nonneg (-(c+1)) (b:=n) (by omega)
  have hl:=Int.emod_lt_of_pos (-(c+1)) h3
  have ht:(-(c+1)).tmod n=(-(c+1)) % n:=Int.tmod_eq_emod_of_nonneg (by omega)
  have HM:=Hid.mk2 hm
  have HL:=Hid.mk2 hl
  have HT:=Hid.mk2 ht
  clear hm hl ht
  go_enter Tryz.func13,Tryz.ntmps13
  go_wp2
  all_goals go_ret
  have e1:-((c+1).tmod n)=(-(c+1)) % n:=by rw[← HT.out,Int.neg_tmod]
  exact ⟨⟨-((c+1).tmod n),by rw[e1];exact HM.out,by rw[e1];exact HL.out,rfl⟩,rfl⟩
 ·have hm:=Int.emod_nonneg c (b:=n) (by omega)
  have hl:=Int.emod_lt_of_pos c h3
  have HM:=Hid.mk2 hm
  have HL:=Hid.mk2 hl
  clear hm hl
  go_enter Tryz.func13,Tryz.ntmps13
  go_wp2
  all_goals go_ret
  exact ⟨⟨c % n,HM.out,HL.out,rfl⟩,rfl⟩
theorem Blk.drewN {w:World} {b:Nat} {cs:Array Value} {t:TypeId} (h:Blk w b cs t) (n:Nat):Blk (w.drewN n) b cs t:=h
structure But (fb:Nat) (w w':World):Prop where
 os:w'.os=w.os
 tape:w'.tape=w.tape
 output:w'.output=w.output
 size:w.heap.size≤w'.heap.size
 block:∀ k,k≠fb→k < w.heap.size→w'.heap[k]?=w.heap[k]?
theorem But.refl (fb:Nat) (w:World):But fb w w:=⟨rfl,rfl,rfl,Nat.le_refl _,fun _ _ _=>rfl⟩
theorem But.trans {fb:Nat} {w w1 w2:World} (h:But fb w w1) (g:But fb w1 w2):But fb w w2 :=
 ⟨g.os.trans h.os,g.tape.trans h.tape,g.output.trans h.output,Nat.le_trans h.size g.size,fun k h1 h2=>(g.block k h1 (Nat.lt_of_lt_of_le h2 h.size)).trans (h.block k h1 h2)⟩
theorem But.of {fb:Nat} {w w':World} (h:Below w.heap.size w w'):But fb w w':=⟨h.os,h.tape,h.output,h.size,fun k _ h2=>h.block k h2⟩
theorem But.below {fb B:Nat} {w w':World} (h:But fb w w') (h1:B≤fb) (h2:B≤w.heap.size):Below B w w':=⟨h.os,h.tape,h.output,h.size,fun k hk=>h.block k (by omega) (by omega)⟩
theorem Blk.but {w w':World} {b fb:Nat} {cs:Array Value} {t:TypeId} (h:Blk w b cs t) (hb:But fb w w') (hne:b≠fb):Blk w' b cs t:=(hb.block b hne h.lt).trans h
theorem But.set {w:World} (fb i:Nat) (v:Value) (h:fb < w.heap.size):But fb w (w.setCell ⟨fb,i,none⟩ v):=by
 have g:=(Below.refl fb w).setCell (p:=⟨fb,i,none⟩) (Nat.le_refl _) v
 exact ⟨g.os,g.tape,g.output,g.size,fun k h1 _=>Below.heap_setCell _ _ _ _ h1⟩
structure FeedAt (w:World) (fb:Nat):Prop where
 ok:∃ (s:ByteArray) (k:Nat),Blk w fb #[.string s,.int .i64 k] 59∧k≤s.size∧s.size≤maxLen
theorem FeedAt.below {w w':World} {fb:Nat} (h:FeedAt w fb) (hb:Below w.heap.size w w'):FeedAt w' fb:=by
 obtain ⟨s,k,h1,h2⟩:=h.ok
 exact ⟨s,k,h1.below hb h1.lt,h2⟩
set_option maxHeartbeats 1000000 in
theorem next_any (n:Int) (hn:0 < n∧n≤2000) (fb:Nat) (w:World) (h:FeedAt w fb) :
  Calls Tryz.prog 19 #[.pointer (some ⟨fb,0,none⟩),.int .i64 n] w fun e w'=>(∃ r:Int,0≤r∧r < n∧e=.returned (.int .i64 r))∧FeedAt w' fb∧But fb w w':=by
 obtain ⟨s,k,hb,hk,hs⟩:=h.ok
 have HB:=Hid.mk2 hb
 have HFd:=Hid.mk2 h
 have c0:=hb.cell 0
 have c1:=hb.cell 1
 have f1:=hb.free 1
 have hs':(s.size:Int)≤9223372036854775807:=by have h:=hs;simp[maxLen] at h;omega
 obtain ⟨h3,h4⟩:=hn
 have en:(n==0)=false:=by simp;omega
 have HSm:=Hid.mk2 hs
 clear h hb hs
 by_cases hlt:k < s.size
 ·have hix:=fun wx=>run_index_nat (P:=Tryz.prog) wx 9 s .i64 (k:Int) k Tryz.underlying9 rfl hlt
  obtain ⟨c,hc⟩:∃ c,c=s[k].toNat:=⟨_,rfl⟩
  have hc256:c < 256:=by rw[hc];exact UInt8.toNat_lt _
  rw[← hc] at hix
  have hm:=Int.emod_nonneg (c:Int) (b:=n) (by omega)
  have hl:=Int.emod_lt_of_pos (c:Int) h3
  have HM:=Hid.mk2 hm
  have HL:=Hid.mk2 hl
  have dk:decide ((s.size:Int)≤(k:Int))=false:=by simp;omega
  clear hc hm hl
  go_enter Tryz.func19,Tryz.ntmps19
  go_wp2
  go_quiet (fail)
  go_wp2
  go_quiet (fail)
  go_wp2
  go_ret
  exact ⟨⟨_,HM.out,HL.out,rfl⟩,⟨s,k+1,(HB.out.drewN _).set 1 _,by omega,HSm.out⟩,(But.of (below_drewN (Below.refl _ w) _)).trans (But.set fb 1 _ HB.out.lt)⟩
 ·have dk:decide ((s.size:Int)≤(k:Int))=true:=by simp;omega
  go_enter Tryz.func19,Tryz.ntmps19
  go_wp2
  go_quiet (fail)
  go_wp2
  go_ret
  exact ⟨⟨0,Int.le_refl _,h3,rfl⟩,⟨s,k,HB.out.drewN _,hk,HSm.out⟩,But.of (below_drewN (Below.refl _ w) _)⟩
end Go.Proofs.YtpcjadaeolkngaaGreatDoor
namespace Go.Proofs.YtpcjadaeolkngaaGreatDoor
open Go.RowKit
def bsN (l:List Nat):ByteArray:=⟨(l.map UInt8.ofNat).toArray⟩
theorem bsN_fold (l:List Nat):∀ r:ByteArray,(l.map Int.ofNat).foldl (fun r n=>r.push (UInt8.ofNat n.toNat)) r=⟨r.data++(l.map UInt8.ofNat).toArray⟩:=by
 induction l with
 | nil=>intro r;simp
 | cons c l ih =>
  intro r
  simp only[List.map_cons,List.foldl_cons]
  rw[ih]
  simp[ByteArray.push]
theorem bsN_append (l m:List Nat):bsN l++bsN m=bsN (l++m):=by
 apply ByteArray.ext
 simp[bsN,ByteArray.data_append]
theorem conv_bytes (w:World) (b:Nat) (l:List Nat) (t:TypeId) (hb:Blk w b ((l.map fun n:Nat=>Value.int .u8 (n:Int)).toArray) t) :
  (convert 158 9 (.slice (some ⟨b,0,none⟩) l.length l.length)).run Tryz.prog w=.ok (.string (bsN l)) w:=by
 rw[run_convert_bytes_string w 158 9 5 _ _ _ Tryz.underlying158 Tryz.underlying5 Tryz.underlying9]
 rw[run_bytesToString w ⟨b,0,none⟩ l.length l.length (l.map Int.ofNat) ?_]
 ·rw[bsN_fold]
  simp[bsN]
 ·have h:=run_loadCells_list (P:=Tryz.prog) w ⟨b,0,none⟩ ((l.map Int.ofNat).map (Value.int .u8)) ?_
  ·simpa using h
  ·intro j v hj
   simp at hj
   obtain ⟨c,hc,rfl⟩:=hj
   have:=hb.cell j
   simp[hc] at this
   rw[show (⟨b,0,none⟩:Addr).add j=⟨b,j,none⟩ by unfold Addr.add;split <;> simp_all]
   exact this
end Go.Proofs.YtpcjadaeolkngaaGreatDoor
namespace Go.Proofs.YtpcjadaeolkngaaGreatDoor
open Go.RowKit
def cellB (b:Bn):List Value:=[.int .i64 b.id,.int .i64 b.zone,.int .i64 b.cap,.int .i64 b.used,.int .i64 b.has]
def cellsB (l:List Bn):List Value:=l.flatMap cellB
theorem cellsB_snoc (l:List Bn) (t:Bn):cellsB (l++[t])=cellsB l++cellB t:=by simp[cellsB]
theorem cellsB_at (l:List Bn) (i:Nat) (h:i < l.length) (j:Nat) (hj:j < 5):(cellsB l)[i * 5+j]?=(cellB l[i])[j]?:=by
 induction l generalizing i with
 | nil=>simp at h
 | cons a r ih =>
  cases i with
  | zero =>
   simp only[cellsB,List.flatMap_cons,Nat.zero_mul,Nat.zero_add,List.getElem_cons_zero]
   rw[List.getElem?_append_left (by simp[cellB];omega)]
  | succ i =>
   have hi:i < r.length:=by simpa using h
   have:=ih i hi
   simp only[cellsB,List.flatMap_cons,List.getElem_cons_succ] at this ⊢
   rw[List.getElem?_append_right (by simp[cellB];omega),← this]
   congr 1
   simp[cellB];omega
theorem cellsB_get (l:List Bn) (i:Nat) (h:i < l.length) :
  (cellsB l)[i * 5]?=some (.int .i64 l[i].id)∧(cellsB l)[i * 5+1]?=some (.int .i64 l[i].zone)∧(cellsB l)[i * 5+2]?=some (.int .i64 l[i].cap)∧(cellsB l)[i * 5+3]?=some (.int .i64 l[i].used)∧(cellsB l)[i * 5+4]?=some (.int .i64 l[i].has) :=
 ⟨cellsB_at l i h 0 (by omega),cellsB_at l i h 1 (by omega),cellsB_at l i h 2 (by omega),cellsB_at l i h 3 (by omega),cellsB_at l i h 4 (by omega)⟩
def findB (l:List Bn) (id:Int):Option Bn:=l.find? fun b=>b.id==id
def insB (l:List Bn) (b:Bn):List Bn:=l.takeWhile (fun x=>decide (x.id < b.id))++b :: l.dropWhile (fun x=>decide (x.id < b.id))
structure Shelf (l:List Bn):Prop where
 up:∀ (i j:Nat) (hi:i < l.length) (hj:j < l.length),i < j→l[i].id < l[j].id
 ok:∀ b∈l,b.Ok
theorem Shelf.nil:Shelf []:=⟨fun i j hi=>by simp at hi,by simp⟩
theorem findB_none {l:List Bn} {id:Int} (h:∀ b∈l,b.id≠id):findB l id=none:=by
 unfold findB
 simp only[List.find?_eq_none,beq_iff_eq]
 exact h
theorem takeWhile_all {α:Type} (p:α→Bool) (l:List α) (k:Nat) (hk:k≤l.length) (h1:∀ (j:Nat) (hj:j < l.length),j < k→p l[j]=true) (h2:∀ h:k < l.length,p l[k]=false):l.takeWhile p=l.take k∧l.dropWhile p=l.drop k:=by
 induction l generalizing k with
 | nil=>simp
 | cons a r ih =>
  cases k with
  | zero =>
   have:=h2 (by simp)
   simp at this
   simp[this]
  | succ k =>
   have h0:=h1 0 (by simp) (by omega)
   simp at h0
   obtain ⟨e1,e2⟩:=ih k (by simpa using hk) (fun j hj hjk=>by have:=h1 (j+1) (by simpa using hj) (by omega);simpa using this) (fun h=>by have:=h2 (by simpa using h);simpa using this)
   simp[h0,e1,e2]
theorem insB_at {l:List Bn} {b:Bn} (k:Nat) (hk:k≤l.length) (h1:∀ (j:Nat) (hj:j < l.length),j < k→l[j].id < b.id) (h2:∀ h:k < l.length,¬ l[k].id < b.id):insB l b=l.take k++b :: l.drop k:=by
 obtain ⟨e1,e2⟩:=takeWhile_all (fun x:Bn=>decide (x.id < b.id)) l k hk (fun j hj hjk=>by simpa using h1 j hj hjk) (fun h=>by simpa using h2 h)
 unfold insB
 rw[e1,e2]
theorem Shelf.snoc {l:List Bn} (h:Shelf l) (b:Bn) (hb:∀ x∈l,x.id < b.id) (hok:b.Ok):Shelf (l++[b]):=by
 refine ⟨fun i j hi hj hij=>?_,fun x hx=>?_⟩
 ·simp at hi hj
  by_cases hjl:j < l.length
  ·rw[List.getElem_append_left (by omega),List.getElem_append_left hjl]
   exact h.up i j (by omega) hjl hij
  ·rw[List.getElem_append_left (by omega),List.getElem_append_right (by omega)]
   simp
   exact hb _ (List.getElem_mem _)
 ·rcases List.mem_append.1 hx with h1 | h1
  ·exact h.ok x h1
  ·simp at h1;subst h1;exact hok
end Go.Proofs.YtpcjadaeolkngaaGreatDoor
namespace Go.Proofs.YtpcjadaeolkngaaGreatDoor
open Go.RowKit
theorem Tryz.infoBin:(Tryz.prog.info? 25).map (fun i=>(i.zero,i.size,i.bytes))=some (some (.agg #[.int .i64 0,.int .i64 0,.int .i64 0,.int .i64 0,.int .i64 0]),5,40):=by kernel_rfl
theorem one_bin (b:Bn):∀ u∈[Value.int .i64 b.id,.int .i64 b.zone,.int .i64 b.cap,.int .i64 b.used,.int .i64 b.has],u.oneCell'=true:=by
 intro u hu
 simp at hu
 rcases hu with rfl | rfl | rfl | rfl | rfl <;> rfl
theorem cell_five (w:World) (x y z t u:Value) (e:TypeId):∀ j v,[x,y,z,t,u][j]?=some v→(w.alloc (.cells #[x,y,z,t,u] e)).cell? ((⟨w.heap.size,0,none⟩:Addr).add j)=some v:=by
 intro j v hj
 match j,hj with
 | 0,hj=>simp at hj;subst hj;simp[Addr.add]
 | 1,hj=>simp at hj;subst hj;simp[Addr.add]
 | 2,hj=>simp at hj;subst hj;simp[Addr.add]
 | 3,hj=>simp at hj;subst hj;simp[Addr.add]
 | 4,hj=>simp at hj;subst hj;simp[Addr.add]
theorem bin_cells {w:World} {bs:List Bn} {g o:Nat} (hc:∀ j u,(cellsB bs)[j]?=some u→w.cell? ⟨g,o+j,none⟩=some u) (i:Nat) (hi:i < bs.length) :
  w.cell? ⟨g,o+i * 5,none⟩=some (.int .i64 bs[i].id)∧w.cell? ⟨g,o+i * 5+1,none⟩=some (.int .i64 bs[i].zone)∧w.cell? ⟨g,o+i * 5+2,none⟩=some (.int .i64 bs[i].cap)∧w.cell? ⟨g,o+i * 5+3,none⟩=some (.int .i64 bs[i].used)∧w.cell? ⟨g,o+i * 5+4,none⟩=some (.int .i64 bs[i].has):=by
 obtain ⟨h0,h1,h2,h3,h4⟩:=cellsB_get bs i hi
 exact ⟨hc _ _ h0,hc _ _ h1,hc _ _ h2,hc _ _ h3,hc _ _ h4⟩
theorem findB_step {l:List Bn} {id:Int} (i:Nat) (hi:i < l.length) (h1:∀ j (hj:j < i) (hl:j < l.length),l[j].id≠id) (h2:l[i].id=id):findB l id=some l[i]:=by
 unfold findB
 rw[List.find?_eq_some_iff_getElem]
 exact ⟨by simpa using h2,i,hi,rfl,fun j hj=>by simpa using h1 j hj (by omega)⟩
theorem findB_end {l:List Bn} {id:Int} (h1:∀ j (hl:j < l.length),l[j].id≠id):findB l id=none:=by
 unfold findB
 simp only[List.find?_eq_none,beq_iff_eq]
 intro x hx
 obtain ⟨j,hj,rfl⟩:=List.getElem_of_mem hx
 exact h1 j hj
def zeroB:Bn:=⟨0,0,0,0,0⟩
set_option maxHeartbeats 1000000 in
theorem find_any (bs:List Bn) (id:Int) (v:Value) (w:World) (h:Reads w v bs.length (cellsB bs)) (hl:bs.length≤100) :
  Calls Tryz.prog 94 #[v,.int .i64 id] w fun e w'=>Below w.heap.size w w'∧((∃ b,findB bs id=some b∧e=.returned (.tuple #[bnA b,.bool true]))∨(findB bs id=none∧e=.returned (.tuple #[bnA zeroB,.bool false]))):=by
 obtain ⟨a,c,rfl⟩:=h.shape
 have HH:=Hid.mk2 h
 have HN:=Hid.mk2 (Blk.new w #[.int .i64 0,.int .i64 0,.int .i64 0,.int .i64 0,.int .i64 0] 25)
 clear h
 go_enter Tryz.func94,Tryz.ntmps94
 go_wp2
 go_loop [6] (fun vi=>∃ i:Nat,i≤bs.length∧vi=.int .i64 i∧∀ j (hj:j < i) (hl:j < bs.length),bs[j].id≠id) (fun i=>bs.length - (intOf i).toNat)
 case atStart=>exact ⟨0,Nat.zero_le _,rfl,fun j hj=>by omega⟩
 case round =>
  obtain ⟨i,hi,rfl,hall⟩:=hrel
  have HA:=Hid.mk2 hall
  clear hall
  by_cases hlt:i < bs.length
  ·obtain ⟨g,o,cap,hcut,hcap,hg,hc⟩:=HH.out.pos (by omega)
   cases hcut
   obtain ⟨c0,c1,c2,c3,c4⟩:=bin_cells hc i hlt
   have e0:=((box3 w (.cells #[.int .i64 0,.int .i64 0,.int .i64 0,.int .i64 0,.int .i64 0] 25)).cell (p:=⟨g,o+i * 5,none⟩) hg).trans c0
   have e1:=((box3 w (.cells #[.int .i64 0,.int .i64 0,.int .i64 0,.int .i64 0,.int .i64 0] 25)).cell (p:=⟨g,o+i * 5+1,none⟩) hg).trans c1
   have e2:=((box3 w (.cells #[.int .i64 0,.int .i64 0,.int .i64 0,.int .i64 0,.int .i64 0] 25)).cell (p:=⟨g,o+i * 5+2,none⟩) hg).trans c2
   have e3:=((box3 w (.cells #[.int .i64 0,.int .i64 0,.int .i64 0,.int .i64 0,.int .i64 0] 25)).cell (p:=⟨g,o+i * 5+3,none⟩) hg).trans c3
   have e4:=((box3 w (.cells #[.int .i64 0,.int .i64 0,.int .i64 0,.int .i64 0,.int .i64 0] 25)).cell (p:=⟨g,o+i * 5+4,none⟩) hg).trans c4
   generalize hb:bs[i]=b at *
   have HBE:=Hid.mk2 hb
   clear hc c0 c1 c2 c3 c4 hb
   by_cases heq:b.id=id
   ·have heq':(b.id==id)=true:=by simpa using heq
    have HE:=Hid.mk2 heq
    clear heq
    go_wp2
    refine bodyPost_ret (v:=.tuple #[.agg #[.int .i64 b.id,.int .i64 b.zone,.int .i64 b.cap,.int .i64 b.used,.int .i64 b.has],.bool true]) (by simp[results,Tryz.results94,go_sem]) rfl ⟨?_,.inl ⟨b,by rw[findB_step i hlt HA.out (by rw[HBE.out];exact HE.out),HBE.out],rfl⟩⟩
    exact box3 w _
   ·have heq':(b.id==id)=false:=by simpa using heq
    have HE:=Hid.mk2 heq
    clear heq
    go_wp2
    go_round
    case rel =>
     refine ⟨i+1,by omega,by go_num,fun j hj hl=>?_⟩
     by_cases hji:j < i
     ·exact HA.out j hji hl
     ·have:j=i:=by omega
      subst this
      rw[HBE.out]
      exact HE.out
    case measure=>simp[intOf];omega
  ·go_wp2
   refine bodyPost_ret (v:=.tuple #[.agg #[.int .i64 0,.int .i64 0,.int .i64 0,.int .i64 0,.int .i64 0],.bool false]) (by simp[results,Tryz.results94,go_sem]) rfl ⟨?_,.inr ⟨findB_end (fun j hl=>HA.out j (by omega) hl),rfl⟩⟩
   exact box3 w _
theorem own_step {w wr w2:World} {acc:List Bn} {v v':Value} {b:Bn} {e:TypeId} {o:Obj} (hbel:Below w.heap.size w wr)
  (hown2:w2.ownsRow w.heap.size e 5 v' (acc.length+1) (cellsB acc++[.int .i64 b.id,.int .i64 b.zone,.int .i64 b.cap,.int .i64 b.used,.int .i64 b.has])) (hg:(wr.alloc o).grownBy w2 v.ownBlock) (hown1:wr.ownsRow w.heap.size e 5 v acc.length (cellsB acc)) :
  w2.ownsRow w.heap.size e 5 v' (acc++[b]).length (cellsB (acc++[b]))∧Below w.heap.size w w2:=by
 have hs1:=hbel.size
 refine ⟨?_, ?_⟩
 ·rw[cellsB_snoc]
  simp only[cellB,List.length_append,List.length_cons,List.length_nil]
  exact hown2
 ·exact (hbel.alloc (by omega) o).grown hg (by simp;omega) (fun k hk=>(hown1.lt k hk).1)
end Go.Proofs.YtpcjadaeolkngaaGreatDoor
namespace Go.Proofs.YtpcjadaeolkngaaGreatDoor
open Go.RowKit
theorem own_low {w:World} {base base':Nat} {e:TypeId} {s n:Nat} {v:Value} {xs:List Value} (h:w.ownsRow base e s v n xs) (hb:base'≤base):w.ownsRow base' e s v n xs:=by
 refine ⟨h.1, ?_⟩
 rcases h.2 with hn | ⟨g,cap,cur,rfl,hbg,r⟩
 ·exact .inl hn
 ·exact .inr ⟨g,cap,cur,rfl,by omega,r⟩
theorem own_drewN {w:World} {base:Nat} {e:TypeId} {s n:Nat} {v:Value} {xs:List Value} (h:w.ownsRow base e s v n xs) (k:Nat):(w.drewN k).ownsRow base e s v n xs:=h
theorem own_empty (w:World):(w.alloc (.cells #[] 25)).ownsRow w.heap.size 25 5 (.slice (some ⟨w.heap.size,0,none⟩) 0 0) 0 []:=World.ownsRow_made w #[] 0 (Nat.le_refl _) (by unfold maxLen;omega) rfl
theorem take_next {l:List Bn} {i:Nat} (h:i < l.length):l.take (i+1)=l.take i++[l[i]]:=by rw[List.take_succ_eq_append_getElem h]
theorem drop_next {l:List Bn} {i:Nat} (h:i < l.length):l.drop i=l[i] :: l.drop (i+1):=List.drop_eq_getElem_cons h
set_option maxHeartbeats 2000000 in
theorem with_any (bs:List Bn) (b:Bn) (v:Value) (w:World) (h:Reads w v bs.length (cellsB bs)) (hl:bs.length≤100) :
  Calls Tryz.prog 95 #[v,bnA b] w fun e w'=>Below w.heap.size w w'∧∃ v',e=.returned v'∧w'.ownsRow w.heap.size 25 5 v' (insB bs b).length (cellsB (insB bs b)):=by
 obtain ⟨i0,hi0,hz0,hz1,hz2⟩:=info_parts Tryz.infoBin
 obtain ⟨a,c,rfl⟩:=h.shape
 have HH:=Hid.mk2 (h.alloc (.cells #[.int .i64 b.id,.int .i64 b.zone,.int .i64 b.cap,.int .i64 b.used,.int .i64 b.has] 25))
 have HN:=Hid.mk2 (Blk.new w #[.int .i64 b.id,.int .i64 b.zone,.int .i64 b.cap,.int .i64 b.used,.int .i64 b.has] 25)
 have HW:=Hid.mk2 (box3 w (.cells #[.int .i64 b.id,.int .i64 b.zone,.int .i64 b.cap,.int .i64 b.used,.int .i64 b.has] 25))
 clear h
 unfold bnA
 go_enter Tryz.func95,Tryz.ntmps95
 go_wp2
 have hz:(w.alloc (.cells #[.int .i64 b.id,.int .i64 b.zone,.int .i64 b.cap,.int .i64 b.used,.int .i64 b.has] 25)).heap.size=w.heap.size+1:=by simp
 generalize hw1:w.alloc (.cells #[.int .i64 b.id,.int .i64 b.zone,.int .i64 b.cap,.int .i64 b.used,.int .i64 b.has] 25)=w1 at *
 have HW1:=Hid.mk2 hw1
 clear hw1
 have hbl:=HN.out.lt
 go_loopw [5,6] (fun v vi wr=>∃ (i:Nat),i≤bs.length∧vi=.int .i64 i∧wr.ownsRow w1.heap.size 25 5 v (bs.take i).length (cellsB (bs.take i))∧Below w1.heap.size w1 wr∧∀ j (hj:j < bs.length),j < i→bs[j].id < b.id) (fun _ i _=>bs.length - (intOf i).toNat)
 case atStart=>exact ⟨0,Nat.zero_le _,rfl,(by have h:=own_empty w1;rw[hz] at h ⊢;exact h),(Below.refl _ _).alloc (Nat.le_refl _) _,fun j _ hj=>by omega⟩
 case round =>
  obtain ⟨i,hi,rfl,hown,hbel,hall⟩:=hrel
  have HA:=Hid.mk2 hall
  clear hall
  have hbs:=hbel.size
  have HB:=Hid.mk2 (HN.out.below hbel hbl)
  have d0:=HB.out.cell 0
  have d1:=HB.out.cell 1
  have d2:=HB.out.cell 2
  have d3:=HB.out.cell 3
  have d4:=HB.out.cell 4
  have htl:(bs.take i).length=i:=by simp;omega
  by_cases hA:∃ h:i < bs.length,bs[i].id < b.id
  ·obtain ⟨hlt,hid⟩:=hA
   obtain ⟨g,o,cap,hcut,hcap,hg,hc⟩:=HH.out.pos (by omega)
   cases hcut
   obtain ⟨c0,c1,c2,c3,c4⟩:=bin_cells hc i hlt
   have e0:=(hbel.cell (p:=⟨g,o+i * 5,none⟩) hg).trans c0
   have e1:=(hbel.cell (p:=⟨g,o+i * 5+1,none⟩) hg).trans c1
   have e2:=(hbel.cell (p:=⟨g,o+i * 5+2,none⟩) hg).trans c2
   have e3:=(hbel.cell (p:=⟨g,o+i * 5+3,none⟩) hg).trans c3
   have e4:=(hbel.cell (p:=⟨g,o+i * 5+4,none⟩) hg).trans c4
   have HT:Hid (bs.take (i+1)=bs.take i++[bs[i]]):=by rw[Hid,take_next hlt]
   have HD:Hid (∀ j (hj:j < bs.length),j < i+1→bs[j].id < b.id):=by
    intro j hj hji
    by_cases h:j < i
    ·exact HA.out j hj h
    ·have:j=i:=by omega
     subst this
     exact hid
   generalize hx:bs[i]=x at *
   have hd:decide (x.id < b.id)=true:=by simpa using hid
   have hd2:decide ((i:Int) < (bs.length:Int))=true:=by simp;omega
   generalize hacc:bs.take i=acc at *
   have HTL:=Hid.mk2 htl
   clear hc c0 c1 c2 c3 c4 hx hid hacc htl
   have hal:acc.length≤100:=by rw[HTL.out];omega
   go_wp2
   go_quiet (fail)
   go_wp2_with (at_builtin;refine wpList_append_own _ rfl (.tmp 22) (.tmp 27) 41 rfl w1.heap.size 25 i0 (.agg #[.int .i64 0,.int .i64 0,.int .i64 0,.int .i64 0,.int .i64 0]) 5 40 Tryz.underlying41 hi0 hz0 hz1 hz2 rfl (by decide) _ _ _ rfl ((own_drewN hown _).alloc _) ⟨wr.heap.size,0,none⟩ 1 1 [.int .i64 x.id,.int .i64 x.zone,.int .i64 x.cap,.int .i64 x.used,.int .i64 x.has] rfl rfl (cell_five _ _ _ _ _ _ _) (one_bin x) (by unfold maxLen;omega) (by omega) (by simp;omega) ?_;intro v' w2 hown2 hgrow2 _)
   have R:=own_step (below_drewN hbel _) hown2 hgrow2 (own_drewN hown _)
   clear hown2 hgrow2 hown
   go_roundw
   case rel=>exact ⟨i+1,by omega,by go_num,by rw[HT.out];exact R.1,R.2,HD.out⟩
   case measure=>simp[intOf];omega
  ·have HI:Hid (insB bs b=bs.take i++[b]++bs.drop i):=by
    rw[Hid,insB_at i hi HA.out (fun h h2=>hA ⟨h,h2⟩)];simp
   have hcase:(∃ g o cap x,(a=some ⟨g,o,none⟩∧c=cap)∧i < bs.length∧bs.length≤cap∧wr.cell? ⟨g,o+i * 5,none⟩=some (.int .i64 x)∧decide (x < b.id)=false)∨i=bs.length:=by
    by_cases hlt:i < bs.length
    ·obtain ⟨g,o,cap,hcut,hcap,hg,hc⟩:=HH.out.pos (by omega)
     cases hcut
     exact .inl ⟨g,o,_,bs[i].id,⟨rfl,rfl⟩,hlt,hcap,(hbel.cell (p:=⟨g,o+i * 5,none⟩) hg).trans (bin_cells hc i hlt).1,by simpa using fun h=>hA ⟨hlt,h⟩⟩
    ·exact .inr (by omega)
   clear hA
   generalize hacc:bs.take i=acc at *
   have HTL:=Hid.mk2 htl
   clear hacc htl
   have hal:acc.length≤100:=by rw[HTL.out];omega
   rcases hcase with ⟨g,o,cap,x,⟨rfl,rfl⟩,hlt,hcap,e0,hd⟩ | hie
   ·have hd2:decide ((i:Int) < (bs.length:Int))=true:=by simp;omega
    go_wp2
    go_quiet (fail)
    go_wp2_with (at_builtin;refine wpList_append_own _ rfl (.tmp 31) (.tmp 33) 41 rfl w1.heap.size 25 i0 (.agg #[.int .i64 0,.int .i64 0,.int .i64 0,.int .i64 0,.int .i64 0]) 5 40 Tryz.underlying41 hi0 hz0 hz1 hz2 rfl (by decide) _ _ _ rfl ((own_drewN hown _).alloc _) ⟨wr.heap.size,0,none⟩ 1 1 [.int .i64 b.id,.int .i64 b.zone,.int .i64 b.cap,.int .i64 b.used,.int .i64 b.has] rfl rfl (cell_five _ _ _ _ _ _ _) (one_bin b) (by unfold maxLen;omega) (by omega) (by simp;omega) ?_;intro v' w2 hown2 hgrow2 _)
    have R:=own_step (below_drewN hbel _) hown2 hgrow2 (own_drewN hown _)
    clear hown2 hgrow2 hown
    have HR:=Hid.mk2 R
    go_loopw [5,6] (fun v vi wr=>∃ (i:Nat) (acc:List Bn),i≤bs.length∧vi=.int .i64 i∧insB bs b=acc++bs.drop i∧acc.length≤1+i∧wr.ownsRow w1.heap.size 25 5 v acc.length (cellsB acc)∧Below w1.heap.size w1 wr) (fun _ i _=>bs.length - (intOf i).toNat)
    case atStart=>exact ⟨i,acc++[b],hi,rfl,HI.out,by simp[HTL.out];omega,HR.out.1,HR.out.2⟩
    case round =>
     clear d0 d1 d2 d3 d4 HB hbel hbs HTL hal HI HR R
     obtain ⟨i,acc,hi,rfl,hins,hal,hown,hbel⟩:=hrel
     have HI:=Hid.mk2 hins
     clear hins
     have hbs:=hbel.size
     by_cases hlt:i < bs.length
     ·obtain ⟨g,o,cap,hcut,hcap,hg,hc⟩:=HH.out.pos (by omega)
      cases hcut
      obtain ⟨c0,c1,c2,c3,c4⟩:=bin_cells hc i hlt
      have e0:=(hbel.cell (p:=⟨g,o+i * 5,none⟩) hg).trans c0
      have e1:=(hbel.cell (p:=⟨g,o+i * 5+1,none⟩) hg).trans c1
      have e2:=(hbel.cell (p:=⟨g,o+i * 5+2,none⟩) hg).trans c2
      have e3:=(hbel.cell (p:=⟨g,o+i * 5+3,none⟩) hg).trans c3
      have e4:=(hbel.cell (p:=⟨g,o+i * 5+4,none⟩) hg).trans c4
      have HT:=Hid.mk2 (drop_next hlt)
      generalize hx:bs[i]=x at *
      clear hc c0 c1 c2 c3 c4 hx
      go_wp2_with (at_builtin;refine wpList_append_own _ rfl (.tmp 39) (.tmp 44) 41 rfl w1.heap.size 25 i0 (.agg #[.int .i64 0,.int .i64 0,.int .i64 0,.int .i64 0,.int .i64 0]) 5 40 Tryz.underlying41 hi0 hz0 hz1 hz2 rfl (by decide) _ _ _ rfl (hown.alloc _) ⟨wr.heap.size,0,none⟩ 1 1 [.int .i64 x.id,.int .i64 x.zone,.int .i64 x.cap,.int .i64 x.used,.int .i64 x.has] rfl rfl (cell_five _ _ _ _ _ _ _) (one_bin x) (by unfold maxLen;omega) (by omega) (by simp;omega) ?_;intro v' w2 hown2 hgrow2 _)
      have R:=own_step hbel hown2 hgrow2 hown
      clear hown2 hgrow2 hown
      go_roundw
      case rel=>exact ⟨i+1,acc++[x],by omega,by go_num,by rw[HI.out,HT.out];simp,by simp;omega,R.1,R.2⟩
      case measure=>simp[intOf];omega
     ·obtain rfl:i=bs.length:=by omega
      go_wp2
      go_ret
      refine ⟨HW.out.trans (hbel.mono (by omega)),_,rfl, ?_⟩
      have:=HI.out
      rw[List.drop_length,List.append_nil] at this
      rw[this]
      exact own_low hown (by omega)
   ·have hd2:decide ((i:Int) < (bs.length:Int))=false:=by simp;omega
    have hd3:decide (i < bs.length)=false:=by simp;omega
    clear hie
    go_wp2
    go_quiet (fail)
    go_wp2_with (at_builtin;refine wpList_append_own _ rfl (.tmp 31) (.tmp 33) 41 rfl w1.heap.size 25 i0 (.agg #[.int .i64 0,.int .i64 0,.int .i64 0,.int .i64 0,.int .i64 0]) 5 40 Tryz.underlying41 hi0 hz0 hz1 hz2 rfl (by decide) _ _ _ rfl ((own_drewN hown _).alloc _) ⟨wr.heap.size,0,none⟩ 1 1 [.int .i64 b.id,.int .i64 b.zone,.int .i64 b.cap,.int .i64 b.used,.int .i64 b.has] rfl rfl (cell_five _ _ _ _ _ _ _) (one_bin b) (by unfold maxLen;omega) (by omega) (by simp;omega) ?_;intro v' w2 hown2 hgrow2 _)
    have R:=own_step (below_drewN hbel _) hown2 hgrow2 (own_drewN hown _)
    clear hown2 hgrow2 hown
    have HR:=Hid.mk2 R
    go_loopw [5,6] (fun v vi wr=>∃ (i:Nat) (acc:List Bn),i≤bs.length∧vi=.int .i64 i∧insB bs b=acc++bs.drop i∧acc.length≤1+i∧wr.ownsRow w1.heap.size 25 5 v acc.length (cellsB acc)∧Below w1.heap.size w1 wr) (fun _ i _=>bs.length - (intOf i).toNat)
    case atStart=>exact ⟨i,acc++[b],hi,rfl,HI.out,by simp[HTL.out];omega,HR.out.1,HR.out.2⟩
    case round =>
     clear d0 d1 d2 d3 d4 HB hbel hbs HTL hal HI HR R
     obtain ⟨i,acc,hi,rfl,hins,hal,hown,hbel⟩:=hrel
     have HI:=Hid.mk2 hins
     clear hins
     have hbs:=hbel.size
     by_cases hlt:i < bs.length
     ·obtain ⟨g,o,cap,hcut,hcap,hg,hc⟩:=HH.out.pos (by omega)
      cases hcut
      obtain ⟨c0,c1,c2,c3,c4⟩:=bin_cells hc i hlt
      have e0:=(hbel.cell (p:=⟨g,o+i * 5,none⟩) hg).trans c0
      have e1:=(hbel.cell (p:=⟨g,o+i * 5+1,none⟩) hg).trans c1
      have e2:=(hbel.cell (p:=⟨g,o+i * 5+2,none⟩) hg).trans c2
      have e3:=(hbel.cell (p:=⟨g,o+i * 5+3,none⟩) hg).trans c3
      have e4:=(hbel.cell (p:=⟨g,o+i * 5+4,none⟩) hg).trans c4
      have HT:=Hid.mk2 (drop_next hlt)
      generalize hx:bs[i]=x at *
      clear hc c0 c1 c2 c3 c4 hx
      go_wp2_with (at_builtin;refine wpList_append_own _ rfl (.tmp 39) (.tmp 44) 41 rfl w1.heap.size 25 i0 (.agg #[.int .i64 0,.int .i64 0,.int .i64 0,.int .i64 0,.int .i64 0]) 5 40 Tryz.underlying41 hi0 hz0 hz1 hz2 rfl (by decide) _ _ _ rfl (hown.alloc _) ⟨wr.heap.size,0,none⟩ 1 1 [.int .i64 x.id,.int .i64 x.zone,.int .i64 x.cap,.int .i64 x.used,.int .i64 x.has] rfl rfl (cell_five _ _ _ _ _ _ _) (one_bin x) (by unfold maxLen;omega) (by omega) (by simp;omega) ?_;intro v' w2 hown2 hgrow2 _)
      have R:=own_step hbel hown2 hgrow2 hown
      clear hown2 hgrow2 hown
      go_roundw
      case rel=>exact ⟨i+1,acc++[x],by omega,by go_num,by rw[HI.out,HT.out];simp,by simp;omega,R.1,R.2⟩
      case measure=>simp[intOf];omega
     ·obtain rfl:i=bs.length:=by omega
      go_wp2
      go_ret
      refine ⟨HW.out.trans (hbel.mono (by omega)),_,rfl, ?_⟩
      have:=HI.out
      rw[List.drop_length,List.append_nil] at this
      rw[this]
      exact own_low hown (by omega)
end Go.Proofs.YtpcjadaeolkngaaGreatDoor
namespace Go.Proofs.YtpcjadaeolkngaaGreatDoor
open Go.RowKit
end Go.Proofs.YtpcjadaeolkngaaGreatDoor
