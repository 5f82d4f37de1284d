/-
  Bins out of raw bytes: shelf; are two lists of bins the same.
-/
import Derived.Test.YtpcjadaeolkngaaGreatDoorK19
import Derived.Test.YtpcjadaeolkngaaGreatDoorK40
import Derived.Test.YtpcjadaeolkngaaGreatDoorK07
import Derived.Test.YtpcjadaeolkngaaGreatDoorK31
set_option linter.unusedVariables false
set_option linter.unusedSimpArgs false
namespace Go.Proofs.YtpcjadaeolkngaaGreatDoor
open Go.RowKit
theorem cell_five_at (w:World) (x y z t u:Value) (e:TypeId) (b:Nat) (hb:b=w.heap.size):∀ j v,[x,y,z,t,u][j]?=some v→(w.alloc (.cells #[x,y,z,t,u] e)).cell? ((⟨b,0,none⟩:Addr).add j)=some v:=by
 subst hb
 exact cell_five w x y z t u e
theorem own_step2 {w wr w2:World} {base:Nat} {acc:List Bn} {v v':Value} {b:Bn} {e:TypeId} {o:Obj} (hB:w.heap.size≤base) (hbel:Below w.heap.size w wr)
  (hown2:w2.ownsRow base e 5 v' (acc.length+1) (cellsB acc++[.int .i64 b.id,.int .i64 b.zone,.int .i64 b.cap,.int .i64 b.used,.int .i64 b.has])) (hg:(wr.alloc o).grownBy w2 v.ownBlock) (hown1:wr.ownsRow base e 5 v acc.length (cellsB acc)) :
  w2.ownsRow base e 5 v' (acc++[b]).length (cellsB (acc++[b]))∧Below w.heap.size w w2:=by
 have hs1:=hbel.size
 refine ⟨?_, ?_⟩
 ·rw[cellsB_snoc]
  simp only[cellB,List.length_append,List.length_cons,List.length_nil]
  exact hown2
 ·exact (hbel.alloc (by omega) o).grown hg (by simp;omega) (fun k hk=>by have:=(hown1.lt k hk).1;omega)
theorem FeedAt.grown {w w':World} {fb:Nat} {row:Option Nat} (h:FeedAt w fb) (hg:w.grownBy w' row) (hne:some fb≠row):FeedAt w' fb:=by
 obtain ⟨s,k,h1,h2⟩:=h.ok
 refine ⟨s,k, ?_,h2⟩
 unfold Blk;rw[hg.block fb h1.lt hne];exact h1
theorem feed_new (w:World) (s:ByteArray) (hs:s.size≤maxLen):FeedAt (w.alloc (.cells #[.string s,.int .i64 0] 59)) w.heap.size:=⟨s,0,Blk.new w _ _,Nat.zero_le _,hs⟩
structure Made (w wr:World) (v:Value) (id:Int) (l:List Bn):Prop where
 up:Shelf l
 lt:∀ x∈l,x.id < id
 own:wr.ownsRow (w.heap.size+1) 25 5 v l.length (cellsB l)
 fed:FeedAt wr w.heap.size
 bl:Below w.heap.size w wr
theorem Made.but {w wr w':World} {v:Value} {id:Int} {l:List Bn} (h:Made w wr v id l) (hb:But w.heap.size wr w') (hf:FeedAt w' w.heap.size):Made w w' v id l:=by
 refine ⟨h.up,h.lt,own_but h.own hb fun k hk=>?_,hf,h.bl.trans (hb.below (Nat.le_refl _) h.bl.size)⟩
 have:=(h.own.lt k hk).1
 omega
theorem Made.al {w wr:World} {v:Value} {id:Int} {l:List Bn} (h:Made w wr v id l) (o:Obj):Made w (wr.alloc o) v id l:=h.but (But.of (box3 wr o)) (h.fed.al o)
theorem Made.more {w wr:World} {v:Value} {id id':Int} {l:List Bn} (h:Made w wr v id l) (hi:id≤id'):Made w wr v id' l:=⟨h.up,fun x hx=>by have:=h.lt x hx;omega,h.own,h.fed,h.bl⟩
theorem Made.snoc {w wr w2:World} {v v':Value} {id:Int} {l:List Bn} {y:Bn} {o:Obj} (h:Made w wr v id l) (hy:y.Ok) (hid:y.id=id)
  (hown2:w2.ownsRow (w.heap.size+1) 25 5 v' (l.length+1) (cellsB l++[.int .i64 y.id,.int .i64 y.zone,.int .i64 y.cap,.int .i64 y.used,.int .i64 y.has])) (hg:(wr.alloc o).grownBy w2 v.ownBlock):Made w w2 v' (id+1) (l++[y]):=by
 obtain ⟨h1,h2⟩:=own_step2 (by omega) h.bl hown2 hg h.own
 refine ⟨h.up.snoc y (fun x hx=>by rw[hid];exact h.lt x hx) hy,fun x hx=>?_,h1,(h.fed.al o).grown hg ?_,h2⟩
 ·rcases List.mem_append.1 hx with h3 | h3
  ·have:=h.lt x h3;omega
  ·simp at h3;subst h3;omega
 ·intro he
  have:=(h.own.lt w.heap.size he.symm).1
  omega
set_option maxHeartbeats 2000000 in
set_option maxRecDepth 100000 in
theorem shelf_any (s:ByteArray) (hs:s.size≤maxLen) (w:World) :
  Calls Tryz.prog 11 #[.string s] w fun e w'=>Below w.heap.size w w'∧∃ l a c,Shelf l∧1≤l.length∧l.length≤12∧e=.returned (.slice a l.length c)∧w'.ownsRow w.heap.size 25 5 (.slice a l.length c) l.length (cellsB l):=by
 obtain ⟨i0,hi0,hz0,hz1,hz2⟩:=info_parts Tryz.infoBin
 have HM:Hid (Made w (w.alloc (.cells #[.string s,.int .i64 0] 59)) (.slice none 0 0) 0 []):=⟨Shelf.nil,by simp,World.ownsRow_nil _ _ _ _,feed_new w s hs,box3 w _⟩
 clear hs
 go_enter Tryz.func11,Tryz.ntmps11
 go_wp2_with (first
  | (go_at_call_of 19 (Value.int IntKind.i64 12);refine (next_any 12 (by omega) _ _ HM.out.fed).mono ?_;rintro e w1 ⟨⟨r1,h1,k1,rfl⟩,hF,hB⟩;replace HM:=Hid.mk2 (HM.out.but hB hF);clear hF hB)
  | (go_at_call_of 19 (Value.int IntKind.i64 50);refine (next_any 50 (by omega) _ _ HM.out.fed).mono ?_;rintro e w2 ⟨⟨r2,h2,k2,rfl⟩,hF,hB⟩;replace HM:=Hid.mk2 (HM.out.but hB hF);clear hF hB))
 obtain ⟨n,hn⟩:∃ n:Nat,(n:Int)=1+r1:=⟨(1+r1).toNat,by omega⟩
 have hn1:1≤n∧n≤12:=by omega
 rw[← hn]
 clear hn h1 k1
 go_loopw [5,6,7] (fun v vid vi wr=>∃ (i:Nat) (id:Int) (l:List Bn),i≤n∧vi=.int .i64 i∧l.length=i∧vid=.int .i64 id∧0≤id∧id≤50+41 * i∧Made w wr v id l) (fun _ _ i _=>n - (intOf i).toNat)
 case atStart=>exact ⟨0,r2,[],Nat.zero_le _,rfl,rfl,rfl,h2,by omega,HM.out.more h2⟩
 case round =>
  obtain ⟨i,id,l,hi,rfl,hl,rfl,hid0,hid1,hm⟩:=hrel
  have HQ:=Hid.mk2 hm
  have HL:=Hid.mk2 hl
  have hl12:l.length≤12:=by omega
  clear hm hl HM
  by_cases hlt:i < n
  ·have hd:decide ((i:Int) < (n:Int))=true:=by simp;omega
   go_wp2_with (first
    | (go_at_call 18;refine (bin_any id (by omega) _ _ HQ.out.fed).mono ?_;rintro e w3 ⟨⟨y,hy,hyid,rfl⟩,hF,hB⟩;unfold bnA;replace HQ:=Hid.mk2 ((HQ.out.but hB hF).al (.cells #[.int .i64 y.id,.int .i64 y.zone,.int .i64 y.cap,.int .i64 y.used,.int .i64 y.has] 25));have HY:=Hid.mk2 hy;have HYI:=Hid.mk2 hyid;have hsz3:w.heap.size < w3.heap.size:=hF.lt;clear hF hB hy hyid)
    | (at_builtin;refine wpList_append_own _ rfl (.tmp 25) (.tmp 27) 41 rfl (w.heap.size+1) 25 i0 (.agg #[.int .i64 0,.int .i64 0,.int .i64 0,.int .i64 0,.int .i64 0]) 5 40 Tryz.underlying41 hi0 hz0 hz1 hz2 rfl (by decide) _ _ _ rfl (HQ.out.own.alloc _) ⟨w3.heap.size+1,0,none⟩ 1 1 [.int .i64 y.id,.int .i64 y.zone,.int .i64 y.cap,.int .i64 y.used,.int .i64 y.has] rfl rfl (cell_five_at _ _ _ _ _ _ _ _ (by simp)) (one_bin y) (by unfold maxLen;omega) (by omega) (by simp;omega) ?_;intro v' w4 hown2 hgrow2 _;replace HQ:=Hid.mk2 (HQ.out.snoc HY.out HYI.out hown2 hgrow2);clear hown2 hgrow2)
    | (go_at_call 19;refine (next_any 40 (by omega) _ _ HQ.out.fed).mono ?_;rintro e w5 ⟨⟨r5,h5,k5,rfl⟩,hF,hB⟩;replace HQ:=Hid.mk2 (HQ.out.but hB hF);clear hF hB))
   go_roundw
   case rel=>exact ⟨i+1,id+1+r5,l++[y],by omega,by go_num,by simp[HL.out],by go_num,by omega,by omega,HQ.out.more (by omega)⟩
   case measure=>simp[intOf];omega
  ·have hd:decide ((i:Int) < (n:Int))=false:=by simp;omega
   have ho:=HQ.out.own
   obtain ⟨a,c,hv⟩:=(reads_of_own ho).shape
   have hin:i=n:=by omega
   go_wp2
   go_ret
   refine ⟨HQ.out.bl,l,a,c,HQ.out.up,by have:=HL.out;omega,hl12,by rw[hv] <;> rfl, ?_⟩
   rw[hv] at ho
   exact own_low ho (by omega)
end Go.Proofs.YtpcjadaeolkngaaGreatDoor
namespace Go.Proofs.YtpcjadaeolkngaaGreatDoor
open Go.RowKit
end Go.Proofs.YtpcjadaeolkngaaGreatDoor
namespace Go.Proofs.YtpcjadaeolkngaaGreatDoor
open Go.RowKit
end Go.Proofs.YtpcjadaeolkngaaGreatDoor
namespace Go.Proofs.YtpcjadaeolkngaaGreatDoor
open Go.RowKit
end Go.Proofs.YtpcjadaeolkngaaGreatDoor
namespace Go.Proofs.YtpcjadaeolkngaaGreatDoor
open Go.RowKit
theorem insB_front {l:List Bn} {b:Bn} (h:∀ x∈l,b.id < x.id):insB l b=b :: l:=by
 have:=insB_at (l:=l) (b:=b) 0 (Nat.zero_le _) (fun j hj hj0=>by omega) (fun h0 h1=>by have:=h l[0] (List.getElem_mem h0);omega)
 simpa using this
theorem addK_front {l:List Bn} {b:Bn} (hb:b.Ok) (h:∀ x∈l,b.id < x.id) (hl:l.length < 12):addK l b=0:=by
 unfold addK
 rw[if_neg (by rw[(bnB_iff b).2 hb];simp),findB_none (fun x hx=>by have:=h x hx;omega),if_neg (by simp),if_neg (by omega)]
theorem shelf_front {l:List Bn} (h:Shelf l) (j:Nat) (hj:j < l.length):∀ x∈l.drop (j+1),l[j].id < x.id:=by
 intro x hx
 obtain ⟨k,hk,rfl⟩:=List.getElem_of_mem hx
 rw[List.getElem_drop]
 simp at hk
 exact h.up j (j+1+k) hj (by omega) (by omega)
theorem store_new (w:World):StoreAt (w.alloc (.cells #[.slice none 0 0,.string { data:=#[] }] 84)) w.heap.size [] { data:=#[] }:=⟨none,0,Blk.new w _ _,World.ownsRow_nil _ _ _ _⟩
set_option maxHeartbeats 1000000 in
theorem New_at (w:World) :
  Calls Tryz.prog 30 #[] w fun e w'=>e=.returned (.pointer (some ⟨w.heap.size,0,none⟩))∧w'=w.alloc (.cells #[.slice none 0 0,.string { data:=#[] }] 84):=by
 go_enter Tryz.func30,Tryz.ntmps30
 go_wp2
 go_ret
 exact ⟨rfl,rfl⟩
end Go.Proofs.YtpcjadaeolkngaaGreatDoor
namespace Go.Proofs.YtpcjadaeolkngaaGreatDoor
open Go.RowKit
def EndOk (k:Nat) (v:Int):Prop:=(k=0∧v=0)∨(k=2∧(v=1∨v=2))∨k=1
theorem exact_flt (v:Int):(exact64 v).2=0∨(exact64 v).2=1:=by unfold exact64;split <;> simp
theorem join_flt (c:Nat) (a b:Int):(joinN c a b).2=0∨(joinN c a b).2=1∨(joinN c a b).2=2:=by
 have h1:=exact_flt (a+b)
 have h2:=exact_flt (a - b)
 have h3:=exact_flt (a * b)
 have h4:=exact_flt (a.tdiv b)
 unfold joinN
 repeat' split
 all_goals first | (simp;done) | omega
theorem lay_end {r:Int × Nat} {p:Nat} {st:List Int} {k:Nat} {v:Int} (hr:r.2=0∨r.2=1∨r.2=2) (h:layM r p st=.inl (k,v)):EndOk k v:=by
 unfold layM at h
 split at h
 ·cases h
 ·simp only[Sum.inl.injEq,Prod.mk.injEq] at h
  obtain ⟨rfl,rfl⟩:=h
  exact .inr (.inl ⟨rfl,by omega⟩)
theorem step_end {x:Itm} {y:Bn} {o:Ins} {st:List Int} {k:Nat} {v:Int} (h:stepM x y o st=.inl (k,v)):EndOk k v:=by
 unfold stepM at h
 split at h
 ·simp only[Sum.inl.injEq,Prod.mk.injEq] at h
  exact .inr (.inr h.1.symm)
 split at h
 ·simp only[Sum.inl.injEq,Prod.mk.injEq] at h
  exact .inl ⟨h.1.symm,h.2.symm⟩
 split at h
 ·cases h
 split at h
 ·cases h
 split at h
 ·exact lay_end (by have:=exact_flt (0 - fst st);unfold negN;omega) h
 split at h
 ·cases h
 split at h
 ·cases h
 split at h
 ·cases h
 split at h
 ·cases h
 exact lay_end (join_flt _ _ _) h
theorem run_ends {s:ByteArray} {l:List Ins} {most:Nat} {G:Nat→Int} {x:Itm} {y:Bn} (hx:x.Ok) (hy:y.Ok):∀ (f p:Nat) (st:List Int) (n:Nat),AtStep s l most G p st→s.size < f+p→n+3≤p →
  ∃ k v m,runM s x y f p st n=(k,v,m)∧EndOk k v∧n+1≤m∧m+3≤s.size
 | 0,p,st,n,h,hf,_=>by have:=h.ok.1;omega
 | f+1,p,st,n,h,hf,hn=>by
  have hp:=h.ok.1
  cases hs:stepM x y (mkIns s p) st with
  | inl r =>
   obtain ⟨k,v⟩:=r
   exact ⟨k,v,n+1,runM_end hs,step_end hs,Nat.le_refl _,by omega⟩
  | inr r =>
   obtain ⟨q,st'⟩:=r
   obtain ⟨h1,h2⟩:=h.go hx hy hs
   obtain ⟨k,v,m,e,h3,h4,h5⟩:=run_ends hx hy f q st' (n+1) h1 (by omega) (by omega)
   exact ⟨k,v,m,(runM_go hs).trans e,h3,by omega,h5⟩
theorem img_ends {s:ByteArray} (hi:IsImg s) {x:Itm} {y:Bn} (hx:x.Ok) (hy:y.Ok):∃ k v m,runM s x y (s.size+1) 3 [] 0=(k,v,m)∧EndOk k v∧1≤m∧m+3≤s.size:=by
 obtain ⟨l,G,hc,hl,h3,_⟩:=img_run hi
 obtain ⟨k,v,m,e,h1,h2,h4⟩:=run_ends hx hy (s.size+1) 3 [] 0 (AtStep.start hc hl h3) (by omega) (by omega)
 exact ⟨k,v,m,e,h1,by omega,h4⟩
end Go.Proofs.YtpcjadaeolkngaaGreatDoor
namespace Go.Proofs.YtpcjadaeolkngaaGreatDoor
open Go.RowKit Go.Deep
set_option maxHeartbeats 2000000 in
set_option maxRecDepth 100000 in
theorem filled_text (s:ByteArray) (hz:s.size≤maxLen) {N:List PNode} {ls:List PLet} {rs:List PRule} (hk:KnownP s.toList N ls rs) (l:List Bn) (v:Value) (w:World) (hg:GlobT w) (hp:GlobB w) (hs:Shelf l) (h12:l.length≤12) (h:Reads w v l.length (cellsB l)) :
  Calls Tryz.prog 14 #[v,.string s] w fun e w'=>e=.returned (.tuple #[.pointer (some ⟨w.heap.size,0,none⟩),.bool true])∧StoreAt w' w.heap.size l (bsN (imageC N ls rs))∧Below w.heap.size w w':=by
 obtain ⟨a,c,rfl⟩:=h.shape
 have HH:=Hid.mk2 h
 have HG:=Hid.mk2 hg
 have HP:=Hid.mk2 hp
 have HS:=Hid.mk2 hs
 have HST:=Hid.mk2 (store_new w)
 have HB0:=Hid.mk2 (box3 w (.cells #[.slice none 0 0,.string { data:=#[] }] 84))
 have HKN:=Hid.mk2 hk
 clear h hg hp hs hk
 go_enter Tryz.func14,Tryz.ntmps14
 go_wp2_with (go_at_call 30;refine (New_at _).mono ?_;rintro e _ ⟨rfl,rfl⟩)
 go_loopw [7] (fun vi wr=>∃ (j:Nat),j≤l.length∧vi=.int .i64 ((j:Int) - 1)∧StoreAt wr w.heap.size (l.drop j) { data:=#[] }∧Below w.heap.size w wr) (fun i _=>(intOf i+1).toNat)
 case atStart=>exact ⟨l.length,Nat.le_refl _,by go_num,by rw[List.drop_length];exact HST.out,HB0.out⟩
 case round =>
  obtain ⟨j,hj,rfl,hst,hbel⟩:=hrel
  have HQ:=Hid.mk2 hst
  have HBL:=Hid.mk2 hbel
  have hbs:=hbel.size
  clear hst hbel
  by_cases hj0:j=0
  ·subst hj0
   go_wp2_with (go_at_call 32;refine (Load_known s hz HKN.out _ _ _ _ (HG.out.below HBL.out) (HP.out.below HBL.out) HQ.out).mono ?_;rintro e w2 ⟨rfl,hs2,hb2⟩;have H1:=Hid.mk2 hs2;have H2:=Hid.mk2 hb2;clear hs2 hb2)
   go_ret2
   exact ⟨rfl,by simpa using H1.out,HBL.out.trans (H2.out.below (Nat.le_refl _) hbs)⟩
  ·obtain ⟨i,rfl⟩:∃ i,j=i+1:=⟨j - 1,by omega⟩
   have hil:i < l.length:=by omega
   have hd:decide (0≤(i:Int))=true:=by simp
   have hsub:((i+1:Nat):Int) - 1=(i:Int):=by simp
   obtain ⟨g,o,cap,hcut,hcap,hgl,hc⟩:=HH.out.pos (by omega)
   cases hcut
   obtain ⟨c0,c1,c2,c3,c4⟩:=bin_cells hc i hil
   have e0:=(HBL.out.cell (p:=⟨g,o+i * 5,none⟩) hgl).trans c0
   have e1:=(HBL.out.cell (p:=⟨g,o+i * 5+1,none⟩) hgl).trans c1
   have e2:=(HBL.out.cell (p:=⟨g,o+i * 5+2,none⟩) hgl).trans c2
   have e3:=(HBL.out.cell (p:=⟨g,o+i * 5+3,none⟩) hgl).trans c3
   have e4:=(HBL.out.cell (p:=⟨g,o+i * 5+4,none⟩) hgl).trans c4
   have HK:Hid (addK (l.drop (i+1)) l[i]=0):=addK_front (HS.out.ok _ (List.getElem_mem hil)) (shelf_front HS.out i hil) (by simp;omega)
   have HI:Hid (insB (l.drop (i+1)) l[i]=l.drop i):=by rw[Hid,insB_front (shelf_front HS.out i hil),← drop_next hil]
   have hl100:(l.drop (i+1)).length≤100:=by simp;omega
   generalize hx:l[i]=x at *
   clear hc c0 c1 c2 c3 c4 hx
   rw[hsub]
   go_wp2_with (go_at_call 31;refine (stAdd_any _ _ _ x _ HQ.out hl100).mono ?_;rintro e w2 ⟨rfl,hs2,hb2,_⟩;rw[HK.out] at hs2 ⊢;rw[if_pos rfl,HI.out] at hs2;have H1:=Hid.mk2 hs2;have H2:=Hid.mk2 hb2;clear hs2 hb2)
   go_roundw
   case rel=>exact ⟨i,by omega,by go_num,H1.out,HBL.out.trans (H2.out.below (Nat.le_refl _) hbs)⟩
   case measure=>simp[intOf]
structure GoodT (T:ByteArray) (x:Itm) (f:Bn→Rs) (I:ByteArray):Prop where
 img:IsImg I
 full:I.toList.isEmpty=false
 known:∃ N ls rs,KnownP T.toList N ls rs∧I=bsN (imageC N ls rs)
 runs:∀ y:Bn,y.Ok→RunsAt I x (sayR f) y
 kind:∀ y:Bn,y.Ok→(f y).1=0∨(f y).1=1∨(f y).1=2
theorem goodT_of {T:ByteArray} {x:Itm} {y0:Bn} {say:Rs} {L R:List RSt} (hx:x.Ok) (h:FineP T.toList x y0 say L R):∃ I,GoodT T x (fun y=>saysP x y L R) I:=by
 have hi:=(policy_image h.pol h.num h.errs item_one bin_one).img
 refine ⟨_,hi, ?_,⟨_,_,_,known_of h.pol h.num h.errs,rfl⟩,fun y hy=>?_,fun y hy=>?_⟩
 ·obtain ⟨l,G,_,_,h3,_⟩:=img_run hi
  generalize bsN (imageC (nodesS 0 (L++R)) (letsS 0 (L++R)) (rulesS 0 (L++R)))=I at h3
  cases e:I.toList with
  | nil =>
   have:=congrArg List.length e
   rw[toList_length] at this
   simp only[List.length_nil] at this
   omega
  | cons a l=>rfl
 ·have hr:=policy_runs h.pol h.num h.errs hx hy
  intro wx hg
  obtain ⟨l,G,hc,hl,h3,h4⟩:=img_run hi
  refine (machineRun_any _ h4 l (bt _ 2) (bt_lt _ 2) G hc hl h3 x y ⟨hx,hy⟩ wx hg).mono ?_
  rintro e w' ⟨hb,rfl⟩
  generalize hI:bsN (imageC (nodesS 0 (L++R)) (letsS 0 (L++R)) (rulesS 0 (L++R)))=I at hr
  refine ⟨hb,(runM I x y (I.size+1) 3 [] 0).2.2, ?_⟩
  show _=Ending.returned (.agg #[.int .i64 ((saysP x y L R).1:Nat),.int .i64 (saysP x y L R).2.1,.int .i64 ((runM I x y (I.size+1) 3 [] 0).2.2:Nat)])
  rw[← hr.kind,← hr.val]
  rfl
 ·have hr:=policy_runs h.pol h.num h.errs hx hy
  obtain ⟨k,v,m,e,he,_⟩:=img_ends hi hx hy
  have hk:=hr.kind
  rw[e] at hk
  simp only at hk
  rcases he with ⟨h,_⟩ | ⟨h,_⟩ | h <;> simp[← hk,h]
def RankV (f:Bn→Rs) (l:List Bn) (n:Nat) (w:World) (a0 a1 a2 a3:Value):Prop :=
 (∃ b,faultB (sayR f) l=some b∧a0=.int .i64 0∧a1=.int .i64 (f b).2.1∧a2=.int .i64 b.id∧a3=.slice none 0 0) ∨
 (faultB (sayR f) l=none∧a0=.int .i64 0∧a1=.int .i64 0∧a2=.int .i64 0∧∃ q,BestQ (sayR f) l n q∧q.length≤12∧Reads w a3 q.length (cellsQ q))
theorem RankV.below {f:Bn→Rs} {l:List Bn} {n:Nat} {w w':World} {a0 a1 a2 a3:Value} (h:RankV f l n w a0 a1 a2 a3) (hb:Below w.heap.size w w'):RankV f l n w' a0 a1 a2 a3:=by
 rcases h with h | ⟨h1,h2,h3,h4,q,h5,h6,h7⟩
 ·exact .inl h
 ·exact .inr ⟨h1,h2,h3,h4,q,h5,h6,h7.below hb⟩
theorem ranks_any {f:Bn→Rs} {l:List Bn} {n:Nat} {a0 a1 a2 a3:Value} (h12:l.length≤12) (hn:n≤1000) (lv sv:Value) (w:World) (h:RankV f l n w a0 a1 a2 a3) (hl:Reads w lv l.length (cellsB l)) (hs:Reads w sv (l.map f).length (cellsS (l.map f))) :
  Calls Tryz.prog 16 #[.agg #[a0,a1,a2,a3],lv,sv,.int .i64 n] w fun e w'=>e=.returned (.bool true)∧Below w.heap.size w w':=by
 rcases h with ⟨b,hf,rfl,rfl,rfl,rfl⟩ | ⟨hf,rfl,rfl,rfl,q,hq,hql,hr⟩
 ·exact ranks_fault f l h12 b hf lv sv n w hl hs
 ·refine ranks_fine f l h12 (fun b hb=>?_) n hn q hq hql lv sv a3 w hl hs hr
  unfold faultB at hf
  rw[List.find?_eq_none] at hf
  simpa using hf b hb
theorem rank_text {T:ByteArray} {x:Itm} {f:Bn→Rs} {I:ByteArray} (hx:x.Ok) (h:GoodT T x f I) (sb:Nat) (l:List Bn) (hs:Shelf l) (h12:l.length≤12) (n:Nat) (hn:n≤1000) (w:World) (hst:StoreAt w sb l I) (hg:GlobY w) :
  Calls Tryz.prog 15 #[.pointer (some ⟨sb,0,none⟩),itmA x,.int .i64 n] w fun e w'=>Below w.heap.size w w'∧∃ (z0 z1 z2:Int) (qa:Option Addr) (qn qc:Nat),e=.returned (.agg #[.int .i64 z0,.int .i64 z1,.int .i64 z2,.slice qa qn qc])∧RankV f l n w' (.int .i64 z0) (.int .i64 z1) (.int .i64 z2) (.slice qa qn qc)∧∀ k',(Value.slice qa qn qc).ownBlock=some k'→w.heap.size≤k':=by
 refine (Rank_gen x hx (sayR f) sb l I h.full (by omega) (fun y hy=>h.runs y (hs.ok y hy)) (fun y hy=>h.kind y (hs.ok y hy)) n ⟨by omega,by omega⟩ (by omega) w hst hg).mono ?_
 rintro e w' ⟨hb,hor⟩
 refine ⟨hb, ?_⟩
 have hpw:l.Pairwise (fun a b=>a.id < b.id):=by
  rw[List.pairwise_iff_getElem]
  exact fun i j hi hj hij=>hs.up i j hi hj hij
 rcases hor with ⟨b,hf,rfl⟩ | ⟨hf,v',rfl,hown⟩
 ·exact ⟨_,_,_,_,_,_,rfl,.inl ⟨b,hf,rfl,rfl,rfl,rfl⟩,fun k' h=>by cases h⟩
 ·obtain ⟨qa,qc,rfl⟩:=(reads_of_own hown).shape
  refine ⟨_,_,_,_,_,_,rfl,.inr ⟨hf,rfl,rfl,rfl,(sortQ (scoredL (sayR f) l)).take n,best_of _ hpw n, ?_, ?_⟩,fun k' h=>by have:=(hown.lt k' h).1;omega⟩
  ·have:=sort_len (sayR f) l
   rw[List.length_take]
   omega
  ·rw[show ((n:Int)).toNat=n by simp] at hown
   exact reads_of_own hown
def rejS:List RSt:=[RSt.rule none ⟨[114,101,106,101,99,116],0⟩ none ⟨[59],6⟩]
theorem rejS_pol:PolicyOf rejT [] rejS:=by
 refine ⟨by kernel_rfl,(fun s h=>by cases h),fun s h=>?_,fun s h=>?_,fun t ht=>?_,by simp[rejS],by decide⟩
 ·simp only[rejS,List.mem_singleton] at h;subst h;rfl
 ·simp only[rejS,List.nil_append,List.mem_singleton] at h
  subst h
  exact ⟨(fun k e he=>by cases he),rfl,(fun e he=>by cases he),rfl⟩
 ·exact List.all_eq_true.1 (show (toksL ([]++rejS)).all (fun t:RTok=>mayT t.text)=true by kernel_rfl) t ht
theorem rej_good {x:Itm} (hx:x.Ok):∃ I,GoodT rejB x (fun _=>(0,0,1)) I:=by
 have h:FineP rejB.toList x ⟨1,0,1,0,0⟩ (0,0,1) [] rejS:=by
  rw[rejB_list]
  exact ⟨rejS_pol,Nat.le_of_ble_eq_true (by kernel_rfl),rej_errs rejS_pol,rfl⟩
 obtain ⟨I,hI⟩:=goodT_of hx h
 refine ⟨I, ?_⟩
 have e:(fun y=>saysP x y [] rejS)=(fun _=>((0,0,1):Rs)):=by
  funext y
  rfl
 rw[e] at hI
 exact hI
theorem rank_none {l:List Bn} {n:Nat} {w:World} {z0 z1 z2:Int} {qa:Option Addr} {qn qc:Nat} (h:RankV (fun _=>(0,0,1)) l n w (.int .i64 z0) (.int .i64 z1) (.int .i64 z2) (.slice qa qn qc)):z0=0∧z1=0∧z2=0∧qn=0:=by
 rcases h with ⟨b,hf,_⟩ | ⟨_,h1,h2,h3,q,hq,_,hr⟩
 ·unfold faultB at hf
  have:=List.find?_some hf
  simp at this
 ·cases h1
  cases h2
  cases h3
  refine ⟨rfl,rfl,rfl, ?_⟩
  have hz:scoredL (sayR (fun _=>((0,0,1):Rs))) l=[]:=by
   apply List.eq_nil_iff_forall_not_mem.2
   intro p hp
   obtain ⟨b,_,h,_⟩:=scored_mem.1 hp
   simp at h
  have hl:=hq.len
  rw[hz] at hl
  have hl0:q.length=0:=by simpa using hl
  obtain ⟨a,c,he⟩:=hr.shape
  rw[hl0] at he
  cases he
  rfl
end Go.Proofs.YtpcjadaeolkngaaGreatDoor
namespace Go.Proofs.YtpcjadaeolkngaaGreatDoor
open Go.RowKit Go.Deep
abbrev OptP:=Option (ByteArray × Wo)
def toO (o:OptP):Option (Txt × Wo):=o.map (fun p=>(p.1.toList,p.2))
def whT (o:OptP):Txt:=match o with
 | none=>[]
 | some p=>cWhen++32 :: (p.1.toList++[32])
structure WhenIs (C:Ctx→Prop) (T:ByteArray) (K:Nat) (V:Int) (S:Nat) (d:Bool) (T1:ByteArray) (K1:Nat) (V1:Int) (S1:Nat) (d1 a1:Bool) (o:OptP):Prop where
 txt:T1.toList=T.toList++whT o
 len:T1.size≤T.size+62
 is:∀ E,C E→IsO E (toO o) 2 25
 stp:S1≤S+100
 say:(d=true∧K1=K∧V1=V∧S1=S∧d1=true)∨(d=false∧d1=true∧K1=2∧∃ tw kw,o=some (tw,kw)∧kw.flt≠0∧V1=(kw.flt:Int)∧S1=S+kw.steps)∨(d=false∧d1=false∧K1=0∧V1=0∧((o=none∧a1=true∧S1=S)∨∃ tw kw,o=some (tw,kw)∧kw.flt=0∧(kw.v=0∨kw.v=1)∧a1=(kw.v==1)∧S1=S+whenW kw))
def RSay (K:Nat) (V:Int) (S:Nat) (d:Bool) (K2:Nat) (V2:Int) (S2:Nat) (d2:Bool) (r:MadeR):Prop :=
 (d=true∧K2=K∧V2=V∧S2=S∧d2=true)∨(d=false∧d2=true∧∃ c,S2=S+c∧∀ rest,sayO (r.1.map Prod.snd) (r.2.map Prod.snd) rest=(K2,V2,c))∨(d=false∧d2=false∧K2=0∧V2=0∧∃ c,S2=S+c∧∀ rest:Nat × Int × Nat,sayO (r.1.map Prod.snd) (r.2.map Prod.snd) rest=(rest.1,rest.2.1,c+rest.2.2))
structure RuleIs (C:Ctx→Prop) (T:ByteArray) (K:Nat) (V:Int) (S:Nat) (d:Bool) (T2:ByteArray) (K2:Nat) (V2:Int) (S2:Nat) (d2:Bool) (r:MadeR):Prop where
 txt:T2.toList=T.toList++(ruleB (r.1.map Prod.fst) (r.2.map Prod.fst)++[59])
 len:T2.size≤T.size+152
 is:∀ E,C E→IsO E r.1 2 25∧IsO E r.2 1 50
 stp:S2≤S+200
 say:RSay K V S d K2 V2 S2 d2 r
theorem whT_act (o:OptP) (sc:Option Txt):whT o++actB sc=ruleB ((toO o).map Prod.fst) sc:=by
 cases o with
 | none=>rfl
 | some p=>simp[whT,ruleB,toO]
theorem actO_fine {e:Wo} (h:e.flt=0):actO (some e)=(1,e.v,e.steps+1):=by
 show (if e.flt≠0 then _ else _)=_
 rw[if_neg (by simpa using h)]
theorem actO_bad {e:Wo} (h:e.flt≠0):actO (some e)=(2,(e.flt:Int),e.steps):=by
 show (if e.flt≠0 then _ else _)=_
 rw[if_pos h]
section
variable {C:Ctx→Prop} {T T1:ByteArray} {K K1 S S1:Nat} {V V1:Int} {d d1 a1:Bool} {o:OptP}
theorem isO_none {E:Ctx} {kd p:Nat}:IsO E none kd p:=fun q h=>by cases h
theorem WhenIs.skip (h:WhenIs C T K V S d T1 K1 V1 S1 d1 a1 o) (hn:d1=true∨a1=false) (sc:Option (Txt × Wo)) (T2:ByteArray) (ht:T2.toList=T1.toList++(actB (sc.map Prod.fst)++[59])) (hl:T2.size≤T1.size+90) (hs:∀ E,C E→IsO E sc 1 50):RuleIs C T K V S d T2 K1 V1 S1 d1 (toO o,sc):=by
 refine ⟨?_,by have:=h.len;omega,fun E hE=>⟨h.is E hE,hs E hE⟩,by have:=h.stp;omega, ?_⟩
 ·rw[ht,h.txt,← whT_act];simp
 ·rcases h.say with h1 | ⟨h1,h2,h3,tw,kw,rfl,h5,h6,h7⟩ | ⟨h1,h2,h3,h4,h5⟩
  ·exact .inl h1
  ·refine .inr (.inl ⟨h1,h2,kw.steps,h7,fun rest=>?_⟩)
   show sayO (some kw) _ rest=_
   unfold sayO
   simp only[if_pos h5,h3,h6]
  ·rcases hn with hn | hn
   ·rw[h2] at hn;cases hn
   ·rcases h5 with ⟨rfl,h6,_⟩ | ⟨tw,kw,rfl,h6,h7,h8,h9⟩
    ·rw[hn] at h6;cases h6
    ·refine .inr (.inr ⟨h1,h2,h3,h4,whenW kw,h9,fun rest=>?_⟩)
     have hv:kw.v=0:=by
      rcases h7 with h | h
      ·exact h
      ·rw[hn,h] at h8;cases h8
     show sayO (some kw) _ rest=_
     unfold sayO
     simp only[if_neg (show ¬ (kw.flt≠0) by simpa using h6),if_pos hv]
theorem WhenIs.act (h:WhenIs C T K V S d T1 K1 V1 S1 d1 a1 o) (hd:d1=false) (ha:a1=true) (sc:Option (Txt × Wo)) (T2:ByteArray) (ht:T2.toList=T1.toList++(actB (sc.map Prod.fst)++[59])) (hl:T2.size≤T1.size+90) (hs:∀ E,C E→IsO E sc 1 50) (K2:Nat) (V2:Int) (S2:Nat) (hS2:S2≤100) (hk:actO (sc.map Prod.snd)=(K2,V2,S2)):RuleIs C T K V S d T2 K2 V2 (S1+S2) true (toO o,sc):=by
 refine ⟨?_,by have:=h.len;omega,fun E hE=>⟨h.is E hE,hs E hE⟩,by have:=h.stp;omega, ?_⟩
 ·rw[ht,h.txt,← whT_act];simp
 ·rcases h.say with ⟨_,_,_,_,h1⟩ | ⟨_,h1,_⟩ | ⟨h1,h2,h3,h4,h5⟩
  ·rw[hd] at h1;cases h1
  ·rw[hd] at h1;cases h1
  ·rcases h5 with ⟨rfl,_,h6⟩ | ⟨tw,kw,rfl,h6,h7,h8,h9⟩
   ·refine .inr (.inl ⟨h1,rfl,S2,by rw[h6],fun rest=>?_⟩)
    show actO (sc.map Prod.snd)=_
    exact hk
   ·refine .inr (.inl ⟨h1,rfl,whenW kw+S2,by rw[h9];omega,fun rest=>?_⟩)
    have hv:¬ (kw.v=0):=by
     intro h0
     rw[ha,h0] at h8
     cases h8
    show sayO (some kw) (sc.map Prod.snd) rest=_
    unfold sayO
    simp only[if_neg (show ¬ (kw.flt≠0) by simpa using h6),if_neg hv,hk]
end
theorem rules_one {K2 S2:Nat} {V2:Int} {d2:Bool} {r:MadeR} (h:RSay 0 0 0 false K2 V2 S2 d2 r):rulesO [r]=(K2,V2,if d2 then S2 else S2+1):=by
 show sayO _ _ (0,0,1)=_
 rcases h with ⟨h1,_⟩ | ⟨_,rfl,c,h1,h2⟩ | ⟨_,rfl,rfl,rfl,c,h1,h2⟩
 ·cases h1
 ·rw[h2,h1];simp
 ·rw[h2,h1];simp
theorem rules_two {K1 S1 K2 S2:Nat} {V1 V2:Int} {d1 d2:Bool} {r q:MadeR} (h:RSay 0 0 0 false K1 V1 S1 d1 r) (g:RSay K1 V1 S1 d1 K2 V2 S2 d2 q):rulesO [r,q]=(K2,V2,if d2 then S2 else S2+1):=by
 show sayO _ _ (sayO _ _ (0,0,1))=_
 rcases h with ⟨h1,_⟩ | ⟨_,rfl,c,h1,h2⟩ | ⟨_,rfl,rfl,rfl,c,h1,h2⟩
 ·cases h1
 ·rcases g with ⟨_,rfl,rfl,rfl,rfl⟩ | ⟨g1,_⟩ | ⟨g1,_⟩
  ·rw[h2,h1];simp
  ·cases g1
  ·cases g1
 ·rcases g with ⟨g1,_⟩ | ⟨_,rfl,e,g1,g2⟩ | ⟨_,rfl,rfl,rfl,e,g1,g2⟩
  ·cases g1
  ·rw[h2,g2,g1,h1];simp
  ·rw[h2,g2,g1,h1];simp;omega
end Go.Proofs.YtpcjadaeolkngaaGreatDoor
