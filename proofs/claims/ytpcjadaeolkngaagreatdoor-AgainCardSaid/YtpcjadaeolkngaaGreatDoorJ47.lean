/-
  sum: an EXPR that is a number, so deep; with its feed's bytes.
-/
import Derived.Test.YtpcjadaeolkngaaGreatDoorJ45
import Derived.Test.YtpcjadaeolkngaaGreatDoorJ46
set_option linter.unusedVariables false
set_option linter.unusedSimpArgs false
namespace Go.Proofs.YtpcjadaeolkngaaGreatDoor
open Go.RowKit Go.Deep
def put6G(wx:World)(b:Nat)(a0 a1 a2 a3 a4 a5:Value):World :=
 (((((wx.setCell ⟨b,0,none⟩ a0).setCell ⟨b,1,none⟩ a1).setCell ⟨b,2,none⟩ a2).setCell ⟨b,3,none⟩ a3).setCell ⟨b,4,none⟩ a4).setCell ⟨b,5,none⟩ a5
structure SumG(w wx:World)(mb fb:Nat)(x:Itm)(y:Bn)(l0 l1 l2 l3 l4 l5:Value)(st:Bool)(g:Fd)(c:Array Value):Prop where
 mak:MakG wx mb fb x y l0 l1 l2 l3 l4 l5 st g
 out:Blk wx w.heap.size ag0 62
 pp:Blk wx (w.heap.size+1) c 62
 bl:But fb w wx
 m:mb<w.heap.size
 f:fb<w.heap.size
section
variable {w wx w':World} {mb fb:Nat} {x:Itm} {y:Bn} {l0 l1 l2 l3 l4 l5:Value} {st:Bool} {g g':Fd} {c:Array Value}
theorem sumG_start(h:MakG w mb fb x y l0 l1 l2 l3 l4 l5 st g):SumG w ((w.alloc (.cells ag0 62)).alloc (.cells ag0 62)) mb fb x y l0 l1 l2 l3 l4 l5 st g ag0:=by
 have d:=duo_startP w ag0 ag0
 exact ⟨h.below d.bl,d.box,d.res,But.of d.bl,h.blk.lt,h.fed.lt⟩
theorem SumG.call(h:SumG w wx mb fb x y l0 l1 l2 l3 l4 l5 st g c)(hM:MakG w' mb fb x y l0 l1 l2 l3 l4 l5 st g')(hB:But fb wx w'):SumG w w' mb fb x y l0 l1 l2 l3 l4 l5 st g' c :=
 ⟨hM,h.out.but hB (by have:=h.f;omega),h.pp.but hB (by have:=h.f;omega),h.bl.trans hB,h.m,h.f⟩
theorem SumG.next(h:SumG w wx mb fb x y l0 l1 l2 l3 l4 l5 st g c)(hF:FedAt w' fb g')(hB:But fb wx w'):SumG w w' mb fb x y l0 l1 l2 l3 l4 l5 st g' c:=h.call (h.mak.next hF hB) hB
theorem SumG.below(h:SumG w wx mb fb x y l0 l1 l2 l3 l4 l5 st g c)(hb:Below wx.heap.size wx w'):SumG w w' mb fb x y l0 l1 l2 l3 l4 l5 st g c:=h.call (h.mak.below hb) (But.of hb)
theorem SumG.al(h:SumG w wx mb fb x y l0 l1 l2 l3 l4 l5 st g c)(o:Obj):SumG w (wx.alloc o) mb fb x y l0 l1 l2 l3 l4 l5 st g c:=h.below (box3 wx o)
theorem SumG.drew(h:SumG w wx mb fb x y l0 l1 l2 l3 l4 l5 st g c):SumG w wx.drew mb fb x y l0 l1 l2 l3 l4 l5 st g c:=h.below (below_drewN (Below.refl _ _) 1)
theorem SumG.setP(h:SumG w wx mb fb x y l0 l1 l2 l3 l4 l5 st g c)(i:Nat)(v:Value):SumG w (wx.setCell ⟨w.heap.size+1,i,none⟩ v) mb fb x y l0 l1 l2 l3 l4 l5 st g (c.setIfInBounds i v) :=
 ⟨⟨h.mak.blk.other _ _ (by have:=h.m;simp only;omega),h.mak.fed.other _ _ _ (by have:=h.f;omega),h.mak.ne⟩,h.out.other _ _ (by simp only;omega),h.pp.set i v,h.bl.st _ _ (by omega) v,h.m,h.f⟩
theorem SumG.put{z0 z1 z2 z3 z4 z5:Value}(h:SumG w wx mb fb x y l0 l1 l2 l3 l4 l5 st g #[z0,z1,z2,z3,z4,z5])(a0 a1 a2 a3 a4 a5:Value):SumG w (put6G wx (w.heap.size+1) a0 a1 a2 a3 a4 a5) mb fb x y l0 l1 l2 l3 l4 l5 st g #[a0,a1,a2,a3,a4,a5] :=
 (((((h.setP 0 a0).setP 1 a1).setP 2 a2).setP 3 a3).setP 4 a4).setP 5 a5
theorem SumG.facts(h:SumG w wx mb fb x y l0 l1 l2 l3 l4 l5 st g c):(∀ i,wx.cell? ⟨w.heap.size+1,i,none⟩=c[i]?)∧(∀ i,wx.frozen? ⟨w.heap.size+1,i,none⟩=false)∧wx.cell? ⟨mb,0,none⟩=some (.pointer (some ⟨fb,0,none⟩)):=⟨h.pp.cell,h.pp.free,h.mak.blk.cell 0⟩
theorem SumG.om(h:SumG w wx mb fb x y l0 l1 l2 l3 l4 l5 st g c):OutG w wx mb fb x y l0 l1 l2 l3 l4 l5 st g ag0:=⟨h.mak,h.out,h.bl,h.m,h.f⟩
theorem SumG.seven{a0 a1 a2 a3 a4 a5:Value}(h:SumG w wx mb fb x y l0 l1 l2 l3 l4 l5 st g #[a0,a1,a2,a3,a4,a5]):wx.cell? ⟨mb,0,none⟩=some (.pointer (some ⟨fb,0,none⟩))∧wx.cell? ⟨w.heap.size+1,0,none⟩=some a0∧wx.cell? ⟨w.heap.size+1,1,none⟩=some a1∧wx.cell? ⟨w.heap.size+1,2,none⟩=some a2∧wx.cell? ⟨w.heap.size+1,3,none⟩=some a3∧wx.cell? ⟨w.heap.size+1,4,none⟩=some a4∧wx.cell? ⟨w.heap.size+1,5,none⟩=some a5 :=
 ⟨h.mak.blk.cell 0,h.pp.cell 0,h.pp.cell 1,h.pp.cell 2,h.pp.cell 3,h.pp.cell 4,h.pp.cell 5⟩
theorem SumG.ppO{b0 b1 b2 b3 b4 b5:Value}(h:SumG w wx mb fb x y l0 l1 l2 l3 l4 l5 st g c):Blk ((((((wx.setCell ⟨w.heap.size,0,none⟩ b0).setCell ⟨w.heap.size,1,none⟩ b1).setCell ⟨w.heap.size,2,none⟩ b2).setCell ⟨w.heap.size,3,none⟩ b3).setCell ⟨w.heap.size,4,none⟩ b4).setCell ⟨w.heap.size,5,none⟩ b5) (w.heap.size+1) c 62 :=
 ((((((h.pp.other _ _ (by simp only;omega)).other _ _ (by simp only;omega)).other _ _ (by simp only;omega)).other _ _ (by simp only;omega)).other _ _ (by simp only;omega)).other _ _ (by simp only;omega))
theorem SumG.seven2{a0 a1 a2 a3 a4 a5 b0 b1 b2 b3 b4 b5:Value}(h:SumG w wx mb fb x y l0 l1 l2 l3 l4 l5 st g #[a0,a1,a2,a3,a4,a5]):((((((wx.setCell ⟨w.heap.size,0,none⟩ b0).setCell ⟨w.heap.size,1,none⟩ b1).setCell ⟨w.heap.size,2,none⟩ b2).setCell ⟨w.heap.size,3,none⟩ b3).setCell ⟨w.heap.size,4,none⟩ b4).setCell ⟨w.heap.size,5,none⟩ b5).cell? ⟨mb,0,none⟩=some (.pointer (some ⟨fb,0,none⟩))∧((((((wx.setCell ⟨w.heap.size,0,none⟩ b0).setCell ⟨w.heap.size,1,none⟩ b1).setCell ⟨w.heap.size,2,none⟩ b2).setCell ⟨w.heap.size,3,none⟩ b3).setCell ⟨w.heap.size,4,none⟩ b4).setCell ⟨w.heap.size,5,none⟩ b5).cell? ⟨w.heap.size+1,0,none⟩=some a0∧((((((wx.setCell ⟨w.heap.size,0,none⟩ b0).setCell ⟨w.heap.size,1,none⟩ b1).setCell ⟨w.heap.size,2,none⟩ b2).setCell ⟨w.heap.size,3,none⟩ b3).setCell ⟨w.heap.size,4,none⟩ b4).setCell ⟨w.heap.size,5,none⟩ b5).cell? ⟨w.heap.size+1,1,none⟩=some a1∧((((((wx.setCell ⟨w.heap.size,0,none⟩ b0).setCell ⟨w.heap.size,1,none⟩ b1).setCell ⟨w.heap.size,2,none⟩ b2).setCell ⟨w.heap.size,3,none⟩ b3).setCell ⟨w.heap.size,4,none⟩ b4).setCell ⟨w.heap.size,5,none⟩ b5).cell? ⟨w.heap.size+1,2,none⟩=some a2∧((((((wx.setCell ⟨w.heap.size,0,none⟩ b0).setCell ⟨w.heap.size,1,none⟩ b1).setCell ⟨w.heap.size,2,none⟩ b2).setCell ⟨w.heap.size,3,none⟩ b3).setCell ⟨w.heap.size,4,none⟩ b4).setCell ⟨w.heap.size,5,none⟩ b5).cell? ⟨w.heap.size+1,3,none⟩=some a3∧((((((wx.setCell ⟨w.heap.size,0,none⟩ b0).setCell ⟨w.heap.size,1,none⟩ b1).setCell ⟨w.heap.size,2,none⟩ b2).setCell ⟨w.heap.size,3,none⟩ b3).setCell ⟨w.heap.size,4,none⟩ b4).setCell ⟨w.heap.size,5,none⟩ b5).cell? ⟨w.heap.size+1,4,none⟩=some a4∧((((((wx.setCell ⟨w.heap.size,0,none⟩ b0).setCell ⟨w.heap.size,1,none⟩ b1).setCell ⟨w.heap.size,2,none⟩ b2).setCell ⟨w.heap.size,3,none⟩ b3).setCell ⟨w.heap.size,4,none⟩ b4).setCell ⟨w.heap.size,5,none⟩ b5).cell? ⟨w.heap.size+1,5,none⟩=some a5 :=
 ⟨((((((h.om.setO 0 b0).setO 1 b1).setO 2 b2).setO 3 b3).setO 4 b4).setO 5 b5).mak.blk.cell 0,h.ppO.cell 0,h.ppO.cell 1,h.ppO.cell 2,h.ppO.cell 3,h.ppO.cell 4,h.ppO.cell 5⟩
end
def SumDoesG(C:Ctx→Prop)(mb fb:Nat)(x:Itm)(y:Bn)(l0 l1 l2 l3 l4 l5:Value)(st:Bool)(F:Fd→PT)(L D P S:Nat)(n:Nat):Prop:=∀ g w,MakG w mb fb x y l0 l1 l2 l3 l4 l5 st g→Calls Tryz.prog 20 #[.pointer (some ⟨mb,0,none⟩),.int .i64 n] w fun e w'=>∃ t b k g',(Pc C t b k 1 L D P S st∧F g=(t,b,g')∧e=.returned (pcV t b k))∧MakG w' mb fb x y l0 l1 l2 l3 l4 l5 st g'∧But fb w w'
def selS(r:Int)(ta:ByteArray)(ba:Nat)(tb:ByteArray)(bb:Nat)(g:Fd):PT :=
 if r=0 then (joinT ⟨#[43]⟩ ta ba tb bb 4,4,g) else if r=1 then (joinT ⟨#[45]⟩ ta ba tb bb 4,4,g) else if r=2 then (joinT ⟨#[42]⟩ ta ba tb bb 5,5,g) else if r=3 then (joinT ⟨#[47]⟩ ta ba tb bb 5,5,g) else if r=4 then (joinT ⟨#[37]⟩ ta ba tb bb 5,5,g) else (ta,ba,g)
def midS(F:Fd→PT)(g:Fd):PT:=selS (nx 6 (F (F g).2.2).2.2).1 (F g).1 (F g).2.1 (F (F g).2.2).1 (F (F g).2.2).2.1 (nx 6 (F (F g).2.2).2.2).2
theorem midS_eq{F:Fd→PT}{g ga gb gr:Fd}{ta tb:ByteArray}{ba bb:Nat}{r:Int}(h1:F g=(ta,ba,ga))(h2:F ga=(tb,bb,gb))(h3:nx 6 gb=(r,gr)):midS F g=selS r ta ba tb bb gr:=by
 unfold midS
 simp only[h1,h2,h3]
def endS(op:ByteArray)(F:Fd→PT)(g:Fd):PT:=looseG (turnG op (F g))
set_option maxHeartbeats 4000000 in
set_option maxRecDepth 100000 in
theorem sumG_zero{C:Ctx→Prop}(mb fb:Nat)(x:Itm)(y:Bn)(l0 l1 l2 l3 l4 l5:Value)(st:Bool)(P S:Nat)(hP:P≤6)(hS:S≤7)(hC:∀ E,C E→E.Ok)
  (NF:Fd→PT) (hnum:∀ g w,MakG w mb fb x y l0 l1 l2 l3 l4 l5 st g→Calls Tryz.prog 36 #[.pointer (some ⟨mb,0,none⟩)] w fun e w'=>∃ t k g',(Pc C t 6 k 1 10 0 P S st∧NF g=(t,6,g')∧e=.returned (pcV t 6 k))∧MakG w' mb fb x y l0 l1 l2 l3 l4 l5 st g'∧But fb w w'):SumDoesG C mb fb x y l0 l1 l2 l3 l4 l5 st (endS ⟨#[45]⟩ NF) 14 1 (P+1) (S+1) 0:=by
 intro g w h
 have HC:=mH hC
 have HN:=mH hnum
 clear hC hnum
 have HS:=mH (sumG_start h)
 clear h
 go_enter Tryz.func20,Tryz.ntmps20
 go_upto_if 9 with fail
 generalize (w.alloc (.cells ag0 62)).alloc (.cells ag0 62)=W at HS ⊢
 go_cut [] (fun wx=>∃ t b k g',(Pc C t b k 1 (10) (0) (P) (S) st∧NF g=(t,b,g'))∧SumG w wx mb fb x y l0 l1 l2 l3 l4 l5 st g' (pcA t b k))
 case first =>
  go_wp2_with (go_at_call 36;refine (HN.out _ _ HS.out.mak).mono ?_;rintro e w1 ⟨t,k,g1,⟨hP1,hE1,rfl⟩,hM,hB⟩;obtain ⟨v,flt,s,fi⟩:=k;unfold pcV pcA;replace HS:=mH (HS.out.call hM hB);have HP:=mH hP1;have HE:=mH hE1;clear hM hB hP1 hE1;obtain ⟨p,f,c0⟩:=HS.out.facts)
  go_meet
  case rel=>exact ⟨t,6,⟨v,flt,s,fi⟩,g1,⟨HP.out,HE.out⟩,HS.out.put _ _ _ _ _ _⟩
 case rest =>
  obtain ⟨t,b,k,g1,⟨hP,hE⟩,hS⟩:=hcut
  obtain ⟨v,flt,s,fi⟩:=k
  unfold pcA at hS
  have HP:=mH hP
  have HE:=mH hE
  have HS:=mH hS
  clear hP hS hE
  obtain ⟨p,f,c0⟩:=HS.out.facts
  go_upto_if 56 with (go_at_call 19;refine (next_fed 5 (by omega) _ _ _ HS.out.mak.fed).mono ?_;rintro e w1 ⟨r,g2,⟨hg,hr0,hr5,rfl⟩,hF,hB⟩;have HG:=mH hg;replace HS:=mH (HS.out.next hF hB);clear hF hB hg c0 p f;obtain ⟨p,f,c0⟩:=HS.out.facts)
  go_cut [] (fun wx=>∃ t b k g',(Pc C t b k 1 (10+1) (0) (P+1) (S+1) st∧turnG ⟨#[45]⟩ (NF g)=(t,b,g'))∧SumG w wx mb fb x y l0 l1 l2 l3 l4 l5 st g' (pcA t b k))
  case first =>
   by_cases hr:r=1
   ·subst hr
    go_wp2_with (go_at_call 38;refine (turnedG_neg HC.out HP.out (by omega) (by omega) _).mono ?_;rintro e w2 ⟨⟨t',b',k',⟨hP',hT'⟩,rfl⟩,hb2⟩;obtain ⟨v',flt',s',fi'⟩:=k';unfold pcV pcA;replace HS:=mH (HS.out.below hb2);have HP':=mH hP';have HT':=mH hT';clear hb2 hP' hT' c0 p f;obtain ⟨p,f,c0⟩:=HS.out.facts)
    go_meet
    case rel=>exact ⟨t',b',⟨v',flt',s',fi'⟩,g2,⟨HP'.out,by rw[HE.out,HT'.out.1,HT'.out.2];exact turnG_yes HG.out⟩,HS.out.put _ _ _ _ _ _⟩
   ·have hr':(r==1)=false:=by simpa using hr
    go_wp2
    go_meet
    case rel=>exact ⟨t,b,⟨v,flt,s,fi⟩,g2,⟨HP.out.mono (by omega) (Nat.le_refl _) (by omega) (by omega),by rw[HE.out];exact turnG_no HG.out hr⟩,HS.out⟩
  case rest =>
   clear HS HP HE HG c0 p f
   obtain ⟨t',b',k',g3,⟨hP,hE⟩,hS⟩:=hcut
   obtain ⟨v',flt',s',fi'⟩:=k'
   unfold pcA at hS
   have HP:=mH hP
   have HE:=mH hE
   have HS:=mH hS
   clear hP hS hE
   obtain ⟨p,f,c0⟩:=HS.out.facts
   go_upto_region 20 with fail
   go_region_held3 (fun w'=>w'.cell? ⟨mb,0,none⟩=some (.pointer (some ⟨fb,0,none⟩))∧w'.cell? ⟨w.heap.size+1,0,none⟩=some (.string t')∧w'.cell? ⟨w.heap.size+1,1,none⟩=some (.int .i64 b')∧w'.cell? ⟨w.heap.size+1,2,none⟩=some (.int .i64 v')∧w'.cell? ⟨w.heap.size+1,3,none⟩=some (.int .i64 flt')∧w'.cell? ⟨w.heap.size+1,4,none⟩=some (.int .i64 s')∧w'.cell? ⟨w.heap.size+1,5,none⟩=some (.bool fi')) (first | with_reducible exact HS.out.drew.seven | with_reducible exact HS.out.seven | with_reducible exact HS.out.seven2) (first | (go_at_call 39;refine (looseG_made HC.out HP.out (by omega) fb _ _ HS.out.drew.mak.fed).mono ?_;rintro e w3 ⟨t3,b3,k3,g4,⟨hP3,hE3,rfl⟩,hF,hB⟩;obtain ⟨v3,flt3,s3,fi3⟩:=k3;unfold pcV pcA;replace HS:=mH (HS.out.drew.next hF hB);have HP3:=mH hP3;have HE3:=mH hE3;clear hF hB hP3 hE3 c0 p f;have oo:=HS.out.out.cell;have oq:=HS.out.out.free))
   all_goals go_wp2_with fail
   all_goals
    obtain ⟨hfb,hmk,hbl⟩:=HS.out.om.fin (.string t3) (.int .i64 b3) (.int .i64 v3) (.int .i64 flt3) (.int .i64 s3) (.bool fi3)
    have gg:=hfb.cell
    unfold finG at gg hbl hmk
    exact bodyPost_ret (v:=.agg #[.string t3,.int .i64 b3,.int .i64 v3,.int .i64 flt3,.int .i64 s3,.bool fi3]) (by simp[results,Tryz.results20,go_sem,gg]) rfl ⟨t3,b3,⟨v3,flt3,s3,fi3⟩,g4,⟨HP3.out.mono (by omega) (by omega) (by omega) (by omega),by first | (show looseG (turnG _ _)=_;rw[HE.out];exact HE3.out),rfl⟩,hmk,hbl⟩
set_option maxHeartbeats 8000000 in
set_option maxRecDepth 100000 in
theorem sumG_succ{C:Ctx→Prop}(mb fb:Nat)(x:Itm)(y:Bn)(l0 l1 l2 l3 l4 l5:Value)(st:Bool)(L D P S n:Nat)(hL:L≤100)(hS:S≤100)(hn:n≤5)(hC:∀ E,C E→E.Ok)(F:Fd→PT)(ih:SumDoesG C mb fb x y l0 l1 l2 l3 l4 l5 st F L D P S n):SumDoesG C mb fb x y l0 l1 l2 l3 l4 l5 st (endS ⟨#[45]⟩ (midS F)) (L+L+9) (D+2) (P+P+2) (S+S+3) (n+1):=by
 intro g w h
 have HC:=mH hC
 have HIH:Hid (∀ g w,MakG w mb fb x y l0 l1 l2 l3 l4 l5 st g→Calls Tryz.prog 20 #[.pointer (some ⟨mb,0,none⟩),.int .i64 n] w fun e w'=>∃ t b k g',(Pc C t b k 1 L D P S st∧F g=(t,b,g')∧e=.returned (pcV t b k))∧MakG w' mb fb x y l0 l1 l2 l3 l4 l5 st g'∧But fb w w'):=ih
 clear hC ih
 have hnn:((n+1:Nat):Int)=(n:Int)+1:=by simp
 have hne0:(((n:Int)+1)==0)=false:=by simp;omega
 have hsub:(n:Int)+1-1=(n:Int):=by omega
 have t1:Hid True:=trivial
 have t2:Hid True:=trivial
 rw[hnn]
 clear hnn
 have HS:=mH (sumG_start h)
 clear h
 go_enter Tryz.func20,Tryz.ntmps20
 go_upto_if 9 with fail
 generalize (w.alloc (.cells ag0 62)).alloc (.cells ag0 62)=W at HS ⊢
 obtain ⟨p,f,c0⟩:=HS.out.facts
 go_cut [] (fun wx=>∃ t b k g',(Pc C t b k 1 (L+L+5) (D+1) (P+P+1) (S+S+2) st∧midS F g=(t,b,g'))∧SumG w wx mb fb x y l0 l1 l2 l3 l4 l5 st g' (pcA t b k))
 case first =>
  go_wp2_with (first
   | (go_at_call 20;have u1:=t1;clear t1;refine (HIH.out _ _ HS.out.mak).mono ?_;rintro e w1 ⟨ta,ba,ka,ga,⟨hPa,hEa,rfl⟩,hM,hB⟩;have HEA:=mH hEa;clear hEa;obtain ⟨va,fa,sa,ia⟩:=ka;unfold pcV pcA;replace HS:=mH ((HS.out.call hM hB).al (.cells (ag ta ba va fa sa ia) 62));have HA:=mH (Blk.new w1 (ag ta ba va fa sa ia) 62);have HPA:=mH hPa;have hlt1:fb<w1.heap.size:=hM.fed.lt;clear hM hB hPa c0 p f;obtain ⟨p,f,c0⟩:=HS.out.facts;have a:=HA.out.cell)
   | (go_at_call 20;have u2:=t2;clear t2;refine (HIH.out _ _ HS.out.mak).mono ?_;rintro e w2 ⟨tb,bb,kb,gb,⟨hPb,hEb,rfl⟩,hM,hB⟩;have HEB:=mH hEb;clear hEb;obtain ⟨vb,fb',sb,ib⟩:=kb;unfold pcV pcA;replace HS:=mH ((HS.out.call hM hB).al (.cells (ag tb bb vb fb' sb ib) 62));replace HA:=mH ((HA.out.but hB (by omega)).alloc (.cells (ag tb bb vb fb' sb ib) 62));have HB:=mH (Blk.new w2 (ag tb bb vb fb' sb ib) 62);have HPB:=mH hPb;have hlt2:fb<w2.heap.size:=hM.fed.lt;clear hM hB hPb c0 p f a;obtain ⟨p,f,c0⟩:=HS.out.facts;have a:=HA.out.cell;have d:=HB.out.cell)
   | (go_at_call 19;refine (next_fed 6 (by omega) _ _ _ HS.out.mak.fed).mono ?_;rintro e w4 ⟨r,gr,⟨hg,hr0,hr6,rfl⟩,hF,hB⟩;have HGR:=mH hg;clear hg;replace HS:=mH (HS.out.next hF hB);replace HA:=mH (HA.out.but hB (by omega));replace HB:=mH (HB.out.but hB (by omega));clear hF hB c0 p f a d;obtain ⟨p,f,c0⟩:=HS.out.facts;have a:=HA.out.cell;have d:=HB.out.cell;obtain rfl | rfl | rfl | rfl | rfl | rfl:r=0∨r=1∨r=2∨r=3∨r=4∨r=5:=by omega)
   | (go_at_call_of 37 (Value.string ⟨#[43]⟩);refine (joinedG_plus HC.out HPA.out HPB.out (by omega) (by omega) _).mono ?_;rintro e w5 ⟨⟨tc,bc,kc,⟨hPc,hTc⟩,rfl⟩,hb5⟩;obtain ⟨vc,fc,sc,ic⟩:=kc;unfold pcV pcA;replace HS:=mH (HS.out.below hb5);have HPC:=mH hPc;have HTC:=mH hTc;clear hb5 hPc hTc c0 p f;obtain ⟨p,f,c0⟩:=HS.out.facts)
   | (go_at_call_of 37 (Value.string ⟨#[45]⟩);refine (joinedG_less1 HC.out HPA.out HPB.out (by omega) (by omega) _).mono ?_;rintro e w5 ⟨⟨tc,bc,kc,⟨hPc,hTc⟩,rfl⟩,hb5⟩;obtain ⟨vc,fc,sc,ic⟩:=kc;unfold pcV pcA;replace HS:=mH (HS.out.below hb5);have HPC:=mH hPc;have HTC:=mH hTc;clear hb5 hPc hTc c0 p f;obtain ⟨p,f,c0⟩:=HS.out.facts)
   | (go_at_call_of 37 (Value.string ⟨#[42]⟩);refine (joinedG_times HC.out HPA.out HPB.out (by omega) (by omega) _).mono ?_;rintro e w5 ⟨⟨tc,bc,kc,⟨hPc,hTc⟩,rfl⟩,hb5⟩;obtain ⟨vc,fc,sc,ic⟩:=kc;unfold pcV pcA;replace HS:=mH (HS.out.below hb5);have HPC:=mH hPc;have HTC:=mH hTc;clear hb5 hPc hTc c0 p f;obtain ⟨p,f,c0⟩:=HS.out.facts)
   | (go_at_call_of 37 (Value.string ⟨#[47]⟩);refine (joinedG_quot HC.out HPA.out HPB.out (by omega) (by omega) _).mono ?_;rintro e w5 ⟨⟨tc,bc,kc,⟨hPc,hTc⟩,rfl⟩,hb5⟩;obtain ⟨vc,fc,sc,ic⟩:=kc;unfold pcV pcA;replace HS:=mH (HS.out.below hb5);have HPC:=mH hPc;have HTC:=mH hTc;clear hb5 hPc hTc c0 p f;obtain ⟨p,f,c0⟩:=HS.out.facts)
   | (go_at_call_of 37 (Value.string ⟨#[37]⟩);refine (joinedG_rest HC.out HPA.out HPB.out (by omega) (by omega) _).mono ?_;rintro e w5 ⟨⟨tc,bc,kc,⟨hPc,hTc⟩,rfl⟩,hb5⟩;obtain ⟨vc,fc,sc,ic⟩:=kc;unfold pcV pcA;replace HS:=mH (HS.out.below hb5);have HPC:=mH hPc;have HTC:=mH hTc;clear hb5 hPc hTc c0 p f;obtain ⟨p,f,c0⟩:=HS.out.facts))
  all_goals go_meet
  all_goals first
   | exact ⟨tc,bc,⟨vc,fc,sc,ic⟩,gr,⟨HPC.out,by rw[midS_eq HEA.out HEB.out HGR.out,HTC.out.1,HTC.out.2];rfl⟩,HS.out.put _ _ _ _ _ _⟩
   | exact ⟨ta,ba,⟨va,fa,sa,ia⟩,gr,⟨HPA.out.mono (by omega) (by omega) (by omega) (by omega),by rw[midS_eq HEA.out HEB.out HGR.out];rfl⟩,HS.out.put _ _ _ _ _ _⟩
 case rest =>
  obtain ⟨t,b,k,g1,⟨hP,hE⟩,hS⟩:=hcut
  obtain ⟨v,flt,s,fi⟩:=k
  unfold pcA at hS
  have HP:=mH hP
  have HE:=mH hE
  have HS:=mH hS
  clear hP hS hE
  obtain ⟨p,f,c0⟩:=HS.out.facts
  go_upto_if 56 with (go_at_call 19;refine (next_fed 5 (by omega) _ _ _ HS.out.mak.fed).mono ?_;rintro e w1 ⟨r,g2,⟨hg,hr0,hr5,rfl⟩,hF,hB⟩;have HG:=mH hg;replace HS:=mH (HS.out.next hF hB);clear hF hB hg c0 p f;obtain ⟨p,f,c0⟩:=HS.out.facts)
  go_cut [] (fun wx=>∃ t b k g',(Pc C t b k 1 (L+L+5+1) (D+1) (P+P+1+1) (S+S+2+1) st∧turnG ⟨#[45]⟩ (midS F g)=(t,b,g'))∧SumG w wx mb fb x y l0 l1 l2 l3 l4 l5 st g' (pcA t b k))
  case first =>
   by_cases hr:r=1
   ·subst hr
    go_wp2_with (go_at_call 38;refine (turnedG_neg HC.out HP.out (by omega) (by omega) _).mono ?_;rintro e w2 ⟨⟨t',b',k',⟨hP',hT'⟩,rfl⟩,hb2⟩;obtain ⟨v',flt',s',fi'⟩:=k';unfold pcV pcA;replace HS:=mH (HS.out.below hb2);have HP':=mH hP';have HT':=mH hT';clear hb2 hP' hT' c0 p f;obtain ⟨p,f,c0⟩:=HS.out.facts)
    go_meet
    case rel=>exact ⟨t',b',⟨v',flt',s',fi'⟩,g2,⟨HP'.out,by rw[HE.out,HT'.out.1,HT'.out.2];exact turnG_yes HG.out⟩,HS.out.put _ _ _ _ _ _⟩
   ·have hr':(r==1)=false:=by simpa using hr
    go_wp2
    go_meet
    case rel=>exact ⟨t,b,⟨v,flt,s,fi⟩,g2,⟨HP.out.mono (by omega) (Nat.le_refl _) (by omega) (by omega),by rw[HE.out];exact turnG_no HG.out hr⟩,HS.out⟩
  case rest =>
   clear HS HP HE HG c0 p f
   obtain ⟨t',b',k',g3,⟨hP,hE⟩,hS⟩:=hcut
   obtain ⟨v',flt',s',fi'⟩:=k'
   unfold pcA at hS
   have HP:=mH hP
   have HE:=mH hE
   have HS:=mH hS
   clear hP hS hE
   obtain ⟨p,f,c0⟩:=HS.out.facts
   go_upto_region 20 with fail
   go_region_held3 (fun w'=>w'.cell? ⟨mb,0,none⟩=some (.pointer (some ⟨fb,0,none⟩))∧w'.cell? ⟨w.heap.size+1,0,none⟩=some (.string t')∧w'.cell? ⟨w.heap.size+1,1,none⟩=some (.int .i64 b')∧w'.cell? ⟨w.heap.size+1,2,none⟩=some (.int .i64 v')∧w'.cell? ⟨w.heap.size+1,3,none⟩=some (.int .i64 flt')∧w'.cell? ⟨w.heap.size+1,4,none⟩=some (.int .i64 s')∧w'.cell? ⟨w.heap.size+1,5,none⟩=some (.bool fi')) (first | with_reducible exact HS.out.drew.seven | with_reducible exact HS.out.seven | with_reducible exact HS.out.seven2) (first | (go_at_call 39;refine (looseG_made HC.out HP.out (by omega) fb _ _ HS.out.drew.mak.fed).mono ?_;rintro e w3 ⟨t3,b3,k3,g4,⟨hP3,hE3,rfl⟩,hF,hB⟩;obtain ⟨v3,flt3,s3,fi3⟩:=k3;unfold pcV pcA;replace HS:=mH (HS.out.drew.next hF hB);have HP3:=mH hP3;have HE3:=mH hE3;clear hF hB hP3 hE3 c0 p f;have oo:=HS.out.out.cell;have oq:=HS.out.out.free))
   all_goals go_wp2_with fail
   all_goals
    obtain ⟨hfb,hmk,hbl⟩:=HS.out.om.fin (.string t3) (.int .i64 b3) (.int .i64 v3) (.int .i64 flt3) (.int .i64 s3) (.bool fi3)
    have gg:=hfb.cell
    unfold finG at gg hbl hmk
    exact bodyPost_ret (v:=.agg #[.string t3,.int .i64 b3,.int .i64 v3,.int .i64 flt3,.int .i64 s3,.bool fi3]) (by simp[results,Tryz.results20,go_sem,gg]) rfl ⟨t3,b3,⟨v3,flt3,s3,fi3⟩,g4,⟨HP3.out.mono (by omega) (by omega) (by omega) (by omega),by first | (show looseG (turnG _ _)=_;rw[HE.out];exact HE3.out),rfl⟩,hmk,hbl⟩
theorem sumG_does{C:Ctx→Prop}(mb fb:Nat)(x:Itm)(y:Bn)(l0 l1 l2 l3 l4 l5:Value)(st:Bool)(P S:Nat)(hP:P≤6)(hS:S≤7)(hC:∀ E,C E→E.Ok)
  (NF:Fd→PT) (hnum:∀ g w,MakG w mb fb x y l0 l1 l2 l3 l4 l5 st g→Calls Tryz.prog 36 #[.pointer (some ⟨mb,0,none⟩)] w fun e w'=>∃ t k g',(Pc C t 6 k 1 10 0 P S st∧NF g=(t,6,g')∧e=.returned (pcV t 6 k))∧MakG w' mb fb x y l0 l1 l2 l3 l4 l5 st g'∧But fb w w') :
  SumDoesG C mb fb x y l0 l1 l2 l3 l4 l5 st (endS ⟨#[45]⟩ NF) 14 1 (P+1) (S+1) 0∧SumDoesG C mb fb x y l0 l1 l2 l3 l4 l5 st (endS ⟨#[45]⟩ (midS (endS ⟨#[45]⟩ NF))) 37 3 (2*P+4) (2*S+5) 1∧SumDoesG C mb fb x y l0 l1 l2 l3 l4 l5 st (endS ⟨#[45]⟩ (midS (endS ⟨#[45]⟩ (midS (endS ⟨#[45]⟩ NF))))) 83 5 (4*P+10) (4*S+13) 2:=by
 have s0:=sumG_zero mb fb x y l0 l1 l2 l3 l4 l5 st P S hP hS hC NF hnum
 have s1:=sumG_succ mb fb x y l0 l1 l2 l3 l4 l5 st 14 1 (P+1) (S+1) 0 (by omega) (by omega) (by omega) hC _ s0
 have e1:P+1+(P+1)+2=2*P+4:=by omega
 have e2:S+1+(S+1)+3=2*S+5:=by omega
 rw[e1,e2]at s1
 have s2:=sumG_succ mb fb x y l0 l1 l2 l3 l4 l5 st 37 3 (2*P+4) (2*S+5) 1 (by omega) (by omega) (by omega) hC _ s1
 have e1:2*P+4+(2*P+4)+2=4*P+10:=by omega
 have e2:2*S+5+(2*S+5)+3=4*S+13:=by omega
 rw[e1,e2]at s2
 exact ⟨s0,s1,s2⟩
end Go.Proofs.YtpcjadaeolkngaaGreatDoor
