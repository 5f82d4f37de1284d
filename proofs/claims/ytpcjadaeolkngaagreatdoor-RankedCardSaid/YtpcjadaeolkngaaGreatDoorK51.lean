/-
  policy: out of raw bytes; with its feed's bytes.
-/
import Derived.Test.YtpcjadaeolkngaaGreatDoorK50
import Derived.Test.YtpcjadaeolkngaaGreatDoorK40
import Derived.Test.YtpcjadaeolkngaaGreatDoorK41
set_option linter.unusedVariables false
set_option linter.unusedSimpArgs false
namespace Go.Proofs.YtpcjadaeolkngaaGreatDoor
open Go.RowKit Go.Deep
theorem RSay.nul {K K2 S S2:Nat} {V V2:Int} {d d2:Bool} {r:MadeR} (h:RSay K V S d K2 V2 S2 d2 r):d2=false→K2=0∧V2=0:=fun e=>by
 rcases h with ⟨_,_,_,_,rfl⟩ | ⟨_,rfl,_⟩ | ⟨_,_,h1,h2,_⟩
 ·cases e
 ·cases e
 ·exact ⟨h1,h2⟩
theorem none_numG {x:Itm} {y:Bn} (hx:x.Ok) (hy:y.Ok) (mb fb:Nat) (st:Bool):∀ g w,MakG w mb fb x y (.string { data:=#[] }) (.int .i64 0) (.int .i64 0) (.int .i64 0) (.int .i64 0) (.bool false) st g→Calls Tryz.prog 36 #[.pointer (some ⟨mb,0,none⟩)] w fun e w'=>∃ t k g',(Pc (fun E=>E=ctx0 x y) t 6 k 1 10 0 1 1 st∧numG st ⟨#[]⟩ g=(t,6,g')∧e=.returned (pcV t 6 k))∧MakG w' mb fb x y (.string { data:=#[] }) (.int .i64 0) (.int .i64 0) (.int .i64 0) (.int .i64 0) (.bool false) st g'∧But fb w w':=fun g w h=>by
 refine (numberG_any mb fb x y ⟨#[]⟩ 0 (fun h=>absurd rfl h) ⟨0,0,0,false⟩ st g w h).mono ?_
 rintro e w' ⟨t,k,g',⟨hn,hg,he⟩,h1,h2⟩
 exact ⟨t,k,g',⟨num_pc (fun E hE=>by subst hE;exact ⟨ctx0_ok x y,rfl,rfl⟩) hx hy (Nat.le_refl _) (Nat.le_refl _) (fun h=>absurd rfl h) hn,hg,he⟩,h1,h2⟩
theorem any_classG {C:Ctx→Prop} {x:Itm} {y:Bn} (hC:∀ E,C E→E.Ok∧E.x=x∧E.y=y) (hx:x.Ok) (hy:y.Ok) (mb fb:Nat) (l0 l1 l2 l3 l4 l5:Value) (st:Bool) {L D P S:Nat} (h1:4≤L) (h2:1≤P) (h3:1≤S):ClassDoesG C mb fb x y l0 l1 l2 l3 l4 l5 st (classG st) L D P S:=fun g w h=>by
 refine (classG_any mb fb x y l0 l1 l2 l3 l4 l5 st g w h).mono ?_
 rintro e w' ⟨t,k,g',⟨hn,hg,he⟩,q1,q2⟩
 exact ⟨t,6,k,g',⟨(class_pc hC hx hy hn).mono h1 (Nat.zero_le _) h2 h3,hg,he⟩,q1,q2⟩
theorem SumDoesG.more {C:Ctx→Prop} {mb fb:Nat} {x:Itm} {y:Bn} {l0 l1 l2 l3 l4 l5:Value} {st:Bool} {F:Fd→PT} {L D P S L' D' P' S' n:Nat} (h:SumDoesG C mb fb x y l0 l1 l2 l3 l4 l5 st F L D P S n) (h1:L≤L') (h2:D≤D') (h3:P≤P') (h4:S≤S'):SumDoesG C mb fb x y l0 l1 l2 l3 l4 l5 st F L' D' P' S' n:=fun g w hw=>by
 refine (h g w hw).mono ?_
 rintro e w' ⟨t,b,k,g',⟨hp,hg,he⟩,q1,q2⟩
 exact ⟨t,b,k,g',⟨hp.mono h1 h2 h3 h4,hg,he⟩,q1,q2⟩
theorem TestDoesG.more {C:Ctx→Prop} {mb fb:Nat} {x:Itm} {y:Bn} {l0 l1 l2 l3 l4 l5:Value} {st:Bool} {F:Fd→PT} {L D P S L' D' P' S' n:Nat} (h:TestDoesG C mb fb x y l0 l1 l2 l3 l4 l5 st F L D P S n) (h1:L≤L') (h2:D≤D') (h3:P≤P') (h4:S≤S'):TestDoesG C mb fb x y l0 l1 l2 l3 l4 l5 st F L' D' P' S' n:=fun g w hw=>by
 refine (h g w hw).mono ?_
 rintro e w' ⟨t,b,k,g',⟨hp,hg,he⟩,q1,q2⟩
 exact ⟨t,b,k,g',⟨hp.mono h1 h2 h3 h4,hg,he⟩,q1,q2⟩
def sumT0 (st:Bool) (lt:ByteArray):Fd→PT:=endS ⟨#[45]⟩ (numG st lt)
def sumT1 (st:Bool) (lt:ByteArray):Fd→PT:=endS ⟨#[45]⟩ (midS (sumT0 st lt))
def sumT2 (st:Bool) (lt:ByteArray):Fd→PT:=endS ⟨#[45]⟩ (midS (sumT1 st lt))
def testT1 (st:Bool) (lt:ByteArray):Fd→PT:=endS ⟨#[110,111,116,32]⟩ (testS (classG st) (sumT0 st lt) (endS ⟨#[110,111,116,32]⟩ (testZ (classG st))))
theorem does7G {C:Ctx→Prop} {x:Itm} {y:Bn} (hC:∀ E,C E→E.Ok∧E.x=x∧E.y=y) (hx:x.Ok) (hy:y.Ok) (mb fb:Nat) (l0 l1 l2 l3 l4 l5:Value) (st:Bool) (lt:ByteArray) (P S:Nat) (hP:1≤P∧P≤6) (hS:1≤S∧S≤7)
  (hnum:∀ g w,MakG w mb fb x y l0 l1 l2 l3 l4 l5 st g→Calls Tryz.prog 36 #[.pointer (some ⟨mb,0,none⟩)] w fun e w'=>∃ t k g',(Pc C t 6 k 1 10 0 P S st∧numG st lt g=(t,6,g')∧e=.returned (pcV t 6 k))∧MakG w' mb fb x y l0 l1 l2 l3 l4 l5 st g'∧But fb w w') :
  SumDoesG C mb fb x y l0 l1 l2 l3 l4 l5 st (sumT1 st lt) 37 3 (2 * P+4) (2 * S+5) 1∧SumDoesG C mb fb x y l0 l1 l2 l3 l4 l5 st (sumT2 st lt) 83 5 (4 * P+10) (4 * S+13) 2∧TestDoesG C mb fb x y l0 l1 l2 l3 l4 l5 st (testT1 st lt) 56 4 16 27 1:=by
 obtain ⟨s0,s1,s2⟩:=sumG_does mb fb x y l0 l1 l2 l3 l4 l5 st P S hP.2 hS.2 (fun E hE=>(hC E hE).1) _ hnum
 have t0:=testG_zero mb fb x y l0 l1 l2 l3 l4 l5 st hC _ (any_classG hC hx hy mb fb l0 l1 l2 l3 l4 l5 st (Nat.le_refl _) (Nat.le_refl _) (Nat.le_refl _))
 have t1:=testG_succ mb fb x y l0 l1 l2 l3 l4 l5 st 21 2 7 12 0 (by omega) (by omega) (by omega) hC _ _ _ (any_classG hC hx hy mb fb l0 l1 l2 l3 l4 l5 st (by omega) (by omega) (by omega)) (s0.more (by omega) (by omega) (by omega) (by omega)) (t0.more (by omega) (by omega) (by omega) (by omega))
 exact ⟨s1,s2,t1⟩
structure PolG (x:Itm) (y:Bn) (mb fb:Nat) (l0 l1 l2 l3 l4 l5:Value) (C:Ctx→Prop) (T0 lt:ByteArray):Prop where
 fine:∀ (rs:List MadeR) (T:ByteArray),rs≠[]→rs.length≤2→(∀ r∈rs,∀ E,C E→IsO E r.1 2 25∧IsO E r.2 1 50)→T.toList=T0.toList++rulesT rs→T.size≤400→∃ L R,FineP T.toList x y (rulesO rs) L R
 len:T0.size≤47
 s2:SumDoesG C mb fb x y l0 l1 l2 l3 l4 l5 false (sumT2 false lt) 83 5 34 41 2
 s1:SumDoesG C mb fb x y l0 l1 l2 l3 l4 l5 false (sumT1 false lt) 83 5 34 41 1
 t1:TestDoesG C mb fb x y l0 l1 l2 l3 l4 l5 false (testT1 false lt) 56 4 16 27 1
theorem polG_none {x:Itm} {y:Bn} (hx:x.Ok) (hy:y.Ok) (mb fb:Nat):PolG x y mb fb (.string { data:=#[] }) (.int .i64 0) (.int .i64 0) (.int .i64 0) (.int .i64 0) (.bool false) (fun E=>E=ctx0 x y) ⟨#[]⟩ ⟨#[]⟩:=by
 obtain ⟨a,b,c⟩:=does7G (C:=fun E=>E=ctx0 x y) (fun E hE=>by subst hE;exact ⟨ctx0_ok x y,rfl,rfl⟩) hx hy mb fb (.string { data:=#[] }) (.int .i64 0) (.int .i64 0) (.int .i64 0) (.int .i64 0) (.bool false) false ⟨#[]⟩ 1 1 (by omega) (by omega) (none_numG hx hy mb fb false)
 refine ⟨fun rs T hne h2 hr ht hl=>?_,by decide,b.more (by omega) (by omega) (by omega) (by omega),a.more (by omega) (by omega) (by omega) (by omega),c⟩
 rw[show (⟨#[]⟩:ByteArray).toList=[] from toL_mk _,List.nil_append] at ht
 rw[ht]
 exact made_none (fun r h=>hr r h _ rfl) hne h2 (by rw[← ht,toList_length];exact hl)
def headG (s:ByteArray):ByteArray × ByteArray × Fd:=if (nx 3 (Fd.mk s 0)).1=1 then (⟨#[108,101,116,32,107,107,32,61,32]⟩++(sumT1 false ⟨#[]⟩ (nx 3 (Fd.mk s 0)).2).1++⟨#[59]⟩,⟨#[107,107]⟩,(sumT1 false ⟨#[]⟩ (nx 3 (Fd.mk s 0)).2).2.2) else (⟨#[]⟩,⟨#[]⟩,(nx 3 (Fd.mk s 0)).2)
theorem headG_no {s:ByteArray} {r:Int} {g:Fd} (h:nx 3 (Fd.mk s 0)=(r,g)) (hr:¬ r=1):headG s=(⟨#[]⟩,⟨#[]⟩,g):=by
 unfold headG
 rw[h]
 simp only
 rw[if_neg hr]
theorem headG_yes {s te:ByteArray} {be:Nat} {g g2:Fd} (h:nx 3 (Fd.mk s 0)=(1,g)) (ht:sumT1 false ⟨#[]⟩ g=(te,be,g2)):headG s=(⟨#[108,101,116,32,107,107,32,61,32]⟩++te++⟨#[59]⟩,⟨#[107,107]⟩,g2):=by
 unfold headG
 rw[h]
 simp only
 rw[if_pos trivial,ht]
def twoG (lt:ByteArray) (r:Int) (p:ByteArray × Fd):ByteArray:=if r=1 then (ruleG (testT1 false lt) (sumT1 false lt) p.1 p.2).1 else p.1
def polT (s:ByteArray):ByteArray:=twoG (headG s).2.1 (nx 2 (headG s).2.2).1 (ruleG (testT1 false (headG s).2.1) (sumT2 false (headG s).2.1) (headG s).1 (nx 2 (headG s).2.2).2)
theorem polT_one {s T0 lt T1:ByteArray} {g g1 g2:Fd} {r:Int} (h0:headG s=(T0,lt,g)) (h1:nx 2 g=(r,g1)) (hr:¬ r=1) (h2:ruleG (testT1 false lt) (sumT2 false lt) T0 g1=(T1,g2)):polT s=T1:=by
 unfold polT
 rw[h0]
 simp only
 rw[h1]
 simp only
 rw[h2]
 unfold twoG
 rw[if_neg hr]
theorem polT_two {s T0 lt T1 T2:ByteArray} {g g1 g2 g3:Fd} {r:Int} (h0:headG s=(T0,lt,g)) (h1:nx 2 g=(r,g1)) (hr:r=1) (h2:ruleG (testT1 false lt) (sumT2 false lt) T0 g1=(T1,g2)) (h3:ruleG (testT1 false lt) (sumT1 false lt) T1 g2=(T2,g3)):polT s=T2:=by
 unfold polT
 rw[h0]
 simp only
 rw[h1]
 simp only
 rw[h2]
 unfold twoG
 rw[if_pos hr,h3]
def letB (t:ByteArray):ByteArray:=⟨#[108,101,116,32,107,107,32,61,32]⟩++t++⟨#[59]⟩
theorem letB_list (t:ByteArray):(letB t).toList=letT t.toList++[59]:=by
 unfold letB
 rw[toL_app,toL_app,show (⟨#[108,101,116,32,107,107,32,61,32]⟩:ByteArray).toList=[108,101,116,32,107,107,32,61,32] from toL_mk _,show (⟨#[59]⟩:ByteArray).toList=[59] from toL_mk _]
 simp[letT,cLet,cKk,cEq]
theorem letB_size (t:ByteArray):(letB t).size=t.size+10:=by
 have e1:(⟨#[108,101,116,32,107,107,32,61,32]⟩:ByteArray).size=9:=rfl
 have e2:(⟨#[59]⟩:ByteArray).size=1:=rfl
 unfold letB
 rw[ByteArray.size_append,ByteArray.size_append,e1,e2]
 omega
theorem polG_some {x:Itm} {y:Bn} (hx:x.Ok) (hy:y.Ok) (mb fb:Nat) {t:ByteArray} {b:Nat} {k:Wo} (hp:Pc (fun E=>E=ctx0 x y) t b k 1 37 3 6 7 false):PolG x y mb fb (.string ⟨#[107,107]⟩) (.int .i64 6) (.int .i64 k.v) (.int .i64 k.flt) (.int .i64 k.steps) (.bool k.fix) (fun E=>∃ n,n≤6∧E=ctx1 x y k n) (letB t) ⟨#[107,107]⟩:=by
 have hCC:∀ E,(fun E=>∃ n,n≤6∧E=ctx1 x y k n) E→E.Ok∧E.x=x∧E.y=y:=fun E hE=>by
  obtain ⟨n,_,rfl⟩:=hE
  exact ⟨ctx1_ok x y k n,rfl,rfl⟩
 have hkk:Pc (fun E=>∃ n,n≤6∧E=ctx1 x y k n) ⟨#[107,107]⟩ 6 k 1 10 0 6 7 false:=by
  refine ⟨⟨0,by simp[brB],fun E hE=>?_⟩,by decide,by omega,by omega,hp.fit,hp.steps,hp.one,fun h=>by cases h⟩
  obtain ⟨n,hn,rfl⟩:=hE
  rw[show (⟨#[107,107]⟩:ByteArray).toList=cKk from toL_mk _]
  exact (kk_is x y k n).mono (Nat.le_refl _) (Nat.le_refl _) hn
 obtain ⟨a,bb,c⟩:=does7G hCC hx hy mb fb (.string ⟨#[107,107]⟩) (.int .i64 6) (.int .i64 k.v) (.int .i64 k.flt) (.int .i64 k.steps) (.bool k.fix) false ⟨#[107,107]⟩ 6 7 (by omega) (by omega) (fun g w h=>by
  refine (numberG_any mb fb x y ⟨#[107,107]⟩ 6 (fun _=>rfl) k false g w h).mono ?_
  rintro e w' ⟨t',k',g',⟨hn,hg,he⟩,h1,h2⟩
  exact ⟨t',k',g',⟨num_pc hCC hx hy (by omega) (by omega) (fun _=>hkk) hn,hg,he⟩,h1,h2⟩)
 refine ⟨fun rs T hne h2 hr ht hl=>?_,by rw[letB_size];have:=hp.size;omega,bb.more (by omega) (by omega) (by omega) (by omega),a.more (by omega) (by omega) (by omega) (by omega),c⟩
 rw[letB_list] at ht
 rw[ht]
 obtain ⟨dd,hd,hi⟩:=hp.is
 exact made_some ((hi _ rfl).mono hp.b1 (by omega) (Nat.le_refl _)) (fun n hn r h=>hr r h _ ⟨n,hn,rfl⟩) hne h2 (by rw[← ht,toList_length];exact hl)
structure PoG (w wx:World) (x:Itm) (y:Bn) (l0 l1 l2 l3 l4 l5:Value) (g:Fd) (c:Array Value):Prop where
 mak:MakG wx (w.heap.size+1+1+1+1) (w.heap.size+1+1+1) x y l0 l1 l2 l3 l4 l5 false g
 out:Blk wx (w.heap.size+1+1) (mg ⟨#[]⟩ 0 0 0) 31
 pp:Blk wx (w.heap.size+1+1+1+1+1) c 31
 bl:Below w.heap.size w wx
theorem size_al (w:World) (o:Obj):(w.alloc o).heap.size=w.heap.size+1:=by simp
section
variable {w wx w':World} {x:Itm} {y:Bn} {l0 l1 l2 l3 l4 l5:Value} {g g':Fd} {c:Array Value}
theorem poG_start (w:World) (x:Itm) (y:Bn) (s:ByteArray) (hs:s.size≤maxLen):PoG w ((((((w.alloc (.cells #[.int .i64 x.size,.int .i64 x.speed,.int .i64 x.need] 23)).alloc (.cells #[.int .i64 y.id,.int .i64 y.zone,.int .i64 y.cap,.int .i64 y.used,.int .i64 y.has] 25)).alloc (.cells (mg ⟨#[]⟩ 0 0 0) 31)).alloc (.cells #[.string s,.int .i64 0] 59)).alloc (.cells #[.pointer (some ⟨w.heap.size+1+1+1,0,none⟩),.int .i64 x.size,.int .i64 x.speed,.int .i64 x.need,.int .i64 y.id,.int .i64 y.zone,.int .i64 y.cap,.int .i64 y.used,.int .i64 y.has,.string { data:=#[] },.int .i64 0,.int .i64 0,.int .i64 0,.int .i64 0,.bool false,.bool false] 64)).alloc (.cells (mg ⟨#[]⟩ 0 0 0) 31)) x y (.string { data:=#[] }) (.int .i64 0) (.int .i64 0) (.int .i64 0) (.int .i64 0) (.bool false) (Fd.mk s 0) (mg ⟨#[]⟩ 0 0 0):=by
 have a3:=Blk.new ((w.alloc (.cells #[.int .i64 x.size,.int .i64 x.speed,.int .i64 x.need] 23)).alloc (.cells #[.int .i64 y.id,.int .i64 y.zone,.int .i64 y.cap,.int .i64 y.used,.int .i64 y.has] 25)) (mg ⟨#[]⟩ 0 0 0) 31
 have a4:=Blk.new (((w.alloc (.cells #[.int .i64 x.size,.int .i64 x.speed,.int .i64 x.need] 23)).alloc (.cells #[.int .i64 y.id,.int .i64 y.zone,.int .i64 y.cap,.int .i64 y.used,.int .i64 y.has] 25)).alloc (.cells (mg ⟨#[]⟩ 0 0 0) 31)) #[.string s,.int .i64 0] 59
 have a5:=Blk.new ((((w.alloc (.cells #[.int .i64 x.size,.int .i64 x.speed,.int .i64 x.need] 23)).alloc (.cells #[.int .i64 y.id,.int .i64 y.zone,.int .i64 y.cap,.int .i64 y.used,.int .i64 y.has] 25)).alloc (.cells (mg ⟨#[]⟩ 0 0 0) 31)).alloc (.cells #[.string s,.int .i64 0] 59)) #[.pointer (some ⟨w.heap.size+1+1+1,0,none⟩),.int .i64 x.size,.int .i64 x.speed,.int .i64 x.need,.int .i64 y.id,.int .i64 y.zone,.int .i64 y.cap,.int .i64 y.used,.int .i64 y.has,.string { data:=#[] },.int .i64 0,.int .i64 0,.int .i64 0,.int .i64 0,.bool false,.bool false] 64
 have a6:=Blk.new (((((w.alloc (.cells #[.int .i64 x.size,.int .i64 x.speed,.int .i64 x.need] 23)).alloc (.cells #[.int .i64 y.id,.int .i64 y.zone,.int .i64 y.cap,.int .i64 y.used,.int .i64 y.has] 25)).alloc (.cells (mg ⟨#[]⟩ 0 0 0) 31)).alloc (.cells #[.string s,.int .i64 0] 59)).alloc (.cells #[.pointer (some ⟨w.heap.size+1+1+1,0,none⟩),.int .i64 x.size,.int .i64 x.speed,.int .i64 x.need,.int .i64 y.id,.int .i64 y.zone,.int .i64 y.cap,.int .i64 y.used,.int .i64 y.has,.string { data:=#[] },.int .i64 0,.int .i64 0,.int .i64 0,.int .i64 0,.bool false,.bool false] 64)) (mg ⟨#[]⟩ 0 0 0) 31
 simp only[size_al] at a3 a4 a5 a6
 refine ⟨⟨a5.alloc _,⟨(a4.alloc _).alloc _,Nat.zero_le _,hs⟩,by omega⟩,((a3.alloc _).alloc _).alloc _,a6, ?_⟩
 exact ((((((Below.refl w.heap.size w).alloc (Nat.le_refl _) _).alloc (by simp) _).alloc (by simp;omega) _).alloc (by simp;omega) _).alloc (by simp;omega) _).alloc (by simp;omega) _
theorem PoG.call (h:PoG w wx x y l0 l1 l2 l3 l4 l5 g c) (hM:MakG w' (w.heap.size+1+1+1+1) (w.heap.size+1+1+1) x y l0 l1 l2 l3 l4 l5 false g') (hB:But (w.heap.size+1+1+1) wx w'):PoG w w' x y l0 l1 l2 l3 l4 l5 g' c :=
 ⟨hM,h.out.but hB (by omega),h.pp.but hB (by omega),h.bl.trans (hB.below (by omega) h.bl.size)⟩
theorem PoG.next (h:PoG w wx x y l0 l1 l2 l3 l4 l5 g c) (hF:FedAt w' (w.heap.size+1+1+1) g') (hB:But (w.heap.size+1+1+1) wx w'):PoG w w' x y l0 l1 l2 l3 l4 l5 g' c:=h.call (h.mak.next hF hB) hB
theorem PoG.al (h:PoG w wx x y l0 l1 l2 l3 l4 l5 g c) (o:Obj):PoG w (wx.alloc o) x y l0 l1 l2 l3 l4 l5 g c:=h.call (h.mak.below (box3 wx o)) (But.of (box3 wx o))
theorem PoG.setP (h:PoG w wx x y l0 l1 l2 l3 l4 l5 g c) (i:Nat) (v:Value):PoG w (wx.setCell ⟨w.heap.size+1+1+1+1+1,i,none⟩ v) x y l0 l1 l2 l3 l4 l5 g (c.setIfInBounds i v) :=
 ⟨⟨h.mak.blk.other _ _ (by simp only;omega),h.mak.fed.other _ _ _ (by omega),h.mak.ne⟩,h.out.other _ _ (by simp only;omega),h.pp.set i v,h.bl.setCell (p:=⟨w.heap.size+1+1+1+1+1,i,none⟩) (by simp only;omega) v⟩
theorem PoG.facts (h:PoG w wx x y l0 l1 l2 l3 l4 l5 g c):(∀ i,wx.cell? ⟨w.heap.size+1+1+1+1+1,i,none⟩=c[i]?)∧(∀ i,wx.frozen? ⟨w.heap.size+1+1+1+1+1,i,none⟩=false)∧(∀ i,wx.cell? ⟨w.heap.size+1+1,i,none⟩=(mg ⟨#[]⟩ 0 0 0)[i]?)∧(∀ i,wx.frozen? ⟨w.heap.size+1+1,i,none⟩=false)∧(∀ i,wx.frozen? ⟨w.heap.size+1+1+1+1,i,none⟩=false)∧wx.cell? ⟨w.heap.size+1+1+1+1,0,none⟩=some (.pointer (some ⟨w.heap.size+1+1+1,0,none⟩)):=⟨h.pp.cell,h.pp.free,h.out.cell,h.out.free,h.mak.blk.free,h.mak.blk.cell 0⟩
theorem PoG.let (h:PoG w wx x y l0 l1 l2 l3 l4 l5 g c) (a0 a1 a2 a3 a4 a5:Value):PoG w ((((((wx.setCell ⟨w.heap.size+1+1+1+1,9,none⟩ a0).setCell ⟨w.heap.size+1+1+1+1,10,none⟩ a1).setCell ⟨w.heap.size+1+1+1+1,11,none⟩ a2).setCell ⟨w.heap.size+1+1+1+1,12,none⟩ a3).setCell ⟨w.heap.size+1+1+1+1,13,none⟩ a4).setCell ⟨w.heap.size+1+1+1+1,14,none⟩ a5) x y a0 a1 a2 a3 a4 a5 g c:=by
 have hb:=(((((h.mak.blk.set 9 a0).set 10 a1).set 11 a2).set 12 a3).set 13 a4).set 14 a5
 have ho:∀ (wz:World) (b:Nat) (cs:Array Value) (t:TypeId) (i:Nat) (v:Value),b≠w.heap.size+1+1+1+1→Blk wz b cs t→Blk (wz.setCell ⟨w.heap.size+1+1+1+1,i,none⟩ v) b cs t:=fun wz b cs t i v hne hz=>hz.other _ _ (by simp only;omega)
 have hf:∀ (wz:World) (i:Nat) (v:Value),FedAt wz (w.heap.size+1+1+1) g→FedAt (wz.setCell ⟨w.heap.size+1+1+1+1,i,none⟩ v) (w.heap.size+1+1+1) g:=fun wz i v hz=>hz.other _ _ _ (by omega)
 have hs:∀ (wz:World) (i:Nat) (v:Value),Below w.heap.size w wz→Below w.heap.size w (wz.setCell ⟨w.heap.size+1+1+1+1,i,none⟩ v):=fun wz i v hz=>hz.setCell (p:=⟨w.heap.size+1+1+1+1,i,none⟩) (by simp only;omega) v
 exact ⟨⟨hb,hf _ _ _ (hf _ _ _ (hf _ _ _ (hf _ _ _ (hf _ _ _ (hf _ _ _ h.mak.fed))))),h.mak.ne⟩,ho _ _ _ _ _ _ (by omega) (ho _ _ _ _ _ _ (by omega) (ho _ _ _ _ _ _ (by omega) (ho _ _ _ _ _ _ (by omega) (ho _ _ _ _ _ _ (by omega) (ho _ _ _ _ _ _ (by omega) h.out))))),ho _ _ _ _ _ _ (by omega) (ho _ _ _ _ _ _ (by omega) (ho _ _ _ _ _ _ (by omega) (ho _ _ _ _ _ _ (by omega) (ho _ _ _ _ _ _ (by omega) (ho _ _ _ _ _ _ (by omega) h.pp))))),hs _ _ _ (hs _ _ _ (hs _ _ _ (hs _ _ _ (hs _ _ _ (hs _ _ _ h.bl)))))⟩
def finVG (w wx:World) (a b c d:Value):World:=(((wx.setCell ⟨w.heap.size+1+1,0,none⟩ a).setCell ⟨w.heap.size+1+1,1,none⟩ b).setCell ⟨w.heap.size+1+1,2,none⟩ c).setCell ⟨w.heap.size+1+1,3,none⟩ d
theorem PoG.fin (h:PoG w wx x y l0 l1 l2 l3 l4 l5 g c) (a b k d:Value):(∀ i,(finVG w wx a b k d).cell? ⟨w.heap.size+1+1,i,none⟩=#[a,b,k,d][i]?)∧Below w.heap.size w (finVG w wx a b k d) :=
 ⟨((((h.out.set 0 a).set 1 b).set 2 k).set 3 d).cell,(((h.bl.setCell (p:=⟨w.heap.size+1+1,0,none⟩) (by simp only;omega) a).setCell (p:=⟨w.heap.size+1+1,1,none⟩) (by simp only;omega) b).setCell (p:=⟨w.heap.size+1+1,2,none⟩) (by simp only;omega) k).setCell (p:=⟨w.heap.size+1+1,3,none⟩) (by simp only;omega) d⟩
end
end Go.Proofs.YtpcjadaeolkngaaGreatDoor
namespace Go.Proofs.YtpcjadaeolkngaaGreatDoor
open Go.RowKit Go.Deep
set_option maxHeartbeats 8000000 in
set_option maxRecDepth 100000 in
theorem policyG_any (s:ByteArray) (x:Itm) (y:Bn) (hx:x.Ok) (hy:y.Ok) (hs:s.size≤maxLen) (w:World) :
  Calls Tryz.prog 6 #[.string s,itmA x,bnA y] w fun e w'=>(∃ (T:ByteArray) (K:Nat) (V:Int) (S:Nat),(((∃ L R,FineP T.toList x y (K,V,S) L R)∧T.size≤390)∧polT s=T)∧e=.returned (.agg (mg T K V S)))∧Below w.heap.size w w':=by
 have HP:=Hid.mk2 (poG_start w x y s hs)
 have HX:=Hid.mk2 hx
 have HY:=Hid.mk2 hy
 obtain ⟨q1,_,_⟩:=does7G (C:=fun E=>E=ctx0 x y) (fun E hE=>by subst hE;exact ⟨ctx0_ok x y,rfl,rfl⟩) hx hy (w.heap.size+1+1+1+1) (w.heap.size+1+1+1) (.string { data:=#[] }) (.int .i64 0) (.int .i64 0) (.int .i64 0) (.int .i64 0) (.bool false) false ⟨#[]⟩ 1 1 (by omega) (by omega) (none_numG hx hy _ _ false)
 have HSU:Hid (∀ g w',MakG w' (w.heap.size+1+1+1+1) (w.heap.size+1+1+1) x y (.string { data:=#[] }) (.int .i64 0) (.int .i64 0) (.int .i64 0) (.int .i64 0) (.bool false) false g→Calls Tryz.prog 20 #[.pointer (some ⟨w.heap.size+1+1+1+1,0,none⟩),.int .i64 1] w' fun e w2=>∃ t b k g',(Pc (fun E=>E=ctx0 x y) t b k 1 37 3 6 7 false∧sumT1 false ⟨#[]⟩ g=(t,b,g')∧e=.returned (pcV t b k))∧MakG w2 (w.heap.size+1+1+1+1) (w.heap.size+1+1+1) x y (.string { data:=#[] }) (.int .i64 0) (.int .i64 0) (.int .i64 0) (.int .i64 0) (.bool false) false g'∧But (w.heap.size+1+1+1) w' w2):=q1
 clear hx hy hs q1
 unfold itmA bnA
 go_enter Tryz.func6,Tryz.ntmps6
 go_upto_region 3 with fail
 generalize (((((w.alloc (.cells #[.int .i64 x.size,.int .i64 x.speed,.int .i64 x.need] 23)).alloc (.cells #[.int .i64 y.id,.int .i64 y.zone,.int .i64 y.cap,.int .i64 y.used,.int .i64 y.has] 25)).alloc (.cells (mg ⟨#[]⟩ 0 0 0) 31)).alloc (.cells #[.string s,.int .i64 0] 59)).alloc (.cells #[.pointer (some ⟨w.heap.size+1+1+1,0,none⟩),.int .i64 x.size,.int .i64 x.speed,.int .i64 x.need,.int .i64 y.id,.int .i64 y.zone,.int .i64 y.cap,.int .i64 y.used,.int .i64 y.has,.string { data:=#[] },.int .i64 0,.int .i64 0,.int .i64 0,.int .i64 0,.bool false,.bool false] 64)).alloc (.cells (mg ⟨#[]⟩ 0 0 0) 31)=W at HP ⊢
 obtain ⟨p,f,q,z,mf,c0⟩:=HP.out.facts
 go_upto_if 26 with (go_at_call 19;refine (next_fed 3 (by omega) _ _ _ HP.out.mak.fed).mono ?_;rintro e w1 ⟨r,g1,⟨hg,hr0,hr5,rfl⟩,hF,hB⟩;have HG:=Hid.mk2 hg;clear hg;replace HP:=Hid.mk2 (HP.out.next hF hB);clear hF hB p f q z mf c0;obtain ⟨p,f,q,z,mf,c0⟩:=HP.out.facts)
 go_cut [] (fun wx=>∃ (C:Ctx→Prop) (T0 lt:ByteArray) (l0 l1 l2 l3 l4 l5:Value) (g:Fd),PoG w wx x y l0 l1 l2 l3 l4 l5 g (mg T0 0 0 0)∧PolG x y (w.heap.size+1+1+1+1) (w.heap.size+1+1+1) l0 l1 l2 l3 l4 l5 C T0 lt∧headG s=(T0,lt,g))
 case first =>
  by_cases hr:r=1
  ·subst hr
   go_upto_region 8 with (go_at_call 20;refine (HSU.out _ _ HP.out.mak).mono ?_;rintro e w2 ⟨te,be,ke,ge,⟨hpe,hee,rfl⟩,hM,hB⟩;have HEE:=Hid.mk2 hee;clear hee;obtain ⟨ne,fe,se,ie⟩:=ke;unfold pcV pcA;have hlt:w.heap.size+1+1+1+1+1 < w2.heap.size:=(HP.out.call hM hB).pp.lt;have HP0:=Hid.mk2 (HP.out.call hM hB);replace HP:=Hid.mk2 ((HP.out.call hM hB).al (.cells (ag te be ne fe se ie) 62));have HE:=Hid.mk2 (Blk.new w2 (ag te be ne fe se ie) 62);have HPE:=Hid.mk2 hpe;have ze:=hpe.size;have y1:(9223372036854775807 < 9+te.size)=False:=(by simp;omega);have y2:(9223372036854775807 < 9+te.size+1)=False:=(by simp;omega);have n1:w2.heap.size≠w.heap.size+1+1+1+1+1:=(by omega);have n2:w.heap.size+1+1+1+1+1≠w2.heap.size:=(by omega);clear hM hB hpe p f q z mf c0;obtain ⟨p,f,q,z,mf,c0⟩:=HP.out.facts;have u:=HE.out.cell;have v:=HE.out.free)
   have HP2:=(HP0.out.setP 0 (.string (letB te))).al (.cells (ag ⟨#[107,107]⟩ 6 ne fe se ie) 62)
   have HE2:=Blk.new (w2.setCell ⟨w.heap.size+1+1+1+1+1,0,none⟩ (.string (letB te))) (ag ⟨#[107,107]⟩ 6 ne fe se ie) 62
   rw[show (w2.setCell ⟨w.heap.size+1+1+1+1+1,0,none⟩ (.string (letB te))).heap.size=w2.heap.size by simp] at HE2
   unfold letB at HP2 HE2
   simp only[List.setIfInBounds_toArray,List.set_cons_zero,List.set_cons_succ] at HP2
   clear HP HP0 HE p f q z mf c0 u v
   generalize (w2.setCell ⟨w.heap.size+1+1+1+1+1,0,none⟩ (.string (⟨#[108,101,116,32,107,107,32,61,32]⟩++te++⟨#[59]⟩))).alloc (.cells (ag ⟨#[107,107]⟩ 6 ne fe se ie) 62)=W5 at HP2 HE2 ⊢
   have HP:=Hid.mk2 HP2
   have HE:=Hid.mk2 HE2
   clear HP2 HE2
   obtain ⟨p,f,q,z,mf,c0⟩:=HP.out.facts
   have mc:=HP.out.mak.blk.cell
   have u:=HE.out.cell
   go_wp2
   go_meet
   case rel=>exact ⟨_,letB te,⟨#[107,107]⟩,_,_,_,_,_,_,ge,HP.out.let _ _ _ _ _ _,polG_some HX.out HY.out _ _ HPE.out,headG_yes HG.out HEE.out⟩
  ·have hr':(r==1)=false:=by simpa using hr
   go_wp2
   go_meet
   case rel=>exact ⟨_,⟨#[]⟩,⟨#[]⟩,_,_,_,_,_,_,g1,HP.out,polG_none HX.out HY.out _ _,headG_no HG.out hr⟩
 case rest =>
  obtain ⟨C,T0,lt,l0,l1,l2,l3,l4,l5,g2,hP,hC,hH⟩:=hcut
  clear HG
  have HH:=Hid.mk2 hH
  clear hH
  clear HP p f q z mf c0 HSU
  have HP:=Hid.mk2 hP
  have HC:=Hid.mk2 hC
  have z0:=hC.len
  have HRA:Hid (∀ g w',MakG w' (w.heap.size+1+1+1+1) (w.heap.size+1+1+1) x y l0 l1 l2 l3 l4 l5 false g→Calls Tryz.prog 21 #[.pointer (some ⟨w.heap.size+1+1+1+1,0,none⟩),.agg (mg T0 0 0 0),.bool false,.int .i64 2] w' fun e w2=>∃ (T2:ByteArray) (K2:Nat) (V2:Int) (S2:Nat) (d2:Bool) (r:MadeR) (g':Fd),(RuleIs C T0 0 0 0 false T2 K2 V2 S2 d2 r∧ruleG (testT1 false lt) (sumT2 false lt) T0 g=(T2,g')∧e=.returned (.tuple #[.agg (mg T2 K2 V2 S2),.bool d2]))∧MakG w2 (w.heap.size+1+1+1+1) (w.heap.size+1+1+1) x y l0 l1 l2 l3 l4 l5 false g'∧But (w.heap.size+1+1+1) w' w2):=Hid.mk2 (fun g w' h=>ruleG_any _ _ x y l0 l1 l2 l3 l4 l5 false 2 (by omega) _ _ hC.t1 hC.s2 T0 0 0 0 false (by omega) (by omega) (fun _=>⟨rfl,rfl⟩) g w' h)
  have HRB:Hid (∀ (T1:ByteArray) (K1:Nat) (V1:Int) (S1:Nat) (d1:Bool),T1.size≤500→S1≤5000→(d1=false→K1=0∧V1=0)→∀ g w',MakG w' (w.heap.size+1+1+1+1) (w.heap.size+1+1+1) x y l0 l1 l2 l3 l4 l5 false g→Calls Tryz.prog 21 #[.pointer (some ⟨w.heap.size+1+1+1+1,0,none⟩),.agg (mg T1 K1 V1 S1),.bool d1,.int .i64 1] w' fun e w2=>∃ (T2:ByteArray) (K2:Nat) (V2:Int) (S2:Nat) (d2:Bool) (r:MadeR) (g':Fd),(RuleIs C T1 K1 V1 S1 d1 T2 K2 V2 S2 d2 r∧ruleG (testT1 false lt) (sumT1 false lt) T1 g=(T2,g')∧e=.returned (.tuple #[.agg (mg T2 K2 V2 S2),.bool d2]))∧MakG w2 (w.heap.size+1+1+1+1) (w.heap.size+1+1+1) x y l0 l1 l2 l3 l4 l5 false g'∧But (w.heap.size+1+1+1) w' w2):=Hid.mk2 (fun T1 K1 V1 S1 d1 h1 h2 h3 g w' h=>ruleG_any _ _ x y l0 l1 l2 l3 l4 l5 false 1 (by omega) _ _ hC.t1 hC.s1 T1 K1 V1 S1 d1 h1 h2 h3 g w' h)
  clear hP hC
  obtain ⟨p,f,q,z,mf,c0⟩:=HP.out.facts
  go_upto_region 10 with (go_at_call 19;refine (next_fed 2 (by omega) _ _ _ HP.out.mak.fed).mono ?_;rintro e w3 ⟨r2,g3,⟨hg,hs0,hs5,rfl⟩,hF,hB⟩;have HG:=Hid.mk2 hg;clear hg;replace HP:=Hid.mk2 (HP.out.next hF hB);clear hF hB p f q z mf c0;obtain ⟨p,f,q,z,mf,c0⟩:=HP.out.facts)
  by_cases hr2:r2=1
  ·have hr2':(r2==1)=true:=by simpa using hr2
   have HR2:=Hid.mk2 hr2
   clear hr2
   go_upto_region 17 with (first
    | (go_at_call_of 21 (Value.int IntKind.i64 2);refine (HRA.out _ _ HP.out.mak).mono ?_;rintro e w4 ⟨T1,K1,V1,S1,d1,r1,h1,⟨hq,hqg,rfl⟩,hM,hB⟩;have HQG1:=Hid.mk2 hqg;clear hqg;replace HP:=Hid.mk2 (HP.out.call hM hB);have HQ1:=Hid.mk2 hq;have zl1:=hq.len;have zs1:=hq.stp;clear hM hB hq p f q z mf c0;obtain ⟨p,f,q,z,mf,c0⟩:=HP.out.facts;skip)
    | (go_at_call_of 21 (Value.int IntKind.i64 1);refine (HRB.out T1 K1 V1 S1 d1 (by omega) (by omega) HQ1.out.say.nul _ _ ((((HP.out.setP 0 (.string T1)).setP 1 (.int .i64 K1)).setP 2 (.int .i64 V1)).setP 3 (.int .i64 S1)).mak).mono ?_;rintro e w5 ⟨T2,K2,V2,S2,d2,r2',h2,⟨hq,hqg,rfl⟩,hM,hB⟩;have HQG2:=Hid.mk2 hqg;clear hqg;replace HP:=Hid.mk2 ((((((HP.out.setP 0 (.string T1)).setP 1 (.int .i64 K1)).setP 2 (.int .i64 V1)).setP 3 (.int .i64 S1)).call hM hB).al (.cells (mg T2 K2 V2 S2) 31));have HB:=Hid.mk2 (Blk.new w5 (mg T2 K2 V2 S2) 31);have HQ2:=Hid.mk2 hq;have zl2:=hq.len;have zs2:=hq.stp;clear hM hB hq p f q z mf c0;obtain ⟨p,f,q,z,mf,c0⟩:=HP.out.facts;have u:=HB.out.cell;cases d2))
   ·skip
    have HP2:=(((((HP.out.setP 0 (.string T2)).setP 1 (.int .i64 K2)).setP 2 (.int .i64 V2)).setP 3 (.int .i64 S2)).setP 3 (.int .i64 ((S2:Int)+1)))
    simp only[List.setIfInBounds_toArray,List.set_cons_zero,List.set_cons_succ] at HP2
    clear HP p f q z mf c0 HB u
    generalize ((((((w5.alloc (.cells (mg T2 K2 V2 S2) 31)).setCell ⟨w.heap.size+1+1+1+1+1,0,none⟩ (.string T2)).setCell ⟨w.heap.size+1+1+1+1+1,1,none⟩ (.int .i64 K2)).setCell ⟨w.heap.size+1+1+1+1+1,2,none⟩ (.int .i64 V2)).setCell ⟨w.heap.size+1+1+1+1+1,3,none⟩ (.int .i64 S2)).setCell ⟨w.heap.size+1+1+1+1+1,3,none⟩ (.int .i64 ((S2:Int)+1)))=W5 at HP2 ⊢
    have HP:=Hid.mk2 HP2
    clear HP2
    obtain ⟨p,f,q,z,mf,c0⟩:=HP.out.facts
    go_wp2
    obtain ⟨gg,hbl⟩:=HP.out.fin (.string T2) (.int .i64 K2) (.int .i64 V2) (.int .i64 ((S2:Int)+1))
    unfold finVG at gg hbl
    exact bodyPost_ret (v:=.agg #[.string T2,.int .i64 K2,.int .i64 V2,.int .i64 ((S2:Int)+1)]) (by simp[results,Tryz.results6,go_sem,gg]) rfl ⟨⟨T2,K2,V2,(S2+1),⟨⟨by have h:=HC.out.fine [r1,r2'] T2 (by simp) (by simp) (fun r hr E hE=>by simp only[List.mem_cons,List.mem_nil_iff,or_false] at hr;rcases hr with rfl | rfl;exact HQ1.out.is E hE;exact HQ2.out.is E hE) (by rw[HQ2.out.txt,HQ1.out.txt];simp[rulesT]) (by omega);rw[rules_two HQ1.out.say HQ2.out.say] at h;exact h,by omega⟩,polT_two HH.out HG.out HR2.out HQG1.out HQG2.out⟩,rfl⟩,hbl⟩
   ·skip
    have HP2:=((((HP.out.setP 0 (.string T2)).setP 1 (.int .i64 K2)).setP 2 (.int .i64 V2)).setP 3 (.int .i64 S2))
    simp only[List.setIfInBounds_toArray,List.set_cons_zero,List.set_cons_succ] at HP2
    clear HP p f q z mf c0 HB u
    generalize (((((w5.alloc (.cells (mg T2 K2 V2 S2) 31)).setCell ⟨w.heap.size+1+1+1+1+1,0,none⟩ (.string T2)).setCell ⟨w.heap.size+1+1+1+1+1,1,none⟩ (.int .i64 K2)).setCell ⟨w.heap.size+1+1+1+1+1,2,none⟩ (.int .i64 V2)).setCell ⟨w.heap.size+1+1+1+1+1,3,none⟩ (.int .i64 S2))=W5 at HP2 ⊢
    have HP:=Hid.mk2 HP2
    clear HP2
    obtain ⟨p,f,q,z,mf,c0⟩:=HP.out.facts
    go_wp2
    obtain ⟨gg,hbl⟩:=HP.out.fin (.string T2) (.int .i64 K2) (.int .i64 V2) (.int .i64 S2)
    unfold finVG at gg hbl
    exact bodyPost_ret (v:=.agg #[.string T2,.int .i64 K2,.int .i64 V2,.int .i64 S2]) (by simp[results,Tryz.results6,go_sem,gg]) rfl ⟨⟨T2,K2,V2,S2,⟨⟨by have h:=HC.out.fine [r1,r2'] T2 (by simp) (by simp) (fun r hr E hE=>by simp only[List.mem_cons,List.mem_nil_iff,or_false] at hr;rcases hr with rfl | rfl;exact HQ1.out.is E hE;exact HQ2.out.is E hE) (by rw[HQ2.out.txt,HQ1.out.txt];simp[rulesT]) (by omega);rw[rules_two HQ1.out.say HQ2.out.say] at h;exact h,by omega⟩,polT_two HH.out HG.out HR2.out HQG1.out HQG2.out⟩,rfl⟩,hbl⟩
  ·have hr2':(r2==1)=false:=by simpa using hr2
   have HR2:=Hid.mk2 hr2
   clear hr2
   go_upto_region 17 with (first
    | (go_at_call_of 21 (Value.int IntKind.i64 2);refine (HRA.out _ _ HP.out.mak).mono ?_;rintro e w4 ⟨T1,K1,V1,S1,d1,r1,h1,⟨hq,hqg,rfl⟩,hM,hB⟩;have HQG1:=Hid.mk2 hqg;clear hqg;replace HP:=Hid.mk2 (HP.out.call hM hB);have HQ1:=Hid.mk2 hq;have zl1:=hq.len;have zs1:=hq.stp;clear hM hB hq p f q z mf c0;obtain ⟨p,f,q,z,mf,c0⟩:=HP.out.facts;cases d1))
   ·skip
    have HP2:=(((((HP.out.setP 0 (.string T1)).setP 1 (.int .i64 K1)).setP 2 (.int .i64 V1)).setP 3 (.int .i64 S1)).setP 3 (.int .i64 ((S1:Int)+1)))
    simp only[List.setIfInBounds_toArray,List.set_cons_zero,List.set_cons_succ] at HP2
    clear HP p f q z mf c0 
    generalize (((((w4.setCell ⟨w.heap.size+1+1+1+1+1,0,none⟩ (.string T1)).setCell ⟨w.heap.size+1+1+1+1+1,1,none⟩ (.int .i64 K1)).setCell ⟨w.heap.size+1+1+1+1+1,2,none⟩ (.int .i64 V1)).setCell ⟨w.heap.size+1+1+1+1+1,3,none⟩ (.int .i64 S1)).setCell ⟨w.heap.size+1+1+1+1+1,3,none⟩ (.int .i64 ((S1:Int)+1)))=W5 at HP2 ⊢
    have HP:=Hid.mk2 HP2
    clear HP2
    obtain ⟨p,f,q,z,mf,c0⟩:=HP.out.facts
    go_wp2
    obtain ⟨gg,hbl⟩:=HP.out.fin (.string T1) (.int .i64 K1) (.int .i64 V1) (.int .i64 ((S1:Int)+1))
    unfold finVG at gg hbl
    exact bodyPost_ret (v:=.agg #[.string T1,.int .i64 K1,.int .i64 V1,.int .i64 ((S1:Int)+1)]) (by simp[results,Tryz.results6,go_sem,gg]) rfl ⟨⟨T1,K1,V1,(S1+1),⟨⟨by have h:=HC.out.fine [r1] T1 (by simp) (by simp) (fun r hr E hE=>by obtain rfl:=List.mem_singleton.1 hr;exact HQ1.out.is E hE) (by rw[HQ1.out.txt];simp[rulesT]) (by omega);rw[rules_one HQ1.out.say] at h;exact h,by omega⟩,polT_one HH.out HG.out HR2.out HQG1.out⟩,rfl⟩,hbl⟩
   ·skip
    have HP2:=((((HP.out.setP 0 (.string T1)).setP 1 (.int .i64 K1)).setP 2 (.int .i64 V1)).setP 3 (.int .i64 S1))
    simp only[List.setIfInBounds_toArray,List.set_cons_zero,List.set_cons_succ] at HP2
    clear HP p f q z mf c0 
    generalize ((((w4.setCell ⟨w.heap.size+1+1+1+1+1,0,none⟩ (.string T1)).setCell ⟨w.heap.size+1+1+1+1+1,1,none⟩ (.int .i64 K1)).setCell ⟨w.heap.size+1+1+1+1+1,2,none⟩ (.int .i64 V1)).setCell ⟨w.heap.size+1+1+1+1+1,3,none⟩ (.int .i64 S1))=W5 at HP2 ⊢
    have HP:=Hid.mk2 HP2
    clear HP2
    obtain ⟨p,f,q,z,mf,c0⟩:=HP.out.facts
    go_wp2
    obtain ⟨gg,hbl⟩:=HP.out.fin (.string T1) (.int .i64 K1) (.int .i64 V1) (.int .i64 S1)
    unfold finVG at gg hbl
    exact bodyPost_ret (v:=.agg #[.string T1,.int .i64 K1,.int .i64 V1,.int .i64 S1]) (by simp[results,Tryz.results6,go_sem,gg]) rfl ⟨⟨T1,K1,V1,S1,⟨⟨by have h:=HC.out.fine [r1] T1 (by simp) (by simp) (fun r hr E hE=>by obtain rfl:=List.mem_singleton.1 hr;exact HQ1.out.is E hE) (by rw[HQ1.out.txt];simp[rulesT]) (by omega);rw[rules_one HQ1.out.say] at h;exact h,by omega⟩,polT_one HH.out HG.out HR2.out HQG1.out⟩,rfl⟩,hbl⟩
end Go.Proofs.YtpcjadaeolkngaaGreatDoor
namespace Go.Proofs.YtpcjadaeolkngaaGreatDoor
open Go.RowKit
set_option maxHeartbeats 1000000 in
theorem LoadImage_any (s:ByteArray) (sb:Nat) (v:Value) (im:ByteArray) (w:World) (hg:GlobP w) (h:Blk w sb #[v,.string im] 84) :
  Calls Tryz.prog 17 #[.pointer (some ⟨sb,0,none⟩),.string s] w fun e w' =>
   (IsImg s∧e=.returned (.int .i64 0)∧Blk w' sb #[v,.string s] 84∧But sb w w')∨(¬ IsImg s∧e=.returned (.int .i64 7)∧Below w.heap.size w w'):=by
 have HG:=Hid.mk2 hg
 have HS:=Hid.mk2 h
 clear hg h
 go_enter Tryz.func17,Tryz.ntmps17
 go_wp2_with (go_at_call 26;refine (IsImage_any s _ HG.out).mono ?_;rintro e w1 ⟨hb1,⟨hi,rfl⟩ | ⟨hi,rfl⟩⟩;all_goals (replace HS:=Hid.mk2 (HS.out.below hb1 HS.out.lt);have c1:=HS.out.cell 1;have f1:=HS.out.free 1))
 ·go_ret
  exact .inl ⟨hi,rfl,HS.out.set 1 _,(But.of hb1).trans (But.set sb 1 _ HS.out.lt)⟩
 ·go_ret
  exact .inr ⟨hi,rfl,hb1⟩
end Go.Proofs.YtpcjadaeolkngaaGreatDoor
