/-
  test: an EXPR that is a truth, so deep; with its feed's bytes.
-/
import Derived.Test.YtpcjadaeolkngaaGreatDoorJ48
import Derived.Deep.CutBlock
import Derived.Test.YtpcjadaeolkngaaGreatDoorJ42
set_option linter.unusedVariables false
set_option linter.unusedSimpArgs false
namespace Go.Proofs.YtpcjadaeolkngaaGreatDoor
open Go.RowKit Go.Deep
structure OppG(w wx:World)(mb fb:Nat)(x:Itm)(y:Bn)(l0 l1 l2 l3 l4 l5:Value)(st:Bool)(g:Fd)(c:Array Value)(ab bb lb:Nat)(A B:Array Value):Prop where
 s:SumG w wx mb fb x y l0 l1 l2 l3 l4 l5 st g c
 a:Blk wx ab A 62
 b:Blk wx bb B 62
 l:Blk wx lb #[.string ⟨#[60]⟩,.string ⟨#[60,61]⟩,.string ⟨#[61]⟩,.string ⟨#[33,61]⟩] 9
 na:w.heap.size+1<ab
 nb:w.heap.size+1<bb
 nl:w.heap.size+1<lb
section
variable {w wx w':World} {mb fb:Nat} {x:Itm} {y:Bn} {l0 l1 l2 l3 l4 l5:Value} {st:Bool} {g:Fd} {c A B:Array Value} {ab bb lb:Nat}
theorem OppG.below(h:OppG w wx mb fb x y l0 l1 l2 l3 l4 l5 st g c ab bb lb A B)(hb:Below wx.heap.size wx w'):OppG w w' mb fb x y l0 l1 l2 l3 l4 l5 st g c ab bb lb A B:=⟨h.s.below hb,h.a.below hb h.a.lt,h.b.below hb h.b.lt,h.l.below hb h.l.lt,h.na,h.nb,h.nl⟩
theorem OppG.drew(h:OppG w wx mb fb x y l0 l1 l2 l3 l4 l5 st g c ab bb lb A B):OppG w wx.drew mb fb x y l0 l1 l2 l3 l4 l5 st g c ab bb lb A B:=⟨h.s.drew,h.a,h.b,h.l,h.na,h.nb,h.nl⟩
theorem OppG.setP(h:OppG w wx mb fb x y l0 l1 l2 l3 l4 l5 st g c ab bb lb A B)(i:Nat)(v:Value):OppG w (wx.setCell ⟨w.heap.size+1,i,none⟩ v) mb fb x y l0 l1 l2 l3 l4 l5 st g (c.setIfInBounds i v) ab bb lb A B :=
 ⟨h.s.setP i v,h.a.other _ _ (by have:=h.na;simp only;omega),h.b.other _ _ (by have:=h.nb;simp only;omega),h.l.other _ _ (by have:=h.nl;simp only;omega),h.na,h.nb,h.nl⟩
theorem OppG.all0{a0 a1 a2 a3 a4 a5 b0 b1 b2 b3 b4 b5:Value}(h:OppG w wx mb fb x y l0 l1 l2 l3 l4 l5 st g c ab bb lb #[a0,a1,a2,a3,a4,a5] #[b0,b1,b2,b3,b4,b5]):wx.cell? ⟨ab,0,none⟩=some a0∧wx.cell? ⟨ab,1,none⟩=some a1∧wx.cell? ⟨ab,2,none⟩=some a2∧wx.cell? ⟨ab,3,none⟩=some a3∧wx.cell? ⟨ab,4,none⟩=some a4∧wx.cell? ⟨ab,5,none⟩=some a5∧wx.cell? ⟨bb,0,none⟩=some b0∧wx.cell? ⟨bb,1,none⟩=some b1∧wx.cell? ⟨bb,2,none⟩=some b2∧wx.cell? ⟨bb,3,none⟩=some b3∧wx.cell? ⟨bb,4,none⟩=some b4∧wx.cell? ⟨bb,5,none⟩=some b5∧wx.cell? ⟨lb,0,none⟩=some (.string ⟨#[60]⟩) :=
 ⟨h.a.cell 0,h.a.cell 1,h.a.cell 2,h.a.cell 3,h.a.cell 4,h.a.cell 5,h.b.cell 0,h.b.cell 1,h.b.cell 2,h.b.cell 3,h.b.cell 4,h.b.cell 5,h.l.cell 0⟩
theorem OppG.all1{a0 a1 a2 a3 a4 a5 b0 b1 b2 b3 b4 b5:Value}(h:OppG w wx mb fb x y l0 l1 l2 l3 l4 l5 st g c ab bb lb #[a0,a1,a2,a3,a4,a5] #[b0,b1,b2,b3,b4,b5]):wx.cell? ⟨ab,0,none⟩=some a0∧wx.cell? ⟨ab,1,none⟩=some a1∧wx.cell? ⟨ab,2,none⟩=some a2∧wx.cell? ⟨ab,3,none⟩=some a3∧wx.cell? ⟨ab,4,none⟩=some a4∧wx.cell? ⟨ab,5,none⟩=some a5∧wx.cell? ⟨bb,0,none⟩=some b0∧wx.cell? ⟨bb,1,none⟩=some b1∧wx.cell? ⟨bb,2,none⟩=some b2∧wx.cell? ⟨bb,3,none⟩=some b3∧wx.cell? ⟨bb,4,none⟩=some b4∧wx.cell? ⟨bb,5,none⟩=some b5∧wx.cell? ⟨lb,1,none⟩=some (.string ⟨#[60,61]⟩) :=
 ⟨h.a.cell 0,h.a.cell 1,h.a.cell 2,h.a.cell 3,h.a.cell 4,h.a.cell 5,h.b.cell 0,h.b.cell 1,h.b.cell 2,h.b.cell 3,h.b.cell 4,h.b.cell 5,h.l.cell 1⟩
theorem OppG.all2{a0 a1 a2 a3 a4 a5 b0 b1 b2 b3 b4 b5:Value}(h:OppG w wx mb fb x y l0 l1 l2 l3 l4 l5 st g c ab bb lb #[a0,a1,a2,a3,a4,a5] #[b0,b1,b2,b3,b4,b5]):wx.cell? ⟨ab,0,none⟩=some a0∧wx.cell? ⟨ab,1,none⟩=some a1∧wx.cell? ⟨ab,2,none⟩=some a2∧wx.cell? ⟨ab,3,none⟩=some a3∧wx.cell? ⟨ab,4,none⟩=some a4∧wx.cell? ⟨ab,5,none⟩=some a5∧wx.cell? ⟨bb,0,none⟩=some b0∧wx.cell? ⟨bb,1,none⟩=some b1∧wx.cell? ⟨bb,2,none⟩=some b2∧wx.cell? ⟨bb,3,none⟩=some b3∧wx.cell? ⟨bb,4,none⟩=some b4∧wx.cell? ⟨bb,5,none⟩=some b5∧wx.cell? ⟨lb,2,none⟩=some (.string ⟨#[61]⟩) :=
 ⟨h.a.cell 0,h.a.cell 1,h.a.cell 2,h.a.cell 3,h.a.cell 4,h.a.cell 5,h.b.cell 0,h.b.cell 1,h.b.cell 2,h.b.cell 3,h.b.cell 4,h.b.cell 5,h.l.cell 2⟩
theorem OppG.all3{a0 a1 a2 a3 a4 a5 b0 b1 b2 b3 b4 b5:Value}(h:OppG w wx mb fb x y l0 l1 l2 l3 l4 l5 st g c ab bb lb #[a0,a1,a2,a3,a4,a5] #[b0,b1,b2,b3,b4,b5]):wx.cell? ⟨ab,0,none⟩=some a0∧wx.cell? ⟨ab,1,none⟩=some a1∧wx.cell? ⟨ab,2,none⟩=some a2∧wx.cell? ⟨ab,3,none⟩=some a3∧wx.cell? ⟨ab,4,none⟩=some a4∧wx.cell? ⟨ab,5,none⟩=some a5∧wx.cell? ⟨bb,0,none⟩=some b0∧wx.cell? ⟨bb,1,none⟩=some b1∧wx.cell? ⟨bb,2,none⟩=some b2∧wx.cell? ⟨bb,3,none⟩=some b3∧wx.cell? ⟨bb,4,none⟩=some b4∧wx.cell? ⟨bb,5,none⟩=some b5∧wx.cell? ⟨lb,3,none⟩=some (.string ⟨#[33,61]⟩) :=
 ⟨h.a.cell 0,h.a.cell 1,h.a.cell 2,h.a.cell 3,h.a.cell 4,h.a.cell 5,h.b.cell 0,h.b.cell 1,h.b.cell 2,h.b.cell 3,h.b.cell 4,h.b.cell 5,h.l.cell 3⟩
end
set_option maxHeartbeats 16000000 in
set_option maxRecDepth 100000 in
theorem testG_succ{C:Ctx→Prop}(mb fb:Nat)(x:Itm)(y:Bn)(l0 l1 l2 l3 l4 l5:Value)(st:Bool)(L D P S n:Nat)(hL:L≤100)(hS:S≤100)(hn:n≤5)(hCX:∀ E,C E→E.Ok∧E.x=x∧E.y=y)(CL SU TE:Fd→PT)(hcl:ClassDoesG C mb fb x y l0 l1 l2 l3 l4 l5 st CL L D P S)(hsu:SumDoesG C mb fb x y l0 l1 l2 l3 l4 l5 st SU L D P S n)(ih:TestDoesG C mb fb x y l0 l1 l2 l3 l4 l5 st TE L D P S n):TestDoesG C mb fb x y l0 l1 l2 l3 l4 l5 st (endS ⟨#[110,111,116,32]⟩ (testS CL SU TE)) (L+L+14) (D+2) (P+P+2) (S+S+3) (n+1):=by
 intro g w h
 have HCX:=mH hCX
 have HC:Hid (∀ E,C E→E.Ok):=fun E hE=>(hCX E hE).1
 have HCL:Hid (∀ g w,MakG w mb fb x y l0 l1 l2 l3 l4 l5 st g→Calls Tryz.prog 63 #[.pointer (some ⟨mb,0,none⟩)] w fun e w'=>∃ t b k g',(Pc C t b k 3 L D P S st∧CL g=(t,b,g')∧e=.returned (pcV t b k))∧MakG w' mb fb x y l0 l1 l2 l3 l4 l5 st g'∧But fb w w'):=hcl
 have HSU:Hid (∀ g w,MakG w mb fb x y l0 l1 l2 l3 l4 l5 st g→Calls Tryz.prog 20 #[.pointer (some ⟨mb,0,none⟩),.int .i64 n] w fun e w'=>∃ t b k g',(Pc C t b k 1 L D P S st∧SU g=(t,b,g')∧e=.returned (pcV t b k))∧MakG w' mb fb x y l0 l1 l2 l3 l4 l5 st g'∧But fb w w'):=hsu
 have HIH:Hid (∀ g w,MakG w mb fb x y l0 l1 l2 l3 l4 l5 st g→Calls Tryz.prog 40 #[.pointer (some ⟨mb,0,none⟩),.int .i64 n] w fun e w'=>∃ t b k g',(Pc C t b k 2 L D P S st∧TE g=(t,b,g')∧e=.returned (pcV t b k))∧MakG w' mb fb x y l0 l1 l2 l3 l4 l5 st g'∧But fb w w'):=ih
 clear hCX hcl hsu ih
 have hnn:((n+1:Nat):Int)=(n:Int)+1:=by simp
 have hne0:(((n:Int)+1)==0)=false:=by simp;omega
 have hsub:(n:Int)+1-1=(n:Int):=by omega
 have t1:Hid True:=trivial
 have t2:Hid True:=trivial
 rw[hnn]
 clear hnn
 have HS:=mH (sumG_start h)
 clear h
 go_enter Tryz.func40,Tryz.ntmps40
 go_upto_region 2 with fail
 generalize (w.alloc (.cells ag0 62)).alloc (.cells ag0 62)=W at HS ⊢
 obtain ⟨p,f,c0⟩:=HS.out.facts
 go_upto_block 0 with (go_at_call 19;refine (next_fed 7 (by omega) _ _ _ HS.out.mak.fed).mono ?_;rintro e w0 ⟨r,gr,⟨hg,hr0,hr7,rfl⟩,hF,hB⟩;have HGR:=mH hg;clear hg;replace HS:=mH (HS.out.next hF hB);clear hF hB c0 p f;obtain ⟨p,f,c0⟩:=HS.out.facts)
 go_cut [] (fun wx=>∃ t b k g',(Pc C t b k 2 (L+L+7) (D+1) (P+P+1) (S+S+2) st∧testS CL SU TE g=(t,b,g'))∧SumG w wx mb fb x y l0 l1 l2 l3 l4 l5 st g' (pcA t b k))
 case first =>
  rcases (show r=0∨(1≤r∧r≤4)∨r=5∨r=6 by omega) with rfl | ⟨hr3,hr4⟩ | rfl | rfl
  ·go_wp2_with (first
   | (go_at_call 63;have u1:=t1;clear t1;refine (HCL.out _ _ HS.out.mak).mono ?_;rintro e w1 ⟨ta,ba,ka,ga,⟨hPa,hEa,rfl⟩,hM,hB⟩;have HEA:=mH hEa;clear hEa;obtain ⟨va,fa,sa,ia⟩:=ka;unfold pcV pcA;have hq1:w.heap.size+1<w1.heap.size:=(HS.out.call hM hB).pp.lt;replace HS:=mH ((HS.out.call hM hB).al (.cells (ag ta ba va fa sa ia) 62));have HA:=mH (Blk.new w1 (ag ta ba va fa sa ia) 62);have HPA:=mH hPa;have hlt1:fb<w1.heap.size:=hM.fed.lt;clear hM hB hPa c0 p f;obtain ⟨p,f,c0⟩:=HS.out.facts;have a:=HA.out.cell)
   | (go_at_call 63;have u2:=t2;clear t2;refine (HCL.out _ _ HS.out.mak).mono ?_;rintro e w2 ⟨tb,bb,kb,gb,⟨hPb,hEb,rfl⟩,hM,hB⟩;have HEB:=mH hEb;clear hEb;obtain ⟨vb,fb',sb,ib⟩:=kb;unfold pcV pcA;have hq2:w.heap.size+1<w2.heap.size:=(HS.out.call hM hB).pp.lt;replace HS:=mH ((HS.out.call hM hB).al (.cells (ag tb bb vb fb' sb ib) 62));replace HA:=mH ((HA.out.but hB (by omega)).alloc (.cells (ag tb bb vb fb' sb ib) 62));have HB:=mH (Blk.new w2 (ag tb bb vb fb' sb ib) 62);have HPB:=mH hPb;have hlt2:fb<w2.heap.size:=hM.fed.lt;clear hM hB hPb c0 p f a;obtain ⟨p,f,c0⟩:=HS.out.facts;have a:=HA.out.cell;have d:=HB.out.cell)
   | (go_at_call_of 37 (Value.string ⟨#[61]⟩);refine (joinedG_eq (.inr rfl) HC.out HPA.out HPB.out (by omega) (by omega) _).mono ?_;rintro e w5 ⟨⟨tc,bc,kc,⟨hPc,hTc⟩,rfl⟩,hb5⟩;have HTC:=mH hTc;clear hTc;obtain ⟨vc,fc,sc,ic⟩:=kc;unfold pcV pcA;replace HS:=mH (HS.out.below hb5);have HPC:=mH hPc;have m1:w1.heap.size≠w.heap.size+1:=(by omega);have m2:w.heap.size+1≠w1.heap.size:=(by omega);have m3:w2.heap.size≠w.heap.size+1:=(by omega);have m4:w.heap.size+1≠w2.heap.size:=(by omega);replace HA:=mH (HA.out.below hb5 HA.out.lt);replace HB:=mH (HB.out.below hb5 HB.out.lt);clear a d;have a:=HA.out.cell;have d:=HB.out.cell;clear hb5 hPc c0 p f;obtain ⟨p,f,c0⟩:=HS.out.facts))
   go_meet
   case rel=>exact ⟨tc,bc,⟨vc,fc,sc,ic⟩,gb,⟨HPC.out.mono (by omega) (by omega) (by omega) (by omega),by rw[testS_eq HGR.out];exact (pairG_eq HEA.out HEB.out).trans (by rw[HTC.out.1,HTC.out.2])⟩,HS.out.put _ _ _ _ _ _⟩
  ·have hr1:(r==0)=false:=by simp;omega
   have hr2:decide (r<5)=true:=by simp;omega
   go_upto_region 22 with (first
    | (go_at_call 20;have u1:=t1;clear t1;refine (HSU.out _ _ HS.out.mak).mono ?_;rintro e w1 ⟨ta,ba,ka,ga,⟨hPa,hEa,rfl⟩,hM,hB⟩;have HEA:=mH hEa;clear hEa;obtain ⟨va,fa,sa,ia⟩:=ka;unfold pcV pcA;have hq1:w.heap.size+1<w1.heap.size:=(HS.out.call hM hB).pp.lt;replace HS:=mH ((HS.out.call hM hB).al (.cells (ag ta ba va fa sa ia) 62));have HA:=mH (Blk.new w1 (ag ta ba va fa sa ia) 62);have HPA:=mH hPa;have hlt1:fb<w1.heap.size:=hM.fed.lt;clear hM hB hPa c0 p f;obtain ⟨p,f,c0⟩:=HS.out.facts;have a:=HA.out.cell)
    | (go_at_call 20;have u2:=t2;clear t2;refine (HSU.out _ _ HS.out.mak).mono ?_;rintro e w2 ⟨tb,bb,kb,gb,⟨hPb,hEb,rfl⟩,hM,hB⟩;have HEB:=mH hEb;clear hEb;obtain ⟨vb,fb',sb,ib⟩:=kb;unfold pcV pcA;have hq2:w.heap.size+1<w2.heap.size:=(HS.out.call hM hB).pp.lt;replace HS:=mH ((HS.out.call hM hB).al (.cells (ag tb bb vb fb' sb ib) 62));replace HA:=mH ((HA.out.but hB (by omega)).alloc (.cells (ag tb bb vb fb' sb ib) 62));have HB:=mH (Blk.new w2 (ag tb bb vb fb' sb ib) 62);have HPB:=mH hPb;have hlt2:fb<w2.heap.size:=hM.fed.lt;clear hM hB hPb c0 p f a;obtain ⟨p,f,c0⟩:=HS.out.facts;have a:=HA.out.cell;have d:=HB.out.cell))
   have hl0:=Blk.new (w2.alloc (.cells (ag tb bb vb fb' sb ib) 62)) #[.string ⟨#[60]⟩,.string ⟨#[60,61]⟩,.string ⟨#[61]⟩,.string ⟨#[33,61]⟩] 9
   rw[show (w2.alloc (.cells (ag tb bb vb fb' sb ib) 62)).heap.size=w2.heap.size+1 by simp]at hl0
   have HO:=mH (OppG.mk (HS.out.al (.cells #[.string ⟨#[60]⟩,.string ⟨#[60,61]⟩,.string ⟨#[61]⟩,.string ⟨#[33,61]⟩] 9)) (HA.out.alloc (.cells #[.string ⟨#[60]⟩,.string ⟨#[60,61]⟩,.string ⟨#[61]⟩,.string ⟨#[33,61]⟩] 9)) (HB.out.alloc (.cells #[.string ⟨#[60]⟩,.string ⟨#[60,61]⟩,.string ⟨#[61]⟩,.string ⟨#[33,61]⟩] 9)) hl0 hq1 hq2 (by omega))
   clear HA HB HS hl0 c0 p f a d hr1 hr2
   generalize (w2.alloc (.cells (ag tb bb vb fb' sb ib) 62)).alloc (.cells #[.string ⟨#[60]⟩,.string ⟨#[60,61]⟩,.string ⟨#[61]⟩,.string ⟨#[33,61]⟩] 9)=W5 at HO ⊢
   obtain ⟨p,f,c0⟩:=HO.out.s.facts
   have a:=HO.out.a.cell
   have d:=HO.out.b.cell
   have l:=HO.out.l.cell
   obtain rfl | rfl | rfl | rfl:r=1∨r=2∨r=3∨r=4:=by omega
   ·have hwr:IntKind.i64.wrap 0=0:=rfl
    go_region_held3 (fun w'=>w'.cell? ⟨w1.heap.size,0,none⟩=some (.string ta)∧w'.cell? ⟨w1.heap.size,1,none⟩=some (.int .i64 ba)∧w'.cell? ⟨w1.heap.size,2,none⟩=some (.int .i64 va)∧w'.cell? ⟨w1.heap.size,3,none⟩=some (.int .i64 fa)∧w'.cell? ⟨w1.heap.size,4,none⟩=some (.int .i64 sa)∧w'.cell? ⟨w1.heap.size,5,none⟩=some (.bool ia)∧w'.cell? ⟨w2.heap.size,0,none⟩=some (.string tb)∧w'.cell? ⟨w2.heap.size,1,none⟩=some (.int .i64 bb)∧w'.cell? ⟨w2.heap.size,2,none⟩=some (.int .i64 vb)∧w'.cell? ⟨w2.heap.size,3,none⟩=some (.int .i64 fb')∧w'.cell? ⟨w2.heap.size,4,none⟩=some (.int .i64 sb)∧w'.cell? ⟨w2.heap.size,5,none⟩=some (.bool ib)∧w'.cell? ⟨w2.heap.size+1,0,none⟩=some (.string ⟨#[60]⟩)) (first | with_reducible exact HO.out.all0 | with_reducible exact HO.out.drew.all0 | with_reducible exact ((((((HO.out.setP _ _).setP _ _).setP _ _).setP _ _).setP _ _).setP _ _).all0) (first | (go_at_call_of 37 (Value.string ⟨#[60]⟩);refine (joinedG_lt rfl HC.out HPA.out HPB.out (by omega) (by omega) _).mono ?_;rintro e w5 ⟨⟨tc,bc,kc,⟨hPc,hTc⟩,rfl⟩,hb5⟩;have HTC:=mH hTc;clear hTc;obtain ⟨vc,fc,sc,ic⟩:=kc;unfold pcV pcA;replace HO:=mH (HO.out.drew.below hb5);have HPC:=mH hPc;clear hb5 hPc c0 p f;obtain ⟨p,f,c0⟩:=HO.out.s.facts))
    all_goals go_wp2_with fail
    all_goals go_meet
    all_goals exact ⟨tc,bc,⟨vc,fc,sc,ic⟩,gb,⟨HPC.out.mono (by omega) (by omega) (by omega) (by omega),by rw[testS_eq HGR.out];exact (pairG_eq HEA.out HEB.out).trans (by rw[HTC.out.1,HTC.out.2])⟩,HO.out.s.put _ _ _ _ _ _⟩
   ·have hwr:IntKind.i64.wrap 1=1:=rfl
    go_region_held3 (fun w'=>w'.cell? ⟨w1.heap.size,0,none⟩=some (.string ta)∧w'.cell? ⟨w1.heap.size,1,none⟩=some (.int .i64 ba)∧w'.cell? ⟨w1.heap.size,2,none⟩=some (.int .i64 va)∧w'.cell? ⟨w1.heap.size,3,none⟩=some (.int .i64 fa)∧w'.cell? ⟨w1.heap.size,4,none⟩=some (.int .i64 sa)∧w'.cell? ⟨w1.heap.size,5,none⟩=some (.bool ia)∧w'.cell? ⟨w2.heap.size,0,none⟩=some (.string tb)∧w'.cell? ⟨w2.heap.size,1,none⟩=some (.int .i64 bb)∧w'.cell? ⟨w2.heap.size,2,none⟩=some (.int .i64 vb)∧w'.cell? ⟨w2.heap.size,3,none⟩=some (.int .i64 fb')∧w'.cell? ⟨w2.heap.size,4,none⟩=some (.int .i64 sb)∧w'.cell? ⟨w2.heap.size,5,none⟩=some (.bool ib)∧w'.cell? ⟨w2.heap.size+1,1,none⟩=some (.string ⟨#[60,61]⟩)) (first | with_reducible exact HO.out.all1 | with_reducible exact HO.out.drew.all1 | with_reducible exact ((((((HO.out.setP _ _).setP _ _).setP _ _).setP _ _).setP _ _).setP _ _).all1) (first | (go_at_call_of 37 (Value.string ⟨#[60,61]⟩);refine (joinedG_le rfl HC.out HPA.out HPB.out (by omega) (by omega) _).mono ?_;rintro e w5 ⟨⟨tc,bc,kc,⟨hPc,hTc⟩,rfl⟩,hb5⟩;have HTC:=mH hTc;clear hTc;obtain ⟨vc,fc,sc,ic⟩:=kc;unfold pcV pcA;replace HO:=mH (HO.out.drew.below hb5);have HPC:=mH hPc;clear hb5 hPc c0 p f;obtain ⟨p,f,c0⟩:=HO.out.s.facts))
    all_goals go_wp2_with fail
    all_goals go_meet
    all_goals exact ⟨tc,bc,⟨vc,fc,sc,ic⟩,gb,⟨HPC.out.mono (by omega) (by omega) (by omega) (by omega),by rw[testS_eq HGR.out];exact (pairG_eq HEA.out HEB.out).trans (by rw[HTC.out.1,HTC.out.2])⟩,HO.out.s.put _ _ _ _ _ _⟩
   ·have hwr:IntKind.i64.wrap 2=2:=rfl
    go_region_held3 (fun w'=>w'.cell? ⟨w1.heap.size,0,none⟩=some (.string ta)∧w'.cell? ⟨w1.heap.size,1,none⟩=some (.int .i64 ba)∧w'.cell? ⟨w1.heap.size,2,none⟩=some (.int .i64 va)∧w'.cell? ⟨w1.heap.size,3,none⟩=some (.int .i64 fa)∧w'.cell? ⟨w1.heap.size,4,none⟩=some (.int .i64 sa)∧w'.cell? ⟨w1.heap.size,5,none⟩=some (.bool ia)∧w'.cell? ⟨w2.heap.size,0,none⟩=some (.string tb)∧w'.cell? ⟨w2.heap.size,1,none⟩=some (.int .i64 bb)∧w'.cell? ⟨w2.heap.size,2,none⟩=some (.int .i64 vb)∧w'.cell? ⟨w2.heap.size,3,none⟩=some (.int .i64 fb')∧w'.cell? ⟨w2.heap.size,4,none⟩=some (.int .i64 sb)∧w'.cell? ⟨w2.heap.size,5,none⟩=some (.bool ib)∧w'.cell? ⟨w2.heap.size+1,2,none⟩=some (.string ⟨#[61]⟩)) (first | with_reducible exact HO.out.all2 | with_reducible exact HO.out.drew.all2 | with_reducible exact ((((((HO.out.setP _ _).setP _ _).setP _ _).setP _ _).setP _ _).setP _ _).all2) (first | (go_at_call_of 37 (Value.string ⟨#[61]⟩);refine (joinedG_eq (.inl rfl) HC.out HPA.out HPB.out (by omega) (by omega) _).mono ?_;rintro e w5 ⟨⟨tc,bc,kc,⟨hPc,hTc⟩,rfl⟩,hb5⟩;have HTC:=mH hTc;clear hTc;obtain ⟨vc,fc,sc,ic⟩:=kc;unfold pcV pcA;replace HO:=mH (HO.out.drew.below hb5);have HPC:=mH hPc;clear hb5 hPc c0 p f;obtain ⟨p,f,c0⟩:=HO.out.s.facts))
    all_goals go_wp2_with fail
    all_goals go_meet
    all_goals exact ⟨tc,bc,⟨vc,fc,sc,ic⟩,gb,⟨HPC.out.mono (by omega) (by omega) (by omega) (by omega),by rw[testS_eq HGR.out];exact (pairG_eq HEA.out HEB.out).trans (by rw[HTC.out.1,HTC.out.2])⟩,HO.out.s.put _ _ _ _ _ _⟩
   ·have hwr:IntKind.i64.wrap 3=3:=rfl
    go_region_held3 (fun w'=>w'.cell? ⟨w1.heap.size,0,none⟩=some (.string ta)∧w'.cell? ⟨w1.heap.size,1,none⟩=some (.int .i64 ba)∧w'.cell? ⟨w1.heap.size,2,none⟩=some (.int .i64 va)∧w'.cell? ⟨w1.heap.size,3,none⟩=some (.int .i64 fa)∧w'.cell? ⟨w1.heap.size,4,none⟩=some (.int .i64 sa)∧w'.cell? ⟨w1.heap.size,5,none⟩=some (.bool ia)∧w'.cell? ⟨w2.heap.size,0,none⟩=some (.string tb)∧w'.cell? ⟨w2.heap.size,1,none⟩=some (.int .i64 bb)∧w'.cell? ⟨w2.heap.size,2,none⟩=some (.int .i64 vb)∧w'.cell? ⟨w2.heap.size,3,none⟩=some (.int .i64 fb')∧w'.cell? ⟨w2.heap.size,4,none⟩=some (.int .i64 sb)∧w'.cell? ⟨w2.heap.size,5,none⟩=some (.bool ib)∧w'.cell? ⟨w2.heap.size+1,3,none⟩=some (.string ⟨#[33,61]⟩)) (first | with_reducible exact HO.out.all3 | with_reducible exact HO.out.drew.all3 | with_reducible exact ((((((HO.out.setP _ _).setP _ _).setP _ _).setP _ _).setP _ _).setP _ _).all3) (first | (go_at_call_of 37 (Value.string ⟨#[33,61]⟩);refine (joinedG_ne (.inl rfl) HC.out HPA.out HPB.out (by omega) (by omega) _).mono ?_;rintro e w5 ⟨⟨tc,bc,kc,⟨hPc,hTc⟩,rfl⟩,hb5⟩;have HTC:=mH hTc;clear hTc;obtain ⟨vc,fc,sc,ic⟩:=kc;unfold pcV pcA;replace HO:=mH (HO.out.drew.below hb5);have HPC:=mH hPc;clear hb5 hPc c0 p f;obtain ⟨p,f,c0⟩:=HO.out.s.facts))
    all_goals go_wp2_with fail
    all_goals go_meet
    all_goals exact ⟨tc,bc,⟨vc,fc,sc,ic⟩,gb,⟨HPC.out.mono (by omega) (by omega) (by omega) (by omega),by rw[testS_eq HGR.out];exact (pairG_eq HEA.out HEB.out).trans (by rw[HTC.out.1,HTC.out.2])⟩,HO.out.s.put _ _ _ _ _ _⟩
  ·go_wp2_with (first
   | (go_at_call 40;have u1:=t1;clear t1;refine (HIH.out _ _ HS.out.mak).mono ?_;rintro e w1 ⟨ta,ba,ka,ga,⟨hPa,hEa,rfl⟩,hM,hB⟩;have HEA:=mH hEa;clear hEa;obtain ⟨va,fa,sa,ia⟩:=ka;unfold pcV pcA;have hq1:w.heap.size+1<w1.heap.size:=(HS.out.call hM hB).pp.lt;replace HS:=mH ((HS.out.call hM hB).al (.cells (ag ta ba va fa sa ia) 62));have HA:=mH (Blk.new w1 (ag ta ba va fa sa ia) 62);have HPA:=mH hPa;have hlt1:fb<w1.heap.size:=hM.fed.lt;clear hM hB hPa c0 p f;obtain ⟨p,f,c0⟩:=HS.out.facts;have a:=HA.out.cell)
   | (go_at_call 40;have u2:=t2;clear t2;refine (HIH.out _ _ HS.out.mak).mono ?_;rintro e w2 ⟨tb,bb,kb,gb,⟨hPb,hEb,rfl⟩,hM,hB⟩;have HEB:=mH hEb;clear hEb;obtain ⟨vb,fb',sb,ib⟩:=kb;unfold pcV pcA;have hq2:w.heap.size+1<w2.heap.size:=(HS.out.call hM hB).pp.lt;replace HS:=mH ((HS.out.call hM hB).al (.cells (ag tb bb vb fb' sb ib) 62));replace HA:=mH ((HA.out.but hB (by omega)).alloc (.cells (ag tb bb vb fb' sb ib) 62));have HB:=mH (Blk.new w2 (ag tb bb vb fb' sb ib) 62);have HPB:=mH hPb;have hlt2:fb<w2.heap.size:=hM.fed.lt;clear hM hB hPb c0 p f a;obtain ⟨p,f,c0⟩:=HS.out.facts;have a:=HA.out.cell;have d:=HB.out.cell)
   | (go_at_call_of 64 (Value.string ⟨#[97,110,100]⟩);refine (eitherG_and HC.out HPA.out HPB.out (by omega) (by omega) _).mono ?_;rintro e w5 ⟨⟨tc,bc,kc,⟨hPc,hTc⟩,rfl⟩,hb5⟩;have HTC:=mH hTc;clear hTc;obtain ⟨vc,fc,sc,ic⟩:=kc;unfold pcV pcA;replace HS:=mH (HS.out.below hb5);have HPC:=mH hPc;clear hb5 hPc c0 p f;obtain ⟨p,f,c0⟩:=HS.out.facts))
   go_meet
   case rel=>exact ⟨tc,bc,⟨vc,fc,sc,ic⟩,gb,⟨HPC.out.mono (by omega) (by omega) (by omega) (by omega),by rw[testS_eq HGR.out];exact (pairG_eq HEA.out HEB.out).trans (by rw[HTC.out.1,HTC.out.2])⟩,HS.out.put _ _ _ _ _ _⟩
  ·go_wp2_with (first
   | (go_at_call 40;have u1:=t1;clear t1;refine (HIH.out _ _ HS.out.mak).mono ?_;rintro e w1 ⟨ta,ba,ka,ga,⟨hPa,hEa,rfl⟩,hM,hB⟩;have HEA:=mH hEa;clear hEa;obtain ⟨va,fa,sa,ia⟩:=ka;unfold pcV pcA;have hq1:w.heap.size+1<w1.heap.size:=(HS.out.call hM hB).pp.lt;replace HS:=mH ((HS.out.call hM hB).al (.cells (ag ta ba va fa sa ia) 62));have HA:=mH (Blk.new w1 (ag ta ba va fa sa ia) 62);have HPA:=mH hPa;have hlt1:fb<w1.heap.size:=hM.fed.lt;clear hM hB hPa c0 p f;obtain ⟨p,f,c0⟩:=HS.out.facts;have a:=HA.out.cell)
   | (go_at_call 40;have u2:=t2;clear t2;refine (HIH.out _ _ HS.out.mak).mono ?_;rintro e w2 ⟨tb,bb,kb,gb,⟨hPb,hEb,rfl⟩,hM,hB⟩;have HEB:=mH hEb;clear hEb;obtain ⟨vb,fb',sb,ib⟩:=kb;unfold pcV pcA;have hq2:w.heap.size+1<w2.heap.size:=(HS.out.call hM hB).pp.lt;replace HS:=mH ((HS.out.call hM hB).al (.cells (ag tb bb vb fb' sb ib) 62));replace HA:=mH ((HA.out.but hB (by omega)).alloc (.cells (ag tb bb vb fb' sb ib) 62));have HB:=mH (Blk.new w2 (ag tb bb vb fb' sb ib) 62);have HPB:=mH hPb;have hlt2:fb<w2.heap.size:=hM.fed.lt;clear hM hB hPb c0 p f a;obtain ⟨p,f,c0⟩:=HS.out.facts;have a:=HA.out.cell;have d:=HB.out.cell)
   | (go_at_call_of 64 (Value.string ⟨#[111,114]⟩);refine (eitherG_or HC.out HPA.out HPB.out (by omega) (by omega) _).mono ?_;rintro e w5 ⟨⟨tc,bc,kc,⟨hPc,hTc⟩,rfl⟩,hb5⟩;have HTC:=mH hTc;clear hTc;obtain ⟨vc,fc,sc,ic⟩:=kc;unfold pcV pcA;replace HS:=mH (HS.out.below hb5);have HPC:=mH hPc;clear hb5 hPc c0 p f;obtain ⟨p,f,c0⟩:=HS.out.facts))
   go_meet
   case rel=>exact ⟨tc,bc,⟨vc,fc,sc,ic⟩,gb,⟨HPC.out.mono (by omega) (by omega) (by omega) (by omega),by rw[testS_eq HGR.out];exact (pairG_eq HEA.out HEB.out).trans (by rw[HTC.out.1,HTC.out.2])⟩,HS.out.put _ _ _ _ _ _⟩
 case rest =>
  obtain ⟨t,b,k,g1,⟨hP,hE⟩,hS⟩:=hcut
  obtain ⟨v,flt,s,fi⟩:=k
  unfold pcA at hS
  have HP:=mH hP
  have HE:=mH hE
  have HS:=mH hS
  clear hP hS hE
  obtain ⟨p,f,c0⟩:=HS.out.facts
  go_upto_if 95 with (go_at_call 19;refine (next_fed 5 (by omega) _ _ _ HS.out.mak.fed).mono ?_;rintro e w1 ⟨r,g2,⟨hg,hr0,hr5,rfl⟩,hF,hB⟩;have HG:=mH hg;replace HS:=mH (HS.out.next hF hB);clear hF hB hg c0 p f;obtain ⟨p,f,c0⟩:=HS.out.facts)
  go_cut [] (fun wx=>∃ t b k g',(Pc C t b k 2 (L+L+7+4) (D+1) (P+P+1+1) (S+S+2+1) st∧turnG ⟨#[110,111,116,32]⟩ (testS CL SU TE g)=(t,b,g'))∧SumG w wx mb fb x y l0 l1 l2 l3 l4 l5 st g' (pcA t b k))
  case first =>
   by_cases hr:r=1
   ·subst hr
    go_wp2_with (go_at_call 38;refine (turnedG_nott HC.out HP.out (by omega) (by omega) _).mono ?_;rintro e w2 ⟨⟨t',b',k',⟨hP',hT'⟩,rfl⟩,hb2⟩;obtain ⟨v',flt',s',fi'⟩:=k';unfold pcV pcA;replace HS:=mH (HS.out.below hb2);have HP':=mH hP';have HT':=mH hT';clear hb2 hP' hT' c0 p f;obtain ⟨p,f,c0⟩:=HS.out.facts)
    go_meet
    case rel=>exact ⟨t',b',⟨v',flt',s',fi'⟩,g2,⟨HP'.out,by rw[HE.out,HT'.out.1,HT'.out.2];exact turnG_yes HG.out⟩,HS.out.put _ _ _ _ _ _⟩
   ·have hr':(r==1)=false:=by simpa using hr
    go_wp2
    go_meet
    case rel=>exact ⟨t,b,⟨v,flt,s,fi⟩,g2,⟨HP.out.mono (by omega) (Nat.le_refl _) (by omega) (by omega),by rw[HE.out];exact turnG_no HG.out hr⟩,HS.out⟩
  case rest =>
   clear HS HP HE HG c0 p f
   obtain ⟨t',b',k',g3,⟨hP,hE⟩,hS⟩:=hcut
   obtain ⟨v',flt',s',fi'⟩:=k'
   unfold pcA at hS
   have HP:=mH hP
   have HE:=mH hE
   have HS:=mH hS
   clear hP hS hE
   obtain ⟨p,f,c0⟩:=HS.out.facts
   go_upto_region 25 with fail
   go_region_held3 (fun w'=>w'.cell? ⟨mb,0,none⟩=some (.pointer (some ⟨fb,0,none⟩))∧w'.cell? ⟨w.heap.size+1,0,none⟩=some (.string t')∧w'.cell? ⟨w.heap.size+1,1,none⟩=some (.int .i64 b')∧w'.cell? ⟨w.heap.size+1,2,none⟩=some (.int .i64 v')∧w'.cell? ⟨w.heap.size+1,3,none⟩=some (.int .i64 flt')∧w'.cell? ⟨w.heap.size+1,4,none⟩=some (.int .i64 s')∧w'.cell? ⟨w.heap.size+1,5,none⟩=some (.bool fi')) (first | with_reducible exact HS.out.drew.seven | with_reducible exact HS.out.seven | with_reducible exact HS.out.seven2) (first | (go_at_call 39;refine (looseG_made HC.out HP.out (by omega) fb _ _ HS.out.drew.mak.fed).mono ?_;rintro e w3 ⟨t3,b3,k3,g4,⟨hP3,hE3,rfl⟩,hF,hB⟩;obtain ⟨v3,flt3,s3,fi3⟩:=k3;unfold pcV pcA;replace HS:=mH (HS.out.drew.next hF hB);have HP3:=mH hP3;have HE3:=mH hE3;clear hF hB hP3 hE3 c0 p f;have oo:=HS.out.out.cell;have oq:=HS.out.out.free))
   all_goals go_wp2_with fail
   all_goals
    obtain ⟨hfb,hmk,hbl⟩:=HS.out.om.fin (.string t3) (.int .i64 b3) (.int .i64 v3) (.int .i64 flt3) (.int .i64 s3) (.bool fi3)
    have gg:=hfb.cell
    unfold finG at gg hbl hmk
    exact bodyPost_ret (v:=.agg #[.string t3,.int .i64 b3,.int .i64 v3,.int .i64 flt3,.int .i64 s3,.bool fi3]) (by simp[results,Tryz.results40,go_sem,gg]) rfl ⟨t3,b3,⟨v3,flt3,s3,fi3⟩,g4,⟨HP3.out.mono (by omega) (by omega) (by omega) (by omega),by first | (show looseG (turnG _ _)=_;rw[HE.out];exact HE3.out),rfl⟩,hmk,hbl⟩
abbrev mg(t:ByteArray)(k v s:Int):Array Value:=#[.string t,.int .i64 k,.int .i64 v,.int .i64 s]
def whenG(TE:Fd→PT)(T:ByteArray)(g:Fd):ByteArray×Fd:=if (nx 4 g).1=0 then (T,(nx 4 g).2) else (T++⟨#[119,104,101,110,32]⟩++(TE (nx 4 g).2).1++⟨#[32]⟩,(TE (nx 4 g).2).2.2)
def actG(SU:Fd→PT)(T:ByteArray)(g:Fd):ByteArray×Fd:=if (nx 4 g).1=1 then (T++⟨#[114,101,106,101,99,116,59]⟩,(nx 4 g).2) else (T++⟨#[115,99,111,114,101,32]⟩++(SU (nx 4 g).2).1++⟨#[59]⟩,(SU (nx 4 g).2).2.2)
def ruleG(TE SU:Fd→PT)(T:ByteArray)(g:Fd):ByteArray×Fd:=actG SU (whenG TE T g).1 (whenG TE T g).2
theorem whenG_no{TE:Fd→PT}{T:ByteArray}{g g1:Fd}(h:nx 4 g=(0,g1)):whenG TE T g=(T,g1):=by
 unfold whenG
 rw[h]
 rfl
theorem whenG_yes{TE:Fd→PT}{T tw:ByteArray}{bw:Nat}{g g1 g2:Fd}{r:Int}(h:nx 4 g=(r,g1))(hr:¬ r=0)(ht:TE g1=(tw,bw,g2)):whenG TE T g=(T++⟨#[119,104,101,110,32]⟩++tw++⟨#[32]⟩,g2):=by
 unfold whenG
 rw[h]
 simp only
 rw[if_neg hr,ht]
theorem ruleG_rej{TE SU:Fd→PT}{T T1:ByteArray}{g g1 g2:Fd}(h1:whenG TE T g=(T1,g1))(h2:nx 4 g1=(1,g2)):ruleG TE SU T g=(T1++⟨#[114,101,106,101,99,116,59]⟩,g2):=by
 unfold ruleG actG
 rw[h1]
 simp only
 rw[h2]
 rfl
theorem ruleG_sco{TE SU:Fd→PT}{T T1 te:ByteArray}{be:Nat}{g g1 g2 g3:Fd}{r:Int}(h1:whenG TE T g=(T1,g1))(h2:nx 4 g1=(r,g2))(hr:¬ r=1)(h3:SU g2=(te,be,g3)):ruleG TE SU T g=(T1++⟨#[115,99,111,114,101,32]⟩++te++⟨#[59]⟩,g3):=by
 unfold ruleG actG
 rw[h1]
 simp only
 rw[h2]
 simp only
 rw[if_neg hr,h3]
structure RuG(w wx:World)(mb fb:Nat)(x:Itm)(y:Bn)(l0 l1 l2 l3 l4 l5:Value)(st:Bool)(g:Fd)(c:Array Value):Prop where
 mak:MakG wx mb fb x y l0 l1 l2 l3 l4 l5 st g
 box:Blk wx w.heap.size c 31
 out:Blk wx (w.heap.size+1) (mg ⟨#[]⟩ 0 0 0) 31
 bl:But fb w wx
 m:mb<w.heap.size
 f:fb<w.heap.size
section
variable {w wx w':World} {mb fb:Nat} {x:Itm} {y:Bn} {l0 l1 l2 l3 l4 l5:Value} {st:Bool} {g g':Fd} {c:Array Value}
theorem ruG_start(h:MakG w mb fb x y l0 l1 l2 l3 l4 l5 st g)(c:Array Value):RuG w ((w.alloc (.cells c 31)).alloc (.cells (mg ⟨#[]⟩ 0 0 0) 31)) mb fb x y l0 l1 l2 l3 l4 l5 st g c:=by
 have hb:=((Below.refl w.heap.size w).alloc (Nat.le_refl _) (.cells c 31)).alloc (by simp) (.cells (mg ⟨#[]⟩ 0 0 0) 31)
 have h2:=Blk.new (w.alloc (.cells c 31)) (mg ⟨#[]⟩ 0 0 0) 31
 rw[show (w.alloc (.cells c 31)).heap.size=w.heap.size+1 by simp]at h2
 exact ⟨h.below hb,(Blk.new w _ _).alloc _,h2,But.of hb,h.blk.lt,h.fed.lt⟩
theorem RuG.call(h:RuG w wx mb fb x y l0 l1 l2 l3 l4 l5 st g c)(hM:MakG w' mb fb x y l0 l1 l2 l3 l4 l5 st g')(hB:But fb wx w'):RuG w w' mb fb x y l0 l1 l2 l3 l4 l5 st g' c :=
 ⟨hM,h.box.but hB (by have:=h.f;omega),h.out.but hB (by have:=h.f;omega),h.bl.trans hB,h.m,h.f⟩
theorem RuG.next(h:RuG w wx mb fb x y l0 l1 l2 l3 l4 l5 st g c)(hF:FedAt w' fb g')(hB:But fb wx w'):RuG w w' mb fb x y l0 l1 l2 l3 l4 l5 st g' c:=h.call (h.mak.next hF hB) hB
theorem RuG.al(h:RuG w wx mb fb x y l0 l1 l2 l3 l4 l5 st g c)(o:Obj):RuG w (wx.alloc o) mb fb x y l0 l1 l2 l3 l4 l5 st g c:=h.call (h.mak.below (box3 wx o)) (But.of (box3 wx o))
theorem RuG.setB(h:RuG w wx mb fb x y l0 l1 l2 l3 l4 l5 st g c)(i:Nat)(v:Value):RuG w (wx.setCell ⟨w.heap.size,i,none⟩ v) mb fb x y l0 l1 l2 l3 l4 l5 st g (c.setIfInBounds i v) :=
 ⟨⟨h.mak.blk.other _ _ (by have:=h.m;simp only;omega),h.mak.fed.other _ _ _ (by have:=h.f;omega),h.mak.ne⟩,h.box.set i v,h.out.other _ _ (by simp only;omega),h.bl.st _ _ (Nat.le_refl _) v,h.m,h.f⟩
theorem RuG.facts(h:RuG w wx mb fb x y l0 l1 l2 l3 l4 l5 st g c):(∀ i,wx.cell? ⟨w.heap.size,i,none⟩=c[i]?)∧(∀ i,wx.frozen? ⟨w.heap.size,i,none⟩=false)∧(∀ i,wx.cell? ⟨w.heap.size+1,i,none⟩=(mg ⟨#[]⟩ 0 0 0)[i]?)∧(∀ i,wx.frozen? ⟨w.heap.size+1,i,none⟩=false)∧wx.cell? ⟨mb,0,none⟩=some (.pointer (some ⟨fb,0,none⟩)):=⟨h.box.cell,h.box.free,h.out.cell,h.out.free,h.mak.blk.cell 0⟩
def finUG(w wx:World)(a b c d:Value):World:=(((wx.setCell ⟨w.heap.size+1,0,none⟩ a).setCell ⟨w.heap.size+1,1,none⟩ b).setCell ⟨w.heap.size+1,2,none⟩ c).setCell ⟨w.heap.size+1,3,none⟩ d
theorem RuG.fin(h:RuG w wx mb fb x y l0 l1 l2 l3 l4 l5 st g c)(a b k d:Value):(∀ i,(finUG w wx a b k d).cell? ⟨w.heap.size+1,i,none⟩=#[a,b,k,d][i]?)∧MakG (finUG w wx a b k d) mb fb x y l0 l1 l2 l3 l4 l5 st g∧But fb w (finUG w wx a b k d):=by
 have hm:∀ (wz:World) (i:Nat) (v:Value),MakG wz mb fb x y l0 l1 l2 l3 l4 l5 st g→MakG (wz.setCell ⟨w.heap.size+1,i,none⟩ v) mb fb x y l0 l1 l2 l3 l4 l5 st g:=fun wz i v q=>⟨q.blk.other _ _ (by have:=h.m;simp only;omega),q.fed.other _ _ _ (by have:=h.f;omega),q.ne⟩
 exact ⟨((((h.out.set 0 a).set 1 b).set 2 k).set 3 d).cell,hm _ _ _ (hm _ _ _ (hm _ _ _ (hm _ _ _ h.mak))),(((h.bl.st _ _ (by omega) a).st _ _ (by omega) b).st _ _ (by omega) k).st _ _ (by omega) d⟩
end
theorem when_none{C:Ctx→Prop}{T:ByteArray}{K S:Nat}{V:Int}{d:Bool}(hK:d=false→K=0∧V=0):WhenIs C T K V S d T K V S d true none:=by
 refine ⟨by simp[whT],by omega,fun E hE=>isO_none,by omega, ?_⟩
 cases d with
 | true=>exact .inl ⟨rfl,rfl,rfl,rfl,rfl⟩
 | false=>obtain ⟨rfl,rfl⟩:=hK rfl;exact .inr (.inr ⟨rfl,rfl,rfl,rfl,.inl ⟨rfl,rfl,rfl⟩⟩)
theorem when_txt(T tw:ByteArray)(kw:Wo):(T++⟨#[119,104,101,110,32]⟩++tw++⟨#[32]⟩).toList=T.toList++whT (some (tw,kw)):=by
 rw[toL_app,toL_app,toL_app,show (⟨#[119,104,101,110,32]⟩:ByteArray).toList=[119,104,101,110,32] from toL_mk _,show (⟨#[32]⟩:ByteArray).toList=[32] from toL_mk _]
 simp[whT,cWhen]
theorem when_size(T tw:ByteArray):(T++⟨#[119,104,101,110,32]⟩++tw++⟨#[32]⟩).size=T.size+tw.size+6:=by
 have e1:(⟨#[119,104,101,110,32]⟩:ByteArray).size=5:=rfl
 have e2:(⟨#[32]⟩:ByteArray).size=1:=rfl
 rw[ByteArray.size_append,ByteArray.size_append,ByteArray.size_append,e1,e2]
 omega
theorem rej_txt(T:ByteArray):(T++⟨#[114,101,106,101,99,116,59]⟩).toList=T.toList++(actB none++[59]):=by
 rw[toL_app,show (⟨#[114,101,106,101,99,116,59]⟩:ByteArray).toList=[114,101,106,101,99,116,59] from toL_mk _]
 rfl
theorem sco_txt(T te:ByteArray):(T++⟨#[115,99,111,114,101,32]⟩++te++⟨#[59]⟩).toList=T.toList++(actB (some te.toList)++[59]):=by
 rw[toL_app,toL_app,toL_app,show (⟨#[115,99,111,114,101,32]⟩:ByteArray).toList=[115,99,111,114,101,32] from toL_mk _,show (⟨#[59]⟩:ByteArray).toList=[59] from toL_mk _]
 simp[actB,cScore]
theorem sco_size(T te:ByteArray):(T++⟨#[115,99,111,114,101,32]⟩++te++⟨#[59]⟩).size=T.size+te.size+7:=by
 have e1:(⟨#[115,99,111,114,101,32]⟩:ByteArray).size=6:=rfl
 have e2:(⟨#[59]⟩:ByteArray).size=1:=rfl
 rw[ByteArray.size_append,ByteArray.size_append,ByteArray.size_append,e1,e2]
 omega
theorem rej_size(T:ByteArray):(T++⟨#[114,101,106,101,99,116,59]⟩).size=T.size+7:=by
 have e1:(⟨#[114,101,106,101,99,116,59]⟩:ByteArray).size=7:=rfl
 rw[ByteArray.size_append,e1]
end Go.Proofs.YtpcjadaeolkngaaGreatDoor
