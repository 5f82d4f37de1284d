/-
  test: an EXPR that is a truth, so deep; with its feed's bytes.
-/
import Derived.Test.YtpcjadaeolkngaaGreatDoorJ47
import Derived.Deep.CutBlock
set_option linter.unusedVariables false
set_option linter.unusedSimpArgs false
namespace Go.Proofs.YtpcjadaeolkngaaGreatDoor
open Go.RowKit Go.Deep
def TestDoesG(C:Ctx→Prop)(mb fb:Nat)(x:Itm)(y:Bn)(l0 l1 l2 l3 l4 l5:Value)(st:Bool)(F:Fd→PT)(L D P S:Nat)(n:Nat):Prop:=∀ g w,MakG w mb fb x y l0 l1 l2 l3 l4 l5 st g→Calls Tryz.prog 40 #[.pointer (some ⟨mb,0,none⟩),.int .i64 n] w fun e w'=>∃ t b k g',(Pc C t b k 2 L D P S st∧F g=(t,b,g')∧e=.returned (pcV t b k))∧MakG w' mb fb x y l0 l1 l2 l3 l4 l5 st g'∧But fb w w'
def ClassDoesG(C:Ctx→Prop)(mb fb:Nat)(x:Itm)(y:Bn)(l0 l1 l2 l3 l4 l5:Value)(st:Bool)(F:Fd→PT)(L D P S:Nat):Prop:=∀ g w,MakG w mb fb x y l0 l1 l2 l3 l4 l5 st g→Calls Tryz.prog 63 #[.pointer (some ⟨mb,0,none⟩)] w fun e w'=>∃ t b k g',(Pc C t b k 3 L D P S st∧F g=(t,b,g')∧e=.returned (pcV t b k))∧MakG w' mb fb x y l0 l1 l2 l3 l4 l5 st g'∧But fb w w'
def pairG(o:ByteArray)(lv:Nat)(F:Fd→PT)(g:Fd):PT:=(joinT o (F g).1 (F g).2.1 (F (F g).2.2).1 (F (F g).2.2).2.1 lv,lv,(F (F g).2.2).2.2)
theorem pairG_eq{o:ByteArray}{lv:Nat}{F:Fd→PT}{g ga gb:Fd}{ta tb:ByteArray}{ba bb:Nat}(h1:F g=(ta,ba,ga))(h2:F ga=(tb,bb,gb)):pairG o lv F g=(joinT o ta ba tb bb lv,lv,gb):=by
 unfold pairG
 simp only[h1,h2]
def testZ'(r:Int)(CL:Fd→PT)(g:Fd):PT:=if r<2 then (⟨#[116,114,117,101]⟩,6,g) else if r=2 then (⟨#[102,97,108,115,101]⟩,6,g) else if r<5 then pairG ⟨#[61]⟩ 3 CL g else pairG ⟨#[33,61]⟩ 3 CL g
def testZ(CL:Fd→PT)(g:Fd):PT:=testZ' (nx 7 g).1 CL (nx 7 g).2
theorem testZ_eq{CL:Fd→PT}{g g0:Fd}{r:Int}(h:nx 7 g=(r,g0)):testZ CL g=testZ' r CL g0:=by
 unfold testZ
 rw[h]
def testS'(r:Int)(CL SU TE:Fd→PT)(g:Fd):PT:=if r=0 then pairG ⟨#[61]⟩ 3 CL g else if r=1 then pairG ⟨#[60]⟩ 3 SU g else if r=2 then pairG ⟨#[60,61]⟩ 3 SU g else if r=3 then pairG ⟨#[61]⟩ 3 SU g else if r=4 then pairG ⟨#[33,61]⟩ 3 SU g else if r=5 then pairG ⟨#[97,110,100]⟩ 2 TE g else pairG ⟨#[111,114]⟩ 1 TE g
def testS(CL SU TE:Fd→PT)(g:Fd):PT:=testS' (nx 7 g).1 CL SU TE (nx 7 g).2
theorem testS_eq{CL SU TE:Fd→PT}{g g0:Fd}{r:Int}(h:nx 7 g=(r,g0)):testS CL SU TE g=testS' r CL SU TE g0:=by
 unfold testS
 rw[h]
set_option maxHeartbeats 8000000 in
set_option maxRecDepth 100000 in
theorem testG_zero{C:Ctx→Prop}(mb fb:Nat)(x:Itm)(y:Bn)(l0 l1 l2 l3 l4 l5:Value)(st:Bool)(hCX:∀ E,C E→E.Ok∧E.x=x∧E.y=y)(CL:Fd→PT)(hcl:ClassDoesG C mb fb x y l0 l1 l2 l3 l4 l5 st CL 4 0 1 1):TestDoesG C mb fb x y l0 l1 l2 l3 l4 l5 st (endS ⟨#[110,111,116,32]⟩ (testZ CL)) 21 2 4 5 0:=by
 intro g w h
 have HCX:=mH hCX
 have HC:Hid (∀ E,C E→E.Ok):=fun E hE=>(hCX E hE).1
 have HCL:Hid (∀ g w,MakG w mb fb x y l0 l1 l2 l3 l4 l5 st g→Calls Tryz.prog 63 #[.pointer (some ⟨mb,0,none⟩)] w fun e w'=>∃ t b k g',(Pc C t b k 3 4 0 1 1 st∧CL g=(t,b,g')∧e=.returned (pcV t b k))∧MakG w' mb fb x y l0 l1 l2 l3 l4 l5 st g'∧But fb w w'):=hcl
 clear hCX hcl
 have t1:Hid True:=trivial
 have t2:Hid True:=trivial
 have HS:=mH (sumG_start h)
 clear h
 go_enter Tryz.func40,Tryz.ntmps40
 go_upto_region 2 with fail
 generalize (w.alloc (.cells ag0 62)).alloc (.cells ag0 62)=W at HS ⊢
 obtain ⟨p,f,c0⟩:=HS.out.facts
 go_upto_block 0 with (go_at_call 19;refine (next_fed 7 (by omega) _ _ _ HS.out.mak.fed).mono ?_;rintro e w0 ⟨r,gr,⟨hg,hr0,hr7,rfl⟩,hF,hB⟩;have HGR:=mH hg;clear hg;replace HS:=mH (HS.out.next hF hB);clear hF hB c0 p f;obtain ⟨p,f,c0⟩:=HS.out.facts)
 go_cut [] (fun wx=>∃ t b k g',(Pc C t b k 2 (14) (1) (3) (4) st∧testZ CL g=(t,b,g'))∧SumG w wx mb fb x y l0 l1 l2 l3 l4 l5 st g' (pcA t b k))
 case first =>
  obtain rfl | rfl | rfl | rfl | rfl | rfl | rfl:r=0∨r=1∨r=2∨r=3∨r=4∨r=5∨r=6:=by omega
  ·go_wp2
   go_meet
   case rel=>exact ⟨⟨#[116,114,117,101]⟩,6,⟨1,0,1,true⟩,gr,⟨(true_pc HCX.out st).mono (by omega) (by omega) (by omega) (by omega),by rw[testZ_eq HGR.out];rfl⟩,HS.out.put _ _ _ _ _ _⟩
  ·go_wp2
   go_meet
   case rel=>exact ⟨⟨#[116,114,117,101]⟩,6,⟨1,0,1,true⟩,gr,⟨(true_pc HCX.out st).mono (by omega) (by omega) (by omega) (by omega),by rw[testZ_eq HGR.out];rfl⟩,HS.out.put _ _ _ _ _ _⟩
  ·go_wp2
   go_meet
   case rel=>exact ⟨⟨#[102,97,108,115,101]⟩,6,⟨0,0,1,true⟩,gr,⟨(false_pc HCX.out st).mono (by omega) (by omega) (by omega) (by omega),by rw[testZ_eq HGR.out];rfl⟩,HS.out.put _ _ _ _ _ _⟩
  ·go_wp2_with (first
   | (go_at_call 63;have u1:=t1;clear t1;refine (HCL.out _ _ HS.out.mak).mono ?_;rintro e w1 ⟨ta,ba,ka,ga,⟨hPa,hEa,rfl⟩,hM,hB⟩;have HEA:=mH hEa;clear hEa;obtain ⟨va,fa,sa,ia⟩:=ka;unfold pcV pcA;have hq1:w.heap.size+1<w1.heap.size:=(HS.out.call hM hB).pp.lt;replace HS:=mH ((HS.out.call hM hB).al (.cells (ag ta ba va fa sa ia) 62));have HA:=mH (Blk.new w1 (ag ta ba va fa sa ia) 62);have HPA:=mH hPa;have hlt1:fb<w1.heap.size:=hM.fed.lt;clear hM hB hPa c0 p f;obtain ⟨p,f,c0⟩:=HS.out.facts;have a:=HA.out.cell)
   | (go_at_call 63;have u2:=t2;clear t2;refine (HCL.out _ _ HS.out.mak).mono ?_;rintro e w2 ⟨tb,bb,kb,gb,⟨hPb,hEb,rfl⟩,hM,hB⟩;have HEB:=mH hEb;clear hEb;obtain ⟨vb,fb',sb,ib⟩:=kb;unfold pcV pcA;have hq2:w.heap.size+1<w2.heap.size:=(HS.out.call hM hB).pp.lt;replace HS:=mH ((HS.out.call hM hB).al (.cells (ag tb bb vb fb' sb ib) 62));replace HA:=mH ((HA.out.but hB (by omega)).alloc (.cells (ag tb bb vb fb' sb ib) 62));have HB:=mH (Blk.new w2 (ag tb bb vb fb' sb ib) 62);have HPB:=mH hPb;have hlt2:fb<w2.heap.size:=hM.fed.lt;clear hM hB hPb c0 p f a;obtain ⟨p,f,c0⟩:=HS.out.facts;have a:=HA.out.cell;have d:=HB.out.cell)
   | (go_at_call_of 37 (Value.string ⟨#[61]⟩);refine (joinedG_eq (.inr rfl) HC.out HPA.out HPB.out (by omega) (by omega) _).mono ?_;rintro e w5 ⟨⟨tc,bc,kc,⟨hPc,hTc⟩,rfl⟩,hb5⟩;have HTC:=mH hTc;clear hTc;obtain ⟨vc,fc,sc,ic⟩:=kc;unfold pcV pcA;replace HS:=mH (HS.out.below hb5);have HPC:=mH hPc;have m1:w1.heap.size≠w.heap.size+1:=(by omega);have m2:w.heap.size+1≠w1.heap.size:=(by omega);have m3:w2.heap.size≠w.heap.size+1:=(by omega);have m4:w.heap.size+1≠w2.heap.size:=(by omega);replace HA:=mH (HA.out.below hb5 HA.out.lt);replace HB:=mH (HB.out.below hb5 HB.out.lt);clear a d;have a:=HA.out.cell;have d:=HB.out.cell;clear hb5 hPc c0 p f;obtain ⟨p,f,c0⟩:=HS.out.facts))
   go_meet
   case rel=>exact ⟨tc,bc,⟨vc,fc,sc,ic⟩,gb,⟨HPC.out.mono (by omega) (by omega) (by omega) (by omega),by rw[testZ_eq HGR.out];exact (pairG_eq HEA.out HEB.out).trans (by rw[HTC.out.1,HTC.out.2])⟩,HS.out.put _ _ _ _ _ _⟩
  ·go_wp2_with (first
   | (go_at_call 63;have u1:=t1;clear t1;refine (HCL.out _ _ HS.out.mak).mono ?_;rintro e w1 ⟨ta,ba,ka,ga,⟨hPa,hEa,rfl⟩,hM,hB⟩;have HEA:=mH hEa;clear hEa;obtain ⟨va,fa,sa,ia⟩:=ka;unfold pcV pcA;have hq1:w.heap.size+1<w1.heap.size:=(HS.out.call hM hB).pp.lt;replace HS:=mH ((HS.out.call hM hB).al (.cells (ag ta ba va fa sa ia) 62));have HA:=mH (Blk.new w1 (ag ta ba va fa sa ia) 62);have HPA:=mH hPa;have hlt1:fb<w1.heap.size:=hM.fed.lt;clear hM hB hPa c0 p f;obtain ⟨p,f,c0⟩:=HS.out.facts;have a:=HA.out.cell)
   | (go_at_call 63;have u2:=t2;clear t2;refine (HCL.out _ _ HS.out.mak).mono ?_;rintro e w2 ⟨tb,bb,kb,gb,⟨hPb,hEb,rfl⟩,hM,hB⟩;have HEB:=mH hEb;clear hEb;obtain ⟨vb,fb',sb,ib⟩:=kb;unfold pcV pcA;have hq2:w.heap.size+1<w2.heap.size:=(HS.out.call hM hB).pp.lt;replace HS:=mH ((HS.out.call hM hB).al (.cells (ag tb bb vb fb' sb ib) 62));replace HA:=mH ((HA.out.but hB (by omega)).alloc (.cells (ag tb bb vb fb' sb ib) 62));have HB:=mH (Blk.new w2 (ag tb bb vb fb' sb ib) 62);have HPB:=mH hPb;have hlt2:fb<w2.heap.size:=hM.fed.lt;clear hM hB hPb c0 p f a;obtain ⟨p,f,c0⟩:=HS.out.facts;have a:=HA.out.cell;have d:=HB.out.cell)
   | (go_at_call_of 37 (Value.string ⟨#[61]⟩);refine (joinedG_eq (.inr rfl) HC.out HPA.out HPB.out (by omega) (by omega) _).mono ?_;rintro e w5 ⟨⟨tc,bc,kc,⟨hPc,hTc⟩,rfl⟩,hb5⟩;have HTC:=mH hTc;clear hTc;obtain ⟨vc,fc,sc,ic⟩:=kc;unfold pcV pcA;replace HS:=mH (HS.out.below hb5);have HPC:=mH hPc;have m1:w1.heap.size≠w.heap.size+1:=(by omega);have m2:w.heap.size+1≠w1.heap.size:=(by omega);have m3:w2.heap.size≠w.heap.size+1:=(by omega);have m4:w.heap.size+1≠w2.heap.size:=(by omega);replace HA:=mH (HA.out.below hb5 HA.out.lt);replace HB:=mH (HB.out.below hb5 HB.out.lt);clear a d;have a:=HA.out.cell;have d:=HB.out.cell;clear hb5 hPc c0 p f;obtain ⟨p,f,c0⟩:=HS.out.facts))
   go_meet
   case rel=>exact ⟨tc,bc,⟨vc,fc,sc,ic⟩,gb,⟨HPC.out.mono (by omega) (by omega) (by omega) (by omega),by rw[testZ_eq HGR.out];exact (pairG_eq HEA.out HEB.out).trans (by rw[HTC.out.1,HTC.out.2])⟩,HS.out.put _ _ _ _ _ _⟩
  ·go_wp2_with (first
   | (go_at_call 63;have u1:=t1;clear t1;refine (HCL.out _ _ HS.out.mak).mono ?_;rintro e w1 ⟨ta,ba,ka,ga,⟨hPa,hEa,rfl⟩,hM,hB⟩;have HEA:=mH hEa;clear hEa;obtain ⟨va,fa,sa,ia⟩:=ka;unfold pcV pcA;have hq1:w.heap.size+1<w1.heap.size:=(HS.out.call hM hB).pp.lt;replace HS:=mH ((HS.out.call hM hB).al (.cells (ag ta ba va fa sa ia) 62));have HA:=mH (Blk.new w1 (ag ta ba va fa sa ia) 62);have HPA:=mH hPa;have hlt1:fb<w1.heap.size:=hM.fed.lt;clear hM hB hPa c0 p f;obtain ⟨p,f,c0⟩:=HS.out.facts;have a:=HA.out.cell)
   | (go_at_call 63;have u2:=t2;clear t2;refine (HCL.out _ _ HS.out.mak).mono ?_;rintro e w2 ⟨tb,bb,kb,gb,⟨hPb,hEb,rfl⟩,hM,hB⟩;have HEB:=mH hEb;clear hEb;obtain ⟨vb,fb',sb,ib⟩:=kb;unfold pcV pcA;have hq2:w.heap.size+1<w2.heap.size:=(HS.out.call hM hB).pp.lt;replace HS:=mH ((HS.out.call hM hB).al (.cells (ag tb bb vb fb' sb ib) 62));replace HA:=mH ((HA.out.but hB (by omega)).alloc (.cells (ag tb bb vb fb' sb ib) 62));have HB:=mH (Blk.new w2 (ag tb bb vb fb' sb ib) 62);have HPB:=mH hPb;have hlt2:fb<w2.heap.size:=hM.fed.lt;clear hM hB hPb c0 p f a;obtain ⟨p,f,c0⟩:=HS.out.facts;have a:=HA.out.cell;have d:=HB.out.cell)
   | (go_at_call_of 37 (Value.string ⟨#[61]⟩);refine (joinedG_eq (.inr rfl) HC.out HPA.out HPB.out (by omega) (by omega) _).mono ?_;rintro e w5 ⟨⟨tc,bc,kc,⟨hPc,hTc⟩,rfl⟩,hb5⟩;have HTC:=mH hTc;clear hTc;obtain ⟨vc,fc,sc,ic⟩:=kc;unfold pcV pcA;replace HS:=mH (HS.out.below hb5);have HPC:=mH hPc;have m1:w1.heap.size≠w.heap.size+1:=(by omega);have m2:w.heap.size+1≠w1.heap.size:=(by omega);have m3:w2.heap.size≠w.heap.size+1:=(by omega);have m4:w.heap.size+1≠w2.heap.size:=(by omega);replace HA:=mH (HA.out.below hb5 HA.out.lt);replace HB:=mH (HB.out.below hb5 HB.out.lt);clear a d;have a:=HA.out.cell;have d:=HB.out.cell;clear hb5 hPc c0 p f;obtain ⟨p,f,c0⟩:=HS.out.facts)
   | (go_at_call_of 37 (Value.string ⟨#[33,61]⟩);refine (joinedG_ne (.inr rfl) HC.out HPA.out HPB.out (by omega) (by omega) _).mono ?_;rintro e w6 ⟨⟨te,be,ke,⟨hPe,hTe⟩,rfl⟩,hb6⟩;have HTE:=mH hTe;clear hTe;obtain ⟨ve,fe,se,ie⟩:=ke;unfold pcV pcA;replace HS:=mH ((HS.out.put (.string tc) (.int .i64 bc) (.int .i64 vc) (.int .i64 fc) (.int .i64 sc) (.bool ic)).below hb6);have HPE:=mH hPe;clear hb6 hPe c0 p f;obtain ⟨p,f,c0⟩:=HS.out.facts))
   go_meet
   case rel=>exact ⟨te,be,⟨ve,fe,se,ie⟩,gb,⟨HPE.out.mono (by omega) (by omega) (by omega) (by omega),by rw[testZ_eq HGR.out];exact (pairG_eq HEA.out HEB.out).trans (by rw[HTE.out.1,HTE.out.2])⟩,HS.out.put _ _ _ _ _ _⟩
  ·go_wp2_with (first
   | (go_at_call 63;have u1:=t1;clear t1;refine (HCL.out _ _ HS.out.mak).mono ?_;rintro e w1 ⟨ta,ba,ka,ga,⟨hPa,hEa,rfl⟩,hM,hB⟩;have HEA:=mH hEa;clear hEa;obtain ⟨va,fa,sa,ia⟩:=ka;unfold pcV pcA;have hq1:w.heap.size+1<w1.heap.size:=(HS.out.call hM hB).pp.lt;replace HS:=mH ((HS.out.call hM hB).al (.cells (ag ta ba va fa sa ia) 62));have HA:=mH (Blk.new w1 (ag ta ba va fa sa ia) 62);have HPA:=mH hPa;have hlt1:fb<w1.heap.size:=hM.fed.lt;clear hM hB hPa c0 p f;obtain ⟨p,f,c0⟩:=HS.out.facts;have a:=HA.out.cell)
   | (go_at_call 63;have u2:=t2;clear t2;refine (HCL.out _ _ HS.out.mak).mono ?_;rintro e w2 ⟨tb,bb,kb,gb,⟨hPb,hEb,rfl⟩,hM,hB⟩;have HEB:=mH hEb;clear hEb;obtain ⟨vb,fb',sb,ib⟩:=kb;unfold pcV pcA;have hq2:w.heap.size+1<w2.heap.size:=(HS.out.call hM hB).pp.lt;replace HS:=mH ((HS.out.call hM hB).al (.cells (ag tb bb vb fb' sb ib) 62));replace HA:=mH ((HA.out.but hB (by omega)).alloc (.cells (ag tb bb vb fb' sb ib) 62));have HB:=mH (Blk.new w2 (ag tb bb vb fb' sb ib) 62);have HPB:=mH hPb;have hlt2:fb<w2.heap.size:=hM.fed.lt;clear hM hB hPb c0 p f a;obtain ⟨p,f,c0⟩:=HS.out.facts;have a:=HA.out.cell;have d:=HB.out.cell)
   | (go_at_call_of 37 (Value.string ⟨#[61]⟩);refine (joinedG_eq (.inr rfl) HC.out HPA.out HPB.out (by omega) (by omega) _).mono ?_;rintro e w5 ⟨⟨tc,bc,kc,⟨hPc,hTc⟩,rfl⟩,hb5⟩;have HTC:=mH hTc;clear hTc;obtain ⟨vc,fc,sc,ic⟩:=kc;unfold pcV pcA;replace HS:=mH (HS.out.below hb5);have HPC:=mH hPc;have m1:w1.heap.size≠w.heap.size+1:=(by omega);have m2:w.heap.size+1≠w1.heap.size:=(by omega);have m3:w2.heap.size≠w.heap.size+1:=(by omega);have m4:w.heap.size+1≠w2.heap.size:=(by omega);replace HA:=mH (HA.out.below hb5 HA.out.lt);replace HB:=mH (HB.out.below hb5 HB.out.lt);clear a d;have a:=HA.out.cell;have d:=HB.out.cell;clear hb5 hPc c0 p f;obtain ⟨p,f,c0⟩:=HS.out.facts)
   | (go_at_call_of 37 (Value.string ⟨#[33,61]⟩);refine (joinedG_ne (.inr rfl) HC.out HPA.out HPB.out (by omega) (by omega) _).mono ?_;rintro e w6 ⟨⟨te,be,ke,⟨hPe,hTe⟩,rfl⟩,hb6⟩;have HTE:=mH hTe;clear hTe;obtain ⟨ve,fe,se,ie⟩:=ke;unfold pcV pcA;replace HS:=mH ((HS.out.put (.string tc) (.int .i64 bc) (.int .i64 vc) (.int .i64 fc) (.int .i64 sc) (.bool ic)).below hb6);have HPE:=mH hPe;clear hb6 hPe c0 p f;obtain ⟨p,f,c0⟩:=HS.out.facts))
   go_meet
   case rel=>exact ⟨te,be,⟨ve,fe,se,ie⟩,gb,⟨HPE.out.mono (by omega) (by omega) (by omega) (by omega),by rw[testZ_eq HGR.out];exact (pairG_eq HEA.out HEB.out).trans (by rw[HTE.out.1,HTE.out.2])⟩,HS.out.put _ _ _ _ _ _⟩
 case rest =>
  obtain ⟨t,b,k,g1,⟨hP,hE⟩,hS⟩:=hcut
  obtain ⟨v,flt,s,fi⟩:=k
  unfold pcA at hS
  have HP:=mH hP
  have HE:=mH hE
  have HS:=mH hS
  clear hP hS hE
  obtain ⟨p,f,c0⟩:=HS.out.facts
  go_upto_if 95 with (go_at_call 19;refine (next_fed 5 (by omega) _ _ _ HS.out.mak.fed).mono ?_;rintro e w1 ⟨r,g2,⟨hg,hr0,hr5,rfl⟩,hF,hB⟩;have HG:=mH hg;replace HS:=mH (HS.out.next hF hB);clear hF hB hg c0 p f;obtain ⟨p,f,c0⟩:=HS.out.facts)
  go_cut [] (fun wx=>∃ t b k g',(Pc C t b k 2 (14+4) (1) (3+1) (4+1) st∧turnG ⟨#[110,111,116,32]⟩ (testZ CL g)=(t,b,g'))∧SumG w wx mb fb x y l0 l1 l2 l3 l4 l5 st g' (pcA t b k))
  case first =>
   by_cases hr:r=1
   ·subst hr
    go_wp2_with (go_at_call 38;refine (turnedG_nott HC.out HP.out (by omega) (by omega) _).mono ?_;rintro e w2 ⟨⟨t',b',k',⟨hP',hT'⟩,rfl⟩,hb2⟩;obtain ⟨v',flt',s',fi'⟩:=k';unfold pcV pcA;replace HS:=mH (HS.out.below hb2);have HP':=mH hP';have HT':=mH hT';clear hb2 hP' hT' c0 p f;obtain ⟨p,f,c0⟩:=HS.out.facts)
    go_meet
    case rel=>exact ⟨t',b',⟨v',flt',s',fi'⟩,g2,⟨HP'.out,by rw[HE.out,HT'.out.1,HT'.out.2];exact turnG_yes HG.out⟩,HS.out.put _ _ _ _ _ _⟩
   ·have hr':(r==1)=false:=by simpa using hr
    go_wp2
    go_meet
    case rel=>exact ⟨t,b,⟨v,flt,s,fi⟩,g2,⟨HP.out.mono (by omega) (Nat.le_refl _) (by omega) (by omega),by rw[HE.out];exact turnG_no HG.out hr⟩,HS.out⟩
  case rest =>
   clear HS HP HE HG c0 p f
   obtain ⟨t',b',k',g3,⟨hP,hE⟩,hS⟩:=hcut
   obtain ⟨v',flt',s',fi'⟩:=k'
   unfold pcA at hS
   have HP:=mH hP
   have HE:=mH hE
   have HS:=mH hS
   clear hP hS hE
   obtain ⟨p,f,c0⟩:=HS.out.facts
   go_upto_region 25 with fail
   go_region_held3 (fun w'=>w'.cell? ⟨mb,0,none⟩=some (.pointer (some ⟨fb,0,none⟩))∧w'.cell? ⟨w.heap.size+1,0,none⟩=some (.string t')∧w'.cell? ⟨w.heap.size+1,1,none⟩=some (.int .i64 b')∧w'.cell? ⟨w.heap.size+1,2,none⟩=some (.int .i64 v')∧w'.cell? ⟨w.heap.size+1,3,none⟩=some (.int .i64 flt')∧w'.cell? ⟨w.heap.size+1,4,none⟩=some (.int .i64 s')∧w'.cell? ⟨w.heap.size+1,5,none⟩=some (.bool fi')) (first | with_reducible exact HS.out.drew.seven | with_reducible exact HS.out.seven | with_reducible exact HS.out.seven2) (first | (go_at_call 39;refine (looseG_made HC.out HP.out (by omega) fb _ _ HS.out.drew.mak.fed).mono ?_;rintro e w3 ⟨t3,b3,k3,g4,⟨hP3,hE3,rfl⟩,hF,hB⟩;obtain ⟨v3,flt3,s3,fi3⟩:=k3;unfold pcV pcA;replace HS:=mH (HS.out.drew.next hF hB);have HP3:=mH hP3;have HE3:=mH hE3;clear hF hB hP3 hE3 c0 p f;have oo:=HS.out.out.cell;have oq:=HS.out.out.free))
   all_goals go_wp2_with fail
   all_goals
    obtain ⟨hfb,hmk,hbl⟩:=HS.out.om.fin (.string t3) (.int .i64 b3) (.int .i64 v3) (.int .i64 flt3) (.int .i64 s3) (.bool fi3)
    have gg:=hfb.cell
    unfold finG at gg hbl hmk
    exact bodyPost_ret (v:=.agg #[.string t3,.int .i64 b3,.int .i64 v3,.int .i64 flt3,.int .i64 s3,.bool fi3]) (by simp[results,Tryz.results40,go_sem,gg]) rfl ⟨t3,b3,⟨v3,flt3,s3,fi3⟩,g4,⟨HP3.out.mono (by omega) (by omega) (by omega) (by omega),by first | (show looseG (turnG _ _)=_;rw[HE.out];exact HE3.out),rfl⟩,hmk,hbl⟩
end Go.Proofs.YtpcjadaeolkngaaGreatDoor
