/-
  The program's reader: the walk of readRule.
-/
import Derived.Test.YtgfnkeiigjholaaGreatDoorQ28
import Derived.Deep.DeepCutAuto
set_option linter.unusedVariables false
set_option linter.unusedSimpArgs false
namespace Go.Proofs.YtgfnkeiigjholaaGreatDoor
open Go.RowKit Go.Deep
def rulC(hw:Bool)(we:PExp)(hs:Bool)(se:PExp):Array Value:=#[.bool hw,.int .i64 we.place,.int .i64 we.fr,.int .i64 we.behind,.bool hs,.int .i64 se.place,.int .i64 se.fr,.int .i64 se.behind]
structure RuIn(B:Nat)(S:RS)(w wr:World)(p:Spot)(l:List RTok)(G:Nat→List PNode→Prop)(r:PRule):Prop where
 u:Und B S w wr p l G
 blk:Blk wr w.heap.size (rulC r.hw r.when r.hs r.score) 116
theorem RuIn.set{B:Nat}{S:RS}{w wr:World}{p:Spot}{l:List RTok}{G:Nat→List PNode→Prop}{cs:Array Value}(hu:Und B S w wr p l G)(hb:Blk wr w.heap.size cs 116)(hB:B<w.heap.size)(hr:S.rv.ownBlock≠some w.heap.size)(i:Nat)(v:Value):Und B S w (wr.setCell ⟨w.heap.size,i,none⟩ v) p l G∧Blk (wr.setCell ⟨w.heap.size,i,none⟩ v) w.heap.size (cs.setIfInBounds i v) 116 :=
 ⟨hu.other hb (by omega) ⟨by decide,by decide,by decide⟩ hr (Nat.le_refl _) v,hb.set i v⟩
set_option maxHeartbeats 2000000 in
set_option maxRecDepth 100000 in
theorem readRule_any{B:Nat}{S:RS}{w:World}{p:Spot}{l:List RTok}(h:RdAt w B S)(hf:S.f=false)(hd:S.d=0)(hl:LeftR S l)(hp:RuleAt p)(h0:p.next=0→∀ a r,l=a :: r→a.text≠cLet)(h6:l=[]→p.next≠6)(hrs:S.rs.length≤401) :
  Calls Tryz.prog 93 #[.pointer (some ⟨B,0,none⟩)] w fun e w'=>e=.returned (.tuple #[])∧RuleOut B S p l w w':=by
 obtain ⟨i0,hi,hz0,hz1,hz2⟩:=info_parts Tryz.infoRule
 have HF:=hideP hf
 have HD:=hideP hd
 have HL:=hideP hl
 have HP:=hideP hp
 have HRV:=hideP (fun b (e:S.rv.ownBlock=some b)=>(h.orl.lt b e).2)
 have HNE:Hid (S.rv.ownBlock≠some w.heap.size):=fun e=>by have:=HRV.out _ e;omega
 have hm:=hl.may
 have HM:=hideP hm
 have hB:=h.blk.lt
 have HNW:=hideP (no_when S hp h0 h6 hm)
 have HU:=hideP (Und.start (p:=p) (l:=l) (h.alloc (.cells #[.bool false,.int .i64 0,.int .i64 0,.int .i64 0,.bool false,.int .i64 0,.int .i64 0,.int .i64 0] 116)) (KeepN.of (new_below w (.cells #[.bool false,.int .i64 0,.int .i64 0,.int .i64 0,.bool false,.int .i64 0,.int .i64 0,.int .i64 0] 116))))
 have HBK:=hideP (Blk.new w #[.bool false,.int .i64 0,.int .i64 0,.int .i64 0,.bool false,.int .i64 0,.int .i64 0,.int .i64 0] 116)
 have hneB:w.heap.size≠B:=by omega
 clear h hf hd hl hp hm h0 h6
 go_enter Tryz.func93,Tryz.ntmps93
 go_upto_if 5 with (go_at_call 91;refine (sees_und 4 (by omega) HF.out HL.out HU.out (fun j ns hG=>by obtain ⟨rfl,rfl⟩:=hG;simp)).mono ?_;rintro e w1 ⟨b,rfl,hb1,hyes,hno⟩;have HYES:=hideP hyes;have HNO:=hideP hno;replace HBK:=hideP (HBK.out.below hb1 HBK.out.lt);clear hb1 hyes hno)
 go_cut [] (fun wx=>∃ hw we,RuIn B S w wx p l (GW S p l hw we) ⟨hw,we,false,noExp⟩)
 case first =>
  cases b
  ·have hu:=HNO.out rfl
   go_wp2
   go_meet
   case rel=>exact ⟨false,noExp,hu.mono HNW.out,HBK.out⟩
  ·have hu:=HYES.out rfl
   have HU1:=hideP hu
   clear hu HNO HYES HNW
   go_wp2_with (go_at_call_of 136 (Value.int IntKind.i64 4);refine (take_und 4 (by omega) HF.out HL.out HU1.out (when_one S HM.out)).mono ?_;rintro e w2 ⟨rfl,hu2,hk2⟩;replace HBK:=hideP (HBK.out.keepN hk2 hneB (by decide));obtain ⟨hu3,hb3⟩:=RuIn.set hu2 HBK.out hB HNE.out 0 (.bool true);have HU3:=hideP hu3;have HB3:=hideP hb3;have q0:=HBK.out.cell 0;have f0:=HBK.out.free 0;clear hu2 hk2 hu3 hb3)
   go_wp2_with (go_at_call 137;refine (readExpr_und (G':=GW S p l true) HRV.out HF.out HD.out HL.out HU3.out (when_expr S HP.out)).mono ?_;rintro e w5 ⟨pe,rfl,hu5,hk5⟩;unfold expA;have HB5:=hideP (HB3.out.keepN hk5 hneB (by decide));have HU5:=hideP hu5;have q1:=HB5.out.cell 1;have q2:=HB5.out.cell 2;have q3:=HB5.out.cell 3;have qf:=HB5.out.free;clear hu5 hk5)
   obtain ⟨a1,b1⟩:=RuIn.set HU5.out HB5.out hB HNE.out 1 (.int .i64 pe.place)
   obtain ⟨a2,b2⟩:=RuIn.set a1 b1 hB HNE.out 2 (.int .i64 pe.fr)
   obtain ⟨a3,b3⟩:=RuIn.set a2 b2 hB HNE.out 3 (.int .i64 pe.behind)
   have HE:=hideP (RuIn.mk (r:=⟨true,pe,false,noExp⟩) a3 b3)
   clear a1 a2 a3 b1 b2 b3
   go_wp2
   go_meet
   case rel=>exact ⟨true,pe,HE.out⟩
 case rest =>
  obtain ⟨hw,we,hin⟩:=hcut
  clear HU HBK HYES HNO HNW b
  have HU:=hideP hin.u
  have HBK:=hideP hin.blk
  clear hin
  go_upto_if 13 with (go_at_call 91;refine (sees_und 5 (by omega) HF.out HL.out HU.out (fun j ns hG=>by obtain ⟨wh,p1,rest,rfl,_,_,_,_,_,_,rfl,_⟩:=hG.ex;simp)).mono ?_;rintro e w1 ⟨b,rfl,hb1,hyes,hno⟩;have HYES:=hideP hyes;have HNO:=hideP hno;replace HBK:=hideP (HBK.out.below hb1 HBK.out.lt);clear hb1 hyes hno)
  go_cut [] (fun wx=>∃ hs se,RuIn B S w wx p l (GA S p l hw we hs se) ⟨hw,we,hs,se⟩)
  case first =>
   cases b
   ·have hu:=HNO.out rfl
    have HU1:=hideP hu
    clear hu HNO HYES
    go_wp2_with (go_at_call_of 136 (Value.int IntKind.i64 6);refine (take_und 6 (by omega) HF.out HL.out HU1.out (reject_one S HM.out)).mono ?_;rintro e w2 ⟨rfl,hu2,hk2⟩;replace HBK:=hideP (HBK.out.keepN hk2 hneB (by decide));have HU2:=hideP hu2;clear hu2 hk2)
    go_meet
    case rel=>exact ⟨false,noExp,HU2.out,HBK.out⟩
   ·have hu:=HYES.out rfl
    have HU1:=hideP hu
    clear hu HNO HYES
    go_wp2_with (go_at_call_of 136 (Value.int IntKind.i64 5);refine (take_und 5 (by omega) HF.out HL.out HU1.out (score_one S HM.out)).mono ?_;rintro e w2 ⟨rfl,hu2,hk2⟩;replace HBK:=hideP (HBK.out.keepN hk2 hneB (by decide));obtain ⟨hu3,hb3⟩:=RuIn.set hu2 HBK.out hB HNE.out 4 (.bool true);have HU3:=hideP hu3;have HB3:=hideP hb3;have q0:=HBK.out.cell 4;have f0:=HBK.out.free 4;unfold rulC at q0;simp only[List.getElem?_toArray,List.getElem?_cons_zero,List.getElem?_cons_succ]at q0;clear hu2 hk2 hu3 hb3)
    go_wp2_with (go_at_call 137;refine (readExpr_und (G':=GA S p l hw we true) HRV.out HF.out HD.out HL.out HU3.out (score_expr S)).mono ?_;rintro e w5 ⟨pe,rfl,hu5,hk5⟩;unfold expA;have HB5:=hideP (HB3.out.keepN hk5 hneB (by decide));have HU5:=hideP hu5;have q1:=HB5.out.cell 5;have q2:=HB5.out.cell 6;have q3:=HB5.out.cell 7;have qf:=HB5.out.free;unfold rulC at q1 q2 q3;simp[noExp]at q1 q2 q3;clear hu5 hk5)
    obtain ⟨a1,b1⟩:=RuIn.set HU5.out HB5.out hB HNE.out 5 (.int .i64 pe.place)
    obtain ⟨a2,b2⟩:=RuIn.set a1 b1 hB HNE.out 6 (.int .i64 pe.fr)
    obtain ⟨a3,b3⟩:=RuIn.set a2 b2 hB HNE.out 7 (.int .i64 pe.behind)
    have HE:=hideP (RuIn.mk (r:=⟨hw,we,true,pe⟩) a3 b3)
    clear a1 a2 a3 b1 b2 b3
    go_wp2
    go_meet
    case rel=>exact ⟨true,pe,HE.out⟩
  case rest =>
   obtain ⟨hs,se,hin⟩:=hcut
   clear HU HBK HYES HNO b
   have HU:=hideP hin.u
   have HBK:=hideP hin.blk
   clear hin
   go_wp2_with (go_at_call_of 136 (Value.int IntKind.i64 22);refine (take_und 22 (by omega) HF.out HL.out HU.out (semi_one S HM.out)).mono ?_;rintro e w6 ⟨rfl,hu6,hk6⟩;have HU6:=hideP hu6;replace HBK:=hideP (HBK.out.keepN hk6 hneB (by decide));clear hu6 hk6)
   obtain ⟨r,hr⟩:∃ r:PRule,r=⟨hw,we,hs,se⟩:=⟨_,rfl⟩
   rw[← hr]at HU6
   have e1:hw=r.hw:=by rw[hr]
   have e2:we=r.when:=by rw[hr]
   have e3:hs=r.hs:=by rw[hr]
   have e4:se=r.score:=by rw[hr]
   rw[e1,e2,e3,e4]at HBK
   clear e1 e2 e3 e4 hr HU
   obtain ⟨S',hR,hlv,hrv,hls',hrs',hcond⟩:=HU6.out.any
   have HCOND:=hideP hcond
   have hB6:=hR.blk.lt
   have hlen:S'.rs.length≤401:=by rw[hrs'];exact hrs
   have c6:=hR.blk.cell 6
   have f6:=hR.blk.free 6
   have t0:=HBK.out.cell 0
   have t1:=HBK.out.cell 1
   have t2:=HBK.out.cell 2
   have t3:=HBK.out.cell 3
   have t4:=HBK.out.cell 4
   have t5:=HBK.out.cell 5
   have t6:=HBK.out.cell 6
   have t7:=HBK.out.cell 7
   unfold rulC at t0 t1 t2 t3 t4 t5 t6 t7
   simp only[List.getElem?_toArray,List.getElem?_cons_zero,List.getElem?_cons_succ]at c6 t0 t1 t2 t3 t4 t5 t6 t7
   have hBKl:=HBK.out.lt
   have hneB2:S'.rv.ownBlock≠some B:=by intro e;have:=(hR.orl.lt B e).1;omega
   have HW:=hideP ((hR.alloc (.cells #[.bool r.hw,.int .i64 r.when.place,.int .i64 r.when.fr,.int .i64 r.when.behind,.bool r.hs,.int .i64 r.score.place,.int .i64 r.score.fr,.int .i64 r.score.behind] 116)).drew)
   have hone:∀ u∈[Value.bool r.hw,.int .i64 r.when.place,.int .i64 r.when.fr,.int .i64 r.when.behind,.bool r.hs,.int .i64 r.score.place,.int .i64 r.score.fr,.int .i64 r.score.behind],u.oneCell'=true:=one_rule r
   have h63:S'.rs.length+1≤maxLen:=by unfold maxLen;omega
   have hnb:=Blk.new w6 #[.bool r.hw,.int .i64 r.when.place,.int .i64 r.when.fr,.int .i64 r.when.behind,.bool r.hs,.int .i64 r.score.place,.int .i64 r.score.fr,.int .i64 r.score.behind] 116
   have hnews:∀ j u,[Value.bool r.hw,.int .i64 r.when.place,.int .i64 r.when.fr,.int .i64 r.when.behind,.bool r.hs,.int .i64 r.score.place,.int .i64 r.score.fr,.int .i64 r.score.behind][j]?=some u→((w6.alloc (.cells #[.bool r.hw,.int .i64 r.when.place,.int .i64 r.when.fr,.int .i64 r.when.behind,.bool r.hs,.int .i64 r.score.place,.int .i64 r.score.fr,.int .i64 r.score.behind] 116)).drew).cell? ((⟨w6.heap.size,0,none⟩:Addr).add j)=some u:=World.news_of_block (cs:=#[.bool r.hw,.int .i64 r.when.place,.int .i64 r.when.fr,.int .i64 r.when.behind,.bool r.hs,.int .i64 r.score.place,.int .i64 r.score.fr,.int .i64 r.score.behind]) (t:=116) (fr:=(0,0)) hnb
   clear hcond hlv hrv hls' hrs' hR
   go_region_law ((refine step_append_lies _ (by rfl) _ _ _ (by rfl) (B+1) 116 i0 _ 8 64 Tryz.underlying62 hi hz0 hz1 hz2 rfl (by omega) S'.rv S'.rs.length (cellsU S'.rs) (by rfl) HW.out.orl ⟨w6.heap.size,0,none⟩ 1 1 [.bool r.hw,.int .i64 r.when.place,.int .i64 r.when.fr,.int .i64 r.when.behind,.bool r.hs,.int .i64 r.score.place,.int .i64 r.score.fr,.int .i64 r.score.behind] (by rfl) (by rfl) hnews hone (by omega) h63 (by omega) (by simp <;> omega) (w6.heap.size+1) (by simp) ?_;intro gg cap w7 hown7 hgrow hat hlt7;have f7:w7.frozen? ⟨B,6,none⟩=false:=(hgrow.frozen_far _ (by simp <;> omega) (Ne.symm hneB2)).trans (HW.out.blk.free 6);have c7:w7.cell? ⟨B,6,none⟩=some S'.rv:=(hgrow.cell_far _ (by simp <;> omega) (Ne.symm hneB2)).trans (HW.out.blk.cell 6)))
   all_goals
    have R:=rd_rule (n:=r) HW.out hown7 hgrow
    have HB7:=hideP ((HU6.out.kp.below (by omega)).trans ((below_drewN ((Below.refl B w6).alloc (Nat.le_of_lt hB6) _) 1).trans R.2))
    have HRR:=hideP R.1
    clear R hnews hnb hone hown7 hgrow
    go_wp2
    refine bodyPost_end (results_none rfl _ _ _) rfl ⟨rfl,HB7.out, ?_⟩
    rcases HCOND.out with ⟨j,nv,ns,⟨s,rest,q,g1,g2,g3,g4,rfl,rfl,g5⟩,hS⟩ | ⟨j,nv,ns,hbad,hS⟩
    ·refine .inl ⟨s,rest,nv,.slice (some ⟨gg,0,none⟩) (S'.rs.length+1) cap,q,g1,g2,g3,g4, ?_⟩
     have:=HRR.out
     rw[g5]
     subst hS
     exact this
    ·refine .inr ⟨j,nv,.slice (some ⟨gg,0,none⟩) (S'.rs.length+1) cap,ns,r,hbad, ?_⟩
     have:=HRR.out
     subst hS
     exact this
end Go.Proofs.YtgfnkeiigjholaaGreatDoor
