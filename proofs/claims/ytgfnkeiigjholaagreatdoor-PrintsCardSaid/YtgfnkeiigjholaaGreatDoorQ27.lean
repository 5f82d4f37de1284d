/-
  The program's reader: the walk of readLet.
-/
import Derived.Test.YtgfnkeiigjholaaGreatDoorQ26
import Derived.Deep.RegionWith
set_option linter.unusedVariables false
set_option linter.unusedSimpArgs false
namespace Go.Proofs.YtgfnkeiigjholaaGreatDoor
open Go.RowKit Go.Deep
set_option maxHeartbeats 1000000 in
set_option maxRecDepth 100000 in
theorem readLet_any{B:Nat}{S:RS}{w:World}{kw:RTok}{l1:List RTok}(h:RdAt w B S)(hf:S.f=false)(hd:S.d=0)(hl:LeftR S (kw :: l1))(hk:kw.text=cLet)(hls:S.ls.length≤401) :
  Calls Tryz.prog 92 #[.pointer (some ⟨B,0,none⟩)] w fun e w'=>e=.returned (.tuple #[])∧LetOut B S (kw :: l1) w w':=by
 obtain ⟨i0,hi,hz0,hz1,hz2⟩:=info_parts Tryz.infoLet
 have HF:=hideP hf
 have HD:=hideP hd
 have HL:=hideP hl
 have HKW:=hideP hk
 have HRV:=hideP (fun b (e:S.rv.ownBlock=some b)=>(h.orl.lt b e).2)
 have hm:=hl.may
 have HM:=hideP hm
 have HU:=hideP (Und.start (p:=⟨0,0,0⟩) (l:=kw :: l1) h (KeepN.refl B w))
 clear h hf hd hl hk hm
 have H0:Hid (∀ j ns,(j=0∧ns=S.ns)→j≤(kw :: l1).length∧ns.length≤S.ns.length+j∧(∀ a,(kw :: l1)[j]?=some a→kindP a.text=3→(fun j ns=>j=1∧ns=S.ns) (j+1) ns)∧((∀ a,(kw :: l1)[j]?=some a→kindP a.text≠3)→BadS ⟨0,0,0⟩ (kw :: l1) j)):=by
  rintro j ns ⟨rfl,rfl⟩
  refine ⟨by simp,by omega,fun a ha hka=>⟨rfl,rfl⟩,fun hno=>?_⟩
  exact absurd (by rw[HKW.out];decide) (hno kw rfl)
 go_enter Tryz.func92,Tryz.ntmps92
 go_wp2_with (go_at_call_of 136 (Value.int IntKind.i64 3);refine (take_und (G':=fun j ns=>j=1∧ns=S.ns) 3 (by omega) HF.out HL.out HU.out H0.out).mono ?_;rintro e w1 ⟨rfl,hu1,hk1⟩;have HU1:=hideP hu1;clear hu1 hk1)
 go_wp2_with (go_at_call 55;refine (current_und HL.out HU1.out (fun j ns hG=>by obtain ⟨rfl,rfl⟩:=hG;simp)).mono ?_;rintro e w2 ⟨tk,rfl,hb2,hu2⟩;unfold tokA;have HU2:=hideP (hu2.below (new_below w2 (.cells #[.int .i64 (kindP tk.text),.int .i64 tk.at',.string (bsOf tk.text)] 107)));have HT:=hideP (Blk.new w2 #[.int .i64 (kindP tk.text),.int .i64 tk.at',.string (bsOf tk.text)] 107);have hB2:=hu2.lt;clear hb2 hu2)
 have hne:w2.heap.size≠B:=by omega
 go_wp2_with (go_at_call_of 136 (Value.int IntKind.i64 2);refine (take_und 2 (by omega) HF.out HL.out HU2.out (name_step S HKW.out HM.out)).mono ?_;rintro e w3 ⟨rfl,hu3,hk3⟩;have HU3:=hideP hu3;replace HT:=hideP (HT.out.keepN hk3 hne (by decide));clear hu3 hk3)
 go_wp2_with (go_at_call_of 136 (Value.int IntKind.i64 23);refine (take_und 23 (by omega) HF.out HL.out HU3.out (eq_step S HKW.out HM.out)).mono ?_;rintro e w4 ⟨rfl,hu4,hk4⟩;have HU4:=hideP hu4;replace HT:=hideP (HT.out.keepN hk4 hne (by decide));clear hu4 hk4)
 go_wp2_with (go_at_call 137;refine (readExpr_und (G':=G4 S (kw :: l1) tk) HRV.out HF.out HD.out HL.out HU4.out (expr_step S HKW.out)).mono ?_;rintro e w5 ⟨pe,rfl,hu5,hk5⟩;unfold expA;have HU5:=hideP (hu5.below (new_below w5 (.cells #[.int .i64 pe.place,.int .i64 pe.fr,.int .i64 pe.behind] 111)));have HX:=hideP (Blk.new w5 #[.int .i64 pe.place,.int .i64 pe.fr,.int .i64 pe.behind] 111);have hB5:=hu5.lt;replace HT:=hideP ((HT.out.keepN hk5 hne (by decide)).alloc (.cells #[.int .i64 pe.place,.int .i64 pe.fr,.int .i64 pe.behind] 111));clear hu5 hk5)
 have hne5:w5.heap.size≠B:=by omega
 go_wp2_with (go_at_call_of 136 (Value.int IntKind.i64 22);refine (take_und 22 (by omega) HF.out HL.out HU5.out (semi_step S HKW.out HM.out pe)).mono ?_;rintro e w6 ⟨rfl,hu6,hk6⟩;have HU6:=hideP hu6;replace HT:=hideP (HT.out.keepN hk6 hne (by decide));replace HX:=hideP (HX.out.keepN hk6 hne5 (by decide));clear hu6 hk6)
 obtain ⟨S',hR,hlv,hrv,hls',hrs,hcond⟩:=HU6.out.any
 have HCOND:=hideP hcond
 have HLS:=hideP hls'
 have HRS:=hideP hrs
 have HLV:=hideP hlv
 have hB6:=hR.blk.lt
 have hlen:S'.ls.length≤401:=by rw[hls'];exact hls
 have c5:=hR.blk.cell 5
 have f5:=hR.blk.free 5
 have t0:=HT.out.cell 0
 have t1:=HT.out.cell 1
 have t2:=HT.out.cell 2
 have x0:=HX.out.cell 0
 have x1:=HX.out.cell 1
 have x2:=HX.out.cell 2
 simp only[List.getElem?_toArray,List.getElem?_cons_zero,List.getElem?_cons_succ]at c5 t0 t1 t2 x0 x1 x2
 have HT6:=hideP HT.out.lt
 have hneB:S'.lv.ownBlock≠some B:=by intro e;have:=(hR.olt.lt B e).1;omega
 have HW:=hideP ((hR.alloc (.cells #[.int .i64 (kindP tk.text),.int .i64 tk.at',.string (bsOf tk.text),.int .i64 pe.place,.int .i64 pe.fr,.int .i64 pe.behind] 113)).drew)
 have hone:∀ u∈[Value.int .i64 (kindP tk.text),.int .i64 tk.at',.string (bsOf tk.text),.int .i64 pe.place,.int .i64 pe.fr,.int .i64 pe.behind],u.oneCell'=true:=one_let ⟨tk,pe⟩
 have h63:S'.ls.length+1≤maxLen:=by unfold maxLen;omega
 have hnb:=Blk.new w6 #[.int .i64 (kindP tk.text),.int .i64 tk.at',.string (bsOf tk.text),.int .i64 pe.place,.int .i64 pe.fr,.int .i64 pe.behind] 113
 have hnews:∀ j u,[Value.int .i64 (kindP tk.text),.int .i64 tk.at',.string (bsOf tk.text),.int .i64 pe.place,.int .i64 pe.fr,.int .i64 pe.behind][j]?=some u→((w6.alloc (.cells #[.int .i64 (kindP tk.text),.int .i64 tk.at',.string (bsOf tk.text),.int .i64 pe.place,.int .i64 pe.fr,.int .i64 pe.behind] 113)).drew).cell? ((⟨w6.heap.size,0,none⟩:Addr).add j)=some u:=World.news_of_block (cs:=#[.int .i64 (kindP tk.text),.int .i64 tk.at',.string (bsOf tk.text),.int .i64 pe.place,.int .i64 pe.fr,.int .i64 pe.behind]) (t:=113) (fr:=(0,0)) hnb
 clear hcond hlv hrv hls' hrs hR
 go_region_law ((refine step_append_lies _ (by rfl) _ _ _ (by rfl) (B+1) 113 i0 _ 6 56 Tryz.underlying61 hi hz0 hz1 hz2 rfl (by omega) S'.lv S'.ls.length (cellsLt S'.ls) (by rfl) HW.out.olt ⟨w6.heap.size,0,none⟩ 1 1 [.int .i64 (kindP tk.text),.int .i64 tk.at',.string (bsOf tk.text),.int .i64 pe.place,.int .i64 pe.fr,.int .i64 pe.behind] (by rfl) (by rfl) hnews hone (by omega) h63 (by omega) (by simp <;> omega) (w6.heap.size+1) (by simp) ?_;intro gg cap w7 hown7 hgrow hat hlt7;have f7:w7.frozen? ⟨B,5,none⟩=false:=(hgrow.frozen_far _ (by simp <;> omega) (Ne.symm hneB)).trans (HW.out.blk.free 5);have c7:w7.cell? ⟨B,5,none⟩=some S'.lv:=(hgrow.cell_far _ (by simp <;> omega) (Ne.symm hneB)).trans (HW.out.blk.cell 5)))
 all_goals
  have R:=rd_let (n:=⟨tk,pe⟩) HW.out hown7 hgrow
  have HB7:=hideP ((HU6.out.kp.below (by have:=HU.out.lt;omega)).trans ((below_drewN ((Below.refl B w6).alloc (Nat.le_of_lt hB6) _) 1).trans R.2))
  have HRR:=hideP R.1
  clear R hnews hnb hone hown7 hgrow
  go_wp2
  refine bodyPost_end (results_none rfl _ _ _) rfl ⟨rfl,HB7.out, ?_⟩
  rcases HCOND.out with ⟨j,nv,ns,⟨s,rest,g1,g2,rfl,rfl,g3⟩,hS⟩ | ⟨j,nv,ns,hbad,hS⟩
  ·refine .inl ⟨s,rest,nv,.slice (some ⟨gg,0,none⟩) (S'.ls.length+1) cap,g1,g2, ?_⟩
   have:=HRR.out
   rw[g3]
   subst hS
   exact this
  ·refine .inr ⟨j,nv,.slice (some ⟨gg,0,none⟩) (S'.ls.length+1) cap,ns,⟨tk,pe⟩,hbad, ?_⟩
   have:=HRR.out
   subst hS
   exact this
end Go.Proofs.YtgfnkeiigjholaaGreatDoor
