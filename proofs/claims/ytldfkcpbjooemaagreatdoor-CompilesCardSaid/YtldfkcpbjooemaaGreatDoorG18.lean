/-
  The document's Check, called on any text: the errors and their places.
-/
import Derived.Test.YtldfkcpbjooemaaGreatDoorG17
import Derived.Test.YtldfkcpbjooemaaGreatDoorProg
import Derived.Test.YtldfkcpbjooemaaGreatDoorG00
import Derived.Test.YtldfkcpbjooemaaGreatDoorG09
set_option linter.unusedVariables false
set_option linter.unusedSimpArgs false
namespace Go.Proofs.YtldfkcpbjooemaaGreatDoor
open Go.RowKit Go.Deep
def checkOf (L R:List RSt):Int × Int:=match namesGo [] [] [] (toksL (L++R)) with
 | some p=>(4,p)
 | none=>match wrongT L R with
  | some p=>(5,p)
  | none=>if bigT L R then (6,0) else (0,0)
structure ReadAs (s:Txt) (L R:List RSt):Prop where
 fine:tokened s=.fine (toksL (L++R))
 lets:isLetL L
 rules:isRuleL R
 wf:∀ x∈L++R,x.wf
theorem filter_lets {L R:List RSt} (hL:isLetL L) (hR:isRuleL R):(L++R).filter RSt.isLet=L∧(L++R).filter (fun s=>!s.isLet)=R:=by
 constructor
 ·rw[List.filter_append,List.filter_eq_self.2 hL,List.filter_eq_nil_iff.2 (fun a ha=>by rw[hR a ha];simp),List.append_nil]
 ·rw[List.filter_append,List.filter_eq_nil_iff.2 (fun a ha=>by rw[hL a ha];simp),List.filter_eq_self.2 (fun a ha=>by rw[hR a ha];rfl),List.nil_append]
theorem fine_facts {s:Txt} {l:List RTok} (h:tokened s=.fine l):(∀ t∈l,t.text≠[]):=by
 unfold tokened at h
 split at h
 ·cases h
 ·cases ht:toksR s 0 with
  | error p=>rw[ht] at h;cases h
  | ok l' =>
   rw[ht] at h
   simp only at h
   cases hg:goS ⟨0,0,0⟩ l' with
   | error p=>rw[hg] at h;cases h
   | ok q =>
    rw[hg] at h
    simp only at h
    split at h
    ·cases h
     exact toks_nonempty ht
    ·cases h
theorem mem_toksL {L:List RSt} {x:RSt} (hx:x∈L):(∀ t∈x.body,t∈toksL L)∧x.body.length≤(toksL L).length:=by
 induction L with
 | nil=>cases hx
 | cons a r ih =>
  rw[toksL_cons]
  simp only[List.mem_cons] at hx
  rcases hx with rfl | hx
  ·exact ⟨fun t ht=>by simp[RSt.toks,ht],by simp only[RSt.toks,List.length_append];omega⟩
  ·exact ⟨fun t ht=>by simp[(ih hx).1 t ht],by have:=(ih hx).2;simp;omega⟩
abbrev pol0:Obj:=.cells #[.slice none 0 0,.slice none 0 0,.slice none 0 0] 44
theorem two_blk {w w1:World} (h:Below ((w.alloc pol0).alloc pol0).heap.size ((w.alloc pol0).alloc pol0) w1) :
  (w1.cell? ⟨w.heap.size,0,none⟩=some (.slice none 0 0)∧w1.cell? ⟨w.heap.size,1,none⟩=some (.slice none 0 0)∧w1.cell? ⟨w.heap.size,2,none⟩=some (.slice none 0 0)) ∧
  (w1.cell? ⟨w.heap.size+1,0,none⟩=some (.slice none 0 0)∧w1.cell? ⟨w.heap.size+1,1,none⟩=some (.slice none 0 0)∧w1.cell? ⟨w.heap.size+1,2,none⟩=some (.slice none 0 0)) ∧
  (w1.frozen? ⟨w.heap.size,0,none⟩=false∧w1.frozen? ⟨w.heap.size,1,none⟩=false∧w1.frozen? ⟨w.heap.size,2,none⟩=false)∧Below w.heap.size w w1∧w.heap.size+2≤w1.heap.size:=by
 have b0:Blk w1 w.heap.size #[.slice none 0 0,.slice none 0 0,.slice none 0 0] 44:=((Blk.new w _ _).alloc pol0).below h (by simp;omega)
 have b1:Blk w1 (w.heap.size+1) #[.slice none 0 0,.slice none 0 0,.slice none 0 0] 44:=by
  have:=Blk.new (w.alloc pol0) #[.slice none 0 0,.slice none 0 0,.slice none 0 0] 44
  rw[World.size_alloc] at this
  exact this.below h (by simp)
 exact ⟨⟨b0.cell 0,b0.cell 1,b0.cell 2⟩,⟨b1.cell 0,b1.cell 1,b1.cell 2⟩,⟨b0.free 0,b0.free 1,b0.free 2⟩,(((Below.refl w.heap.size w).alloc (Nat.le_refl _) pol0).alloc (by simp) pol0).trans (h.mono (by simp;omega)),by have:=h.size;simp at this;omega⟩
theorem three_set {w w1:World} (h:Below w.heap.size w w1) (a b c:Value):Below w.heap.size w (((w1.setCell ⟨w.heap.size,0,none⟩ a).setCell ⟨w.heap.size,1,none⟩ b).setCell ⟨w.heap.size,2,none⟩ c) :=
 ((h.setCell (p:=⟨w.heap.size,0,none⟩) (Nat.le_refl _) a).setCell (p:=⟨w.heap.size,1,none⟩) (Nat.le_refl _) b).setCell (p:=⟨w.heap.size,2,none⟩) (Nat.le_refl _) c
set_option maxHeartbeats 1000000 in
theorem Check_bad (s:ByteArray) (w:World) (c:Int) (p:Nat) (hb:tokened s.toList=.bad c p) (hc:c≠0) :
  Calls Tryz.prog 14 #[.string s] w fun e w'=>(∃ a1 l1 c1 a2 l2 c2 a3 l3 c3,e=.returned (.tuple #[.agg #[.slice a1 l1 c1,.slice a2 l2 c2,.slice a3 l3 c3],.int .i64 c,.int .i64 p]))∧Below w.heap.size w w':=by
 have HB:Hid (tokened s.toList=.bad c p):=hb
 clear hb
 go_enter Tryz.func14,Tryz.ntmps14
 go_wp2_with (go_at_call 27;refine (Tokened_any s _).mono ?_;rintro e w1 ⟨hb1,⟨l,v,htk,_⟩ | ⟨c',p',htk,rfl⟩⟩;(rw[HB.out] at htk;cases htk);rw[HB.out] at htk;cases htk;obtain ⟨⟨a0,a1,a2⟩,⟨b0,b1,b2⟩,⟨f0,f1,f2⟩,hbw,hsz⟩:=two_blk hb1)
 exact bodyPost_ret (v:=.tuple #[.agg #[.slice none 0 0,.slice none 0 0,.slice none 0 0],.int .i64 c,.int .i64 p]) (by simp[results,Tryz.results14,go_sem,a0,a1,a2]) rfl ⟨⟨_,_,_,_,_,_,_,_,_,rfl⟩,three_set hbw _ _ _⟩
theorem RdO.below {w w':World} {v:Value} (hb:Below w.heap.size w w'):∀ {o:Option Tr},RdO w v o→RdO w' v o
 | none,h=>h
 | some _,h=>Reads.below h hb
theorem StmOk.below {w w':World} (hb:Below w.heap.size w w') (s:Stm) (r:RSt) (h:StmOk w s r):StmOk w' s r:=by
 rcases r.cases with ⟨kw,name,eq,e,semi,rfl⟩ | ⟨wh,act,sc,semi,rfl⟩
 ·exact ⟨h.1,Reads.below h.2.1 hb,h.2.2⟩
 ·exact ⟨h.1,h.2.1,RdO.below hb h.2.2.1,RdO.below hb h.2.2.2⟩
theorem two_blk' {w w1 w2:World} (h:Below ((w.alloc pol0).alloc pol0).heap.size ((w.alloc pol0).alloc pol0) w1) (h2:Below w1.heap.size w1 w2):Below ((w.alloc pol0).alloc pol0).heap.size ((w.alloc pol0).alloc pol0) w2:=h.trans (h2.mono h.size)
theorem len_toksL (L:List RSt):L.length≤(toksL L).length:=by
 induction L with
 | nil=>simp
 | cons a r ih=>rw[toksL_cons,List.length_append,a.toks_length,List.length_cons];omega
theorem lens {L R:List RSt} (h:(toksL (L++R)).length≤400):L.length≤400∧R.length≤400:=by
 have h1:=len_toksL L
 have h2:=len_toksL R
 rw[toksL_append,List.length_append] at h
 omega
theorem all_ok {s:Txt} {L R:List RSt} (h:ReadAs s L R) (htx:∀ t∈toksL (L++R),t.text≠[]) (hl:(toksL (L++R)).length≤400):∀ x∈L++R,x.short∧x.wf∧x.texts:=by
 intro x hx
 have:=mem_toksL hx
 exact ⟨Nat.le_trans this.2 hl,h.wf x hx,fun t ht=>htx t (this.1 t ht)⟩
set_option maxHeartbeats 1000000 in
theorem Check_fine (s:ByteArray) (w:World) (L R:List RSt) (h:ReadAs s.toList L R) (hne:0 < (toksL (L++R)).length) :
  Calls Tryz.prog 14 #[.string s] w fun e w'=>(∃ a1 l1 c1 a2 l2 c2 a3 l3 c3,e=.returned (.tuple #[.agg #[.slice a1 l1 c1,.slice a2 l2 c2,.slice a3 l3 c3],.int .i64 (checkOf L R).1,.int .i64 (checkOf L R).2]))∧Below w.heap.size w w':=by
 have HF:Hid (ReadAs s.toList L R):=h
 have htx:=fine_facts h.fine
 have HFL:=filter_lets h.lets h.rules
 have HFLH:Hid ((L++R).filter RSt.isLet=L∧(L++R).filter (fun s=>!s.isLet)=R):=HFL
 have HTX:Hid (∀ t∈toksL (L++R),t.text≠[]):=htx
 clear h htx HFL
 cases hn:namesGo [] [] [] (toksL (L++R)) with
 | some q =>
  have hck:checkOf L R=(4,(q:Int)):=by simp only[checkOf,hn]
  have HN:Hid (namesGo [] [] [] (toksL (L++R))=some q):=hn
  rw[hck]
  clear hn hck
  go_enter Tryz.func14,Tryz.ntmps14
  go_wp2_with (first | (go_at_call 27;refine (Tokened_any s _).mono ?_;rintro e w1 ⟨hb1,⟨l,v,htk,hl4,rfl,hown⟩ | ⟨c',p',htk,_⟩⟩;rotate_left;(rw[HF.out.fine] at htk;cases htk);rw[HF.out.fine] at htk;cases htk;have HRD:Hid (Reads w1 v (toksL (L++R)).length (cellsR (toksL (L++R)))):=reads_of_own hown) | (go_at_call 33;refine (names_ref _ HTX.out _ _ hne hl4 HRD.out).mono ?_;rintro e w2 ⟨rfl,hb2⟩;rw[HN.out];simp only[placeV];obtain ⟨⟨a0,a1,a2⟩,⟨b0,b1,b2⟩,⟨f0,f1,f2⟩,hbw,hsz⟩:=two_blk (two_blk' hb1 hb2)))
  exact bodyPost_ret (v:=.tuple #[.agg #[.slice none 0 0,.slice none 0 0,.slice none 0 0],.int .i64 4,.int .i64 q]) (by simp[results,Tryz.results14,go_sem,a0,a1,a2]) rfl ⟨⟨_,_,_,_,_,_,_,_,_,rfl⟩,three_set hbw _ _ _⟩
 | none =>
  have HN:Hid (namesGo [] [] [] (toksL (L++R))=none):=hn
  clear hn
  cases hwr:wrongT L R with
  | some q =>
   have hck:checkOf L R=(5,(q:Int)):=by simp only[checkOf,HN.out,hwr]
   have HWR:Hid (wrongT L R=some q):=hwr
   rw[hck]
   clear hwr hck
   go_enter Tryz.func14,Tryz.ntmps14
   go_wp2_with (first | (go_at_call 27;refine (Tokened_any s _).mono ?_;rintro e w1 ⟨hb1,⟨l,v,htk,hl4,rfl,hown⟩ | ⟨c',p',htk,_⟩⟩;rotate_left;(rw[HF.out.fine] at htk;cases htk);rw[HF.out.fine] at htk;cases htk;have HRD:Hid (Reads w1 v (toksL (L++R)).length (cellsR (toksL (L++R)))):=reads_of_own hown;have HLN:=lens hl4;have HALL:Hid (∀ x∈L++R,x.short∧x.wf∧x.texts):=all_ok HF.out HTX.out hl4) | (go_at_call 33;refine (names_ref _ HTX.out _ _ hne hl4 HRD.out).mono ?_;rintro e w2 ⟨rfl,hb2⟩;rw[HN.out];simp only[placeV];have HRD2:Hid (Reads w2 v (toksL (L++R)).length (cellsR (toksL (L++R)))):=HRD.out.below hb2) | (go_at_call 28;refine (Statements_any (L++R) HF.out.wf _ _ hne hl4 HRD2.out).mono ?_;rintro e w3 ⟨ls,rs,lv,rv,rfl,ho1,ho2,hal,har,hb3⟩;rw[HFLH.out.1] at hal;rw[HFLH.out.2] at har;have HAL:Hid (All2 (StmOk w3) ls L):=hal.mono (StmOk.below hb3);have HAR:Hid (All2 (StmOk w3) rs R):=har.mono (StmOk.below hb3);have HLV:Hid (Reads w3 lv ls.length (cellsS ls)):=reads_of_own ho1;have HRV:Hid (Reads w3 rv rs.length (cellsS rs)):=reads_of_own ho2;have hls4:ls.length≤400:=(by rw[HAL.out.len];exact HLN.1);have hrs4:rs.length≤400:=(by rw[HAR.out.len];exact HLN.2);clear hal har ho1 ho2) | (go_at_call 34;refine (wrong_any ls rs L R HF.out.lets HF.out.rules (fun x hx=>HALL.out x (List.mem_append_left _ hx)) (fun x hx=>HALL.out x (List.mem_append_right _ hx)) _ _ _ HAL.out HAR.out hls4 hrs4 HLV.out HRV.out).mono ?_;rintro e w4 ⟨rfl,hb4⟩;rw[HWR.out];simp only[placeV];obtain ⟨⟨a0,a1,a2⟩,⟨b0,b1,b2⟩,⟨f0,f1,f2⟩,hbw,hsz⟩:=two_blk (two_blk' (two_blk' (two_blk' hb1 hb2) hb3) hb4)))
   exact bodyPost_ret (v:=.tuple #[.agg #[.slice none 0 0,.slice none 0 0,.slice none 0 0],.int .i64 5,.int .i64 q]) (by simp[results,Tryz.results14,go_sem,a0,a1,a2]) rfl ⟨⟨_,_,_,_,_,_,_,_,_,rfl⟩,three_set hbw _ _ _⟩
  | none =>
   have HWR:Hid (wrongT L R=none):=hwr
   clear hwr
   cases hbg:bigT L R
   ·have hck:checkOf L R=(0,0):=by simp only[checkOf,HN.out,HWR.out,hbg];rfl
    have HBG:Hid (bigT L R=false):=hbg
    rw[hck]
    clear hbg hck
    go_enter Tryz.func14,Tryz.ntmps14
    go_wp2_with (first | (go_at_call 27;refine (Tokened_any s _).mono ?_;rintro e w1 ⟨hb1,⟨l,v,htk,hl4,rfl,hown⟩ | ⟨c',p',htk,_⟩⟩;rotate_left;(rw[HF.out.fine] at htk;cases htk);rw[HF.out.fine] at htk;cases htk;have HRD:Hid (Reads w1 v (toksL (L++R)).length (cellsR (toksL (L++R)))):=reads_of_own hown;have HLN:=lens hl4;have HALL:Hid (∀ x∈L++R,x.short∧x.wf∧x.texts):=all_ok HF.out HTX.out hl4) | (go_at_call 33;refine (names_ref _ HTX.out _ _ hne hl4 HRD.out).mono ?_;rintro e w2 ⟨rfl,hb2⟩;rw[HN.out];simp only[placeV];have HRD2:Hid (Reads w2 v (toksL (L++R)).length (cellsR (toksL (L++R)))):=HRD.out.below hb2) | (go_at_call 28;refine (Statements_any (L++R) HF.out.wf _ _ hne hl4 HRD2.out).mono ?_;rintro e w3 ⟨ls,rs,lv,rv,rfl,ho1,ho2,hal,har,hb3⟩;rw[HFLH.out.1] at hal;rw[HFLH.out.2] at har;have HAL:Hid (All2 (StmOk w3) ls L):=hal.mono (StmOk.below hb3);have HAR:Hid (All2 (StmOk w3) rs R):=har.mono (StmOk.below hb3);have HLV:Hid (Reads w3 lv ls.length (cellsS ls)):=reads_of_own ho1;have HRV:Hid (Reads w3 rv rs.length (cellsS rs)):=reads_of_own ho2;have hls4:ls.length≤400:=(by rw[HAL.out.len];exact HLN.1);have hrs4:rs.length≤400:=(by rw[HAR.out.len];exact HLN.2);clear hal har ho1 ho2;obtain ⟨la,lc,rfl⟩:=HLV.out.shape;obtain ⟨ra,rc,rfl⟩:=HRV.out.shape) | (go_at_call 34;refine (wrong_any ls rs L R HF.out.lets HF.out.rules (fun x hx=>HALL.out x (List.mem_append_left _ hx)) (fun x hx=>HALL.out x (List.mem_append_right _ hx)) _ _ _ HAL.out HAR.out hls4 hrs4 HLV.out HRV.out).mono ?_;rintro e w4 ⟨rfl,hb4⟩;rw[HWR.out];simp only[placeV]) | (go_at_call 35;refine (big_any ls rs L R HF.out.lets HF.out.rules (fun x hx=>(HALL.out x (List.mem_append_left _ hx)).1) (fun x hx=>(HALL.out x (List.mem_append_right _ hx)).1) _ _ _ (HAL.out.mono (StmOk.below hb4)) (HAR.out.mono (StmOk.below hb4)) hls4 hrs4 (HLV.out.below hb4) (HRV.out.below hb4)).mono ?_;rintro e w5 ⟨rfl,hb5⟩;rw[HBG.out];obtain ⟨⟨a0,a1,a2⟩,⟨b0,b1,b2⟩,⟨f0,f1,f2⟩,hbw,hsz⟩:=two_blk (two_blk' (two_blk' (two_blk' (two_blk' hb1 hb2) hb3) hb4) hb5)))
    exact bodyPost_ret (v:=.tuple #[.agg #[.slice la ls.length lc,.slice none 0 0,.slice ra rs.length rc],.int .i64 0,.int .i64 0]) (by simp[results,Tryz.results14,go_sem,a0,a1,a2]) rfl ⟨⟨_,_,_,_,_,_,_,_,_,rfl⟩,three_set hbw _ _ _⟩
   ·have hck:checkOf L R=(6,0):=by simp only[checkOf,HN.out,HWR.out,hbg];rfl
    have HBG:Hid (bigT L R=true):=hbg
    rw[hck]
    clear hbg hck
    go_enter Tryz.func14,Tryz.ntmps14
    go_wp2_with (first | (go_at_call 27;refine (Tokened_any s _).mono ?_;rintro e w1 ⟨hb1,⟨l,v,htk,hl4,rfl,hown⟩ | ⟨c',p',htk,_⟩⟩;rotate_left;(rw[HF.out.fine] at htk;cases htk);rw[HF.out.fine] at htk;cases htk;have HRD:Hid (Reads w1 v (toksL (L++R)).length (cellsR (toksL (L++R)))):=reads_of_own hown;have HLN:=lens hl4;have HALL:Hid (∀ x∈L++R,x.short∧x.wf∧x.texts):=all_ok HF.out HTX.out hl4) | (go_at_call 33;refine (names_ref _ HTX.out _ _ hne hl4 HRD.out).mono ?_;rintro e w2 ⟨rfl,hb2⟩;rw[HN.out];simp only[placeV];have HRD2:Hid (Reads w2 v (toksL (L++R)).length (cellsR (toksL (L++R)))):=HRD.out.below hb2) | (go_at_call 28;refine (Statements_any (L++R) HF.out.wf _ _ hne hl4 HRD2.out).mono ?_;rintro e w3 ⟨ls,rs,lv,rv,rfl,ho1,ho2,hal,har,hb3⟩;rw[HFLH.out.1] at hal;rw[HFLH.out.2] at har;have HAL:Hid (All2 (StmOk w3) ls L):=hal.mono (StmOk.below hb3);have HAR:Hid (All2 (StmOk w3) rs R):=har.mono (StmOk.below hb3);have HLV:Hid (Reads w3 lv ls.length (cellsS ls)):=reads_of_own ho1;have HRV:Hid (Reads w3 rv rs.length (cellsS rs)):=reads_of_own ho2;have hls4:ls.length≤400:=(by rw[HAL.out.len];exact HLN.1);have hrs4:rs.length≤400:=(by rw[HAR.out.len];exact HLN.2);clear hal har ho1 ho2) | (go_at_call 34;refine (wrong_any ls rs L R HF.out.lets HF.out.rules (fun x hx=>HALL.out x (List.mem_append_left _ hx)) (fun x hx=>HALL.out x (List.mem_append_right _ hx)) _ _ _ HAL.out HAR.out hls4 hrs4 HLV.out HRV.out).mono ?_;rintro e w4 ⟨rfl,hb4⟩;rw[HWR.out];simp only[placeV]) | (go_at_call 35;refine (big_any ls rs L R HF.out.lets HF.out.rules (fun x hx=>(HALL.out x (List.mem_append_left _ hx)).1) (fun x hx=>(HALL.out x (List.mem_append_right _ hx)).1) _ _ _ (HAL.out.mono (StmOk.below hb4)) (HAR.out.mono (StmOk.below hb4)) hls4 hrs4 (HLV.out.below hb4) (HRV.out.below hb4)).mono ?_;rintro e w5 ⟨rfl,hb5⟩;rw[HBG.out];obtain ⟨⟨a0,a1,a2⟩,⟨b0,b1,b2⟩,⟨f0,f1,f2⟩,hbw,hsz⟩:=two_blk (two_blk' (two_blk' (two_blk' (two_blk' hb1 hb2) hb3) hb4) hb5)))
    exact bodyPost_ret (v:=.tuple #[.agg #[.slice none 0 0,.slice none 0 0,.slice none 0 0],.int .i64 6,.int .i64 0]) (by simp[results,Tryz.results14,go_sem,a0,a1,a2]) rfl ⟨⟨_,_,_,_,_,_,_,_,_,rfl⟩,three_set hbw _ _ _⟩
end Go.Proofs.YtldfkcpbjooemaaGreatDoor
namespace Go.Proofs.YtldfkcpbjooemaaGreatDoor
open Go.RowKit Go.Deep
structure PolD (w:World) (lv rv:Value) (ls rs:List Stm) (L R:List RSt):Prop where
 lv:Reads w lv ls.length (cellsS ls)
 rv:Reads w rv rs.length (cellsS rs)
 al:All2 (StmOk w) ls L
 ar:All2 (StmOk w) rs R
structure KeepAb (a:Nat) (w wx:World):Prop where
 size:w.heap.size≤wx.heap.size
 block:∀ g,a≤g→g < w.heap.size→wx.heap[g]?=w.heap[g]?
theorem KeepAb.refl (a:Nat) (w:World):KeepAb a w w:=⟨Nat.le_refl _,fun _ _ _=>rfl⟩
theorem KeepAb.of {a:Nat} {w wx:World} (h:Below w.heap.size w wx):KeepAb a w wx:=⟨h.size,fun g _ hg=>h.block g hg⟩
theorem KeepAb.trans {a:Nat} {w w1 w2:World} (h:KeepAb a w w1) (k:KeepAb a w1 w2):KeepAb a w w2:=⟨Nat.le_trans h.size k.size,fun g h1 h2=>(k.block g h1 (Nat.lt_of_lt_of_le h2 h.size)).trans (h.block g h1 h2)⟩
def PolS (a:Nat) (w:World) (lv rv:Value) (ls rs:List Stm) (L R:List RSt):Prop:=∀ wx,KeepAb a w wx→PolD wx lv rv ls rs L R
theorem PolS.on {a:Nat} {w w1:World} {lv rv:Value} {ls rs:List Stm} {L R:List RSt} (h:PolS a w lv rv ls rs L R) (k:KeepAb a w w1):PolS a w1 lv rv ls rs L R:=fun wx kx=>h wx (k.trans kx)
theorem cell_keep {a:Nat} {w wx:World} (k:KeepAb a w wx) {g o:Nat} (h1:a≤g) (h2:g < w.heap.size):wx.cell? ⟨g,o,none⟩=w.cell? ⟨g,o,none⟩:=by
 unfold World.cell?
 rw[k.block g h1 h2]
theorem reads_keep {a:Nat} {w wx:World} (k:KeepAb a w wx) {v:Value} {n:Nat} {xs:List Value} (hb:∀ g,v.ownBlock=some g→a≤g) (h:Reads w v n xs):Reads wx v n xs:=by
 rcases h with h | ⟨g,o,cap,rfl,hn,hlt,hc⟩
 ·exact .inl h
 ·have ha:a≤g:=hb g rfl
  exact .inr ⟨g,o,cap,rfl,hn,Nat.lt_of_lt_of_le hlt k.size,fun j u hj=>(cell_keep k ha hlt).trans (hc j u hj)⟩
theorem inb_own {g:Nat} {v:Value} (h:InB1 g v) {a:Nat} (ha:a≤g):∀ k,v.ownBlock=some k→a≤k:=by
 intro k hk
 rcases h with rfl | ⟨o,n,c,rfl⟩
 ·cases hk
 ·cases hk;exact ha
theorem rdo_keep {a:Nat} {w wx:World} (k:KeepAb a w wx) {v:Value} (hb:∀ g,v.ownBlock=some g→a≤g):∀ {o:Option Tr},RdO w v o→RdO wx v o
 | none,h=>h
 | some _,h=>reads_keep k hb h
theorem stm_keep {a g:Nat} {w wx:World} (k:KeepAb a w wx) (ha:a≤g) {s:Stm} (hb:InB g s) {r:RSt} (h:StmOk w s r):StmOk wx s r:=by
 rcases r.cases with ⟨kw,name,eq,e,semi,rfl⟩ | ⟨wh,act,sc,semi,rfl⟩
 ·exact ⟨h.1,reads_keep k (inb_own hb.1 ha) h.2.1,h.2.2⟩
 ·exact ⟨h.1,h.2.1,rdo_keep k (inb_own hb.2.1 ha) h.2.2.1,rdo_keep k (inb_own hb.2.2 ha) h.2.2.2⟩
theorem all2_keep {α β:Type} {P Q:α→β→Prop}:∀ {xs:List α} {bs:List β},(∀ x∈xs,∀ b,P x b→Q x b)→All2 P xs bs→All2 Q xs bs
 | [],[],_,_=>trivial
 | _ :: _,_ :: _,h,⟨h1,h2⟩=>⟨h _ (by simp) _ h1,all2_keep (fun x hx=>h x (List.mem_cons_of_mem _ hx)) h2⟩
theorem pols_of {a g:Nat} {w:World} {lv rv:Value} {ls rs:List Stm} {L R:List RSt} (h:PolD w lv rv ls rs L R) (h1:∀ k,lv.ownBlock=some k→a≤k) (h2:∀ k,rv.ownBlock=some k→a≤k) (hg:a≤g) (hb:∀ s,s∈ls∨s∈rs→InB g s):PolS a w lv rv ls rs L R:=fun wx k =>
 ⟨reads_keep k h1 h.lv,reads_keep k h2 h.rv,all2_keep (fun s hs r hr=>stm_keep k hg (hb s (.inl hs)) hr) h.al,all2_keep (fun s hs r hr=>stm_keep k hg (hb s (.inr hs)) hr) h.ar⟩
theorem set3_keep {a b:Nat} {w:World} (h:b < a) (u0 u1 u2:Value):KeepAb a w (((w.setCell ⟨b,0,none⟩ u0).setCell ⟨b,1,none⟩ u1).setCell ⟨b,2,none⟩ u2):=by
 refine ⟨by simp,fun g h1 h2=>?_⟩
 have hne:g≠b:=by omega
 rw[Below.heap_setCell _ _ _ _ hne,Below.heap_setCell _ _ _ _ hne,Below.heap_setCell _ _ _ _ hne]
theorem base_two {w:World}:((w.alloc pol0).alloc pol0).heap.size=w.heap.size+2:=by simp
set_option maxHeartbeats 1000000 in
theorem Check_pol (s:ByteArray) (w:World) (L R:List RSt) (h:ReadAs s.toList L R) (hne:0 < (toksL (L++R)).length) (hok:checkOf L R=(0,0)) :
  Calls Tryz.prog 14 #[.string s] w fun e w'=>∃ ls rs la lc ra rc,e=.returned (.tuple #[.agg #[.slice la ls.length lc,.slice none 0 0,.slice ra rs.length rc],.int .i64 0,.int .i64 0])∧Below w.heap.size w w'∧PolS (w.heap.size+1) w' (.slice la ls.length lc) (.slice ra rs.length rc) ls rs L R:=by
 have HF:Hid (ReadAs s.toList L R):=h
 have htx:=fine_facts h.fine
 have HFLH:Hid ((L++R).filter RSt.isLet=L∧(L++R).filter (fun s=>!s.isLet)=R):=filter_lets h.lets h.rules
 have HTX:Hid (∀ t∈toksL (L++R),t.text≠[]):=htx
 clear h htx
 unfold checkOf at hok
 cases hn:namesGo [] [] [] (toksL (L++R)) with
 | some q=>rw[hn] at hok;cases hok
 | none =>
  rw[hn] at hok
  simp only at hok
  have HN:Hid (namesGo [] [] [] (toksL (L++R))=none):=hn
  clear hn
  cases hwr:wrongT L R with
  | some q=>rw[hwr] at hok;cases hok
  | none =>
   rw[hwr] at hok
   simp only at hok
   have HWR:Hid (wrongT L R=none):=hwr
   clear hwr
   cases hbg:bigT L R with
   | true=>rw[hbg] at hok;cases hok
   | false =>
    have HBG:Hid (bigT L R=false):=hbg
    clear hbg hok
    go_enter Tryz.func14,Tryz.ntmps14
    go_wp2_with (first | (go_at_call 27;refine (Tokened_any s _).mono ?_;rintro e w1 ⟨hb1,⟨l,v,htk,hl4,rfl,hown⟩ | ⟨c',p',htk,_⟩⟩;rotate_left;(rw[HF.out.fine] at htk;cases htk);rw[HF.out.fine] at htk;cases htk;obtain ⟨g0,o0,cap0,hv0,_,_,_⟩:=(reads_of_own hown).pos hne;subst hv0;have HG0:Hid (w.heap.size+2≤g0):=(by have:=(hown.lt g0 rfl).1;rw[base_two] at this;exact this:w.heap.size+2≤g0);have HRD:Hid (Reads w1 (.slice (some ⟨g0,o0,none⟩) (toksL (L++R)).length cap0) (toksL (L++R)).length (cellsR (toksL (L++R)))):=reads_of_own hown;have HLN:=lens hl4;have HALL:Hid (∀ x∈L++R,x.short∧x.wf∧x.texts):=all_ok HF.out HTX.out hl4) | (go_at_call 33;refine (names_ref _ HTX.out _ _ hne hl4 HRD.out).mono ?_;rintro e w2 ⟨rfl,hb2⟩;rw[HN.out];simp only[placeV];have HRD2:Hid (Reads w2 (.slice (some ⟨g0,o0,none⟩) (toksL (L++R)).length cap0) (toksL (L++R)).length (cellsR (toksL (L++R)))):=HRD.out.below hb2) | (go_at_call 28;refine (Statements_blk (L++R) HF.out.wf g0 o0 cap0 _ hne hl4 HRD2.out).mono ?_;rintro e w3 ⟨ls,rs,lv,rv,rfl,ho1,ho2,hal,har,hb3,hinb⟩;have HINB:Hid (∀ s,s∈ls∨s∈rs→InB g0 s):=hinb;clear hinb;rw[HFLH.out.1] at hal;rw[HFLH.out.2] at har;have HAL:Hid (All2 (StmOk w3) ls L):=hal.mono (StmOk.below hb3);have HAR:Hid (All2 (StmOk w3) rs R):=har.mono (StmOk.below hb3);have HLV:Hid (Reads w3 lv ls.length (cellsS ls)):=reads_of_own ho1;have HRV:Hid (Reads w3 rv rs.length (cellsS rs)):=reads_of_own ho2;have hls4:ls.length≤400:=(by rw[HAL.out.len];exact HLN.1);have hrs4:rs.length≤400:=(by rw[HAR.out.len];exact HLN.2);have HOB:Hid (∀ k,(lv.ownBlock=some k∨rv.ownBlock=some k)→w.heap.size+2≤k):=(fun k hk=>by have h21:=hb2.size;have h10:=hb1.size;rw[base_two] at h10;(rcases hk with hk | hk);(have:=(ho1.lt k hk).1;omega);(have:=(ho2.lt k hk).1;omega));clear hal har ho1 ho2;obtain ⟨la,lc,rfl⟩:=HLV.out.shape;obtain ⟨ra,rc,rfl⟩:=HRV.out.shape) | (go_at_call 34;refine (wrong_any ls rs L R HF.out.lets HF.out.rules (fun x hx=>HALL.out x (List.mem_append_left _ hx)) (fun x hx=>HALL.out x (List.mem_append_right _ hx)) _ _ _ HAL.out HAR.out hls4 hrs4 HLV.out HRV.out).mono ?_;rintro e w4 ⟨rfl,hb4⟩;rw[HWR.out];simp only[placeV]) | (go_at_call 35;refine (big_any ls rs L R HF.out.lets HF.out.rules (fun x hx=>(HALL.out x (List.mem_append_left _ hx)).1) (fun x hx=>(HALL.out x (List.mem_append_right _ hx)).1) _ _ _ (HAL.out.mono (StmOk.below hb4)) (HAR.out.mono (StmOk.below hb4)) hls4 hrs4 (HLV.out.below hb4) (HRV.out.below hb4)).mono ?_;rintro e w5 ⟨rfl,hb5⟩;rw[HBG.out];obtain ⟨⟨a0,a1,a2⟩,⟨b0,b1,b2⟩,⟨f0,f1,f2⟩,hbw,hsz⟩:=two_blk (two_blk' (two_blk' (two_blk' (two_blk' hb1 hb2) hb3) hb4) hb5)))
    refine bodyPost_ret (v:=.tuple #[.agg #[.slice la ls.length lc,.slice none 0 0,.slice ra rs.length rc],.int .i64 0,.int .i64 0]) (by simp[results,Tryz.results14,go_sem,a0,a1,a2]) rfl ⟨ls,rs,la,lc,ra,rc,rfl,three_set hbw _ _ _, ?_⟩
    have hb35:Below w3.heap.size w3 w5:=hb4.trans (hb5.mono hb4.size)
    have hp5:PolD w5 (.slice la ls.length lc) (.slice ra rs.length rc) ls rs L R:=⟨HLV.out.below hb35,HRV.out.below hb35,HAL.out.mono (StmOk.below hb35),HAR.out.mono (StmOk.below hb35)⟩
    have hg0:=HG0.out
    exact (pols_of (a:=w.heap.size+1) hp5 (fun k hk=>by have:=HOB.out k (.inl hk);omega) (fun k hk=>by have:=HOB.out k (.inr hk);omega) (by omega) HINB.out).on (set3_keep (by omega) _ _ _)
end Go.Proofs.YtldfkcpbjooemaaGreatDoor
namespace Go.Proofs.YtldfkcpbjooemaaGreatDoor
open Go.RowKit
structure GlobT (w:World):Prop where
 words:∀ i (h:i < 19),w.cell? ⟨3,i,none⟩=some (.string (bsOf (tWords[i]'h)))
 signs:∀ i (h:i < 12),w.cell? ⟨4,i,none⟩=some (.string (bsOf (tSign[i]'h)))
 two:3 < w.heap.size∧4 < w.heap.size
theorem GlobT.below {w w':World} (h:GlobT w) (hb:Below w.heap.size w w'):GlobT w' :=
 ⟨fun i hi=>(hb.cell (p:=⟨3,i,none⟩) h.two.1).trans (h.words i hi),fun i hi=>(hb.cell (p:=⟨4,i,none⟩) h.two.2).trans (h.signs i hi),Nat.lt_of_lt_of_le h.two.1 hb.size,Nat.lt_of_lt_of_le h.two.2 hb.size⟩
set_option maxHeartbeats 400000 in
theorem isBlank_any (c:UInt8) (w:World) :
  Calls Tryz.prog 89 #[.int .u8 c.toNat] w fun e w'=>e=.returned (.bool (blankC c))∧w'=w:=by
 rw[blankC_int]
 go_enter Tryz.func89,Tryz.ntmps89
 go_wp2
 all_goals go_ret
 all_goals exact ⟨ret_bool (by simp_all),rfl⟩
theorem tw_snoc (p:UInt8→Bool):∀ (l:Txt) (k:Nat) (h:k < l.length),(∀ j (hj:j < k),p (l[j]'(by omega))=true)→(p l[k]=false→(l.takeWhile p).length=k)
 | a :: r,0,h,_,hk=>by have hk':p a=false:=hk;simp[List.takeWhile,hk']
 | a :: r,k+1,h,hall,hk=>by
  have ha:p a=true:=hall 0 (by omega)
  have:=tw_snoc p r k (by simpa using h) (fun j hj=>by have:=hall (j+1) (by omega);simpa using this) (by simpa using hk)
  simp[List.takeWhile,ha,this]
theorem tw_all (p:UInt8→Bool):∀ (l:Txt),(∀ j (hj:j < l.length),p l[j]=true)→(l.takeWhile p).length=l.length
 | [],_=>rfl
 | a :: r,hall=>by
  have ha:p a=true:=hall 0 (by simp)
  have:=tw_all p r (fun j hj=>by have:=hall (j+1) (by simpa using hj);simpa using this)
  simp[List.takeWhile,ha,this]
theorem get_toList (s:ByteArray) (k:Nat) (h:k < s.size) (h':k < s.toList.length):s.toList[k]=s[k]:=by
 have:=getElem_toList s k h
 rw[List.getElem?_eq_getElem h'] at this
 exact Option.some.inj this
theorem upto_succ {s:ByteArray} {k:Nat} {p:UInt8→Bool} {hlt:k < s.size} (h:∀ j (hj:j < k) (h2:j < s.size),p s[j]=true) (hk:p s[k]=true):∀ j (hj:j < k+1) (h2:j < s.size),p s[j]=true:=by
 intro j hj h2
 rcases Nat.lt_or_ge j k with h' | h'
 ·exact h j h' h2
 ·obtain rfl:j=k:=by omega
  exact hk
set_option maxHeartbeats 1000000 in
theorem digitRow_any (s:ByteArray) (hs:s.size≤400) (w:World) :
  Calls Tryz.prog 132 #[.string s] w fun e w'=>e=.returned (.int .i64 (digitRowT s.toList))∧w'=w:=by
 go_enter Tryz.func132,Tryz.ntmps132
 go_wp2
 go_loop [3] (fun i=>∃ k:Nat,k≤s.size∧i=.int .i64 k∧∀ j (hj:j < k) (h2:j < s.size),isDig s[j]=true) (fun i=>s.size - (intOf i).toNat)
 case atStart=>exact ⟨0,Nat.zero_le _,rfl,fun j hj=>by omega⟩
 case round =>
  obtain ⟨k,hk,rfl,hall⟩:=hrel
  have HA:Hid (∀ j (hj:j < k) (h2:j < s.size),isDig s[j]=true):=hall
  clear hall
  by_cases hlt:k < s.size
  ·cases hd:isDig s[k]
   ·have HD:Hid (isDig s[k]=false):=hd
    rw[isDig_int] at hd
    have hd2:((s[k].toNat:Int) < 48)∨((48:Int)≤s[k].toNat∧(57:Int) < s[k].toNat):=by simp at hd;omega
    clear hd
    have fin:Ending.returned (.int .i64 (k:Int))=.returned (.int .i64 (digitRowT s.toList)):=ret_int (by
     have:=tw_snoc isDig s.toList k (by rw[toList_length];exact hlt) (fun j hj=>by rw[get_toList s j (by omega)];exact HA.out j hj (by omega)) (by rw[get_toList s k hlt];exact HD.out)
     unfold digitRowT;rw[this])
    rcases hd2 with hd2 | ⟨hd2,hd3⟩
    ·go_wp2
     go_ret
     exact ⟨fin,rfl⟩
    ·go_wp2
     go_ret
     exact ⟨fin,rfl⟩
   ·have HD:Hid (isDig s[k]=true):=hd
    rw[isDig_int] at hd
    have hd2:(48:Int)≤s[k].toNat∧(s[k].toNat:Int)≤57:=by simpa using hd
    obtain ⟨hd2,hd3⟩:=hd2
    clear hd
    go_wp2
    go_round
    case rel=>exact ⟨k+1,by omega,by go_num,fun j hj h2=>upto_succ HA.out HD.out j hj h2⟩
    case measure=>simp[intOf];omega
  ·go_wp2
   go_ret
   exact ⟨ret_int (by unfold digitRowT;rw[tw_all isDig s.toList (fun j hj=>by rw[toList_length] at hj;rw[get_toList s j hj];exact HA.out j (by omega) hj),toList_length];omega),rfl⟩
set_option maxHeartbeats 1000000 in
theorem letterRow_any (s:ByteArray) (hs:s.size≤400) (w:World) :
  Calls Tryz.prog 133 #[.string s] w fun e w'=>e=.returned (.int .i64 (letterRowT s.toList))∧w'=w:=by
 go_enter Tryz.func133,Tryz.ntmps133
 go_wp2
 go_loop [3] (fun i=>∃ k:Nat,k≤s.size∧i=.int .i64 k∧∀ j (hj:j < k) (h2:j < s.size),isLet s[j]=true) (fun i=>s.size - (intOf i).toNat)
 case atStart=>exact ⟨0,Nat.zero_le _,rfl,fun j hj=>by omega⟩
 case round =>
  obtain ⟨k,hk,rfl,hall⟩:=hrel
  have HA:Hid (∀ j (hj:j < k) (h2:j < s.size),isLet s[j]=true):=hall
  clear hall
  by_cases hlt:k < s.size
  ·cases hd:isLet s[k]
   ·have HD:Hid (isLet s[k]=false):=hd
    rw[isLet_int] at hd
    have hd2:((s[k].toNat:Int) < 97)∨((97:Int)≤s[k].toNat∧(122:Int) < s[k].toNat):=by simp at hd;omega
    clear hd
    have fin:Ending.returned (.int .i64 (k:Int))=.returned (.int .i64 (letterRowT s.toList)):=ret_int (by
     have:=tw_snoc isLet s.toList k (by rw[toList_length];exact hlt) (fun j hj=>by rw[get_toList s j (by omega)];exact HA.out j hj (by omega)) (by rw[get_toList s k hlt];exact HD.out)
     unfold letterRowT;rw[this])
    rcases hd2 with hd2 | ⟨hd2,hd3⟩
    ·go_wp2
     go_ret
     exact ⟨fin,rfl⟩
    ·go_wp2
     go_ret
     exact ⟨fin,rfl⟩
   ·have HD:Hid (isLet s[k]=true):=hd
    rw[isLet_int] at hd
    have hd2:(97:Int)≤s[k].toNat∧(s[k].toNat:Int)≤122:=by simpa using hd
    obtain ⟨hd2,hd3⟩:=hd2
    clear hd
    go_wp2
    go_round
    case rel=>exact ⟨k+1,by omega,by go_num,fun j hj h2=>upto_succ HA.out HD.out j hj h2⟩
    case measure=>simp[intOf];omega
  ·go_wp2
   go_ret
   exact ⟨ret_int (by unfold letterRowT;rw[tw_all isLet s.toList (fun j hj=>by rw[toList_length] at hj;rw[get_toList s j hj];exact HA.out j (by omega) hj),toList_length];omega),rfl⟩
theorem wordGo_drop (t:Txt) (k:Nat) (h:k < tWords.length):wordGo (tWords.drop k) k t=if tWords[k]==t then 3+k else wordGo (tWords.drop (k+1)) (k+1) t:=by
 rw[List.drop_eq_getElem_cons h];rfl
set_option maxHeartbeats 1000000 in
theorem wordKind_any (s:ByteArray) (w:World) (hg:GlobT w) :
  Calls Tryz.prog 134 #[.string s] w fun e w'=>e=.returned (.int .i64 (wordKindT s.toList))∧w'=w:=by
 have HG:Hid (GlobT w):=hg
 clear hg
 go_enter Tryz.func134,Tryz.ntmps134
 go_wp2
 go_loop [3] (fun i=>∃ k:Nat,k≤19∧i=.int .i64 k∧wordKindT s.toList=wordGo (tWords.drop k) k s.toList) (fun i=>19 - (intOf i).toNat)
 case atStart=>exact ⟨0,Nat.zero_le _,rfl,rfl⟩
 case round =>
  obtain ⟨k,hk,rfl,hgo⟩:=hrel
  have HGO:Hid (wordKindT s.toList=wordGo (tWords.drop k) k s.toList):=hgo
  clear hgo
  by_cases hlt:k < 19
  ·have hc:=HG.out.words k hlt
   have HD:Hid (wordKindT s.toList=if tWords[k]'hlt==s.toList then 3+k else wordGo (tWords.drop (k+1)) (k+1) s.toList):=(by rw[HGO.out,wordGo_drop _ k hlt]:_=_)
   obtain ⟨d,hd⟩:∃ d,d=bsOf (tWords[k]'hlt):=⟨_,rfl⟩
   rw[← hd] at hc
   have HDT:Hid (tWords[k]'hlt=d.toList):=(by rw[hd,bsOf_toList]:tWords[k]'hlt=d.toList)
   clear hd
   cases heq:(d.toList==s.toList)
   ·go_wp2
    go_round
    case rel=>exact ⟨k+1,by omega,by go_num,by rw[HD.out,HDT.out,heq];simp⟩
    case measure=>simp[intOf];omega
   ·go_wp2
    go_ret
    exact ⟨ret_int (by rw[HD.out,HDT.out,heq];simp),rfl⟩
  ·go_wp2
   go_ret
   exact ⟨ret_int (by rw[HGO.out,List.drop_eq_nil_of_le (by show 19≤k;omega)];rfl),rfl⟩
end Go.Proofs.YtldfkcpbjooemaaGreatDoor
