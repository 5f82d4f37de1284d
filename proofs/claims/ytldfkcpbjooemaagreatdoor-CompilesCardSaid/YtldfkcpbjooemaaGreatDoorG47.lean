/-
  The document's worked: an operator between two operands.
-/
import Derived.Test.YtldfkcpbjooemaaGreatDoorG46
import Derived.Test.YtldfkcpbjooemaaGreatDoorG45
set_option linter.unusedVariables false
set_option linter.unusedSimpArgs false
namespace Go.Proofs.YtldfkcpbjooemaaGreatDoor
open Go.RowKit Go.Deep
set_option maxHeartbeats 2000000 in
set_option maxRecDepth 100000 in
theorem work_bin (l:List Stm) (L:List RSt) (x:Itm) (y:Bn) (t:Tr) (ht:t.wf) (op:RTok) (a b:Tr) (hs:t.strip=.bin op a b) (q:Int × Nat × Nat) (IB:BothOk l L x y (Tr.bin op a b).toks a.toks.length q) :
  WorkOk l L x y t.toks q.1 q.2.1 q.2.2:=by
 intro v w lv kv h0 h4 hv hlv hL
 have HSW:Hid (Tr.bin op a b).wf:=(hs ▸ t.strip_wf ht:(Tr.bin op a b).wf)
 have h4':(Tr.bin op a b).toks.length≤400:=by rw[← hs];exact Nat.le_trans t.strip_len h4
 have h00:0 < (Tr.bin op a b).toks.length:=(Tr.bin op a b).toks_pos
 have HRT:Hid (rootR (Tr.bin op a b).toks=a.toks.length):=root_bin op a b HSW.out
 have HQ:=Hid.mk2 (Bx4.start w lv kv x y)
 have HV:=Hid.mk2 hv
 have HLV:=Hid.mk2 hlv
 have HL:=Hid.mk2 hL
 have HS:=Hid.mk2 hs
 obtain ⟨q1,q2,q3⟩:=q
 simp only
 clear hv hlv hL hs
 unfold itmA bnA
 go_enter Tryz.func87,Tryz.ntmps87
 go_upto_region 1 with fail
 generalize (((w.alloc (.cells #[lv,kv] 42)).alloc (.cells #[.int .i64 x.size,.int .i64 x.speed,.int .i64 x.need] 26)).alloc (.cells #[.int .i64 y.id,.int .i64 y.zone,.int .i64 y.cap,.int .i64 y.used,.int .i64 y.has] 28)).alloc (.cells (wA 0 0 0) 97)=W at HQ ⊢
 have s0:=HQ.out.sc.cell;have i0:=HQ.out.it.cell;have b0:=HQ.out.bn.cell;have hr0:=HQ.out.rs.lt
 have hge:decide ((0:Int)≤(a.toks.length:Int))=true:=by simp
 go_wp2_with (first
  | (go_at_call 100;refine (inside_any t ht _ _ h4 (HV.out.below HQ.out.bl)).mono ?_;rintro e' wi ⟨⟨v',rfl,hr'⟩,hwi⟩;subst wi;rw[HS.out] at hr';have HR':=Hid.mk2 hr';clear hr';obtain ⟨g,o,cap,rfl,hncap,hlt,hc0⟩:=HR'.out.pos h00;clear hc0)
  | (go_at_call 101;refine (root_any (Tr.bin op a b).toks _ _ h00 h4' HR'.out).mono ?_;rintro e' wi ⟨rfl,hwi⟩;subst wi;rw[HRT.out])
  | (go_at_call 130;refine (IB _ _ lv kv h00 h4' HR'.out (HLV.out.below HQ.out.bl) (HL.out.below HQ.out.bl)).mono ?_;rintro e' w3 ⟨rfl,hb3⟩;replace HQ:=Hid.mk2 (HQ.out.below hb3);clear hb3 s0 i0 b0 hr0;have r0:=HQ.out.rs.cell;have rf:=HQ.out.rs.free;have hrl:=HQ.out.rs.lt))
 have hfb:=((HQ.out.rs.set 0 (.int .i64 q1)).set 1 (.int .i64 q2)).set 2 (.int .i64 q3)
 have g0:=hfb.cell 0
 have g1:=hfb.cell 1
 have g2:=hfb.cell 2
 refine bodyPost_ret (v:=.agg #[.int .i64 q1,.int .i64 q2,.int .i64 q3]) (by simp[results,Tryz.results87,go_sem,g0,g1,g2]) rfl ⟨rfl, ?_⟩
 exact sets3 (rb:=w.heap.size+3) HQ.out.bl (Nat.le_add_right _ _) _ _ _
end Go.Proofs.YtldfkcpbjooemaaGreatDoor
namespace Go.Proofs.YtldfkcpbjooemaaGreatDoor
open Go.RowKit Go.Deep
theorem cell_other1 (wx:World) (v:Value) {rb i b o:Nat} (h:b≠rb):(wx.setCell ⟨rb,i,none⟩ v).cell? ⟨b,o,none⟩=wx.cell? ⟨b,o,none⟩:=by
 unfold World.cell?
 rw[Below.heap_setCell _ _ _ _ h]
theorem cell_set3 (wx:World) (u0 u1 u2:Value) {rb b o:Nat} (h:b≠rb):(((wx.setCell ⟨rb,0,none⟩ u0).setCell ⟨rb,1,none⟩ u1).setCell ⟨rb,2,none⟩ u2).cell? ⟨b,o,none⟩=wx.cell? ⟨b,o,none⟩:=by
 rw[cell_other1 _ _ h,cell_other1 _ _ h,cell_other1 _ _ h]
theorem three_ne0 (n:Nat):n≠n+1+1+1:=by omega
theorem three_ne1 (n:Nat):n+1≠n+1+1+1:=by omega
theorem three_ne2 (n:Nat):n+2≠n+1+1+1:=by omega
theorem str_ne {wx:World} {n g o:Nat} {s:ByteArray} (h:Blk wx (n+3) (wA 0 0 0) 97) (ht:wx.cell? ⟨g,o,none⟩=some (.string s)):g≠n+1+1+1:=fun e=>by
 have e3:g=n+3:=e
 subst e3
 rw[h.cell] at ht
 match o,ht with
 | 0,ht=>cases ht
 | 1,ht=>cases ht
 | 2,ht=>cases ht
 | k+3,ht=>simp at ht
set_option maxHeartbeats 4000000 in
set_option maxRecDepth 100000 in
theorem work_name (l:List Stm) (L:List RSt) (x:Itm) (y:Bn) (t:Tr) (ht:t.wf) (a:RTok) (hs:t.strip=.leaf a) (hne:a.text≠[]) (hn:nameT a.text=true) (j:Nat) (e:Tr) (hna:NameAt l L a.text j e) (he4:e.toks.length≤400) (q1:Int) (q2 q3:Nat) (IV:ValOk l L x y e.toks q1 q2 q3) :
  WorkOk l L x y t.toks q1 q2 q3:=by
 intro v w lv kv h0 h4 hv hlv hL
 have HSW:Hid (Tr.leaf a).wf:=(hs ▸ t.strip_wf ht:(Tr.leaf a).wf)
 have h4':(Tr.leaf a).toks.length≤400:=by rw[← hs];exact Nat.le_trans t.strip_len h4
 have h00:0 < (Tr.leaf a).toks.length:=(Tr.leaf a).toks_pos
 have HRT:Hid (rootR (Tr.leaf a).toks=-1):=root_none _ HSW.out rfl
 have hz:Hid (0 < (bsOf a.text).size):=(by rw[bsOf_size];exact List.length_pos_iff.2 hne:0 < (bsOf a.text).size)
 have HQ:=Hid.mk2 (Bx4.start w lv kv x y)
 have HV:=Hid.mk2 hv
 have HLV:=Hid.mk2 hlv
 have HL:=Hid.mk2 hL
 have HS:=Hid.mk2 hs
 clear hv hlv hL hs
 unfold itmA bnA
 go_enter Tryz.func87,Tryz.ntmps87
 go_upto_region 1 with fail
 generalize (((w.alloc (.cells #[lv,kv] 42)).alloc (.cells #[.int .i64 x.size,.int .i64 x.speed,.int .i64 x.need] 26)).alloc (.cells #[.int .i64 y.id,.int .i64 y.zone,.int .i64 y.cap,.int .i64 y.used,.int .i64 y.has] 28)).alloc (.cells (wA 0 0 0) 97)=W0 at HQ ⊢
 go_upto_region 16 with (first
  | (go_at_call 100;refine (inside_any t ht _ _ h4 (HV.out.below HQ.out.bl)).mono ?_;rintro e' wi ⟨⟨v',rfl,hr'⟩,hwi⟩;subst wi;rw[HS.out] at hr';have HR':=Hid.mk2 hr';clear hr';obtain ⟨g,o,cap,rfl,hncap,hlt,hc0⟩:=HR'.out.pos h00;have tx:W0.cell? ⟨g,o,none⟩=some (.string (bsOf a.text)):=hc0 0 _ (cellsR_get (Tr.leaf a).toks 0 h00).1;clear hc0)
  | (go_at_call 101;refine (root_any (Tr.leaf a).toks _ _ h00 h4' HR'.out).mono ?_;rintro e' wi ⟨rfl,hwi⟩;subst wi;rw[HRT.out])
  | (go_at_call 102;refine (one_any (Tr.leaf a) HSW.out rfl (by intro _ _ _ h;cases h) _ _ h4' HR'.out).mono ?_;rintro e' wi ⟨rfl,hwi⟩;subst wi;simp only[Tr.isUn_leaf])
  | (go_at_call 65;refine (isName_any _ hz.out _).mono ?_;rintro e' W ⟨rfl,hb1⟩;simp only[bsOf_toList,hn];have HTX:=Hid.mk2 ((hb1.cell (p:=⟨g,o,none⟩) hlt).trans tx);have hltW:g < W.heap.size:=Nat.lt_of_lt_of_le hlt hb1.size;have hgne:g≠w.heap.size+1+1+1:=str_ne HQ.out.rs tx;replace HQ:=Hid.mk2 (HQ.out.below hb1);clear hb1 tx))
 have HCELL:Hid (∀ wx,Below W.heap.size W wx→wx.cell? ⟨w.heap.size,0,none⟩=some lv∧wx.cell? ⟨w.heap.size,1,none⟩=some kv∧wx.cell? ⟨w.heap.size+1,0,none⟩=some (.int .i64 x.size)∧wx.cell? ⟨w.heap.size+1,1,none⟩=some (.int .i64 x.speed)∧wx.cell? ⟨w.heap.size+1,2,none⟩=some (.int .i64 x.need)∧wx.cell? ⟨w.heap.size+2,0,none⟩=some (.int .i64 y.id)∧wx.cell? ⟨w.heap.size+2,1,none⟩=some (.int .i64 y.zone)∧wx.cell? ⟨w.heap.size+2,2,none⟩=some (.int .i64 y.cap)∧wx.cell? ⟨w.heap.size+2,3,none⟩=some (.int .i64 y.used)∧wx.cell? ⟨w.heap.size+2,4,none⟩=some (.int .i64 y.has)∧wx.cell? ⟨g,o,none⟩=some (.string (bsOf a.text))):=fun wx hb=>by
  obtain ⟨c0,c1,c2,c3,c4,c5,c6,c7,c8,c9⟩:=(HQ.out.below hb).cells
  exact ⟨c0,c1,c2,c3,c4,c5,c6,c7,c8,c9,(hb.cell (p:=⟨g,o,none⟩) hltW).trans HTX.out⟩
 have HKEEP:Hid (∀ wx,Below W.heap.size W wx→∀ u0 u1 u2:Value,(((wx.setCell ⟨w.heap.size+1+1+1,0,none⟩ u0).setCell ⟨w.heap.size+1+1+1,1,none⟩ u1).setCell ⟨w.heap.size+1+1+1,2,none⟩ u2).cell? ⟨w.heap.size,0,none⟩=some lv∧(((wx.setCell ⟨w.heap.size+1+1+1,0,none⟩ u0).setCell ⟨w.heap.size+1+1+1,1,none⟩ u1).setCell ⟨w.heap.size+1+1+1,2,none⟩ u2).cell? ⟨w.heap.size,1,none⟩=some kv∧(((wx.setCell ⟨w.heap.size+1+1+1,0,none⟩ u0).setCell ⟨w.heap.size+1+1+1,1,none⟩ u1).setCell ⟨w.heap.size+1+1+1,2,none⟩ u2).cell? ⟨w.heap.size+1,0,none⟩=some (.int .i64 x.size)∧(((wx.setCell ⟨w.heap.size+1+1+1,0,none⟩ u0).setCell ⟨w.heap.size+1+1+1,1,none⟩ u1).setCell ⟨w.heap.size+1+1+1,2,none⟩ u2).cell? ⟨w.heap.size+1,1,none⟩=some (.int .i64 x.speed)∧(((wx.setCell ⟨w.heap.size+1+1+1,0,none⟩ u0).setCell ⟨w.heap.size+1+1+1,1,none⟩ u1).setCell ⟨w.heap.size+1+1+1,2,none⟩ u2).cell? ⟨w.heap.size+1,2,none⟩=some (.int .i64 x.need)∧(((wx.setCell ⟨w.heap.size+1+1+1,0,none⟩ u0).setCell ⟨w.heap.size+1+1+1,1,none⟩ u1).setCell ⟨w.heap.size+1+1+1,2,none⟩ u2).cell? ⟨w.heap.size+2,0,none⟩=some (.int .i64 y.id)∧(((wx.setCell ⟨w.heap.size+1+1+1,0,none⟩ u0).setCell ⟨w.heap.size+1+1+1,1,none⟩ u1).setCell ⟨w.heap.size+1+1+1,2,none⟩ u2).cell? ⟨w.heap.size+2,1,none⟩=some (.int .i64 y.zone)∧(((wx.setCell ⟨w.heap.size+1+1+1,0,none⟩ u0).setCell ⟨w.heap.size+1+1+1,1,none⟩ u1).setCell ⟨w.heap.size+1+1+1,2,none⟩ u2).cell? ⟨w.heap.size+2,2,none⟩=some (.int .i64 y.cap)∧(((wx.setCell ⟨w.heap.size+1+1+1,0,none⟩ u0).setCell ⟨w.heap.size+1+1+1,1,none⟩ u1).setCell ⟨w.heap.size+1+1+1,2,none⟩ u2).cell? ⟨w.heap.size+2,3,none⟩=some (.int .i64 y.used)∧(((wx.setCell ⟨w.heap.size+1+1+1,0,none⟩ u0).setCell ⟨w.heap.size+1+1+1,1,none⟩ u1).setCell ⟨w.heap.size+1+1+1,2,none⟩ u2).cell? ⟨w.heap.size+2,4,none⟩=some (.int .i64 y.has)∧(((wx.setCell ⟨w.heap.size+1+1+1,0,none⟩ u0).setCell ⟨w.heap.size+1+1+1,1,none⟩ u1).setCell ⟨w.heap.size+1+1+1,2,none⟩ u2).cell? ⟨g,o,none⟩=some (.string (bsOf a.text))):=fun wx hb u0 u1 u2=>by
  obtain ⟨c0,c1,c2,c3,c4,c5,c6,c7,c8,c9,c10⟩:=HCELL.out wx hb
  have n0:=three_ne0 w.heap.size
  have n1:=three_ne1 w.heap.size
  have n2:=three_ne2 w.heap.size
  exact ⟨(cell_set3 wx u0 u1 u2 n0).trans c0,(cell_set3 wx u0 u1 u2 n0).trans c1,(cell_set3 wx u0 u1 u2 n1).trans c2,(cell_set3 wx u0 u1 u2 n1).trans c3,(cell_set3 wx u0 u1 u2 n1).trans c4,(cell_set3 wx u0 u1 u2 n2).trans c5,(cell_set3 wx u0 u1 u2 n2).trans c6,(cell_set3 wx u0 u1 u2 n2).trans c7,(cell_set3 wx u0 u1 u2 n2).trans c8,(cell_set3 wx u0 u1 u2 n2).trans c9,(cell_set3 wx u0 u1 u2 hgne).trans c10⟩
 have HRD:Hid (∀ wx,Below W.heap.size W wx→Reads wx lv l.length (cellsS l)∧LetsIn wx l L):=fun wx hb=>⟨(HLV.out.below HQ.out.bl).below hb,(HL.out.below HQ.out.bl).below hb⟩
 have HB:=Hid.mk2 (Below.refl W.heap.size W)
 obtain ⟨k0,k1,k2,k3,k4,k5,k6,k7,k8,k9,k10⟩:=HCELL.out _ HB.out
 clear hncap h0 h4 h4'
 go_region_held3 (fun w'=>w'.cell? ⟨w.heap.size,0,none⟩=some lv∧w'.cell? ⟨w.heap.size,1,none⟩=some kv∧w'.cell? ⟨w.heap.size+1,0,none⟩=some (.int .i64 x.size)∧w'.cell? ⟨w.heap.size+1,1,none⟩=some (.int .i64 x.speed)∧w'.cell? ⟨w.heap.size+1,2,none⟩=some (.int .i64 x.need)∧w'.cell? ⟨w.heap.size+2,0,none⟩=some (.int .i64 y.id)∧w'.cell? ⟨w.heap.size+2,1,none⟩=some (.int .i64 y.zone)∧w'.cell? ⟨w.heap.size+2,2,none⟩=some (.int .i64 y.cap)∧w'.cell? ⟨w.heap.size+2,3,none⟩=some (.int .i64 y.used)∧w'.cell? ⟨w.heap.size+2,4,none⟩=some (.int .i64 y.has)∧w'.cell? ⟨g,o,none⟩=some (.string (bsOf a.text))) (first | with_reducible exact HCELL.out _ HB.out | with_reducible exact HCELL.out _ (im_dr3 HB.out) | with_reducible exact HKEEP.out _ HB.out _ _ _ | exact HKEEP.out _ HB.out _ _ _) (first
  | (go_at_call 88;refine (find_ref l (HRD.out _ (by first | with_reducible exact HB.out | with_reducible exact im_dr3 HB.out)).2.few j hna.lt hna.un (bsOf a.text) (by rw[bsOf_toList];exact hna.nm.symm) lv kv _ (HRD.out _ (by first | with_reducible exact HB.out | with_reducible exact im_dr3 HB.out)).1).mono ?_;rintro e' w2 ⟨rfl,hb2⟩;(first | replace HB:=Hid.mk2 (show Below W.heap.size W w2 by with_reducible exact im_step2 HB.out hb2) | replace HB:=Hid.mk2 (show Below W.heap.size W w2 by with_reducible exact im_step2 (im_dr3 HB.out) hb2));clear hb2;have r0:=(HQ.out.below HB.out).rs.cell;have rf:=(HQ.out.below HB.out).rs.free;have hrl:=(HQ.out.below HB.out).rs.lt)
  | (go_at_call 51;refine (IV _ _ lv kv e.toks_pos he4 (hna.reads (HRD.out _ (by first | with_reducible exact HB.out | with_reducible exact im_dr3 HB.out)).2) (HRD.out _ (by first | with_reducible exact HB.out | with_reducible exact im_dr3 HB.out)).1 (HRD.out _ (by first | with_reducible exact HB.out | with_reducible exact im_dr3 HB.out)).2).mono ?_;rintro e' w3 ⟨rfl,hb3⟩;clear r0 rf hrl;(first | replace HB:=Hid.mk2 (show Below W.heap.size W w3 by with_reducible exact im_step2 HB.out hb3) | replace HB:=Hid.mk2 (show Below W.heap.size W w3 by with_reducible exact im_step2 (im_dr3 HB.out) hb3));clear hb3;have r0:=(HQ.out.below HB.out).rs.cell;have rf:=(HQ.out.below HB.out).rs.free;have hrl:=(HQ.out.below HB.out).rs.lt))
 all_goals
  go_wp2
  have hfb:=(((HQ.out.below HB.out).rs.set 0 (.int .i64 q1)).set 1 (.int .i64 q2)).set 2 (.int .i64 q3)
  have g0:=hfb.cell 0
  have g1:=hfb.cell 1
  have g2:=hfb.cell 2
  refine bodyPost_ret (v:=.agg #[.int .i64 q1,.int .i64 q2,.int .i64 q3]) (by simp[results,Tryz.results87,go_sem,g0,g1,g2]) rfl ⟨rfl, ?_⟩
  exact sets3 (rb:=w.heap.size+3) (HQ.out.below HB.out).bl (Nat.le_add_right _ _) _ _ _
set_option maxHeartbeats 4000000 in
set_option maxRecDepth 100000 in
theorem work_leaf (l:List Stm) (L:List RSt) (x:Itm) (y:Bn) (t:Tr) (ht:t.wf) (a:RTok) (hs:t.strip=.leaf a) (hne:a.text≠[]) (hn:nameT a.text=false) (q1:Int) (IL:∀ wx,Calls Tryz.prog 131 #[.string (bsOf a.text),itmA x,bnA y] wx fun e w2=>e=.returned (.int .i64 q1)∧Below wx.heap.size wx w2) :
  WorkOk l L x y t.toks q1 0 1:=by
 intro v w lv kv h0 h4 hv hlv hL
 have HSW:Hid (Tr.leaf a).wf:=(hs ▸ t.strip_wf ht:(Tr.leaf a).wf)
 have h4':(Tr.leaf a).toks.length≤400:=by rw[← hs];exact Nat.le_trans t.strip_len h4
 have h00:0 < (Tr.leaf a).toks.length:=(Tr.leaf a).toks_pos
 have HRT:Hid (rootR (Tr.leaf a).toks=-1):=root_none _ HSW.out rfl
 have hz:Hid (0 < (bsOf a.text).size):=(by rw[bsOf_size];exact List.length_pos_iff.2 hne:0 < (bsOf a.text).size)
 have HQ:=Hid.mk2 (Bx4.start w lv kv x y)
 have HV:=Hid.mk2 hv
 have HLV:=Hid.mk2 hlv
 have HL:=Hid.mk2 hL
 have HS:=Hid.mk2 hs
 clear hv hlv hL hs
 unfold itmA bnA
 go_enter Tryz.func87,Tryz.ntmps87
 go_upto_region 1 with fail
 generalize (((w.alloc (.cells #[lv,kv] 42)).alloc (.cells #[.int .i64 x.size,.int .i64 x.speed,.int .i64 x.need] 26)).alloc (.cells #[.int .i64 y.id,.int .i64 y.zone,.int .i64 y.cap,.int .i64 y.used,.int .i64 y.has] 28)).alloc (.cells (wA 0 0 0) 97)=W0 at HQ ⊢
 go_upto_region 17 with (first
  | (go_at_call 100;refine (inside_any t ht _ _ h4 (HV.out.below HQ.out.bl)).mono ?_;rintro e' wi ⟨⟨v',rfl,hr'⟩,hwi⟩;subst wi;rw[HS.out] at hr';have HR':=Hid.mk2 hr';clear hr';obtain ⟨g,o,cap,rfl,hncap,hlt,hc0⟩:=HR'.out.pos h00;have tx:W0.cell? ⟨g,o,none⟩=some (.string (bsOf a.text)):=hc0 0 _ (cellsR_get (Tr.leaf a).toks 0 h00).1;clear hc0)
  | (go_at_call 101;refine (root_any (Tr.leaf a).toks _ _ h00 h4' HR'.out).mono ?_;rintro e' wi ⟨rfl,hwi⟩;subst wi;rw[HRT.out])
  | (go_at_call 102;refine (one_any (Tr.leaf a) HSW.out rfl (by intro _ _ _ h;cases h) _ _ h4' HR'.out).mono ?_;rintro e' wi ⟨rfl,hwi⟩;subst wi;simp only[Tr.isUn_leaf])
  | (go_at_call 65;refine (isName_any _ hz.out _).mono ?_;rintro e' W ⟨rfl,hb1⟩;simp only[bsOf_toList,hn];have HTX:=Hid.mk2 ((hb1.cell (p:=⟨g,o,none⟩) hlt).trans tx);have hltW:g < W.heap.size:=Nat.lt_of_lt_of_le hlt hb1.size;have hgne:g≠w.heap.size+1+1+1:=str_ne HQ.out.rs tx;replace HQ:=Hid.mk2 (HQ.out.below hb1);clear hb1 tx))
 have HCELL:Hid (∀ wx,Below W.heap.size W wx→wx.cell? ⟨w.heap.size,0,none⟩=some lv∧wx.cell? ⟨w.heap.size,1,none⟩=some kv∧wx.cell? ⟨w.heap.size+1,0,none⟩=some (.int .i64 x.size)∧wx.cell? ⟨w.heap.size+1,1,none⟩=some (.int .i64 x.speed)∧wx.cell? ⟨w.heap.size+1,2,none⟩=some (.int .i64 x.need)∧wx.cell? ⟨w.heap.size+2,0,none⟩=some (.int .i64 y.id)∧wx.cell? ⟨w.heap.size+2,1,none⟩=some (.int .i64 y.zone)∧wx.cell? ⟨w.heap.size+2,2,none⟩=some (.int .i64 y.cap)∧wx.cell? ⟨w.heap.size+2,3,none⟩=some (.int .i64 y.used)∧wx.cell? ⟨w.heap.size+2,4,none⟩=some (.int .i64 y.has)∧wx.cell? ⟨g,o,none⟩=some (.string (bsOf a.text))):=fun wx hb=>by
  obtain ⟨c0,c1,c2,c3,c4,c5,c6,c7,c8,c9⟩:=(HQ.out.below hb).cells
  exact ⟨c0,c1,c2,c3,c4,c5,c6,c7,c8,c9,(hb.cell (p:=⟨g,o,none⟩) hltW).trans HTX.out⟩
 have HKEEP:Hid (∀ wx,Below W.heap.size W wx→∀ u0 u1 u2:Value,(((wx.setCell ⟨w.heap.size+1+1+1,0,none⟩ u0).setCell ⟨w.heap.size+1+1+1,1,none⟩ u1).setCell ⟨w.heap.size+1+1+1,2,none⟩ u2).cell? ⟨w.heap.size,0,none⟩=some lv∧(((wx.setCell ⟨w.heap.size+1+1+1,0,none⟩ u0).setCell ⟨w.heap.size+1+1+1,1,none⟩ u1).setCell ⟨w.heap.size+1+1+1,2,none⟩ u2).cell? ⟨w.heap.size,1,none⟩=some kv∧(((wx.setCell ⟨w.heap.size+1+1+1,0,none⟩ u0).setCell ⟨w.heap.size+1+1+1,1,none⟩ u1).setCell ⟨w.heap.size+1+1+1,2,none⟩ u2).cell? ⟨w.heap.size+1,0,none⟩=some (.int .i64 x.size)∧(((wx.setCell ⟨w.heap.size+1+1+1,0,none⟩ u0).setCell ⟨w.heap.size+1+1+1,1,none⟩ u1).setCell ⟨w.heap.size+1+1+1,2,none⟩ u2).cell? ⟨w.heap.size+1,1,none⟩=some (.int .i64 x.speed)∧(((wx.setCell ⟨w.heap.size+1+1+1,0,none⟩ u0).setCell ⟨w.heap.size+1+1+1,1,none⟩ u1).setCell ⟨w.heap.size+1+1+1,2,none⟩ u2).cell? ⟨w.heap.size+1,2,none⟩=some (.int .i64 x.need)∧(((wx.setCell ⟨w.heap.size+1+1+1,0,none⟩ u0).setCell ⟨w.heap.size+1+1+1,1,none⟩ u1).setCell ⟨w.heap.size+1+1+1,2,none⟩ u2).cell? ⟨w.heap.size+2,0,none⟩=some (.int .i64 y.id)∧(((wx.setCell ⟨w.heap.size+1+1+1,0,none⟩ u0).setCell ⟨w.heap.size+1+1+1,1,none⟩ u1).setCell ⟨w.heap.size+1+1+1,2,none⟩ u2).cell? ⟨w.heap.size+2,1,none⟩=some (.int .i64 y.zone)∧(((wx.setCell ⟨w.heap.size+1+1+1,0,none⟩ u0).setCell ⟨w.heap.size+1+1+1,1,none⟩ u1).setCell ⟨w.heap.size+1+1+1,2,none⟩ u2).cell? ⟨w.heap.size+2,2,none⟩=some (.int .i64 y.cap)∧(((wx.setCell ⟨w.heap.size+1+1+1,0,none⟩ u0).setCell ⟨w.heap.size+1+1+1,1,none⟩ u1).setCell ⟨w.heap.size+1+1+1,2,none⟩ u2).cell? ⟨w.heap.size+2,3,none⟩=some (.int .i64 y.used)∧(((wx.setCell ⟨w.heap.size+1+1+1,0,none⟩ u0).setCell ⟨w.heap.size+1+1+1,1,none⟩ u1).setCell ⟨w.heap.size+1+1+1,2,none⟩ u2).cell? ⟨w.heap.size+2,4,none⟩=some (.int .i64 y.has)∧(((wx.setCell ⟨w.heap.size+1+1+1,0,none⟩ u0).setCell ⟨w.heap.size+1+1+1,1,none⟩ u1).setCell ⟨w.heap.size+1+1+1,2,none⟩ u2).cell? ⟨g,o,none⟩=some (.string (bsOf a.text))):=fun wx hb u0 u1 u2=>by
  obtain ⟨c0,c1,c2,c3,c4,c5,c6,c7,c8,c9,c10⟩:=HCELL.out wx hb
  have n0:=three_ne0 w.heap.size
  have n1:=three_ne1 w.heap.size
  have n2:=three_ne2 w.heap.size
  exact ⟨(cell_set3 wx u0 u1 u2 n0).trans c0,(cell_set3 wx u0 u1 u2 n0).trans c1,(cell_set3 wx u0 u1 u2 n1).trans c2,(cell_set3 wx u0 u1 u2 n1).trans c3,(cell_set3 wx u0 u1 u2 n1).trans c4,(cell_set3 wx u0 u1 u2 n2).trans c5,(cell_set3 wx u0 u1 u2 n2).trans c6,(cell_set3 wx u0 u1 u2 n2).trans c7,(cell_set3 wx u0 u1 u2 n2).trans c8,(cell_set3 wx u0 u1 u2 n2).trans c9,(cell_set3 wx u0 u1 u2 hgne).trans c10⟩
 have HRD:Hid (∀ wx,Below W.heap.size W wx→Reads wx lv l.length (cellsS l)∧LetsIn wx l L):=fun wx hb=>⟨(HLV.out.below HQ.out.bl).below hb,(HL.out.below HQ.out.bl).below hb⟩
 have HB:=Hid.mk2 (Below.refl W.heap.size W)
 obtain ⟨k0,k1,k2,k3,k4,k5,k6,k7,k8,k9,k10⟩:=HCELL.out _ HB.out
 clear hncap h0 h4 h4'
 go_region_held3 (fun w'=>w'.cell? ⟨w.heap.size,0,none⟩=some lv∧w'.cell? ⟨w.heap.size,1,none⟩=some kv∧w'.cell? ⟨w.heap.size+1,0,none⟩=some (.int .i64 x.size)∧w'.cell? ⟨w.heap.size+1,1,none⟩=some (.int .i64 x.speed)∧w'.cell? ⟨w.heap.size+1,2,none⟩=some (.int .i64 x.need)∧w'.cell? ⟨w.heap.size+2,0,none⟩=some (.int .i64 y.id)∧w'.cell? ⟨w.heap.size+2,1,none⟩=some (.int .i64 y.zone)∧w'.cell? ⟨w.heap.size+2,2,none⟩=some (.int .i64 y.cap)∧w'.cell? ⟨w.heap.size+2,3,none⟩=some (.int .i64 y.used)∧w'.cell? ⟨w.heap.size+2,4,none⟩=some (.int .i64 y.has)∧w'.cell? ⟨g,o,none⟩=some (.string (bsOf a.text))) (first | with_reducible exact HCELL.out _ HB.out | with_reducible exact HCELL.out _ (im_dr3 HB.out) | with_reducible exact HKEEP.out _ HB.out _ _ _ | exact HKEEP.out _ HB.out _ _ _) ((go_at_call 131;refine (IL _).mono ?_;rintro e' w2 ⟨rfl,hb2⟩;(first | replace HB:=Hid.mk2 (show Below W.heap.size W w2 by with_reducible exact im_step2 HB.out hb2) | replace HB:=Hid.mk2 (show Below W.heap.size W w2 by with_reducible exact im_step2 (im_dr3 HB.out) hb2));clear hb2;have r0:=(HQ.out.below HB.out).rs.cell;have rf:=(HQ.out.below HB.out).rs.free;have hrl:=(HQ.out.below HB.out).rs.lt))
 all_goals
  go_wp2
  have hfb:=(((HQ.out.below HB.out).rs.set 0 (.int .i64 q1)).set 1 (.int .i64 0)).set 2 (.int .i64 1)
  have g0:=hfb.cell 0
  have g1:=hfb.cell 1
  have g2:=hfb.cell 2
  refine bodyPost_ret (v:=.agg #[.int .i64 q1,.int .i64 0,.int .i64 1]) (by simp[results,Tryz.results87,go_sem,g0,g1,g2]) rfl ⟨rfl, ?_⟩
  exact sets3 (rb:=w.heap.size+3) (HQ.out.below HB.out).bl (Nat.le_add_right _ _) _ _ _
end Go.Proofs.YtldfkcpbjooemaaGreatDoor
namespace Go.Proofs.YtldfkcpbjooemaaGreatDoor
open Go.RowKit Go.Deep
theorem oneW_fix (k:Nat) (p:Wo):(oneW k p).fix=p.fix:=by
 unfold oneW
 split
 ·rfl
 ·exact (settle_eq _).2.2.1
theorem binW_fix (k:Nat) (p q:Wo):(binW k p q).fix=(p.fix&&q.fix):=by
 unfold binW choW twoW
 repeat' split
 all_goals first | rfl | exact (settle_eq _).2.2.1
theorem attr_cases {t:Txt} (h:attrT t=true):t∈attrW:=by
 unfold attrT at h
 simpa using h
theorem attr_no_name {t:Txt} (h:attrT t=true):nameT t=false:=by
 have hm:=attr_cases h
 simp only[attrW,List.mem_cons,List.not_mem_nil,or_false] at hm
 rcases hm with rfl | rfl | rfl | rfl | rfl | rfl | rfl <;> decide
theorem tokF_plain {fe:Txt→Bool} {t:Txt} (h1:attrT t=false) (h2:nameT t=false):tokF fe t=true:=by
 unfold tokF
 rw[h1,h2]
 rfl
theorem fixL_append (fe:Txt→Bool) (a b:List RTok):fixL fe (a++b)=(fixL fe a&&fixL fe b):=by
 unfold fixL
 rw[List.all_append]
theorem fixL_cons (fe:Txt→Bool) (a:RTok) (b:List RTok):fixL fe (a :: b)=(tokF fe a.text&&fixL fe b):=by
 unfold fixL
 rw[List.all_cons]
theorem attr_kind {a:RTok} (h:attrT a.text=true):kindP a.text≠2∧singleF a=none:=by
 have hm:=attr_cases h
 obtain ⟨t,p⟩:=a
 simp only[attrW,List.mem_cons,List.not_mem_nil,or_false] at hm
 rcases hm with rfl | rfl | rfl | rfl | rfl | rfl | rfl <;> exact ⟨by dsimp only;decide,rfl⟩
theorem leaf_some {a:RTok} (hl:leafT a.text=true) (h:attrT a.text=false):∃ v,singleF a=some v:=by
 have hm:a.text∈tLeaf:=by unfold leafT at hl;simpa using hl
 obtain ⟨t,p⟩:=a
 simp only[tLeaf,List.mem_cons,List.not_mem_nil,or_false] at hm
 rcases hm with rfl | rfl | rfl | rfl | rfl | rfl | rfl | rfl | rfl | rfl | rfl | rfl
 all_goals first
  | exact ⟨_,rfl⟩
  | exact absurd h (by dsimp only;decide)
theorem wor_fix (env:Txt→Wo) (x:Itm) (y:Bn) (t:Tr) (ht:t.wf):(∀ a∈t.toks,mayT a.text=true)→(t.wor env x y).fix=fixL (fun n=>(env n).fix) t.toks:=by
 refine Tr.ind (P:=fun t=>(∀ a∈t.toks,mayT a.text=true)→(t.wor env x y).fix=fixL (fun n=>(env n).fix) t.toks) t ht ?_ ?_ ?_ ?_
 ·intro a ha hm
  rw[Tr.toks_leaf] at *
  have hma:=hm a (by simp)
  have K:=kindOf _ hma
  rw[Tr.wor_leaf,leafW,fixL_cons,show fixL (fun n=>(env n).fix) []=true from rfl,Bool.and_true]
  obtain ⟨w1,_⟩:=Tr.wf_leaf ha
  cases hat:attrT a.text with
  | true =>
   obtain ⟨k1,k2⟩:=attr_kind hat
   rw[if_neg k1,k2]
   unfold tokF
   rw[hat]
   rfl
  | false =>
   cases hnm:nameT a.text with
   | true =>
    rw[if_pos (K.kname.2 hnm)]
    unfold tokF
    rw[hat,hnm]
    rfl
   | false =>
    rw[if_neg (fun e=>by rw[K.kname.1 e] at hnm;cases hnm),tokF_plain hat hnm]
    have hs:∃ v,singleF a=some v:=by
     unfold singleT at w1
     rw[hnm] at w1
     by_cases hl:leafT a.text=true
     ·exact leaf_some hl hat
     ·have hd:isDig (headC a.text)=true:=by simpa[hl] using w1
      have hk:kindP a.text=1:=by unfold kindP;rw[if_pos hd]
      exact ⟨_,by unfold singleF;rw[if_pos hk]⟩
    obtain ⟨v,hv⟩:=hs
    rw[hv]
 ·intro op e hw ih hm
  rw[Tr.toks_un] at *
  have hop:op.text=cMinus∨op.text=cNot:=by
   have:=(Tr.wf_un hw).1
   simp only[unT,Bool.or_eq_true,beq_iff_eq] at this
   exact this
  rw[Tr.wor_un,oneW_fix,ih (fun a ha=>hm a (by simp[ha])),fixL_cons,tokF_plain (by rcases hop with h | h <;> rw[h] <;> decide) (by rcases hop with h | h <;> rw[h] <;> decide),Bool.true_and]
 ·intro op l r hw i1 i2 hm
  obtain ⟨w1,w2,w3,_⟩:=Tr.wf_bin hw
  rw[Tr.toks_bin] at *
  have hno:nameT op.text=false:=bin_no_name w1
  have hat:attrT op.text=false:=by
   cases h:attrT op.text with
   | false=>rfl
   | true =>
    have hmm:=attr_cases h
    simp only[attrW,List.mem_cons,List.not_mem_nil,or_false] at hmm
    rcases hmm with h | h | h | h | h | h | h <;> (rw[h] at w1;exact absurd w1 (by decide))
  rw[Tr.wor_bin,binW_fix,i1 (fun a ha=>hm a (by simp[ha])),i2 (fun a ha=>hm a (by simp[ha])),fixL_append,fixL_cons,tokF_plain hat hno,Bool.true_and]
 ·intro o e c hw ih hm
  obtain ⟨w1,w2,_⟩:=Tr.wf_par hw
  rw[Tr.toks_par] at *
  rw[Tr.wor_par,ih (fun a ha=>hm a (by simp[ha])),fixL_cons,fixL_append,fixL_cons,tokF_plain (by rw[w1];decide) (by rw[w1];decide),tokF_plain (by rw[w2];decide) (by rw[w2];decide)]
  simp[fixL]
end Go.Proofs.YtldfkcpbjooemaaGreatDoor
