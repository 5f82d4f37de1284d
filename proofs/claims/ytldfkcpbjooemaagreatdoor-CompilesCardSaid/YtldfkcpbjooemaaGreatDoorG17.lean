/-
  The document's wrong, called on the statements of a policy: the place of what is wrong with its kinds.
-/
import Derived.Test.YtldfkcpbjooemaaGreatDoorG16
import Derived.Test.YtldfkcpbjooemaaGreatDoorG08
import Derived.Deep.RegionLaw
set_option linter.unusedVariables false
set_option linter.unusedSimpArgs false
namespace Go.Proofs.YtldfkcpbjooemaaGreatDoor
open Go.RowKit Go.Deep
def RSt.texts (s:RSt):Prop:=∀ x∈s.body,x.text≠[]
structure WrRel (ls:List Stm) (L:List RSt) (w:World) (B i:Nat) (lv kv:Value) (ks:List Nat) (wr:World):Prop where
 lk:ks.length=i
 blk:Blk wr B #[lv,kv] 42
 ownL:wr.ownsRow (B+1) 75 4 lv i (cellsS (ls.take i))
 ownK:wr.ownsRow (B+1) 3 1 kv ks.length (cellsI ks)
 below:Below B w wr
 go:letsK [] L=letsK (((ls.take i).map Stm.name).zip ks) (L.drop i)
theorem one_four {s:ByteArray} {v:Value} (h:v.oneCell'=true):∀ u∈[Value.string s,v,.slice none 0 0,.slice none 0 0],u.oneCell'=true:=by
 intro u hu
 simp at hu
 rcases hu with rfl | rfl | rfl
 ·rfl
 ·exact h
 ·rfl
theorem al_frozen {w:World} {b o:Nat} {ob:Obj} (h:b < w.heap.size) (hf:w.frozen? ⟨b,o,none⟩=false):(w.alloc ob).drew.frozen? ⟨b,o,none⟩=false :=
 ((((Below.refl _ w).alloc (Nat.le_refl _) ob).drew).frozen (p:=⟨b,o,none⟩) h).trans hf
theorem al_cell {w:World} {b o:Nat} {ob:Obj} {v:Value} (h:b < w.heap.size) (hf:w.cell? ⟨b,o,none⟩=some v):(w.alloc ob).drew.cell? ⟨b,o,none⟩=some v :=
 ((((Below.refl _ w).alloc (Nat.le_refl _) ob).drew).cell (p:=⟨b,o,none⟩) h).trans hf
theorem alloc_cell' {w:World} {b o:Nat} {ob:Obj} {v:Value} (h:b < w.heap.size) (hf:w.cell? ⟨b,o,none⟩=some v):(w.alloc ob).cell? ⟨b,o,none⟩=some v :=
 (((Below.refl _ w).alloc (Nat.le_refl _) ob).cell (p:=⟨b,o,none⟩) h).trans hf
theorem alloc_frozen' {w:World} {b o:Nat} {ob:Obj} (h:b < w.heap.size) (hf:w.frozen? ⟨b,o,none⟩=false):(w.alloc ob).frozen? ⟨b,o,none⟩=false :=
 (((Below.refl _ w).alloc (Nat.le_refl _) ob).frozen (p:=⟨b,o,none⟩) h).trans hf
theorem blk_grow {w w':World} {B:Nat} {cs:Array Value} {t:TypeId} {row:Option Nat} (h:Blk w B cs t) (hg:w.grownBy w' row) (hne:some B≠row):Blk w' B cs t:=by
 unfold Blk;rw[hg.block B h.lt hne];exact h
theorem step_one {w2 w3:World} {B i n:Nat} {lv kv nl:Value} {xs xs' ys:List Value} {o:Obj} (hBK:Blk w2 B #[lv,kv] 42) (hOL:w2.ownsRow (B+1) 75 4 lv i xs) (hOK:w2.ownsRow (B+1) 3 1 kv n ys)
  (hown:w3.ownsRow (B+1) 75 4 nl (i+1) xs') (hg:(w2.alloc o).drew.grownBy w3 lv.ownBlock) :
  Blk (w3.setCell ⟨B,0,none⟩ nl) B #[nl,kv] 42∧(w3.setCell ⟨B,0,none⟩ nl).ownsRow (B+1) 75 4 nl (i+1) xs'∧(w3.setCell ⟨B,0,none⟩ nl).ownsRow (B+1) 3 1 kv n ys∧Below B w2 (w3.setCell ⟨B,0,none⟩ nl)∧B < (w3.setCell ⟨B,0,none⟩ nl).heap.size:=by
 have hneB:some B≠lv.ownBlock:=by intro h;have:=(hOL.lt B h.symm).1;omega
 have hb3:Blk w3 B #[lv,kv] 42:=blk_grow (hBK.alloc o).drew hg hneB
 refine ⟨hb3.set 0 nl,ownsRow_setCell_below hown (by simp) nl,ownsRow_setCell_below (((hOK.alloc o).drew).kept hg (own_ne hOK hOL (by decide))) (by simp) nl, ?_,by simpa using hb3.lt⟩
 have hlt:=hBK.lt
 exact ((((Below.refl B w2).alloc (Nat.le_of_lt hlt) o).drew).grown hg (by simp;omega) (fun k hk=>by have:=(hOL.lt k hk).1;omega)).setCell (p:=⟨B,0,none⟩) (Nat.le_refl _) nl
theorem step_two {w4 w5:World} {B i n:Nat} {kv nl nk:Value} {xs ys ys':List Value} {o:Obj} (hBK:Blk w4 B #[nl,kv] 42) (hOL:w4.ownsRow (B+1) 75 4 nl i xs) (hOK:w4.ownsRow (B+1) 3 1 kv n ys)
  (hown:w5.ownsRow (B+1) 3 1 nk (n+1) ys') (hg:(w4.alloc o).grownBy w5 kv.ownBlock) :
  Blk (w5.setCell ⟨B,1,none⟩ nk) B #[nl,nk] 42∧(w5.setCell ⟨B,1,none⟩ nk).ownsRow (B+1) 75 4 nl i xs∧(w5.setCell ⟨B,1,none⟩ nk).ownsRow (B+1) 3 1 nk (n+1) ys'∧Below B w4 (w5.setCell ⟨B,1,none⟩ nk):=by
 have hneB:some B≠kv.ownBlock:=by intro h;have:=(hOK.lt B h.symm).1;omega
 have hb3:Blk w5 B #[nl,kv] 42:=blk_grow (hBK.alloc o) hg hneB
 refine ⟨hb3.set 1 nk,ownsRow_setCell_below ((hOL.alloc o).kept hg (own_ne hOL hOK (by decide))) (by simp) nk,ownsRow_setCell_below hown (by simp) nk, ?_⟩
 have hlt:=hBK.lt
 exact (((Below.refl B w4).alloc (Nat.le_of_lt hlt) o).grown hg (by simp;omega) (fun k hk=>by have:=(hOK.lt k hk).1;omega)).setCell (p:=⟨B,1,none⟩) (Nat.le_refl _) nk
theorem exprK_err {c:List (Txt × Nat)} {want:Nat} {e:Tr} {p:Nat} (h:kindT c e=.error p):exprK c want (some e)=some p:=by simp only[exprK,h]
theorem exprK_ok {c:List (Txt × Nat)} {want:Nat} {e:Tr} (h:kindT c e=.ok want):exprK c want (some e)=none:=by simp only[exprK,h,if_true]
theorem exprK_ne {c:List (Txt × Nat)} {want k:Nat} {e:Tr} (h:kindT c e=.ok k) (hk:¬ k=want):exprK c want (some e)=some (firstAt e):=by simp only[exprK,h,if_neg hk]
theorem firstAt_eq (e:Tr):firstAt e=(e.toks[0]'e.toks_pos).at':=by
 unfold firstAt
 have:=e.toks_pos
 simp[List.getElem?_eq_getElem this]
theorem reads_b {w w':World} {v:Value} {n:Nat} {xs:List Value} (hb:Below w.heap.size w w') (h:Reads w v n xs):Reads w' v n xs:=h.below hb
set_option maxHeartbeats 1000000 in
set_option maxRecDepth 10000 in
theorem wrong_any (ls rs:List Stm) (L R:List RSt) (hL:isLetL L) (hR:isRuleL R) (hLs:∀ s∈L,s.short∧s.wf∧s.texts) (hRs:∀ s∈R,s.short∧s.wf∧s.texts) (w:World) (lv rv:Value) (hal:All2 (StmOk w) ls L) (har:All2 (StmOk w) rs R) (hl4:ls.length≤400) (hr4:rs.length≤400)
  (hlv:Reads w lv ls.length (cellsS ls)) (hrv:Reads w rv rs.length (cellsS rs)) :
  Calls Tryz.prog 34 #[lv,rv] w fun e w'=>e=.returned (.int .i64 (placeV (wrongT L R)))∧Below w.heap.size w w':=by
 obtain ⟨i0,hi,hz0,hz1,hz2⟩:=info_parts Tryz.infoStm
 obtain ⟨i1,hi1,hy0,hy1,hy2⟩:=info_parts Tryz.infoInt
 have HAL:Hid (All2 (StmOk w) ls L):=hal
 have HAR:Hid (All2 (StmOk w) rs R):=har
 have HLL:Hid (ls.length=L.length):=hal.len
 have HRL:Hid (rs.length=R.length):=har.len
 have HL:Hid (isLetL L):=hL
 have HR:Hid (isRuleL R):=hR
 have HLS:Hid (∀ s∈L,s.short∧s.wf∧s.texts):=hLs
 have HRS:Hid (∀ s∈R,s.short∧s.wf∧s.texts):=hRs
 have HLV:Hid (Reads w lv ls.length (cellsS ls)):=hlv
 have HRV:Hid (Reads w rv rs.length (cellsS rs)):=hrv
 have hlsh:∃ a c,lv=.slice a ls.length c:=by
  rcases hlv with ⟨rfl,h,_⟩ | ⟨g,o,cap,rfl,_⟩
  ·exact ⟨none,0,by rw[h]⟩
  ·exact ⟨_,_,rfl⟩
 have hrsh:∃ a c,rv=.slice a rs.length c:=by
  rcases hrv with ⟨rfl,h,_⟩ | ⟨g,o,cap,rfl,_⟩
  ·exact ⟨none,0,by rw[h]⟩
  ·exact ⟨_,_,rfl⟩
 obtain ⟨la,lc,rfl⟩:=hlsh
 obtain ⟨ra,rc,rfl⟩:=hrsh
 clear hal har hL hR hLs hRs hlv hrv
 go_enter Tryz.func34,Tryz.ntmps34
 go_wp2
 go_loopw [6] (fun vi wr=>∃ (i:Nat) (lv kv:Value) (ks:List Nat),i≤ls.length∧vi=.int .i64 i∧WrRel ls L w w.heap.size i lv kv ks wr) (fun i _=>ls.length - (intOf i).toNat)
 case atStart=>exact ⟨0,.slice none 0 0,.slice none 0 0,[],Nat.zero_le _,rfl,⟨rfl,Blk.new _ _ _,World.ownsRow_nil _ _ _ _,World.ownsRow_nil _ _ _ _,(Below.refl _ _).alloc (Nat.le_refl _) _,rfl⟩⟩
 case round =>
  obtain ⟨i,lv,kv,ks,hil,rfl,hB⟩:=hrel
  have HB:Hid (WrRel ls L w w.heap.size i lv kv ks wr):=hB
  clear hB
  have hbel:=HB.out.below
  have hblt:=HB.out.blk.lt
  by_cases hil2:i < ls.length
  ·obtain ⟨g,o,cap,hcut,_,hlt,hc⟩:=HLV.out.pos (by omega)
   cases hcut
   have hiL:i < L.length:=by rw[← HLL.out];exact hil2
   have hok:=All2.get HAL.out i hil2 hiL
   have hisl:=HL.out L[i] (List.getElem_mem hiL)
   have hsh:=HLS.out L[i] (List.getElem_mem hiL)
   have hdrop:=List.drop_eq_getElem_cons hiL
   rcases (L[i]).cases with ⟨kw,name,eq,e,semi,hLi⟩ | ⟨wh,act,sc,semi,hLi⟩
   rotate_left
   ·rw[hLi] at hisl;cases hisl
   ·rw[hLi] at hok hsh hdrop
    obtain ⟨ok1,ok2,ok3,ok4⟩:=hok
    obtain ⟨hs1,hs2,hs3⟩:=hsh
    have he4:e.toks.length≤400:=by simp[RSt.short,RSt.body_let] at hs1;omega
    have HKO:Hid (KindOk (ls.take i) ks e):=kind_all (ls.take i) ks (by rw[HB.out.lk];simp;omega) (by simp;omega) e.toks.length e (Nat.le_refl _) hs2.2.2.2.1 (fun x hx=>hs3 x (by simp[RSt.body_let,hx]))
    have d0:wr.cell? ⟨g,o+i * 4,none⟩=some (.string (bsOf ls[i].name)):=(hbel.cell (p:=⟨g,o+i * 4,none⟩) hlt).trans (hc _ _ (cellsS_get ls i hil2).1)
    have d1:wr.cell? ⟨g,o+i * 4+1,none⟩=some ls[i].expr:=(hbel.cell (p:=⟨g,o+i * 4+1,none⟩) hlt).trans (hc _ _ (cellsS_get ls i hil2).2.1)
    have d2:wr.cell? ⟨g,o+i * 4+2,none⟩=some ls[i].when:=(hbel.cell (p:=⟨g,o+i * 4+2,none⟩) hlt).trans (hc _ _ (cellsS_get ls i hil2).2.2.1)
    have d3:wr.cell? ⟨g,o+i * 4+3,none⟩=some ls[i].score:=(hbel.cell (p:=⟨g,o+i * 4+3,none⟩) hlt).trans (hc _ _ (cellsS_get ls i hil2).2.2.2)
    rw[ok3] at d2
    rw[ok4] at d3
    have HW3:Hid (ls[i].when=.slice none 0 0∧ls[i].score=.slice none 0 0):=⟨ok3,ok4⟩
    obtain ⟨ev,hev⟩:∃ ev,ev=ls[i].expr:=⟨_,rfl⟩
    rw[← hev] at d1 ok2
    have HEV:Hid (ls[i].expr=ev):=hev.symm
    have hev1:Hid (ev.oneCell'=true):=(by rcases ok2 with ⟨h,_⟩ | ⟨_,_,_,h,_⟩ <;> (rw[h];rfl):ev.oneCell'=true)
    have HE:Hid (Reads wr ev e.toks.length (cellsR e.toks)):=reads_b (by simpa using hbel) ok2
    have k0:=HB.out.blk.cell 0
    have k1:=HB.out.blk.cell 1
    simp only[List.getElem?_toArray,List.getElem?_cons_zero,List.getElem?_cons_succ] at k0 k1
    have HRL1:Hid (Reads wr lv (ls.take i).length (cellsS (ls.take i))):=(by rw[List.length_take,Nat.min_eq_left hil];exact reads_of_own HB.out.ownL:Reads wr lv _ _)
    have HRK:Hid (Reads wr kv ks.length (cellsI ks)):=reads_of_own HB.out.ownK
    have HGO:Hid (letsK [] L=letsK (((ls.take i).map Stm.name).zip ks) (.letS kw name eq e semi :: L.drop (i+1))):=(by rw[HB.out.go,hdrop]:_=_)
    have HNM:Hid (ls[i].name=name.text):=ok1
    clear hs1 hs2 hs3 hdrop hisl hLi hev ok1 ok2 ok3 ok4 hc
    cases hkd:kindT (((ls.take i).map Stm.name).zip ks) e with
    | error p =>
     have HKD:Hid (kindT (((ls.take i).map Stm.name).zip ks) e=.error p):=hkd
     clear hkd
     go_wp2
     go_region_held3 (fun w'=>w'.cell? ⟨w.heap.size,0,none⟩=some lv∧w'.cell? ⟨w.heap.size,1,none⟩=some kv∧w'.cell? ⟨g,o+i * 4+1,none⟩=some ev) (go_keep) ((go_at_call 69;refine (HKO.out _ _ lv kv he4 HE.out.drew HRL1.out.drew HRK.out.drew).mono ?_;rintro e' w2 ⟨rfl,hb2⟩;rw[HKD.out];simp only[resV];have k2:=(hb2.cell (p:=⟨w.heap.size,0,none⟩) hblt).trans k0;have k3:=(hb2.cell (p:=⟨w.heap.size,1,none⟩) hblt).trans k1;have k4:=(hb2.cell (p:=⟨g,o+i * 4+1,none⟩) (Nat.lt_trans hlt hblt)).trans d1))
     go_wp2
     go_ret
     exact ⟨ret_int (by rw[wrongT_err (by rw[HGO.out,letsK_err HKD.out])];rfl),hbel.drew.trans (hb2.mono (Nat.le_of_lt hblt))⟩
    | ok k =>
     have HKD:Hid (kindT (((ls.take i).map Stm.name).zip ks) e=.ok k):=hkd
     clear hkd
     have hOL:=HB.out.ownL
     have hOK:=HB.out.ownK
     have hBK:=HB.out.blk
     go_wp2
     go_region_held3 (fun w'=>w'.cell? ⟨w.heap.size,0,none⟩=some lv∧w'.cell? ⟨w.heap.size,1,none⟩=some kv∧w'.cell? ⟨g,o+i * 4+1,none⟩=some ev) (go_keep) ((go_at_call 69;refine (HKO.out _ _ lv kv he4 HE.out.drew HRL1.out.drew HRK.out.drew).mono ?_;rintro e' w2 ⟨rfl,hb2⟩;rw[HKD.out];simp only[resV];have k2:=(hb2.cell (p:=⟨w.heap.size,0,none⟩) hblt).trans k0;have k3:=(hb2.cell (p:=⟨w.heap.size,1,none⟩) hblt).trans k1;have k4:=(hb2.cell (p:=⟨g,o+i * 4+1,none⟩) (Nat.lt_trans hlt hblt)).trans d1;have q0:=(hb2.cell (p:=⟨g,o+i * 4,none⟩) (Nat.lt_trans hlt hblt)).trans d0;have q2:=(hb2.cell (p:=⟨g,o+i * 4+2,none⟩) (Nat.lt_trans hlt hblt)).trans d2;have q3:=(hb2.cell (p:=⟨g,o+i * 4+3,none⟩) (Nat.lt_trans hlt hblt)).trans d3))
     have hOL2:=own_below hOL.drew hb2
     have hOK2:=own_below hOK.drew hb2
     have hBK2:Blk w2 w.heap.size #[lv,kv] 42:=hBK.drew.below hb2 hblt
     have hfz:=hBK2.free 0
     have hfz1:=hBK2.free 1
     have hsz2:wr.heap.size≤w2.heap.size:=hb2.size
     have hne:lv.ownBlock≠some g:=by intro h;have:=(hOL2.lt g h).1;omega
     have hneB:lv.ownBlock≠some w.heap.size:=by intro h;have:=(hOL2.lt _ h).1;omega
     go_wp2
     have m0:∀ ob:Obj,(w2.alloc ob).cell? ⟨w.heap.size,0,none⟩=some lv:=fun ob=>al_cell (Nat.lt_of_lt_of_le hblt hsz2) k2
     go_region_law ((refine step_append_lies _ (by rfl) _ _ _ (by rfl) (w.heap.size+1) 75 i0 _ 4 88 Tryz.underlying39 hi hz0 hz1 hz2 rfl (by omega) lv i (cellsS (ls.take i)) (by rfl) ((hOL2.alloc _).drew) ⟨w2.heap.size,0,none⟩ 1 1 [.string (bsOf ls[i].name),ev,.slice none 0 0,.slice none 0 0] (by rfl) (by rfl) (World.news_of_block (cs:=#[.string (bsOf ls[i].name),ev,.slice none 0 0,.slice none 0 0]) (t:=75) (fr:=(0,0)) (heap_alloc_new w2 _)) (one_four hev1.out) (by omega) (by unfold maxLen;omega) (by omega) (by simp;omega) (w2.heap.size+1) (by simp) ?_;intro gg cap w3 hown3 hgrow hat hlt4;have f3:w3.frozen? ⟨w.heap.size,0,none⟩=false:=(hgrow.frozen_far _ (by simp;omega) (Ne.symm hneB)).trans (al_frozen (Nat.lt_of_lt_of_le hblt hsz2) hfz);have c3:w3.cell? ⟨w.heap.size,0,none⟩=some lv:=(hgrow.cell_far _ (by simp;omega) (Ne.symm hneB)).trans (al_cell (Nat.lt_of_lt_of_le hblt hsz2) k2)))
     all_goals
      obtain ⟨g1,g2,g3,g4,g5⟩:=step_one hBK2 hOL2 hOK2 hown3 hgrow
      have hc41:=g1.cell 1
      have hf41:=g1.free 1
      simp only[List.getElem?_toArray,List.getElem?_cons_zero,List.getElem?_cons_succ] at hc41
      obtain ⟨w4,hw4⟩:∃ w4,w4=w3.setCell ⟨w.heap.size,0,none⟩ (.slice (some ⟨gg,0,none⟩) (i+1) cap):=⟨_,rfl⟩
      rw[← hw4] at g1 g2 g3 g4 g5 hc41 hf41
      rw[← hw4]
      clear hw4 hown3 hgrow f3 c3
      have hks4:ks.length≤400:=by have:=HB.out.lk;omega
      have hneK:kv.ownBlock≠some w.heap.size:=by intro h;have:=(g3.lt _ h).1;omega
      go_wp2_with (at_builtin;refine wpList_append_lies _ rfl _ _ 40 rfl (w.heap.size+1) 3 i1 (.int .i64 0) 1 8 Tryz.underlying40 hi1 hy0 hy1 hy2 rfl (by decide) _ _ _ rfl (g3.alloc _) ⟨w4.heap.size,0,none⟩ 1 1 [.int .i64 k] rfl rfl (cell_one_new _ _ _) one_int (by omega) (by unfold maxLen;omega) (by omega) (by simp;omega) (w4.heap.size+1) (by simp) ?_;intro g9 cap9 w5 hown5 hgrow5 hat5 hlt5;have c51:=(hgrow5.cell_far ⟨w.heap.size,1,none⟩ (by simp;omega) (Ne.symm hneK)).trans (alloc_cell' g5 hc41);have f51:=(hgrow5.frozen_far ⟨w.heap.size,1,none⟩ (by simp;omega) (Ne.symm hneK)).trans (alloc_frozen' g5 hf41))
      obtain ⟨j1,j2,j3,j4⟩:=step_two g1 g2 g3 hown5 hgrow5
      go_roundw
      case rel=>exact ⟨i+1,_,_,ks++[k],by omega,by go_num,⟨by simp[HB.out.lk],j1,(by rw[List.take_succ_eq_append_getElem hil2,cellsS_snoc,HEV.out,HW3.out.1,HW3.out.2];exact j2),(by simpa[cellsI] using j3),((hbel.drew.trans (hb2.mono (Nat.le_of_lt hblt))).trans g4).trans j4,(by rw[HGO.out,letsK_ok HKD.out,List.take_succ_eq_append_getElem hil2,List.map_append,List.map_cons,List.map_nil,zip_snoc _ _ (by rw[HB.out.lk];simp;omega),HNM.out])⟩⟩
      case measure=>simp[intOf];omega
  ·have hcC:letsK [] L=.ok ((ls.map Stm.name).zip ks):=by
    rw[HB.out.go,List.drop_eq_nil_of_le (by rw[← HLL.out];omega),List.take_of_length_le (by omega)];rfl
   have HW:Hid (wrongT L R=rulesK ((ls.map Stm.name).zip ks) R):=wrongT_ok hcC
   clear hcC
   have HKL:Hid (ks.length=ls.length):=(by rw[HB.out.lk];omega:ks.length=ls.length)
   have HOL:Hid (Reads wr lv ls.length (cellsS ls)):=(by have:=reads_of_own HB.out.ownL;rw[List.take_of_length_le (by omega),show i=ls.length by omega] at this;exact this:Reads wr lv _ _)
   have HOK:Hid (Reads wr kv ks.length (cellsI ks)):=reads_of_own HB.out.ownK
   have HBK:Hid (Blk wr w.heap.size #[lv,kv] 42):=HB.out.blk
   clear HB
   go_wp2
   generalize wr=w1 at *
   go_loopw [9] (fun vj wx=>∃ j:Nat,j≤rs.length∧vj=.int .i64 j∧Below w1.heap.size w1 wx∧rulesK ((ls.map Stm.name).zip ks) R=rulesK ((ls.map Stm.name).zip ks) (R.drop j)) (fun j _=>rs.length - (intOf j).toNat)
   case atStart=>exact ⟨0,Nat.zero_le _,rfl,Below.refl _ _,rfl⟩
   case round =>
    obtain ⟨j,hjl,rfl,hbx,hgo⟩:=hrel
    have HGO:Hid (rulesK ((ls.map Stm.name).zip ks) R=rulesK ((ls.map Stm.name).zip ks) (R.drop j)):=hgo
    clear hgo
    have hbw:Below w.heap.size w wr:=hbel.trans (hbx.mono (Nat.le_of_lt hblt))
    have hbxs:=hbx.size
    have hbltx:w.heap.size < wr.heap.size:=Nat.lt_of_lt_of_le hblt hbx.size
    by_cases hj:j < rs.length
    ·obtain ⟨g,o,cap,hcut,_,hlt,hc⟩:=HRV.out.pos (by omega)
     cases hcut
     have hjR:j < R.length:=by rw[← HRL.out];exact hj
     have hok:=All2.get HAR.out j hj hjR
     have hisl:=HR.out R[j] (List.getElem_mem hjR)
     have hsh:=HRS.out R[j] (List.getElem_mem hjR)
     have hdrop:=List.drop_eq_getElem_cons hjR
     have k0:wr.cell? ⟨w.heap.size,0,none⟩=some lv:=(hbx.cell (p:=⟨w.heap.size,0,none⟩) hblt).trans (HBK.out.cell 0)
     have k1:wr.cell? ⟨w.heap.size,1,none⟩=some kv:=(hbx.cell (p:=⟨w.heap.size,1,none⟩) hblt).trans (HBK.out.cell 1)
     have HOL2:Hid (Reads wr lv ls.length (cellsS ls)):=HOL.out.below hbx
     have HOK2:Hid (Reads wr kv ks.length (cellsI ks)):=HOK.out.below hbx
     rcases (R[j]).cases with ⟨kw,name,eq,e,semi,hRj⟩ | ⟨wh,act,sc,semi,hRj⟩
     ·rw[hRj] at hisl;cases hisl
     ·rw[hRj] at hok hsh hdrop
      obtain ⟨ok1,ok2,ok3,ok4⟩:=hok
      obtain ⟨hs1,hs2,hs3⟩:=hsh
      have k2:wr.cell? ⟨g,o+j * 4+2,none⟩=some rs[j].when:=(hbw.cell (p:=⟨g,o+j * 4+2,none⟩) hlt).trans (hc _ _ (cellsS_get rs j hj).2.2.1)
      have k3:wr.cell? ⟨g,o+j * 4+3,none⟩=some rs[j].score:=(hbw.cell (p:=⟨g,o+j * 4+3,none⟩) hlt).trans (hc _ _ (cellsS_get rs j hj).2.2.2)
      have HGR:Hid (rulesK ((ls.map Stm.name).zip ks) R=rulesK ((ls.map Stm.name).zip ks) (.rule wh act sc semi :: R.drop (j+1))):=(by rw[HGO.out,hdrop]:_=_)
      have hltx:g < wr.heap.size:=Nat.lt_trans hlt hbltx
      clear hdrop hisl hRj ok1 ok2 hc
      have HKA:Hid (∀ e:Tr,e.wf→e.texts→KindOk ls ks e):=fun e hw ht=>kind_all ls ks HKL.out hl4 e.toks.length e (Nat.le_refl _) hw ht
      cases wh with
      | none =>
       have ok3':rs[j].when=.slice none 0 0:=ok3
       rw[ok3'] at k2
       clear ok3 ok3'
       cases sc with
       | none =>
        have ok4':rs[j].score=.slice none 0 0:=ok4
        rw[ok4'] at k3
        clear ok4 ok4' hs1 hs2 hs3
        go_wp2
        go_roundw
        case rel=>exact ⟨j+1,by omega,by go_num,hbx,by rw[HGR.out,rulesK_n rfl rfl]⟩
        case measure=>simp[intOf];omega
       | some e2 =>
        have he42:e2.toks.length≤400:=by simp[RSt.short,RSt.body_rule,optToks] at hs1;omega
        have HKS:Hid (KindOk ls ks e2):=HKA.out e2 (hs2.2.2.1 e2 rfl) (fun x hx=>hs3 x (by simp[RSt.body_rule,optToks,hx]))
        obtain ⟨sv,hsv⟩:∃ sv,sv=rs[j].score:=⟨_,rfl⟩
        rw[← hsv] at k3 ok4
        have HSV0:Hid (Reads w sv e2.toks.length (cellsR e2.toks)):=ok4
        have HSV:Hid (Reads w1 sv e2.toks.length (cellsR e2.toks)):=HSV0.out.below hbel
        clear hsv ok4
        obtain ⟨g6,o6,cap6,rfl,_,hlt6,hc6⟩:=HSV0.out.pos e2.toks_pos
        have hep2:=e2.toks_pos
        have hep2':(0:Int) < e2.toks.length:=by omega
        have t6:wr.cell? ⟨g6,o6+1,none⟩=some (.int .i64 (firstAt e2)):=by
         rw[firstAt_eq e2]
         exact (hbw.cell (p:=⟨g6,o6+1,none⟩) hlt6).trans (hc6 1 _ (cellsR_get e2.toks 0 hep2).2)
        have hlt6x:g6 < wr.heap.size:=Nat.lt_trans hlt6 hbltx
        clear hc6 hs1 hs2 hs3
        cases hkd2:kindT ((ls.map Stm.name).zip ks) e2 with
        | error p =>
         have HKD2:Hid (kindT ((ls.map Stm.name).zip ks) e2=.error p):=hkd2
         clear hkd2
         go_wp2
         go_region_held3 (fun w'=>w'.cell? ⟨w.heap.size,0,none⟩=some lv∧w'.cell? ⟨w.heap.size,1,none⟩=some kv∧w'.cell? ⟨g,o+j * 4+3,none⟩=some (.slice (some ⟨g6,o6,none⟩) e2.toks.length cap6)) (go_keep) ((go_at_call 69;refine (HKS.out _ _ lv kv he42 (HSV.out.below (hbx)).drew (HOL.out.below (hbx)).drew (HOK.out.below (hbx)).drew).mono ?_;rintro e' w8 ⟨rfl,hb8⟩;rw[HKD2.out];simp only[resV];have s0:=(hb8.cell (p:=⟨w.heap.size,0,none⟩) hbltx).trans k0;have s1:=(hb8.cell (p:=⟨w.heap.size,1,none⟩) hbltx).trans k1;have s3:=(hb8.cell (p:=⟨g,o+j * 4+3,none⟩) hltx).trans k3;have s6:=(hb8.cell (p:=⟨g6,o6+1,none⟩) hlt6x).trans t6))
         go_wp2
         go_ret
         exact ⟨ret_int (by rw[HW.out,HGR.out,rulesK_s rfl (exprK_err HKD2.out)];rfl),hbel.trans (((hbx).drew.trans (hb8.mono (hbx).size)).mono (Nat.le_of_lt hblt))⟩
        | ok q =>
         have HKD2:Hid (kindT ((ls.map Stm.name).zip ks) e2=.ok q):=hkd2
         clear hkd2
         by_cases hq:q=1
         ·subst hq
          go_wp2
          go_region_held3 (fun w'=>w'.cell? ⟨w.heap.size,0,none⟩=some lv∧w'.cell? ⟨w.heap.size,1,none⟩=some kv∧w'.cell? ⟨g,o+j * 4+3,none⟩=some (.slice (some ⟨g6,o6,none⟩) e2.toks.length cap6)) (go_keep) ((go_at_call 69;refine (HKS.out _ _ lv kv he42 (HSV.out.below (hbx)).drew (HOL.out.below (hbx)).drew (HOK.out.below (hbx)).drew).mono ?_;rintro e' w8 ⟨rfl,hb8⟩;rw[HKD2.out];simp only[resV];have s0:=(hb8.cell (p:=⟨w.heap.size,0,none⟩) hbltx).trans k0;have s1:=(hb8.cell (p:=⟨w.heap.size,1,none⟩) hbltx).trans k1;have s3:=(hb8.cell (p:=⟨g,o+j * 4+3,none⟩) hltx).trans k3;have s6:=(hb8.cell (p:=⟨g6,o6+1,none⟩) hlt6x).trans t6))
          go_wp2
          go_roundw
          case rel=>exact ⟨j+1,by omega,by go_num,(hbx).drew.trans (hb8.mono (hbx).size),by rw[HGR.out,rulesK_n rfl (exprK_ok HKD2.out)]⟩
          case measure=>simp[intOf];omega
         ·have hq':¬ ((q:Int)=1):=by omega
          go_wp2
          go_region_held3 (fun w'=>w'.cell? ⟨w.heap.size,0,none⟩=some lv∧w'.cell? ⟨w.heap.size,1,none⟩=some kv∧w'.cell? ⟨g,o+j * 4+3,none⟩=some (.slice (some ⟨g6,o6,none⟩) e2.toks.length cap6)) (go_keep) ((go_at_call 69;refine (HKS.out _ _ lv kv he42 (HSV.out.below (hbx)).drew (HOL.out.below (hbx)).drew (HOK.out.below (hbx)).drew).mono ?_;rintro e' w8 ⟨rfl,hb8⟩;rw[HKD2.out];simp only[resV];have s0:=(hb8.cell (p:=⟨w.heap.size,0,none⟩) hbltx).trans k0;have s1:=(hb8.cell (p:=⟨w.heap.size,1,none⟩) hbltx).trans k1;have s3:=(hb8.cell (p:=⟨g,o+j * 4+3,none⟩) hltx).trans k3;have s6:=(hb8.cell (p:=⟨g6,o6+1,none⟩) hlt6x).trans t6))
          go_wp2
          go_ret
          exact ⟨ret_int (by rw[HW.out,HGR.out,rulesK_s rfl (exprK_ne HKD2.out hq)];rfl),hbel.trans (((hbx).drew.trans (hb8.mono (hbx).size)).mono (Nat.le_of_lt hblt))⟩
      | some p =>
       obtain ⟨kt,e⟩:=p
       have he4:e.toks.length≤400:=by simp[RSt.short,RSt.body_rule,whToks] at hs1;omega
       have HKO:Hid (KindOk ls ks e):=HKA.out e (hs2.1 kt e rfl).2 (fun x hx=>hs3 x (by simp[RSt.body_rule,whToks,hx]))
       obtain ⟨wv,hwv⟩:∃ wv,wv=rs[j].when:=⟨_,rfl⟩
       rw[← hwv] at k2 ok3
       have HWV:Hid (Reads w wv e.toks.length (cellsR e.toks)):=ok3
       clear hwv ok3
       obtain ⟨g5,o5,cap5,rfl,_,hlt5,hc5⟩:=HWV.out.pos e.toks_pos
       have hep:=e.toks_pos
       have hep':(0:Int) < e.toks.length:=by omega
       have t4:wr.cell? ⟨g5,o5+1,none⟩=some (.int .i64 (firstAt e)):=by
        rw[firstAt_eq e]
        exact (hbw.cell (p:=⟨g5,o5+1,none⟩) hlt5).trans (hc5 1 _ (cellsR_get e.toks 0 hep).2)
       have hlt5x:g5 < wr.heap.size:=Nat.lt_trans hlt5 hbltx
       clear hc5
       cases hkd:kindT ((ls.map Stm.name).zip ks) e with
       | error p =>
        have HKD:Hid (kindT ((ls.map Stm.name).zip ks) e=.error p):=hkd
        clear hkd hs1 hs2 hs3 ok4
        go_wp2
        go_region_held3 (fun w'=>w'.cell? ⟨w.heap.size,0,none⟩=some lv∧w'.cell? ⟨w.heap.size,1,none⟩=some kv∧w'.cell? ⟨g,o+j * 4+2,none⟩=some (.slice (some ⟨g5,o5,none⟩) e.toks.length cap5)) (go_keep) ((go_at_call 69;refine (HKO.out _ _ lv kv he4 (HWV.out.below hbw).drew HOL2.out.drew HOK2.out.drew).mono ?_;rintro e' w2 ⟨rfl,hb2⟩;rw[HKD.out];simp only[resV];have r0:=(hb2.cell (p:=⟨w.heap.size,0,none⟩) hbltx).trans k0;have r1:=(hb2.cell (p:=⟨w.heap.size,1,none⟩) hbltx).trans k1;have r2:=(hb2.cell (p:=⟨g,o+j * 4+2,none⟩) hltx).trans k2;have r3:=(hb2.cell (p:=⟨g,o+j * 4+3,none⟩) hltx).trans k3;have r4:=(hb2.cell (p:=⟨g5,o5+1,none⟩) hlt5x).trans t4))
        go_wp2
        go_ret
        exact ⟨ret_int (by rw[HW.out,HGR.out,rulesK_w (exprK_err HKD.out)];rfl),hbel.trans ((hbx.drew.trans (hb2.mono hbx.size)).mono (Nat.le_of_lt hblt))⟩
       | ok q0 =>
        have HKD:Hid (kindT ((ls.map Stm.name).zip ks) e=.ok q0):=hkd
        clear hkd
        by_cases hq0:q0=2
        ·subst hq0
         have HWN:Hid (exprK ((ls.map Stm.name).zip ks) 2 (Option.map Prod.snd (some (kt,e)))=none):=exprK_ok HKD.out
         cases sc with
         | none =>
          have ok4':rs[j].score=.slice none 0 0:=ok4
          rw[ok4'] at k3
          clear ok4 ok4' hs1 hs2 hs3
          go_wp2
          go_region_held3 (fun w'=>w'.cell? ⟨w.heap.size,0,none⟩=some lv∧w'.cell? ⟨w.heap.size,1,none⟩=some kv∧w'.cell? ⟨g,o+j * 4+2,none⟩=some (.slice (some ⟨g5,o5,none⟩) e.toks.length cap5)) (go_keep) ((go_at_call 69;refine (HKO.out _ _ lv kv he4 (HWV.out.below hbw).drew HOL2.out.drew HOK2.out.drew).mono ?_;rintro e' w2 ⟨rfl,hb2⟩;rw[HKD.out];simp only[resV];have r0:=(hb2.cell (p:=⟨w.heap.size,0,none⟩) hbltx).trans k0;have r1:=(hb2.cell (p:=⟨w.heap.size,1,none⟩) hbltx).trans k1;have r2:=(hb2.cell (p:=⟨g,o+j * 4+2,none⟩) hltx).trans k2;have r3:=(hb2.cell (p:=⟨g,o+j * 4+3,none⟩) hltx).trans k3;have r4:=(hb2.cell (p:=⟨g5,o5+1,none⟩) hlt5x).trans t4))
          go_wp2
          go_roundw
          case rel=>exact ⟨j+1,by omega,by go_num,hbx.drew.trans (hb2.mono hbx.size),by rw[HGR.out,rulesK_n HWN.out rfl]⟩
          case measure=>simp[intOf];omega
         | some e2 =>
          have he42:e2.toks.length≤400:=by simp[RSt.short,RSt.body_rule,optToks] at hs1;omega
          have HKS:Hid (KindOk ls ks e2):=HKA.out e2 (hs2.2.2.1 e2 rfl) (fun x hx=>hs3 x (by simp[RSt.body_rule,optToks,hx]))
          obtain ⟨sv,hsv⟩:∃ sv,sv=rs[j].score:=⟨_,rfl⟩
          rw[← hsv] at k3 ok4
          have HSV0:Hid (Reads w sv e2.toks.length (cellsR e2.toks)):=ok4
          have HSV:Hid (Reads w1 sv e2.toks.length (cellsR e2.toks)):=HSV0.out.below hbel
          clear hsv ok4
          obtain ⟨g6,o6,cap6,rfl,_,hlt6,hc6⟩:=HSV0.out.pos e2.toks_pos
          have hep2:=e2.toks_pos
          have hep2':(0:Int) < e2.toks.length:=by omega
          have t6:wr.cell? ⟨g6,o6+1,none⟩=some (.int .i64 (firstAt e2)):=by
           rw[firstAt_eq e2]
           exact (hbw.cell (p:=⟨g6,o6+1,none⟩) hlt6).trans (hc6 1 _ (cellsR_get e2.toks 0 hep2).2)
          have hlt6x:g6 < wr.heap.size:=Nat.lt_trans hlt6 hbltx
          clear hc6 hs1 hs2 hs3
          go_wp2
          go_region_held3 (fun w'=>w'.cell? ⟨w.heap.size,0,none⟩=some lv∧w'.cell? ⟨w.heap.size,1,none⟩=some kv∧w'.cell? ⟨g,o+j * 4+2,none⟩=some (.slice (some ⟨g5,o5,none⟩) e.toks.length cap5)) (go_keep) ((go_at_call 69;refine (HKO.out _ _ lv kv he4 (HWV.out.below hbw).drew HOL2.out.drew HOK2.out.drew).mono ?_;rintro e' w2 ⟨rfl,hb2⟩;rw[HKD.out];simp only[resV];have r0:=(hb2.cell (p:=⟨w.heap.size,0,none⟩) hbltx).trans k0;have r1:=(hb2.cell (p:=⟨w.heap.size,1,none⟩) hbltx).trans k1;have r2:=(hb2.cell (p:=⟨g,o+j * 4+2,none⟩) hltx).trans k2;have r3:=(hb2.cell (p:=⟨g,o+j * 4+3,none⟩) hltx).trans k3;have r4:=(hb2.cell (p:=⟨g5,o5+1,none⟩) hlt5x).trans t4;have r6:=(hb2.cell (p:=⟨g6,o6+1,none⟩) hlt6x).trans t6))
          cases hkd2:kindT ((ls.map Stm.name).zip ks) e2 with
          | error p =>
           have HKD2:Hid (kindT ((ls.map Stm.name).zip ks) e2=.error p):=hkd2
           clear hkd2
           go_wp2
           go_region_held3 (fun w'=>w'.cell? ⟨w.heap.size,0,none⟩=some lv∧w'.cell? ⟨w.heap.size,1,none⟩=some kv∧w'.cell? ⟨g,o+j * 4+3,none⟩=some (.slice (some ⟨g6,o6,none⟩) e2.toks.length cap6)) (go_keep) ((go_at_call 69;refine (HKS.out _ _ lv kv he42 (HSV.out.below (hbx.drew.trans (hb2.mono hbx.size))).drew (HOL.out.below (hbx.drew.trans (hb2.mono hbx.size))).drew (HOK.out.below (hbx.drew.trans (hb2.mono hbx.size))).drew).mono ?_;rintro e' w8 ⟨rfl,hb8⟩;rw[HKD2.out];simp only[resV];have s0:=(hb8.cell (p:=⟨w.heap.size,0,none⟩) (Nat.lt_of_lt_of_le hbltx hb2.size)).trans r0;have s1:=(hb8.cell (p:=⟨w.heap.size,1,none⟩) (Nat.lt_of_lt_of_le hbltx hb2.size)).trans r1;have s3:=(hb8.cell (p:=⟨g,o+j * 4+3,none⟩) (Nat.lt_of_lt_of_le hltx hb2.size)).trans r3;have s6:=(hb8.cell (p:=⟨g6,o6+1,none⟩) (Nat.lt_of_lt_of_le hlt6x hb2.size)).trans r6))
           go_wp2
           go_ret
           exact ⟨ret_int (by rw[HW.out,HGR.out,rulesK_s HWN.out (exprK_err HKD2.out)];rfl),hbel.trans (((hbx.drew.trans (hb2.mono hbx.size)).drew.trans (hb8.mono (hbx.drew.trans (hb2.mono hbx.size)).size)).mono (Nat.le_of_lt hblt))⟩
          | ok q =>
           have HKD2:Hid (kindT ((ls.map Stm.name).zip ks) e2=.ok q):=hkd2
           clear hkd2
           by_cases hq:q=1
           ·subst hq
            go_wp2
            go_region_held3 (fun w'=>w'.cell? ⟨w.heap.size,0,none⟩=some lv∧w'.cell? ⟨w.heap.size,1,none⟩=some kv∧w'.cell? ⟨g,o+j * 4+3,none⟩=some (.slice (some ⟨g6,o6,none⟩) e2.toks.length cap6)) (go_keep) ((go_at_call 69;refine (HKS.out _ _ lv kv he42 (HSV.out.below (hbx.drew.trans (hb2.mono hbx.size))).drew (HOL.out.below (hbx.drew.trans (hb2.mono hbx.size))).drew (HOK.out.below (hbx.drew.trans (hb2.mono hbx.size))).drew).mono ?_;rintro e' w8 ⟨rfl,hb8⟩;rw[HKD2.out];simp only[resV];have s0:=(hb8.cell (p:=⟨w.heap.size,0,none⟩) (Nat.lt_of_lt_of_le hbltx hb2.size)).trans r0;have s1:=(hb8.cell (p:=⟨w.heap.size,1,none⟩) (Nat.lt_of_lt_of_le hbltx hb2.size)).trans r1;have s3:=(hb8.cell (p:=⟨g,o+j * 4+3,none⟩) (Nat.lt_of_lt_of_le hltx hb2.size)).trans r3;have s6:=(hb8.cell (p:=⟨g6,o6+1,none⟩) (Nat.lt_of_lt_of_le hlt6x hb2.size)).trans r6))
            go_wp2
            go_roundw
            case rel=>exact ⟨j+1,by omega,by go_num,(hbx.drew.trans (hb2.mono hbx.size)).drew.trans (hb8.mono (hbx.drew.trans (hb2.mono hbx.size)).size),by rw[HGR.out,rulesK_n HWN.out (exprK_ok HKD2.out)]⟩
            case measure=>simp[intOf];omega
           ·have hq':¬ ((q:Int)=1):=by omega
            go_wp2
            go_region_held3 (fun w'=>w'.cell? ⟨w.heap.size,0,none⟩=some lv∧w'.cell? ⟨w.heap.size,1,none⟩=some kv∧w'.cell? ⟨g,o+j * 4+3,none⟩=some (.slice (some ⟨g6,o6,none⟩) e2.toks.length cap6)) (go_keep) ((go_at_call 69;refine (HKS.out _ _ lv kv he42 (HSV.out.below (hbx.drew.trans (hb2.mono hbx.size))).drew (HOL.out.below (hbx.drew.trans (hb2.mono hbx.size))).drew (HOK.out.below (hbx.drew.trans (hb2.mono hbx.size))).drew).mono ?_;rintro e' w8 ⟨rfl,hb8⟩;rw[HKD2.out];simp only[resV];have s0:=(hb8.cell (p:=⟨w.heap.size,0,none⟩) (Nat.lt_of_lt_of_le hbltx hb2.size)).trans r0;have s1:=(hb8.cell (p:=⟨w.heap.size,1,none⟩) (Nat.lt_of_lt_of_le hbltx hb2.size)).trans r1;have s3:=(hb8.cell (p:=⟨g,o+j * 4+3,none⟩) (Nat.lt_of_lt_of_le hltx hb2.size)).trans r3;have s6:=(hb8.cell (p:=⟨g6,o6+1,none⟩) (Nat.lt_of_lt_of_le hlt6x hb2.size)).trans r6))
            go_wp2
            go_ret
            exact ⟨ret_int (by rw[HW.out,HGR.out,rulesK_s HWN.out (exprK_ne HKD2.out hq)];rfl),hbel.trans (((hbx.drew.trans (hb2.mono hbx.size)).drew.trans (hb8.mono (hbx.drew.trans (hb2.mono hbx.size)).size)).mono (Nat.le_of_lt hblt))⟩
        ·have hq0':¬ ((q0:Int)=2):=by omega
         clear hs1 hs2 hs3 ok4
         go_wp2
         go_region_held3 (fun w'=>w'.cell? ⟨w.heap.size,0,none⟩=some lv∧w'.cell? ⟨w.heap.size,1,none⟩=some kv∧w'.cell? ⟨g,o+j * 4+2,none⟩=some (.slice (some ⟨g5,o5,none⟩) e.toks.length cap5)) (go_keep) ((go_at_call 69;refine (HKO.out _ _ lv kv he4 (HWV.out.below hbw).drew HOL2.out.drew HOK2.out.drew).mono ?_;rintro e' w2 ⟨rfl,hb2⟩;rw[HKD.out];simp only[resV];have r0:=(hb2.cell (p:=⟨w.heap.size,0,none⟩) hbltx).trans k0;have r1:=(hb2.cell (p:=⟨w.heap.size,1,none⟩) hbltx).trans k1;have r2:=(hb2.cell (p:=⟨g,o+j * 4+2,none⟩) hltx).trans k2;have r3:=(hb2.cell (p:=⟨g,o+j * 4+3,none⟩) hltx).trans k3;have r4:=(hb2.cell (p:=⟨g5,o5+1,none⟩) hlt5x).trans t4))
         go_wp2
         go_ret
         exact ⟨ret_int (by rw[HW.out,HGR.out,rulesK_w (exprK_ne HKD.out hq0)];rfl),hbel.trans ((hbx.drew.trans (hb2.mono hbx.size)).mono (Nat.le_of_lt hblt))⟩
    ·go_wp2
     go_ret
     exact ⟨ret_int (by rw[HW.out,HGO.out,List.drop_eq_nil_of_le (by rw[← HRL.out];omega)];rfl),hbw⟩
end Go.Proofs.YtldfkcpbjooemaaGreatDoor
