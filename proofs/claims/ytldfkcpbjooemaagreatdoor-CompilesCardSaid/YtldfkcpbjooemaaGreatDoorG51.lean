/-
  The document's Machine: it does what the operations of an image say.
-/
import Derived.Test.YtldfkcpbjooemaaGreatDoorG50
import Derived.Deep.RegionHeld3
set_option linter.unusedVariables false
set_option linter.unusedSimpArgs false
namespace Go.Proofs.YtldfkcpbjooemaaGreatDoor
open Go.RowKit
theorem grown_nil {wr w1 w2:World} {o:Obj} (hw:Below wr.heap.size wr w1) (hg:(w1.alloc o).grownBy w2 (Value.slice none 0 0).ownBlock):Below wr.heap.size wr w2 :=
 hw.trans ((((Below.refl _ w1).alloc (Nat.le_refl _) o).grown hg (by simp) (fun k hk=>by cases hk)).mono hw.size)
theorem grown_nil0 {wr w1 w2:World} (hw:Below wr.heap.size wr w1) (hg:w1.grownBy w2 (Value.slice none 0 0).ownBlock):Below wr.heap.size wr w2 :=
 hw.trans (((Below.refl _ w1).grown hg (Nat.le_refl _) (fun k hk=>by cases hk)).mono hw.size)
theorem grown_own {wr w1 w2:World} {B:Nat} {v:Value} {n:Nat} {xs:List Value} (hB:B≤w1.heap.size) (hw:Below B wr w1) (hown:w1.ownsRow B 3 1 v n xs) (hg:w1.grownBy w2 v.ownBlock):Below B wr w2 :=
 hw.grown hg hB (fun k hk=>(hown.lt k hk).1)
theorem add_block (g a j:Nat):((⟨g,a,none⟩:Addr).add j).block=g:=by unfold Addr.add;split <;> rfl
theorem own_cast {w:World} {B:Nat} {e:TypeId} {v:Value} {n n':Nat} {xs xs':List Value} (h:w.ownsRow B e 1 v n xs) (hn:n=n') (hx:xs=xs'):w.ownsRow B e 1 v n' xs':=by subst hn;subst hx;exact h
theorem own_lay {w:World} {B:Nat} {v:Value} {m:Nat} {z:Int} {rst:List Int} (h:w.ownsRow B 3 1 v (0+1+m) (([]++[.int .i64 z])++cellsZ rst)) (hm:m=rst.length):w.ownsRow B 3 1 v (z :: rst).length (cellsZ (z :: rst)) :=
 own_cast h (by rw[hm];simp;omega) (by simp[cellsZ])
theorem own_bare {w:World} {B:Nat} {v:Value} {m:Nat} {rst:List Int} (h:w.ownsRow B 3 1 v (0+m) ([]++cellsZ rst)) (hm:m=rst.length):w.ownsRow B 3 1 v rst.length (cellsZ rst) :=
 own_cast h (by rw[hm];simp) (by simp)
set_option maxHeartbeats 40000000 in
set_option maxRecDepth 100000 in
theorem Machine_any (s:ByteArray) (hs:s.size≤4000) (l:List Ins) (hl4:l.length≤4000) (most:Nat) (hmost:most < 256) (G:Nat→Int) (hc:Chain s 3 l s.size) (hl:Lawful l most G) (h3:3 < s.size) (x:Itm) (y:Bn) (hxy:x.Ok∧y.Ok) (v:Value) (w:World) (hv:Reads w v l.length (cellsV l)) :
  Calls Tryz.prog 23 #[v,itmA x,bnA y] w fun e w'=>Below w.heap.size w w'∧e=.returned (resA (runM s x y (s.size+1) 3 [] 0)):=by
 obtain ⟨i0,hin,hz0,hz1,hz2⟩:=info_parts Tryz.infoInt
 have HXY:=Hid.mk2 hxy
 have HC:=Hid.mk2 hc
 obtain ⟨R,hR⟩:∃ R,R=runM s x y (s.size+1) 3 [] 0:=⟨_,rfl⟩
 rw[← hR]
 have hlen:0 < l.length:=by
  cases l with
  | nil=>have:3=s.size:=hc;omega
  | cons a r=>simp
 have HRR:Hid (RRun s l most G x y R [] 0 0 (s.size+1)):=(⟨hlen,by rw[hc.zero hlen];exact AtStep.start hc hl h3,by rw[hc.zero hlen];exact hR,by rw[hc.zero hlen];omega,by omega⟩:RRun s l most G x y R [] 0 0 (s.size+1))
 have HV:=Hid.mk2 hv
 obtain ⟨g,o,cap,rfl,hncap,hglt,hcc⟩:=hv.pos hlen
 have HCC:=Hid.mk2 hcc
 clear hxy hR hc hl hv hcc
 unfold itmA bnA
 go_enter Tryz.func23,Tryz.ntmps23
 go_wp2
 obtain ⟨W0,hW0⟩:∃ W0,W0=((w.alloc (.cells #[.int .i64 x.size,.int .i64 x.speed,.int .i64 x.need] 26)).alloc (.cells #[.int .i64 y.id,.int .i64 y.zone,.int .i64 y.cap,.int .i64 y.used,.int .i64 y.has] 28)).alloc (.cells #[.int .i64 0,.int .i64 0,.int .i64 0] 52):=⟨_,rfl⟩
 have hB0:Below w.heap.size w W0:=by
  rw[hW0]
  exact (((Below.refl _ _).alloc (Nat.le_refl _) _).alloc (by simp) _).alloc (by simp;omega) _
 have hI0:Blk W0 w.heap.size #[.int .i64 x.size,.int .i64 x.speed,.int .i64 x.need] 26:=by
  rw[hW0];exact ((Blk.new w _ _).alloc _).alloc _
 have hN0:Blk W0 (w.heap.size+1) #[.int .i64 y.id,.int .i64 y.zone,.int .i64 y.cap,.int .i64 y.used,.int .i64 y.has] 28:=by
  have:=(Blk.new (w.alloc (.cells #[.int .i64 x.size,.int .i64 x.speed,.int .i64 x.need] 26)) #[.int .i64 y.id,.int .i64 y.zone,.int .i64 y.cap,.int .i64 y.used,.int .i64 y.has] 28).alloc (.cells #[.int .i64 0,.int .i64 0,.int .i64 0] 52)
  rw[← hW0] at this
  simpa using this
 have hR0:Blk W0 (w.heap.size+2) #[.int .i64 0,.int .i64 0,.int .i64 0] 52:=by
  have:=Blk.new ((w.alloc (.cells #[.int .i64 x.size,.int .i64 x.speed,.int .i64 x.need] 26)).alloc (.cells #[.int .i64 y.id,.int .i64 y.zone,.int .i64 y.cap,.int .i64 y.used,.int .i64 y.has] 28)) #[.int .i64 0,.int .i64 0,.int .i64 0] 52
  rw[← hW0] at this
  simpa using this
 have hsz0:w.heap.size+3≤W0.heap.size:=by rw[hW0];simp
 have HW0:=Hid.mk2 hW0
 have HB0:=Hid.mk2 hB0
 have HI0:=Hid.mk2 hI0
 have HN0:=Hid.mk2 hN0
 have HR0:=Hid.mk2 hR0
 clear hW0 hB0 hI0 hN0 hR0
 go_loopw [7,8,9] (fun sv vi vn wx=>∃ (st:List Int) (i n f:Nat),vi=.int .i64 i∧vn=.int .i64 ((n:Int)+1)∧wx.ownsRow (w.heap.size+3) 3 1 sv st.length (cellsZ st)∧Below (w.heap.size+3) W0 wx∧RRun s l most G x y R st i n f) (fun _ i _ _=>l.length - (intOf i).toNat)
 case atStart=>exact HW0.out ▸ ⟨[],0,0,s.size+1,rfl,rfl,World.ownsRow_nil _ _ _ _,Below.refl _ _,HRR.out⟩
 case round =>
  obtain ⟨st,i,n,f,rfl,rfl,hown,hbl,hrr⟩:=hrel
  have HO:=Hid.mk2 hown
  have HRr:=Hid.mk2 hrr
  have hi:i < l.length:=hrr.hi
  have hsz:w.heap.size+3≤wr.heap.size:=Nat.le_trans hsz0 hbl.size
  have hblw:Below w.heap.size w wr:=HB0.out.trans (hbl.mono (by omega))
  have hcell:∀ j u,(cellsV l)[j]?=some u→wr.cell? ⟨g,o+j,none⟩=some u:=fun j u hj=>(hblw.cell (p:=⟨g,o+j,none⟩) hglt).trans (HCC.out j u hj)
  have hget:=cellsN_get l i hi
  obtain ⟨ps,hps⟩:∃ ps,ps=(nth l i).pos:=⟨_,rfl⟩
  obtain ⟨c,hcc⟩:∃ c,c=(nth l i).op:=⟨_,rfl⟩
  obtain ⟨a,haa⟩:∃ a,a=(nth l i).arg:=⟨_,rfl⟩
  obtain ⟨nx,hnx⟩:∃ nx,nx=(nth l i).next:=⟨_,rfl⟩
  have HE:Hid (nth l i=⟨ps,c,a,nx⟩):=(by rw[hps,hcc,haa,hnx]:nth l i=⟨ps,c,a,nx⟩)
  have c0:wr.cell? ⟨g,o+i * 4,none⟩=some (.int .i64 ps):=by rw[hps];exact hcell _ _ hget.1
  have c1:wr.cell? ⟨g,o+i * 4+1,none⟩=some (.int .i64 c):=by rw[hcc];have:=hcell _ _ hget.2.1;rw[← Nat.add_assoc] at this;exact this
  have c2:wr.cell? ⟨g,o+i * 4+2,none⟩=some (.int .i64 a):=by rw[haa];have:=hcell _ _ hget.2.2.1;rw[← Nat.add_assoc] at this;exact this
  have c3:wr.cell? ⟨g,o+i * 4+3,none⟩=some (.int .i64 nx):=by rw[hnx];have:=hcell _ _ hget.2.2.2;rw[← Nat.add_assoc] at this;exact this
  have hmk:=nth_mk HC.out hi
  have hok:=hrr.at'.ok
  have htall:=hrr.at'.tall
  have hopb:(nth l i).op=bt s (nth l i).pos:=by rw[hmk];rfl
  have h17:c≤17:=by rw[hcc,hopb];exact hok.2.1
  have htk:takesN c≤st.length:=by rw[hcc,hopb];exact htall
  have hnxs:nx≤s.size:=by rw[hnx,hmk];exact hok.2.2.1
  have hpss:ps < s.size:=by rw[hps];exact hok.1
  have hnps:n≤ps:=by rw[hps];exact hrr.steps
  have hstl:st.length≤255:=by have:=hrr.at'.most_le;omega
  have hnum:∀ z∈st,In64 z:=hrr.at'.nums
  have hja:c=13∨c=14∨c=15→0≤a∧a≤65535:=by
   intro h
   have h1:=jump_arg s (nth l i).pos (by rw[← hmk,← hcc];exact h)
   rw[← hmk,← haa] at h1
   have:=lowU_two s ((nth l i).pos+1)
   omega
  have hat1:c=1→0≤a∧a≤6:=by
   intro h
   have hb1:bt s (nth l i).pos=1:=by rw[← hopb,← hcc];exact h
   have h1:=hok.2.2.2 hb1
   have h2:a=bt s ((nth l i).pos+1):=by
    rw[haa,hmk]
    show IntKind.i64.wrap (lowU s ((nth l i).pos+1) (behindN (bt s (nth l i).pos)):Nat)=_
    rw[hb1,show behindN 1=1 from rfl,lowU_one]
    exact wrap_small _ (by have:=bt_lt s ((nth l i).pos+1);omega)
   omega
  have r0:wr.cell? ⟨w.heap.size+1+1,0,none⟩=some (.int .i64 0):=(hbl.cell (p:=⟨w.heap.size+2,0,none⟩) (by simp)).trans (HR0.out.cell 0)
  have r1:wr.cell? ⟨w.heap.size+1+1,1,none⟩=some (.int .i64 0):=(hbl.cell (p:=⟨w.heap.size+2,1,none⟩) (by simp)).trans (HR0.out.cell 1)
  have r2:wr.cell? ⟨w.heap.size+1+1,2,none⟩=some (.int .i64 0):=(hbl.cell (p:=⟨w.heap.size+2,2,none⟩) (by simp)).trans (HR0.out.cell 2)
  have f0:wr.frozen? ⟨w.heap.size+1+1,0,none⟩=false:=(hbl.frozen (p:=⟨w.heap.size+2,0,none⟩) (by simp)).trans (HR0.out.free 0)
  have f1:wr.frozen? ⟨w.heap.size+1+1,1,none⟩=false:=(hbl.frozen (p:=⟨w.heap.size+2,1,none⟩) (by simp)).trans (HR0.out.free 1)
  have f2:wr.frozen? ⟨w.heap.size+1+1,2,none⟩=false:=(hbl.frozen (p:=⟨w.heap.size+2,2,none⟩) (by simp)).trans (HR0.out.free 2)
  have hl0:w.heap.size < wr.heap.size:=by omega
  have hl1:w.heap.size+1 < wr.heap.size:=by omega
  have hl2:w.heap.size+1+1 < wr.heap.size:=by omega
  have hrne:w.heap.size+1+1≠wr.heap.size:=by omega
  have R0:(wr.alloc (.cells #[.int .i64 ps,.int .i64 c,.int .i64 a,.int .i64 nx] 88)).cell? ⟨w.heap.size+1+1,0,none⟩=some (.int .i64 0):=((box3 wr (.cells #[.int .i64 ps,.int .i64 c,.int .i64 a,.int .i64 nx] 88)).cell (p:=⟨w.heap.size+1+1,0,none⟩) hl2).trans r0
  have F0:(wr.alloc (.cells #[.int .i64 ps,.int .i64 c,.int .i64 a,.int .i64 nx] 88)).frozen? ⟨w.heap.size+1+1,0,none⟩=false:=((box3 wr (.cells #[.int .i64 ps,.int .i64 c,.int .i64 a,.int .i64 nx] 88)).frozen (p:=⟨w.heap.size+1+1,0,none⟩) hl2).trans f0
  have R1:(wr.alloc (.cells #[.int .i64 ps,.int .i64 c,.int .i64 a,.int .i64 nx] 88)).cell? ⟨w.heap.size+1+1,1,none⟩=some (.int .i64 0):=((box3 wr (.cells #[.int .i64 ps,.int .i64 c,.int .i64 a,.int .i64 nx] 88)).cell (p:=⟨w.heap.size+1+1,1,none⟩) hl2).trans r1
  have F1:(wr.alloc (.cells #[.int .i64 ps,.int .i64 c,.int .i64 a,.int .i64 nx] 88)).frozen? ⟨w.heap.size+1+1,1,none⟩=false:=((box3 wr (.cells #[.int .i64 ps,.int .i64 c,.int .i64 a,.int .i64 nx] 88)).frozen (p:=⟨w.heap.size+1+1,1,none⟩) hl2).trans f1
  have R2:(wr.alloc (.cells #[.int .i64 ps,.int .i64 c,.int .i64 a,.int .i64 nx] 88)).cell? ⟨w.heap.size+1+1,2,none⟩=some (.int .i64 0):=((box3 wr (.cells #[.int .i64 ps,.int .i64 c,.int .i64 a,.int .i64 nx] 88)).cell (p:=⟨w.heap.size+1+1,2,none⟩) hl2).trans r2
  have F2:(wr.alloc (.cells #[.int .i64 ps,.int .i64 c,.int .i64 a,.int .i64 nx] 88)).frozen? ⟨w.heap.size+1+1,2,none⟩=false:=((box3 wr (.cells #[.int .i64 ps,.int .i64 c,.int .i64 a,.int .i64 nx] 88)).frozen (p:=⟨w.heap.size+1+1,2,none⟩) hl2).trans f2
  have HRb:Hid (Blk wr (w.heap.size+1+1) #[.int .i64 0,.int .i64 0,.int .i64 0] 52):=Blk.below HR0.out hbl (by omega)
  have HNum:=Hid.mk2 hnum
  have HTk0:=Hid.mk2 htk
  have HJA:=Hid.mk2 hja
  have HA1:=Hid.mk2 hat1
  have HVr:=Hid.mk2 (HV.out.below hblw)
  have HBl:=Hid.mk2 hbl
  have HBw:=Hid.mk2 hblw
  clear hown hrr hcell hget hmk hok htall hopb htk hnum hja hat1 hps hcc haa hnx hbl hblw
  have hk:c=0∨c=1∨c=2∨c=3∨c=13∨(c=14∨c=15)∨c=16∨c=17∨(4≤c∧c≤12):=by omega
  rcases hk with hk | hk | hk | hk | hk | hk | hk | hk | hk
  ·have hs0:stepM x y (nth l i) st=.inr (nx,a :: st):=by rw[HE.out,hk];rfl
   obtain ⟨k2,f2',hik,hpos,hrr2,hnext⟩:=HRr.out.goes HXY.out hs0
   have hk2:=hnext (by rw[HE.out])
   subst hk2
   have HR2:=Hid.mk2 hrr2
   have HT:Hid (takesN c=0):=(by rw[hk];rfl:takesN c=0)
   have HLy:Hid (laysN c=1):=(by rw[hk];rfl:laysN c=1)
   have q16:((c:Int)==16)=false:=by simp;omega
   have q17:((c:Int)==17)=false:=by simp;omega
   have q0:((c:Int)==0)=true:=by simp;omega
   clear hs0 hik hpos hrr2 hnext hk
   rcases HO.out.2 with ⟨rfl,hst0⟩ | ⟨gs,cs,cur,rfl,hgs,hgb,_,_,_,_⟩
   ·have hst0':st=[]:=List.eq_nil_of_length_eq_zero hst0
    subst hst0'
    clear hst0
    go_wp2_with (first | (go_at_call 44;refine (takes_any c _).mono ?_;rintro e _ ⟨rfl,rfl⟩;rw[HT.out]) | (go_at_call 50;refine (lays_any c _).mono ?_;rintro e _ ⟨rfl,rfl⟩;rw[HLy.out]) | (at_builtin;refine wpList_append_own _ rfl (.tmp 125) (.tmp 127) 40 rfl (w.heap.size+3) 3 i0 (.int .i64 0) 1 8 Tryz.underlying40 hin hz0 hz1 hz2 rfl (by decide) _ _ _ rfl (World.ownsRow_nil _ _ _ _) ⟨_,0,none⟩ 1 1 [.int .i64 (a)] rfl rfl (cell_one_at _ _ _ _ (by simp)) one_int1 (by unfold maxLen;omega) (by omega) (by first | omega | (simp;omega)) ?_;intro v2 w2 hown2 hgrow2 _;have hbw2:Below wr.heap.size wr w2:=grown_nil (box3 _ _) hgrow2;have hsz2:=hbw2.size) | (at_builtin;refine wpList_append_own_none rfl (.tmp 129) (.tmp 130) 40 rfl (w.heap.size+3) 3 i0 1 Tryz.underlying40 hin _ _ _ rfl (hown2) rfl ?_))
    go_roundw
    case rel=>exact ⟨a :: [],i+1,n+1,f2',by go_num,by push_cast;go_num,hown2,HBl.out.trans (hbw2.mono hsz),HR2.out⟩
    case measure=>have:=HR2.out.hi;simp[intOf];omega
   ·obtain ⟨hNe,hNc,hall,hrest⟩:=rest_cells (tk:=0) HO.out (by have:=HTk0.out;rw[HT.out] at this;exact this)
    obtain ⟨m,hm⟩:∃ m,m=st.length - 0:=⟨_,rfl⟩
    obtain ⟨mc,hmc⟩:∃ mc,mc=cs - 0:=⟨_,rfl⟩
    obtain ⟨a0,ha0⟩:∃ a0,a0=if cs=0 then 0 else 0:=⟨_,rfl⟩
    obtain ⟨rst,hrs⟩:∃ rst,rst=st.drop 0:=⟨_,rfl⟩
    have HRl:Hid (m=rst.length):=(by rw[hrs,hm,List.length_drop]:m=rst.length)
    have hm255:m≤255:=by omega
    have hsl1:∀ wx,(Instr.slice 40 (.slice (some ⟨gs,0,none⟩) st.length cs) none (some (.int .i64 0)) none).run Tryz.prog wx=.ok (.slice (some ⟨gs,0,none⟩) 0 cs) wx:=fun wx=>slh_int gs st.length cs 0 (by have:=HTk0.out;rw[HT.out] at this;omega) wx
    have hsl2:∀ wx,(Instr.slice 40 (.slice (some ⟨gs,0,none⟩) st.length cs) (some (.int .i64 0)) none none).run Tryz.prog wx=.ok (.slice (some ⟨gs,a0,none⟩) m mc) wx:=fun wx=>by
     rw[ha0,hm,hmc]
     exact sll_int gs st.length cs 0 (by have:=HTk0.out;rw[HT.out] at this;exact this) wx
    have HRest:Hid (∀ j u,(cellsZ rst)[j]?=some u→wr.cell? ((⟨gs,a0,none⟩:Addr).add j)=some u):=(by rw[hrs,ha0];exact hrest:∀ j u,(cellsZ rst)[j]?=some u→wr.cell? ((⟨gs,a0,none⟩:Addr).add j)=some u)
    have hgslt:gs < wr.heap.size:=lt_of_block hgb
    have hgne:gs≠wr.heap.size:=by omega
    have hgne':wr.heap.size≠gs:=by omega
    have HRs:=Hid.mk2 hrs
    clear hNe hrest hm hmc ha0 hrs hgb
    go_wp2_with (first | (go_at_call 44;refine (takes_any c _).mono ?_;rintro e _ ⟨rfl,rfl⟩;rw[HT.out]) | (go_at_call 50;refine (lays_any c _).mono ?_;rintro e _ ⟨rfl,rfl⟩;rw[HLy.out]) | (at_builtin;refine wpList_append_own _ rfl (.tmp 125) (.tmp 127) 40 rfl (w.heap.size+3) 3 i0 (.int .i64 0) 1 8 Tryz.underlying40 hin hz0 hz1 hz2 rfl (by decide) _ _ _ rfl (World.ownsRow_nil _ _ _ _) ⟨_,0,none⟩ 1 1 [.int .i64 (a)] rfl rfl (cell_one_at _ _ _ _ (by simp)) one_int1 (by unfold maxLen;omega) (by omega) (by first | omega | (simp;omega)) ?_;intro v2 w2 hown2 hgrow2 _;have hbw2:Below wr.heap.size wr w2:=grown_nil (box3 _ _) hgrow2;have hsz2:=hbw2.size) | (at_builtin;refine wpList_append_own _ rfl (.tmp 129) (.tmp 130) 40 rfl (w.heap.size+3) 3 i0 (.int .i64 0) 1 8 Tryz.underlying40 hin hz0 hz1 hz2 rfl (by decide) _ _ _ rfl (hown2) ⟨gs,a0,none⟩ m mc (cellsZ rst) rfl (by rw[HRl.out];simp[cellsZ]) (fun j u hj=>(hbw2.cell (p:=(⟨gs,a0,none⟩:Addr).add j) (by rw[add_block];exact hgslt)).trans (HRest.out j u hj)) (one_cells _) (by unfold maxLen;omega) (by omega) (by first | omega | (simp;omega)) ?_;intro v3 w3 hown3 hgrow3 _;have hbw3:Below (w.heap.size+3) wr w3:=grown_own (by omega) (hbw2.mono hsz) hown2 hgrow3))
    go_roundw
    case rel=>exact ⟨a :: rst,i+1,n+1,f2',by go_num,by push_cast;go_num,own_lay hown3 HRl.out,HBl.out.trans hbw3,by rw[HRs.out];exact HR2.out⟩
    case measure=>have:=HR2.out.hi;simp[intOf];omega
  ·have hs0:stepM x y (nth l i) st=.inr (nx,attrN a x y :: st):=by rw[HE.out,hk];rfl
   obtain ⟨k2,f2',hik,hpos,hrr2,hnext⟩:=HRr.out.goes HXY.out hs0
   have hk2:=hnext (by rw[HE.out])
   subst hk2
   have HR2:=Hid.mk2 hrr2
   have HT:Hid (takesN c=0):=(by rw[hk];rfl:takesN c=0)
   have HLy:Hid (laysN c=1):=(by rw[hk];rfl:laysN c=1)
   have q16:((c:Int)==16)=false:=by simp;omega
   have q17:((c:Int)==17)=false:=by simp;omega
   have q0:((c:Int)==0)=false:=by simp;omega
   have q1:((c:Int)==1)=true:=by simp;omega
   have ii0:wr.cell? ⟨w.heap.size,0,none⟩=some (.int .i64 x.size):=(HBl.out.cell (p:=⟨w.heap.size,0,none⟩) (by simp)).trans (HI0.out.cell 0)
   have ii1:wr.cell? ⟨w.heap.size,1,none⟩=some (.int .i64 x.speed):=(HBl.out.cell (p:=⟨w.heap.size,1,none⟩) (by simp)).trans (HI0.out.cell 1)
   have ii2:wr.cell? ⟨w.heap.size,2,none⟩=some (.int .i64 x.need):=(HBl.out.cell (p:=⟨w.heap.size,2,none⟩) (by simp)).trans (HI0.out.cell 2)
   have ib0:wr.cell? ⟨w.heap.size+1,0,none⟩=some (.int .i64 y.id):=(HBl.out.cell (p:=⟨w.heap.size+1,0,none⟩) (by simp)).trans (HN0.out.cell 0)
   have ib1:wr.cell? ⟨w.heap.size+1,1,none⟩=some (.int .i64 y.zone):=(HBl.out.cell (p:=⟨w.heap.size+1,1,none⟩) (by simp)).trans (HN0.out.cell 1)
   have ib2:wr.cell? ⟨w.heap.size+1,2,none⟩=some (.int .i64 y.cap):=(HBl.out.cell (p:=⟨w.heap.size+1,2,none⟩) (by simp)).trans (HN0.out.cell 2)
   have ib3:wr.cell? ⟨w.heap.size+1,3,none⟩=some (.int .i64 y.used):=(HBl.out.cell (p:=⟨w.heap.size+1,3,none⟩) (by simp)).trans (HN0.out.cell 3)
   have ib4:wr.cell? ⟨w.heap.size+1,4,none⟩=some (.int .i64 y.has):=(HBl.out.cell (p:=⟨w.heap.size+1,4,none⟩) (by simp)).trans (HN0.out.cell 4)
   have hine:w.heap.size≠wr.heap.size:=by omega
   have hine':wr.heap.size≠w.heap.size:=by omega
   have hbne:w.heap.size+1≠wr.heap.size:=by omega
   have hbne':wr.heap.size≠w.heap.size+1:=by omega
   have Ji0:=((box3 wr (.cells #[.int .i64 ps,.int .i64 c,.int .i64 a,.int .i64 nx] 88)).cell (p:=⟨w.heap.size,0,none⟩) hl0).trans ii0
   have Ji1:=((box3 wr (.cells #[.int .i64 ps,.int .i64 c,.int .i64 a,.int .i64 nx] 88)).cell (p:=⟨w.heap.size,1,none⟩) hl0).trans ii1
   have Ji2:=((box3 wr (.cells #[.int .i64 ps,.int .i64 c,.int .i64 a,.int .i64 nx] 88)).cell (p:=⟨w.heap.size,2,none⟩) hl0).trans ii2
   have Jb0:=((box3 wr (.cells #[.int .i64 ps,.int .i64 c,.int .i64 a,.int .i64 nx] 88)).cell (p:=⟨w.heap.size+1,0,none⟩) hl1).trans ib0
   have Jb1:=((box3 wr (.cells #[.int .i64 ps,.int .i64 c,.int .i64 a,.int .i64 nx] 88)).cell (p:=⟨w.heap.size+1,1,none⟩) hl1).trans ib1
   have Jb2:=((box3 wr (.cells #[.int .i64 ps,.int .i64 c,.int .i64 a,.int .i64 nx] 88)).cell (p:=⟨w.heap.size+1,2,none⟩) hl1).trans ib2
   have Jb3:=((box3 wr (.cells #[.int .i64 ps,.int .i64 c,.int .i64 a,.int .i64 nx] 88)).cell (p:=⟨w.heap.size+1,3,none⟩) hl1).trans ib3
   have Jb4:=((box3 wr (.cells #[.int .i64 ps,.int .i64 c,.int .i64 a,.int .i64 nx] 88)).cell (p:=⟨w.heap.size+1,4,none⟩) hl1).trans ib4
   have HA1':=HA1.out hk
   clear hs0 hik hpos hrr2 hnext hk
   rcases HO.out.2 with ⟨rfl,hst0⟩ | ⟨gs,cs,cur,rfl,hgs,hgb,_,_,_,_⟩
   ·have hst0':st=[]:=List.eq_nil_of_length_eq_zero hst0
    subst hst0'
    clear hst0
    go_wp2_with (first | (go_at_call 44;refine (takes_any c _).mono ?_;rintro e _ ⟨rfl,rfl⟩;rw[HT.out]) | (go_at_call 50;refine (lays_any c _).mono ?_;rintro e _ ⟨rfl,rfl⟩;rw[HLy.out]) | (go_at_call 45;refine (attribute_any a HA1' x y _).mono ?_;rintro e w1 ⟨rfl,hb1⟩;have hbw1:Below wr.heap.size wr w1:=(box3 _ _).trans (hb1.mono (by simp));have hsz1:=hbw1.size;have x1:=(hb1.cell (p:=⟨wr.heap.size,1,none⟩) (by simp)).trans (show _=some (.int .i64 c) by simp)) | (at_builtin;refine wpList_append_own _ rfl (.tmp 125) (.tmp 127) 40 rfl (w.heap.size+3) 3 i0 (.int .i64 0) 1 8 Tryz.underlying40 hin hz0 hz1 hz2 rfl (by decide) _ _ _ rfl (World.ownsRow_nil _ _ _ _) ⟨_,0,none⟩ 1 1 [.int .i64 (attrN a x y)] rfl rfl (cell_one_at _ _ _ _ (by simp)) one_int1 (by unfold maxLen;omega) (by omega) (by first | omega | (simp;omega)) ?_;intro v2 w2 hown2 hgrow2 _;have hbw2:Below wr.heap.size wr w2:=grown_nil hbw1 hgrow2;have hsz2:=hbw2.size) | (at_builtin;refine wpList_append_own_none rfl (.tmp 129) (.tmp 130) 40 rfl (w.heap.size+3) 3 i0 1 Tryz.underlying40 hin _ _ _ rfl (hown2) rfl ?_))
    go_roundw
    case rel=>exact ⟨attrN a x y :: [],i+1,n+1,f2',by go_num,by push_cast;go_num,hown2,HBl.out.trans (hbw2.mono hsz),HR2.out⟩
    case measure=>have:=HR2.out.hi;simp[intOf];omega
   ·obtain ⟨hNe,hNc,hall,hrest⟩:=rest_cells (tk:=0) HO.out (by have:=HTk0.out;rw[HT.out] at this;exact this)
    obtain ⟨m,hm⟩:∃ m,m=st.length - 0:=⟨_,rfl⟩
    obtain ⟨mc,hmc⟩:∃ mc,mc=cs - 0:=⟨_,rfl⟩
    obtain ⟨a0,ha0⟩:∃ a0,a0=if cs=0 then 0 else 0:=⟨_,rfl⟩
    obtain ⟨rst,hrs⟩:∃ rst,rst=st.drop 0:=⟨_,rfl⟩
    have HRl:Hid (m=rst.length):=(by rw[hrs,hm,List.length_drop]:m=rst.length)
    have hm255:m≤255:=by omega
    have hsl1:∀ wx,(Instr.slice 40 (.slice (some ⟨gs,0,none⟩) st.length cs) none (some (.int .i64 0)) none).run Tryz.prog wx=.ok (.slice (some ⟨gs,0,none⟩) 0 cs) wx:=fun wx=>slh_int gs st.length cs 0 (by have:=HTk0.out;rw[HT.out] at this;omega) wx
    have hsl2:∀ wx,(Instr.slice 40 (.slice (some ⟨gs,0,none⟩) st.length cs) (some (.int .i64 0)) none none).run Tryz.prog wx=.ok (.slice (some ⟨gs,a0,none⟩) m mc) wx:=fun wx=>by
     rw[ha0,hm,hmc]
     exact sll_int gs st.length cs 0 (by have:=HTk0.out;rw[HT.out] at this;exact this) wx
    have HRest:Hid (∀ j u,(cellsZ rst)[j]?=some u→wr.cell? ((⟨gs,a0,none⟩:Addr).add j)=some u):=(by rw[hrs,ha0];exact hrest:∀ j u,(cellsZ rst)[j]?=some u→wr.cell? ((⟨gs,a0,none⟩:Addr).add j)=some u)
    have hgslt:gs < wr.heap.size:=lt_of_block hgb
    have hgne:gs≠wr.heap.size:=by omega
    have hgne':wr.heap.size≠gs:=by omega
    have HRs:=Hid.mk2 hrs
    clear hNe hrest hm hmc ha0 hrs hgb
    go_wp2_with (first | (go_at_call 44;refine (takes_any c _).mono ?_;rintro e _ ⟨rfl,rfl⟩;rw[HT.out]) | (go_at_call 50;refine (lays_any c _).mono ?_;rintro e _ ⟨rfl,rfl⟩;rw[HLy.out]) | (go_at_call 45;refine (attribute_any a HA1' x y _).mono ?_;rintro e w1 ⟨rfl,hb1⟩;have hbw1:Below wr.heap.size wr w1:=(box3 _ _).trans (hb1.mono (by simp));have hsz1:=hbw1.size;have x1:=(hb1.cell (p:=⟨wr.heap.size,1,none⟩) (by simp)).trans (show _=some (.int .i64 c) by simp)) | (at_builtin;refine wpList_append_own _ rfl (.tmp 125) (.tmp 127) 40 rfl (w.heap.size+3) 3 i0 (.int .i64 0) 1 8 Tryz.underlying40 hin hz0 hz1 hz2 rfl (by decide) _ _ _ rfl (World.ownsRow_nil _ _ _ _) ⟨_,0,none⟩ 1 1 [.int .i64 (attrN a x y)] rfl rfl (cell_one_at _ _ _ _ (by simp)) one_int1 (by unfold maxLen;omega) (by omega) (by first | omega | (simp;omega)) ?_;intro v2 w2 hown2 hgrow2 _;have hbw2:Below wr.heap.size wr w2:=grown_nil hbw1 hgrow2;have hsz2:=hbw2.size) | (at_builtin;refine wpList_append_own _ rfl (.tmp 129) (.tmp 130) 40 rfl (w.heap.size+3) 3 i0 (.int .i64 0) 1 8 Tryz.underlying40 hin hz0 hz1 hz2 rfl (by decide) _ _ _ rfl (hown2) ⟨gs,a0,none⟩ m mc (cellsZ rst) rfl (by rw[HRl.out];simp[cellsZ]) (fun j u hj=>(hbw2.cell (p:=(⟨gs,a0,none⟩:Addr).add j) (by rw[add_block];exact hgslt)).trans (HRest.out j u hj)) (one_cells _) (by unfold maxLen;omega) (by omega) (by first | omega | (simp;omega)) ?_;intro v3 w3 hown3 hgrow3 _;have hbw3:Below (w.heap.size+3) wr w3:=grown_own (by omega) (hbw2.mono hsz) hown2 hgrow3))
    go_roundw
    case rel=>exact ⟨attrN a x y :: rst,i+1,n+1,f2',by go_num,by push_cast;go_num,own_lay hown3 HRl.out,HBl.out.trans hbw3,by rw[HRs.out];exact HR2.out⟩
    case measure=>have:=HR2.out.hi;simp[intOf];omega
  ·have HT:Hid (takesN c=1):=(by rw[hk];rfl:takesN c=1)
   have HLy:Hid (laysN c=1):=(by rw[hk];rfl:laysN c=1)
   obtain ⟨z,hz0',hzm⟩:=get_of (st:=st) (k:=0) (by have:=HTk0.out;rw[HT.out] at this;omega)
   have hfst:=fst_of hz0'
   have HZ:Hid (In64 z):=HNum.out z hzm
   have hs00:stepM x y (nth l i) st=layM (negN z) nx (st.drop 1):=by rw[HE.out,hk,← hfst];rfl
   have q16:((c:Int)==16)=false:=by simp;omega
   have q17:((c:Int)==17)=false:=by simp;omega
   have q0:((c:Int)==0)=false:=by simp;omega
   have q1:((c:Int)==1)=false:=by simp;omega
   have q2:((c:Int)==2)=true:=by simp;omega
   by_cases hiz:In64 (0 - z)
   ·obtain ⟨zv,hzv⟩:∃ zv,zv=0 - z:=⟨_,rfl⟩
    have hneg:negN z=(zv,0):=by unfold negN;rw[exact_in hiz,hzv]
    have HJ:Hid (joinN 5 0 z=(zv,0)):=hneg
    have hs0:stepM x y (nth l i) st=.inr (nx,zv :: st.drop 1):=by rw[hs00,hneg];rfl
    obtain ⟨k2,f2',hik,hpos,hrr2,hnext⟩:=HRr.out.goes HXY.out hs0
    have hk2:=hnext (by rw[HE.out])
    subst hk2
    have HR2:=Hid.mk2 hrr2
    clear hs0 hs00 hneg hzv hiz hik hpos hrr2 hnext hk hfst
    rcases HO.out.2 with ⟨hv,hst0⟩ | ⟨gs,cs,cur,rfl,hgs,hgb,_,_,_,_⟩
    ·exfalso;have:=HTk0.out;rw[HT.out] at this;omega
    ·obtain ⟨hNe,hNc,hall,hrest⟩:=rest_cells (tk:=1) HO.out (by have:=HTk0.out;rw[HT.out] at this;exact this)
     obtain ⟨m,hm⟩:∃ m,m=st.length - 1:=⟨_,rfl⟩
     obtain ⟨mc,hmc⟩:∃ mc,mc=cs - 1:=⟨_,rfl⟩
     obtain ⟨a0,ha0⟩:∃ a0,a0=if cs=1 then 0 else 1:=⟨_,rfl⟩
     obtain ⟨rst,hrs⟩:∃ rst,rst=st.drop 1:=⟨_,rfl⟩
     have HRl:Hid (m=rst.length):=(by rw[hrs,hm,List.length_drop]:m=rst.length)
     have hm255:m≤255:=by omega
     have hsl1:∀ wx,(Instr.slice 40 (.slice (some ⟨gs,0,none⟩) st.length cs) none (some (.int .i64 1)) none).run Tryz.prog wx=.ok (.slice (some ⟨gs,0,none⟩) 1 cs) wx:=fun wx=>slh_int gs st.length cs 1 (by have:=HTk0.out;rw[HT.out] at this;omega) wx
     have hsl2:∀ wx,(Instr.slice 40 (.slice (some ⟨gs,0,none⟩) st.length cs) (some (.int .i64 1)) none none).run Tryz.prog wx=.ok (.slice (some ⟨gs,a0,none⟩) m mc) wx:=fun wx=>by
      rw[ha0,hm,hmc]
      exact sll_int gs st.length cs 1 (by have:=HTk0.out;rw[HT.out] at this;exact this) wx
     have HRest:Hid (∀ j u,(cellsZ rst)[j]?=some u→wr.cell? ((⟨gs,a0,none⟩:Addr).add j)=some u):=(by rw[hrs,ha0];exact hrest:∀ j u,(cellsZ rst)[j]?=some u→wr.cell? ((⟨gs,a0,none⟩:Addr).add j)=some u)
     have hgslt:gs < wr.heap.size:=lt_of_block hgb
     have hgne:gs≠wr.heap.size:=by omega
     have hgne':wr.heap.size≠gs:=by omega
     have HRs:=Hid.mk2 hrs
     clear hNe hrest hm hmc ha0 hrs hgb
     have cz:wr.cell? ⟨gs,0,none⟩=some (.int .i64 z):=hall 0 _ (by simp[cellsZ,hz0'])
     have cz':=((box3 wr (.cells #[.int .i64 ps,.int .i64 c,.int .i64 a,.int .i64 nx] 88)).cell (p:=⟨gs,0,none⟩) hgslt).trans cz
     clear hall hz0'
     go_wp2_with (first | (go_at_call 44;refine (takes_any c _).mono ?_;rintro e _ ⟨rfl,rfl⟩;rw[HT.out]) | (go_at_call 50;refine (lays_any c _).mono ?_;rintro e _ ⟨rfl,rfl⟩;rw[HLy.out]) | (go_at_call 46;refine (Joined_any 5 ⟨by omega,by omega⟩ 0 z (by decide) HZ.out _).mono ?_;rintro e _ ⟨rfl,rfl⟩;rw[HJ.out]) | (at_builtin;refine wpList_append_own _ rfl (.tmp 125) (.tmp 127) 40 rfl (w.heap.size+3) 3 i0 (.int .i64 0) 1 8 Tryz.underlying40 hin hz0 hz1 hz2 rfl (by decide) _ _ _ rfl (World.ownsRow_nil _ _ _ _) ⟨_,0,none⟩ 1 1 [.int .i64 (zv)] rfl rfl (cell_one_at _ _ _ _ (by simp)) one_int1 (by unfold maxLen;omega) (by omega) (by first | omega | (simp;omega)) ?_;intro v2 w2 hown2 hgrow2 _;have hbw2:Below wr.heap.size wr w2:=grown_nil (box3 _ _) hgrow2;have hsz2:=hbw2.size) | (at_builtin;refine wpList_append_own _ rfl (.tmp 129) (.tmp 130) 40 rfl (w.heap.size+3) 3 i0 (.int .i64 0) 1 8 Tryz.underlying40 hin hz0 hz1 hz2 rfl (by decide) _ _ _ rfl (hown2) ⟨gs,a0,none⟩ m mc (cellsZ rst) rfl (by rw[HRl.out];simp[cellsZ]) (fun j u hj=>(hbw2.cell (p:=(⟨gs,a0,none⟩:Addr).add j) (by rw[add_block];exact hgslt)).trans (HRest.out j u hj)) (one_cells _) (by unfold maxLen;omega) (by omega) (by first | omega | (simp;omega)) ?_;intro v3 w3 hown3 hgrow3 _;have hbw3:Below (w.heap.size+3) wr w3:=grown_own (by omega) (hbw2.mono hsz) hown2 hgrow3))
     go_roundw
     case rel=>exact ⟨zv :: rst,i+1,n+1,f2',by go_num,by push_cast;go_num,own_lay hown3 HRl.out,HBl.out.trans hbw3,by rw[HRs.out];exact HR2.out⟩
     case measure=>have:=HR2.out.hi;simp[intOf];omega
   ·have hneg:negN z=(0,1):=exact_out hiz
    have HJ:Hid (joinN 5 0 z=(0,1)):=hneg
    have hs0:stepM x y (nth l i) st=.inl (2,1):=by rw[hs00,hneg];rfl
    have HEnd:=Hid.mk2 (HRr.out.ends hs0)
    clear hs0 hs00 hneg hiz hk hfst
    rcases HO.out.2 with ⟨hv,hst0⟩ | ⟨gs,cs,cur,rfl,hgs,hgb,_,_,_,_⟩
    ·exfalso;have:=HTk0.out;rw[HT.out] at this;omega
    ·obtain ⟨hNe,hNc,hall,hrest⟩:=rest_cells (tk:=1) HO.out (by have:=HTk0.out;rw[HT.out] at this;exact this)
     obtain ⟨m,hm⟩:∃ m,m=st.length - 1:=⟨_,rfl⟩
     obtain ⟨mc,hmc⟩:∃ mc,mc=cs - 1:=⟨_,rfl⟩
     obtain ⟨a0,ha0⟩:∃ a0,a0=if cs=1 then 0 else 1:=⟨_,rfl⟩
     obtain ⟨rst,hrs⟩:∃ rst,rst=st.drop 1:=⟨_,rfl⟩
     have HRl:Hid (m=rst.length):=(by rw[hrs,hm,List.length_drop]:m=rst.length)
     have hm255:m≤255:=by omega
     have hsl1:∀ wx,(Instr.slice 40 (.slice (some ⟨gs,0,none⟩) st.length cs) none (some (.int .i64 1)) none).run Tryz.prog wx=.ok (.slice (some ⟨gs,0,none⟩) 1 cs) wx:=fun wx=>slh_int gs st.length cs 1 (by have:=HTk0.out;rw[HT.out] at this;omega) wx
     have hsl2:∀ wx,(Instr.slice 40 (.slice (some ⟨gs,0,none⟩) st.length cs) (some (.int .i64 1)) none none).run Tryz.prog wx=.ok (.slice (some ⟨gs,a0,none⟩) m mc) wx:=fun wx=>by
      rw[ha0,hm,hmc]
      exact sll_int gs st.length cs 1 (by have:=HTk0.out;rw[HT.out] at this;exact this) wx
     have HRest:Hid (∀ j u,(cellsZ rst)[j]?=some u→wr.cell? ((⟨gs,a0,none⟩:Addr).add j)=some u):=(by rw[hrs,ha0];exact hrest:∀ j u,(cellsZ rst)[j]?=some u→wr.cell? ((⟨gs,a0,none⟩:Addr).add j)=some u)
     have hgslt:gs < wr.heap.size:=lt_of_block hgb
     have hgne:gs≠wr.heap.size:=by omega
     have hgne':wr.heap.size≠gs:=by omega
     have HRs:=Hid.mk2 hrs
     clear hNe hrest hm hmc ha0 hrs hgb
     have cz:wr.cell? ⟨gs,0,none⟩=some (.int .i64 z):=hall 0 _ (by simp[cellsZ,hz0'])
     have cz':=((box3 wr (.cells #[.int .i64 ps,.int .i64 c,.int .i64 a,.int .i64 nx] 88)).cell (p:=⟨gs,0,none⟩) hgslt).trans cz
     clear hall hz0'
     go_wp2_with (first | (go_at_call 44;refine (takes_any c _).mono ?_;rintro e _ ⟨rfl,rfl⟩;rw[HT.out]) | (go_at_call 46;refine (Joined_any 5 ⟨by omega,by omega⟩ 0 z (by decide) HZ.out _).mono ?_;rintro e _ ⟨rfl,rfl⟩;rw[HJ.out]))
     have hfb:=((fin_blk HRb.out (.int .i64 2) (.int .i64 1) (.int .i64 ((n:Int)+1))).alloc (.cells #[.int .i64 ps,.int .i64 c,.int .i64 a,.int .i64 nx] 88))
     have g0:=hfb.cell 0
     have g1:=hfb.cell 1
     have g2:=hfb.cell 2
     refine bodyPost_ret (v:=.agg #[.int .i64 2,.int .i64 1,.int .i64 ((n:Int)+1)]) (by simp[results,Tryz.results23,go_sem,g0,g1,g2]) rfl ⟨?_,by rw[HEnd.out];unfold resA;simp⟩
     exact HBw.out.trans ((fin_below (Below.refl w.heap.size wr) (by omega) _ _ _).alloc (by simp;omega) _)
  ·have HT:Hid (takesN c=1):=(by rw[hk];rfl:takesN c=1)
   have HLy:Hid (laysN c=1):=(by rw[hk];rfl:laysN c=1)
   obtain ⟨z,hz0',hzm⟩:=get_of (st:=st) (k:=0) (by have:=HTk0.out;rw[HT.out] at this;omega)
   have hfst:=fst_of hz0'
   have HZ:Hid (In64 z):=HNum.out z hzm
   obtain ⟨zv,hzv⟩:∃ zv,zv=bitN (decide (z=0)):=⟨_,rfl⟩
   have HB3:Hid (bitN (z==0)=zv):=(by rw[beq_dec,hzv]:bitN (z==0)=zv)
   have hs0:stepM x y (nth l i) st=.inr (nx,zv :: st.drop 1):=by rw[HE.out,hk,hzv,← hfst];rfl
   obtain ⟨k2,f2',hik,hpos,hrr2,hnext⟩:=HRr.out.goes HXY.out hs0
   have hk2:=hnext (by rw[HE.out])
   subst hk2
   have HR2:=Hid.mk2 hrr2
   have q16:((c:Int)==16)=false:=by simp;omega
   have q17:((c:Int)==17)=false:=by simp;omega
   have q0:((c:Int)==0)=false:=by simp;omega
   have q1:((c:Int)==1)=false:=by simp;omega
   have q2:((c:Int)==2)=false:=by simp;omega
   have q3:((c:Int)==3)=true:=by simp;omega
   clear hs0 hzv hik hpos hrr2 hnext hk hfst
   rcases HO.out.2 with ⟨hv,hst0⟩ | ⟨gs,cs,cur,rfl,hgs,hgb,_,_,_,_⟩
   ·exfalso;have:=HTk0.out;rw[HT.out] at this;omega
   ·obtain ⟨hNe,hNc,hall,hrest⟩:=rest_cells (tk:=1) HO.out (by have:=HTk0.out;rw[HT.out] at this;exact this)
    obtain ⟨m,hm⟩:∃ m,m=st.length - 1:=⟨_,rfl⟩
    obtain ⟨mc,hmc⟩:∃ mc,mc=cs - 1:=⟨_,rfl⟩
    obtain ⟨a0,ha0⟩:∃ a0,a0=if cs=1 then 0 else 1:=⟨_,rfl⟩
    obtain ⟨rst,hrs⟩:∃ rst,rst=st.drop 1:=⟨_,rfl⟩
    have HRl:Hid (m=rst.length):=(by rw[hrs,hm,List.length_drop]:m=rst.length)
    have hm255:m≤255:=by omega
    have hsl1:∀ wx,(Instr.slice 40 (.slice (some ⟨gs,0,none⟩) st.length cs) none (some (.int .i64 1)) none).run Tryz.prog wx=.ok (.slice (some ⟨gs,0,none⟩) 1 cs) wx:=fun wx=>slh_int gs st.length cs 1 (by have:=HTk0.out;rw[HT.out] at this;omega) wx
    have hsl2:∀ wx,(Instr.slice 40 (.slice (some ⟨gs,0,none⟩) st.length cs) (some (.int .i64 1)) none none).run Tryz.prog wx=.ok (.slice (some ⟨gs,a0,none⟩) m mc) wx:=fun wx=>by
     rw[ha0,hm,hmc]
     exact sll_int gs st.length cs 1 (by have:=HTk0.out;rw[HT.out] at this;exact this) wx
    have HRest:Hid (∀ j u,(cellsZ rst)[j]?=some u→wr.cell? ((⟨gs,a0,none⟩:Addr).add j)=some u):=(by rw[hrs,ha0];exact hrest:∀ j u,(cellsZ rst)[j]?=some u→wr.cell? ((⟨gs,a0,none⟩:Addr).add j)=some u)
    have hgslt:gs < wr.heap.size:=lt_of_block hgb
    have hgne:gs≠wr.heap.size:=by omega
    have hgne':wr.heap.size≠gs:=by omega
    have HRs:=Hid.mk2 hrs
    clear hNe hrest hm hmc ha0 hrs hgb
    have cz:wr.cell? ⟨gs,0,none⟩=some (.int .i64 z):=hall 0 _ (by simp[cellsZ,hz0'])
    have cz':=((box3 wr (.cells #[.int .i64 ps,.int .i64 c,.int .i64 a,.int .i64 nx] 88)).cell (p:=⟨gs,0,none⟩) hgslt).trans cz
    clear hall hz0'
    go_wp2_with (first | (go_at_call 44;refine (takes_any c _).mono ?_;rintro e _ ⟨rfl,rfl⟩;rw[HT.out]) | (go_at_call 50;refine (lays_any c _).mono ?_;rintro e _ ⟨rfl,rfl⟩;rw[HLy.out]) | (go_at_call 47;refine (bit_any _ _).mono ?_;rintro e _ ⟨rfl,rfl⟩;rw[HB3.out]) | (at_builtin;refine wpList_append_own _ rfl (.tmp 125) (.tmp 127) 40 rfl (w.heap.size+3) 3 i0 (.int .i64 0) 1 8 Tryz.underlying40 hin hz0 hz1 hz2 rfl (by decide) _ _ _ rfl (World.ownsRow_nil _ _ _ _) ⟨_,0,none⟩ 1 1 [.int .i64 (zv)] rfl rfl (cell_one_at _ _ _ _ (by simp)) one_int1 (by unfold maxLen;omega) (by omega) (by first | omega | (simp;omega)) ?_;intro v2 w2 hown2 hgrow2 _;have hbw2:Below wr.heap.size wr w2:=grown_nil (box3 _ _) hgrow2;have hsz2:=hbw2.size) | (at_builtin;refine wpList_append_own _ rfl (.tmp 129) (.tmp 130) 40 rfl (w.heap.size+3) 3 i0 (.int .i64 0) 1 8 Tryz.underlying40 hin hz0 hz1 hz2 rfl (by decide) _ _ _ rfl (hown2) ⟨gs,a0,none⟩ m mc (cellsZ rst) rfl (by rw[HRl.out];simp[cellsZ]) (fun j u hj=>(hbw2.cell (p:=(⟨gs,a0,none⟩:Addr).add j) (by rw[add_block];exact hgslt)).trans (HRest.out j u hj)) (one_cells _) (by unfold maxLen;omega) (by omega) (by first | omega | (simp;omega)) ?_;intro v3 w3 hown3 hgrow3 _;have hbw3:Below (w.heap.size+3) wr w3:=grown_own (by omega) (hbw2.mono hsz) hown2 hgrow3))
    go_roundw
    case rel=>exact ⟨zv :: rst,i+1,n+1,f2',by go_num,by push_cast;go_num,own_lay hown3 HRl.out,HBl.out.trans hbw3,by rw[HRs.out];exact HR2.out⟩
    case measure=>have:=HR2.out.hi;simp[intOf];omega
  ·have HT:Hid (takesN c=0):=(by rw[hk];rfl:takesN c=0)
   have HLy:Hid (laysN c=0):=(by rw[hk];rfl:laysN c=0)
   obtain ⟨ha0',ha6'⟩:=HJA.out (.inl hk)
   have hs0:stepM x y (nth l i) st=.inr (Ins.to ⟨ps,c,a,nx⟩,st):=by rw[HE.out,hk];rfl
   obtain ⟨k2,f2',hik,hpos,hrr2,_⟩:=HRr.out.goes HXY.out hs0
   have HR2:=Hid.mk2 hrr2
   have HK2:=Hid.mk2 hrr2.hi
   have hk2l:k2 < l.length:=hrr2.hi
   have HP2:Hid (((nth l k2).pos:Int)=(nx:Int)+a):=(by rw[hpos];unfold Ins.to;simp only;omega:((nth l k2).pos:Int)=(nx:Int)+a)
   have q16:((c:Int)==16)=false:=by simp;omega
   have q17:((c:Int)==17)=false:=by simp;omega
   have q0:((c:Int)==0)=false:=by simp;omega
   have q1:((c:Int)==1)=false:=by simp;omega
   have q2:((c:Int)==2)=false:=by simp;omega
   have q3:((c:Int)==3)=false:=by simp;omega
   have q13:((c:Int)==13)=true:=by simp;omega
   clear hs0 hpos hrr2 hk
   rcases HO.out.2 with ⟨rfl,hst0⟩ | ⟨gs,cs,cur,rfl,hgs,hgb,_,_,_,_⟩
   ·have hst0':st=[]:=List.eq_nil_of_length_eq_zero hst0
    subst hst0'
    clear hst0
    go_wp2_with ((go_at_call 44;refine (takes_any c _).mono ?_;rintro e _ ⟨rfl,rfl⟩;rw[HT.out]))
    go_quiet (fail)
    go_wp2_with (first | (go_at_call 50;refine (lays_any c _).mono ?_;rintro e _ ⟨rfl,rfl⟩;rw[HLy.out]) | (go_at_call 48;refine (index_any l hl4 ((nx:Int)+a) _ _ (HVr.out.below (below_drewN (box3 _ _) _))).mono ?_;rintro e _ ⟨r,rfl,hix,rfl⟩;obtain rfl:=IsIndex.at HC.out HK2.out HP2.out hix) | (at_builtin;refine wpList_append_own_none rfl (.tmp 129) (.tmp 130) 40 rfl (w.heap.size+3) 3 i0 1 Tryz.underlying40 hin _ _ _ rfl (World.ownsRow_nil _ _ _ _) rfl ?_))
    go_roundw
    case rel=>exact ⟨[],k2,n+1,f2',rfl,by push_cast;go_num,World.ownsRow_nil _ _ _ _,HBl.out.trans ((below_drewN (box3 _ _) _).mono hsz),HR2.out⟩
    case measure=>simp[intOf];omega
   ·obtain ⟨hNe,hNc,hall,hrest⟩:=rest_cells (tk:=0) HO.out (by have:=HTk0.out;rw[HT.out] at this;exact this)
    obtain ⟨m,hm⟩:∃ m,m=st.length - 0:=⟨_,rfl⟩
    obtain ⟨mc,hmc⟩:∃ mc,mc=cs - 0:=⟨_,rfl⟩
    obtain ⟨a0,ha0⟩:∃ a0,a0=if cs=0 then 0 else 0:=⟨_,rfl⟩
    obtain ⟨rst,hrs⟩:∃ rst,rst=st.drop 0:=⟨_,rfl⟩
    have HRl:Hid (m=rst.length):=(by rw[hrs,hm,List.length_drop]:m=rst.length)
    have hm255:m≤255:=by omega
    have hsl1:∀ wx,(Instr.slice 40 (.slice (some ⟨gs,0,none⟩) st.length cs) none (some (.int .i64 0)) none).run Tryz.prog wx=.ok (.slice (some ⟨gs,0,none⟩) 0 cs) wx:=fun wx=>slh_int gs st.length cs 0 (by have:=HTk0.out;rw[HT.out] at this;omega) wx
    have hsl2:∀ wx,(Instr.slice 40 (.slice (some ⟨gs,0,none⟩) st.length cs) (some (.int .i64 0)) none none).run Tryz.prog wx=.ok (.slice (some ⟨gs,a0,none⟩) m mc) wx:=fun wx=>by
     rw[ha0,hm,hmc]
     exact sll_int gs st.length cs 0 (by have:=HTk0.out;rw[HT.out] at this;exact this) wx
    have HRest:Hid (∀ j u,(cellsZ rst)[j]?=some u→wr.cell? ((⟨gs,a0,none⟩:Addr).add j)=some u):=(by rw[hrs,ha0];exact hrest:∀ j u,(cellsZ rst)[j]?=some u→wr.cell? ((⟨gs,a0,none⟩:Addr).add j)=some u)
    have hgslt:gs < wr.heap.size:=lt_of_block hgb
    have hgne:gs≠wr.heap.size:=by omega
    have hgne':wr.heap.size≠gs:=by omega
    have HRs:=Hid.mk2 hrs
    clear hNe hrest hm hmc ha0 hrs hgb
    go_wp2_with ((go_at_call 44;refine (takes_any c _).mono ?_;rintro e _ ⟨rfl,rfl⟩;rw[HT.out]))
    go_quiet (fail)
    have hbq:Below wr.heap.size wr ((wr.alloc (.cells #[.int .i64 ps,.int .i64 c,.int .i64 a,.int .i64 nx] 88)).drewN nq):=below_drewN (box3 _ _) _
    go_wp2_with (first | (go_at_call 50;refine (lays_any c _).mono ?_;rintro e _ ⟨rfl,rfl⟩;rw[HLy.out]) | (go_at_call 48;refine (index_any l hl4 ((nx:Int)+a) _ _ (HVr.out.below (below_drewN (box3 _ _) _))).mono ?_;rintro e _ ⟨r,rfl,hix,rfl⟩;obtain rfl:=IsIndex.at HC.out HK2.out HP2.out hix) | (at_builtin;refine wpList_append_own _ rfl (.tmp 129) (.tmp 130) 40 rfl (w.heap.size+3) 3 i0 (.int .i64 0) 1 8 Tryz.underlying40 hin hz0 hz1 hz2 rfl (by decide) _ _ _ rfl (World.ownsRow_nil _ _ _ _) ⟨gs,a0,none⟩ m mc (cellsZ rst) rfl (by rw[HRl.out];simp[cellsZ]) (fun j u hj=>(hbq.cell (p:=(⟨gs,a0,none⟩:Addr).add j) (by rw[add_block];exact hgslt)).trans (HRest.out j u hj)) (one_cells _) (by unfold maxLen;omega) (by omega) (by first | omega | (simp;omega)) ?_;intro v3 w3 hown3 hgrow3 _;have hbw3:Below (w.heap.size+3) wr w3:=(grown_nil0 hbq hgrow3).mono hsz))
    go_roundw
    case rel=>exact ⟨rst,k2,n+1,f2',rfl,by push_cast;go_num,own_bare hown3 HRl.out,HBl.out.trans hbw3,by rw[HRs.out];exact HR2.out⟩
    case measure=>simp[intOf];omega
  ·have HT:Hid (takesN c=1):=(by rcases hk with hk | hk <;> rw[hk] <;> rfl:takesN c=1)
   have HLy:Hid (laysN c=0):=(by rcases hk with hk | hk <;> rw[hk] <;> rfl:laysN c=0)
   obtain ⟨z,hz0',hzm⟩:=get_of (st:=st) (k:=0) (by have:=HTk0.out;rw[HT.out] at this;omega)
   have hfst:=fst_of hz0'
   have HZ:Hid (In64 z):=HNum.out z hzm
   obtain ⟨ha0',ha6'⟩:=HJA.out (.inr hk)
   have q16:((c:Int)==16)=false:=by simp;omega
   have q17:((c:Int)==17)=false:=by simp;omega
   have q0:((c:Int)==0)=false:=by simp;omega
   have q1:((c:Int)==1)=false:=by simp;omega
   have q2:((c:Int)==2)=false:=by simp;omega
   have q3:((c:Int)==3)=false:=by simp;omega
   have q13:((c:Int)==13)=false:=by simp;omega
   obtain ⟨bz,hbz⟩:∃ b,(z==0)=b:=⟨_,rfl⟩
   have hq:(((c:Int)==14)=true∧((c:Int)==15)=false)∨(((c:Int)==14)=false∧((c:Int)==15)=true):=by rcases hk with h | h <;> simp[h]
   have hst1:stepM x y (nth l i) st=.inr (if ((z==0)=((c:Int)==14)) then Ins.to ⟨ps,c,a,nx⟩ else nx,st.drop 1):=by
    rw[HE.out]
    rcases hk with hk | hk
    ·rw[hk]
     show Sum.inr ((if fst st=0 then Ins.to ⟨ps,14,a,nx⟩ else nx),st.drop 1)=_
     rw[hfst]
     by_cases hz:z=0 <;> simp[hz]
    ·rw[hk]
     show Sum.inr ((if fst st=0 then nx else Ins.to ⟨ps,15,a,nx⟩),st.drop 1)=_
     rw[hfst]
     by_cases hz:z=0 <;> simp[hz]
   clear hk hfst
   rcases hq with ⟨q14,q15⟩ | ⟨q14,q15⟩ <;> cases bz
   case inl.true =>
    rw[hbz,q14,if_pos (by rfl)] at hst1
    obtain ⟨k2,f2',hik,hpos,hrr2,_⟩:=HRr.out.goes HXY.out hst1
    have HR2:=Hid.mk2 hrr2
    have HK2:=Hid.mk2 hrr2.hi
    have hk2l:k2 < l.length:=hrr2.hi
    have HP2:Hid (((nth l k2).pos:Int)=(nx:Int)+a):=(by rw[hpos];unfold Ins.to;simp only;omega:((nth l k2).pos:Int)=(nx:Int)+a)
    clear hst1 hpos hrr2
    rcases HO.out.2 with ⟨hv,hst0⟩ | ⟨gs,cs,cur,rfl,hgs,hgb,_,_,_,_⟩
    ·exfalso;have:=HTk0.out;rw[HT.out] at this;omega
    obtain ⟨hNe,hNc,hall,hrest⟩:=rest_cells (tk:=1) HO.out (by have:=HTk0.out;rw[HT.out] at this;exact this)
    obtain ⟨m,hm⟩:∃ m,m=st.length - 1:=⟨_,rfl⟩
    obtain ⟨mc,hmc⟩:∃ mc,mc=cs - 1:=⟨_,rfl⟩
    obtain ⟨a0,ha0⟩:∃ a0,a0=if cs=1 then 0 else 1:=⟨_,rfl⟩
    obtain ⟨rst,hrs⟩:∃ rst,rst=st.drop 1:=⟨_,rfl⟩
    have HRl:Hid (m=rst.length):=(by rw[hrs,hm,List.length_drop]:m=rst.length)
    have hm255:m≤255:=by omega
    have hsl1:∀ wx,(Instr.slice 40 (.slice (some ⟨gs,0,none⟩) st.length cs) none (some (.int .i64 1)) none).run Tryz.prog wx=.ok (.slice (some ⟨gs,0,none⟩) 1 cs) wx:=fun wx=>slh_int gs st.length cs 1 (by have:=HTk0.out;rw[HT.out] at this;omega) wx
    have hsl2:∀ wx,(Instr.slice 40 (.slice (some ⟨gs,0,none⟩) st.length cs) (some (.int .i64 1)) none none).run Tryz.prog wx=.ok (.slice (some ⟨gs,a0,none⟩) m mc) wx:=fun wx=>by
     rw[ha0,hm,hmc]
     exact sll_int gs st.length cs 1 (by have:=HTk0.out;rw[HT.out] at this;exact this) wx
    have HRest:Hid (∀ j u,(cellsZ rst)[j]?=some u→wr.cell? ((⟨gs,a0,none⟩:Addr).add j)=some u):=(by rw[hrs,ha0];exact hrest:∀ j u,(cellsZ rst)[j]?=some u→wr.cell? ((⟨gs,a0,none⟩:Addr).add j)=some u)
    have hgslt:gs < wr.heap.size:=lt_of_block hgb
    have hgne:gs≠wr.heap.size:=by omega
    have hgne':wr.heap.size≠gs:=by omega
    have HRs:=Hid.mk2 hrs
    clear hNe hrest hm hmc ha0 hrs hgb
    have cz:wr.cell? ⟨gs,0,none⟩=some (.int .i64 z):=hall 0 _ (by simp[cellsZ,hz0'])
    have cz':=((box3 wr (.cells #[.int .i64 ps,.int .i64 c,.int .i64 a,.int .i64 nx] 88)).cell (p:=⟨gs,0,none⟩) hgslt).trans cz
    clear hall hz0'
    go_wp2_with ((go_at_call 44;refine (takes_any c _).mono ?_;rintro e _ ⟨rfl,rfl⟩;rw[HT.out]))
    go_quiet (fail)
    have hbq:Below wr.heap.size wr ((wr.alloc (.cells #[.int .i64 ps,.int .i64 c,.int .i64 a,.int .i64 nx] 88)).drewN nq):=below_drewN (box3 _ _) _
    go_wp2_with (first | (go_at_call 50;refine (lays_any c _).mono ?_;rintro e _ ⟨rfl,rfl⟩;rw[HLy.out]) | (go_at_call 48;refine (index_any l hl4 ((nx:Int)+a) _ _ (HVr.out.below (below_drewN (box3 _ _) _))).mono ?_;rintro e _ ⟨r,rfl,hix,rfl⟩;obtain rfl:=IsIndex.at HC.out HK2.out HP2.out hix) | (at_builtin;refine wpList_append_own _ rfl (.tmp 129) (.tmp 130) 40 rfl (w.heap.size+3) 3 i0 (.int .i64 0) 1 8 Tryz.underlying40 hin hz0 hz1 hz2 rfl (by decide) _ _ _ rfl (World.ownsRow_nil _ _ _ _) ⟨gs,a0,none⟩ m mc (cellsZ rst) rfl (by rw[HRl.out];simp[cellsZ]) (fun j u hj=>(hbq.cell (p:=(⟨gs,a0,none⟩:Addr).add j) (by rw[add_block];exact hgslt)).trans (HRest.out j u hj)) (one_cells _) (by unfold maxLen;omega) (by omega) (by first | omega | (simp;omega)) ?_;intro v3 w3 hown3 hgrow3 _;have hbw3:Below (w.heap.size+3) wr w3:=(grown_nil0 hbq hgrow3).mono hsz))
    go_roundw
    case rel=>exact ⟨rst,k2,n+1,f2',rfl,by push_cast;go_num,own_bare hown3 HRl.out,HBl.out.trans hbw3,by rw[HRs.out];exact HR2.out⟩
    case measure=>simp[intOf];omega
   case inl.false =>
    rw[hbz,q14,if_neg (by decide)] at hst1
    obtain ⟨k2,f2',hik,hpos,hrr2,hnext⟩:=HRr.out.goes HXY.out hst1
    have hk2:=hnext (by rw[HE.out])
    subst hk2
    have HR2:=Hid.mk2 hrr2
    clear hst1 hpos hrr2 hnext hik
    rcases HO.out.2 with ⟨hv,hst0⟩ | ⟨gs,cs,cur,rfl,hgs,hgb,_,_,_,_⟩
    ·exfalso;have:=HTk0.out;rw[HT.out] at this;omega
    obtain ⟨hNe,hNc,hall,hrest⟩:=rest_cells (tk:=1) HO.out (by have:=HTk0.out;rw[HT.out] at this;exact this)
    obtain ⟨m,hm⟩:∃ m,m=st.length - 1:=⟨_,rfl⟩
    obtain ⟨mc,hmc⟩:∃ mc,mc=cs - 1:=⟨_,rfl⟩
    obtain ⟨a0,ha0⟩:∃ a0,a0=if cs=1 then 0 else 1:=⟨_,rfl⟩
    obtain ⟨rst,hrs⟩:∃ rst,rst=st.drop 1:=⟨_,rfl⟩
    have HRl:Hid (m=rst.length):=(by rw[hrs,hm,List.length_drop]:m=rst.length)
    have hm255:m≤255:=by omega
    have hsl1:∀ wx,(Instr.slice 40 (.slice (some ⟨gs,0,none⟩) st.length cs) none (some (.int .i64 1)) none).run Tryz.prog wx=.ok (.slice (some ⟨gs,0,none⟩) 1 cs) wx:=fun wx=>slh_int gs st.length cs 1 (by have:=HTk0.out;rw[HT.out] at this;omega) wx
    have hsl2:∀ wx,(Instr.slice 40 (.slice (some ⟨gs,0,none⟩) st.length cs) (some (.int .i64 1)) none none).run Tryz.prog wx=.ok (.slice (some ⟨gs,a0,none⟩) m mc) wx:=fun wx=>by
     rw[ha0,hm,hmc]
     exact sll_int gs st.length cs 1 (by have:=HTk0.out;rw[HT.out] at this;exact this) wx
    have HRest:Hid (∀ j u,(cellsZ rst)[j]?=some u→wr.cell? ((⟨gs,a0,none⟩:Addr).add j)=some u):=(by rw[hrs,ha0];exact hrest:∀ j u,(cellsZ rst)[j]?=some u→wr.cell? ((⟨gs,a0,none⟩:Addr).add j)=some u)
    have hgslt:gs < wr.heap.size:=lt_of_block hgb
    have hgne:gs≠wr.heap.size:=by omega
    have hgne':wr.heap.size≠gs:=by omega
    have HRs:=Hid.mk2 hrs
    clear hNe hrest hm hmc ha0 hrs hgb
    have cz:wr.cell? ⟨gs,0,none⟩=some (.int .i64 z):=hall 0 _ (by simp[cellsZ,hz0'])
    have cz':=((box3 wr (.cells #[.int .i64 ps,.int .i64 c,.int .i64 a,.int .i64 nx] 88)).cell (p:=⟨gs,0,none⟩) hgslt).trans cz
    clear hall hz0'
    go_wp2_with ((go_at_call 44;refine (takes_any c _).mono ?_;rintro e _ ⟨rfl,rfl⟩;rw[HT.out]))
    go_quiet (fail)
    have hbq:Below wr.heap.size wr ((wr.alloc (.cells #[.int .i64 ps,.int .i64 c,.int .i64 a,.int .i64 nx] 88)).drewN nq):=below_drewN (box3 _ _) _
    go_wp2_with (first | (go_at_call 50;refine (lays_any c _).mono ?_;rintro e _ ⟨rfl,rfl⟩;rw[HLy.out]) | (at_builtin;refine wpList_append_own _ rfl (.tmp 129) (.tmp 130) 40 rfl (w.heap.size+3) 3 i0 (.int .i64 0) 1 8 Tryz.underlying40 hin hz0 hz1 hz2 rfl (by decide) _ _ _ rfl (World.ownsRow_nil _ _ _ _) ⟨gs,a0,none⟩ m mc (cellsZ rst) rfl (by rw[HRl.out];simp[cellsZ]) (fun j u hj=>(hbq.cell (p:=(⟨gs,a0,none⟩:Addr).add j) (by rw[add_block];exact hgslt)).trans (HRest.out j u hj)) (one_cells _) (by unfold maxLen;omega) (by omega) (by first | omega | (simp;omega)) ?_;intro v3 w3 hown3 hgrow3 _;have hbw3:Below (w.heap.size+3) wr w3:=(grown_nil0 hbq hgrow3).mono hsz))
    go_roundw
    case rel=>exact ⟨rst,i+1,n+1,f2',by go_num,by push_cast;go_num,own_bare hown3 HRl.out,HBl.out.trans hbw3,by rw[HRs.out];exact HR2.out⟩
    case measure=>have:=HR2.out.hi;simp[intOf];omega
   case inr.true =>
    rw[hbz,q14,if_neg (by decide)] at hst1
    obtain ⟨k2,f2',hik,hpos,hrr2,hnext⟩:=HRr.out.goes HXY.out hst1
    have hk2:=hnext (by rw[HE.out])
    subst hk2
    have HR2:=Hid.mk2 hrr2
    clear hst1 hpos hrr2 hnext hik
    rcases HO.out.2 with ⟨hv,hst0⟩ | ⟨gs,cs,cur,rfl,hgs,hgb,_,_,_,_⟩
    ·exfalso;have:=HTk0.out;rw[HT.out] at this;omega
    obtain ⟨hNe,hNc,hall,hrest⟩:=rest_cells (tk:=1) HO.out (by have:=HTk0.out;rw[HT.out] at this;exact this)
    obtain ⟨m,hm⟩:∃ m,m=st.length - 1:=⟨_,rfl⟩
    obtain ⟨mc,hmc⟩:∃ mc,mc=cs - 1:=⟨_,rfl⟩
    obtain ⟨a0,ha0⟩:∃ a0,a0=if cs=1 then 0 else 1:=⟨_,rfl⟩
    obtain ⟨rst,hrs⟩:∃ rst,rst=st.drop 1:=⟨_,rfl⟩
    have HRl:Hid (m=rst.length):=(by rw[hrs,hm,List.length_drop]:m=rst.length)
    have hm255:m≤255:=by omega
    have hsl1:∀ wx,(Instr.slice 40 (.slice (some ⟨gs,0,none⟩) st.length cs) none (some (.int .i64 1)) none).run Tryz.prog wx=.ok (.slice (some ⟨gs,0,none⟩) 1 cs) wx:=fun wx=>slh_int gs st.length cs 1 (by have:=HTk0.out;rw[HT.out] at this;omega) wx
    have hsl2:∀ wx,(Instr.slice 40 (.slice (some ⟨gs,0,none⟩) st.length cs) (some (.int .i64 1)) none none).run Tryz.prog wx=.ok (.slice (some ⟨gs,a0,none⟩) m mc) wx:=fun wx=>by
     rw[ha0,hm,hmc]
     exact sll_int gs st.length cs 1 (by have:=HTk0.out;rw[HT.out] at this;exact this) wx
    have HRest:Hid (∀ j u,(cellsZ rst)[j]?=some u→wr.cell? ((⟨gs,a0,none⟩:Addr).add j)=some u):=(by rw[hrs,ha0];exact hrest:∀ j u,(cellsZ rst)[j]?=some u→wr.cell? ((⟨gs,a0,none⟩:Addr).add j)=some u)
    have hgslt:gs < wr.heap.size:=lt_of_block hgb
    have hgne:gs≠wr.heap.size:=by omega
    have hgne':wr.heap.size≠gs:=by omega
    have HRs:=Hid.mk2 hrs
    clear hNe hrest hm hmc ha0 hrs hgb
    have cz:wr.cell? ⟨gs,0,none⟩=some (.int .i64 z):=hall 0 _ (by simp[cellsZ,hz0'])
    have cz':=((box3 wr (.cells #[.int .i64 ps,.int .i64 c,.int .i64 a,.int .i64 nx] 88)).cell (p:=⟨gs,0,none⟩) hgslt).trans cz
    clear hall hz0'
    go_wp2_with ((go_at_call 44;refine (takes_any c _).mono ?_;rintro e _ ⟨rfl,rfl⟩;rw[HT.out]))
    go_quiet (fail)
    have hbq:Below wr.heap.size wr ((wr.alloc (.cells #[.int .i64 ps,.int .i64 c,.int .i64 a,.int .i64 nx] 88)).drewN nq):=below_drewN (box3 _ _) _
    go_wp2_with (first | (go_at_call 50;refine (lays_any c _).mono ?_;rintro e _ ⟨rfl,rfl⟩;rw[HLy.out]) | (at_builtin;refine wpList_append_own _ rfl (.tmp 129) (.tmp 130) 40 rfl (w.heap.size+3) 3 i0 (.int .i64 0) 1 8 Tryz.underlying40 hin hz0 hz1 hz2 rfl (by decide) _ _ _ rfl (World.ownsRow_nil _ _ _ _) ⟨gs,a0,none⟩ m mc (cellsZ rst) rfl (by rw[HRl.out];simp[cellsZ]) (fun j u hj=>(hbq.cell (p:=(⟨gs,a0,none⟩:Addr).add j) (by rw[add_block];exact hgslt)).trans (HRest.out j u hj)) (one_cells _) (by unfold maxLen;omega) (by omega) (by first | omega | (simp;omega)) ?_;intro v3 w3 hown3 hgrow3 _;have hbw3:Below (w.heap.size+3) wr w3:=(grown_nil0 hbq hgrow3).mono hsz))
    go_roundw
    case rel=>exact ⟨rst,i+1,n+1,f2',by go_num,by push_cast;go_num,own_bare hown3 HRl.out,HBl.out.trans hbw3,by rw[HRs.out];exact HR2.out⟩
    case measure=>have:=HR2.out.hi;simp[intOf];omega
   case inr.false =>
    rw[hbz,q14,if_pos (by rfl)] at hst1
    obtain ⟨k2,f2',hik,hpos,hrr2,_⟩:=HRr.out.goes HXY.out hst1
    have HR2:=Hid.mk2 hrr2
    have HK2:=Hid.mk2 hrr2.hi
    have hk2l:k2 < l.length:=hrr2.hi
    have HP2:Hid (((nth l k2).pos:Int)=(nx:Int)+a):=(by rw[hpos];unfold Ins.to;simp only;omega:((nth l k2).pos:Int)=(nx:Int)+a)
    clear hst1 hpos hrr2
    rcases HO.out.2 with ⟨hv,hst0⟩ | ⟨gs,cs,cur,rfl,hgs,hgb,_,_,_,_⟩
    ·exfalso;have:=HTk0.out;rw[HT.out] at this;omega
    obtain ⟨hNe,hNc,hall,hrest⟩:=rest_cells (tk:=1) HO.out (by have:=HTk0.out;rw[HT.out] at this;exact this)
    obtain ⟨m,hm⟩:∃ m,m=st.length - 1:=⟨_,rfl⟩
    obtain ⟨mc,hmc⟩:∃ mc,mc=cs - 1:=⟨_,rfl⟩
    obtain ⟨a0,ha0⟩:∃ a0,a0=if cs=1 then 0 else 1:=⟨_,rfl⟩
    obtain ⟨rst,hrs⟩:∃ rst,rst=st.drop 1:=⟨_,rfl⟩
    have HRl:Hid (m=rst.length):=(by rw[hrs,hm,List.length_drop]:m=rst.length)
    have hm255:m≤255:=by omega
    have hsl1:∀ wx,(Instr.slice 40 (.slice (some ⟨gs,0,none⟩) st.length cs) none (some (.int .i64 1)) none).run Tryz.prog wx=.ok (.slice (some ⟨gs,0,none⟩) 1 cs) wx:=fun wx=>slh_int gs st.length cs 1 (by have:=HTk0.out;rw[HT.out] at this;omega) wx
    have hsl2:∀ wx,(Instr.slice 40 (.slice (some ⟨gs,0,none⟩) st.length cs) (some (.int .i64 1)) none none).run Tryz.prog wx=.ok (.slice (some ⟨gs,a0,none⟩) m mc) wx:=fun wx=>by
     rw[ha0,hm,hmc]
     exact sll_int gs st.length cs 1 (by have:=HTk0.out;rw[HT.out] at this;exact this) wx
    have HRest:Hid (∀ j u,(cellsZ rst)[j]?=some u→wr.cell? ((⟨gs,a0,none⟩:Addr).add j)=some u):=(by rw[hrs,ha0];exact hrest:∀ j u,(cellsZ rst)[j]?=some u→wr.cell? ((⟨gs,a0,none⟩:Addr).add j)=some u)
    have hgslt:gs < wr.heap.size:=lt_of_block hgb
    have hgne:gs≠wr.heap.size:=by omega
    have hgne':wr.heap.size≠gs:=by omega
    have HRs:=Hid.mk2 hrs
    clear hNe hrest hm hmc ha0 hrs hgb
    have cz:wr.cell? ⟨gs,0,none⟩=some (.int .i64 z):=hall 0 _ (by simp[cellsZ,hz0'])
    have cz':=((box3 wr (.cells #[.int .i64 ps,.int .i64 c,.int .i64 a,.int .i64 nx] 88)).cell (p:=⟨gs,0,none⟩) hgslt).trans cz
    clear hall hz0'
    go_wp2_with ((go_at_call 44;refine (takes_any c _).mono ?_;rintro e _ ⟨rfl,rfl⟩;rw[HT.out]))
    go_quiet (fail)
    have hbq:Below wr.heap.size wr ((wr.alloc (.cells #[.int .i64 ps,.int .i64 c,.int .i64 a,.int .i64 nx] 88)).drewN nq):=below_drewN (box3 _ _) _
    go_wp2_with (first | (go_at_call 50;refine (lays_any c _).mono ?_;rintro e _ ⟨rfl,rfl⟩;rw[HLy.out]) | (go_at_call 48;refine (index_any l hl4 ((nx:Int)+a) _ _ (HVr.out.below (below_drewN (box3 _ _) _))).mono ?_;rintro e _ ⟨r,rfl,hix,rfl⟩;obtain rfl:=IsIndex.at HC.out HK2.out HP2.out hix) | (at_builtin;refine wpList_append_own _ rfl (.tmp 129) (.tmp 130) 40 rfl (w.heap.size+3) 3 i0 (.int .i64 0) 1 8 Tryz.underlying40 hin hz0 hz1 hz2 rfl (by decide) _ _ _ rfl (World.ownsRow_nil _ _ _ _) ⟨gs,a0,none⟩ m mc (cellsZ rst) rfl (by rw[HRl.out];simp[cellsZ]) (fun j u hj=>(hbq.cell (p:=(⟨gs,a0,none⟩:Addr).add j) (by rw[add_block];exact hgslt)).trans (HRest.out j u hj)) (one_cells _) (by unfold maxLen;omega) (by omega) (by first | omega | (simp;omega)) ?_;intro v3 w3 hown3 hgrow3 _;have hbw3:Below (w.heap.size+3) wr w3:=(grown_nil0 hbq hgrow3).mono hsz))
    go_roundw
    case rel=>exact ⟨rst,k2,n+1,f2',rfl,by push_cast;go_num,own_bare hown3 HRl.out,HBl.out.trans hbw3,by rw[HRs.out];exact HR2.out⟩
    case measure=>simp[intOf];omega
  ·have HT:Hid (takesN c=1):=(by rw[hk];rfl:takesN c=1)
   obtain ⟨z,hz0',hzm⟩:=get_of (st:=st) (k:=0) (by have:=HTk0.out;rw[HT.out] at this;omega)
   have hfst:=fst_of hz0'
   have HZ:Hid (In64 z):=HNum.out z hzm
   have hs0:stepM x y (nth l i) st=.inl (1,z):=by rw[HE.out,hk,← hfst];rfl
   have HEnd:=Hid.mk2 (HRr.out.ends hs0)
   have q16:((c:Int)==16)=true:=by simp;omega
   clear hs0 hk hfst
   rcases HO.out.2 with ⟨hv,hst0⟩ | ⟨gs,cs,cur,rfl,hgs,hgb,_,_,_,_⟩
   ·exfalso;have:=HTk0.out;rw[HT.out] at this;omega
   ·obtain ⟨hNe,hNc,hall,hrest⟩:=rest_cells (tk:=1) HO.out (by have:=HTk0.out;rw[HT.out] at this;exact this)
    obtain ⟨m,hm⟩:∃ m,m=st.length - 1:=⟨_,rfl⟩
    obtain ⟨mc,hmc⟩:∃ mc,mc=cs - 1:=⟨_,rfl⟩
    obtain ⟨a0,ha0⟩:∃ a0,a0=if cs=1 then 0 else 1:=⟨_,rfl⟩
    obtain ⟨rst,hrs⟩:∃ rst,rst=st.drop 1:=⟨_,rfl⟩
    have HRl:Hid (m=rst.length):=(by rw[hrs,hm,List.length_drop]:m=rst.length)
    have hm255:m≤255:=by omega
    have hsl1:∀ wx,(Instr.slice 40 (.slice (some ⟨gs,0,none⟩) st.length cs) none (some (.int .i64 1)) none).run Tryz.prog wx=.ok (.slice (some ⟨gs,0,none⟩) 1 cs) wx:=fun wx=>slh_int gs st.length cs 1 (by have:=HTk0.out;rw[HT.out] at this;omega) wx
    have hsl2:∀ wx,(Instr.slice 40 (.slice (some ⟨gs,0,none⟩) st.length cs) (some (.int .i64 1)) none none).run Tryz.prog wx=.ok (.slice (some ⟨gs,a0,none⟩) m mc) wx:=fun wx=>by
     rw[ha0,hm,hmc]
     exact sll_int gs st.length cs 1 (by have:=HTk0.out;rw[HT.out] at this;exact this) wx
    have HRest:Hid (∀ j u,(cellsZ rst)[j]?=some u→wr.cell? ((⟨gs,a0,none⟩:Addr).add j)=some u):=(by rw[hrs,ha0];exact hrest:∀ j u,(cellsZ rst)[j]?=some u→wr.cell? ((⟨gs,a0,none⟩:Addr).add j)=some u)
    have hgslt:gs < wr.heap.size:=lt_of_block hgb
    have hgne:gs≠wr.heap.size:=by omega
    have hgne':wr.heap.size≠gs:=by omega
    have HRs:=Hid.mk2 hrs
    clear hNe hrest hm hmc ha0 hrs hgb
    have cz:wr.cell? ⟨gs,0,none⟩=some (.int .i64 z):=hall 0 _ (by simp[cellsZ,hz0'])
    have cz':=((box3 wr (.cells #[.int .i64 ps,.int .i64 c,.int .i64 a,.int .i64 nx] 88)).cell (p:=⟨gs,0,none⟩) hgslt).trans cz
    clear hall hz0'
    go_wp2_with ((go_at_call 44;refine (takes_any c _).mono ?_;rintro e _ ⟨rfl,rfl⟩;rw[HT.out]))
    have hfb:=((fin_blk HRb.out (.int .i64 1) (.int .i64 z) (.int .i64 ((n:Int)+1))).alloc (.cells #[.int .i64 ps,.int .i64 c,.int .i64 a,.int .i64 nx] 88))
    have g0:=hfb.cell 0
    have g1:=hfb.cell 1
    have g2:=hfb.cell 2
    refine bodyPost_ret (v:=.agg #[.int .i64 1,.int .i64 z,.int .i64 ((n:Int)+1)]) (by simp[results,Tryz.results23,go_sem,g0,g1,g2]) rfl ⟨?_,by rw[HEnd.out];unfold resA;simp⟩
    exact HBw.out.trans ((fin_below (Below.refl w.heap.size wr) (by omega) _ _ _).alloc (by simp;omega) _)
  ·have hs0:stepM x y (nth l i) st=.inl (0,0):=by rw[HE.out,hk];rfl
   have HEnd:=Hid.mk2 (HRr.out.ends hs0)
   have HT:Hid (takesN c=0):=(by rw[hk];rfl:takesN c=0)
   have q16:((c:Int)==16)=false:=by simp;omega
   have q17:((c:Int)==17)=true:=by simp;omega
   clear hs0 hk
   rcases HO.out.2 with ⟨rfl,hst0⟩ | ⟨gs,cs,cur,rfl,hgs,hgb,_,_,_,_⟩
   ·have hst0':st=[]:=List.eq_nil_of_length_eq_zero hst0
    subst hst0'
    clear hst0
    go_wp2_with ((go_at_call 44;refine (takes_any c _).mono ?_;rintro e _ ⟨rfl,rfl⟩;rw[HT.out]))
    have hfb:=((fin_blk HRb.out (.int .i64 0) (.int .i64 0) (.int .i64 ((n:Int)+1))).alloc (.cells #[.int .i64 ps,.int .i64 c,.int .i64 a,.int .i64 nx] 88))
    have g0:=hfb.cell 0
    have g1:=hfb.cell 1
    have g2:=hfb.cell 2
    refine bodyPost_ret (v:=.agg #[.int .i64 0,.int .i64 0,.int .i64 ((n:Int)+1)]) (by simp[results,Tryz.results23,go_sem,g0,g1,g2]) rfl ⟨?_,by rw[HEnd.out];unfold resA;simp⟩
    exact HBw.out.trans ((fin_below (Below.refl w.heap.size wr) (by omega) _ _ _).alloc (by simp;omega) _)
   ·obtain ⟨hNe,hNc,hall,hrest⟩:=rest_cells (tk:=0) HO.out (by have:=HTk0.out;rw[HT.out] at this;exact this)
    obtain ⟨m,hm⟩:∃ m,m=st.length - 0:=⟨_,rfl⟩
    obtain ⟨mc,hmc⟩:∃ mc,mc=cs - 0:=⟨_,rfl⟩
    obtain ⟨a0,ha0⟩:∃ a0,a0=if cs=0 then 0 else 0:=⟨_,rfl⟩
    obtain ⟨rst,hrs⟩:∃ rst,rst=st.drop 0:=⟨_,rfl⟩
    have HRl:Hid (m=rst.length):=(by rw[hrs,hm,List.length_drop]:m=rst.length)
    have hm255:m≤255:=by omega
    have hsl1:∀ wx,(Instr.slice 40 (.slice (some ⟨gs,0,none⟩) st.length cs) none (some (.int .i64 0)) none).run Tryz.prog wx=.ok (.slice (some ⟨gs,0,none⟩) 0 cs) wx:=fun wx=>slh_int gs st.length cs 0 (by have:=HTk0.out;rw[HT.out] at this;omega) wx
    have hsl2:∀ wx,(Instr.slice 40 (.slice (some ⟨gs,0,none⟩) st.length cs) (some (.int .i64 0)) none none).run Tryz.prog wx=.ok (.slice (some ⟨gs,a0,none⟩) m mc) wx:=fun wx=>by
     rw[ha0,hm,hmc]
     exact sll_int gs st.length cs 0 (by have:=HTk0.out;rw[HT.out] at this;exact this) wx
    have HRest:Hid (∀ j u,(cellsZ rst)[j]?=some u→wr.cell? ((⟨gs,a0,none⟩:Addr).add j)=some u):=(by rw[hrs,ha0];exact hrest:∀ j u,(cellsZ rst)[j]?=some u→wr.cell? ((⟨gs,a0,none⟩:Addr).add j)=some u)
    have hgslt:gs < wr.heap.size:=lt_of_block hgb
    have hgne:gs≠wr.heap.size:=by omega
    have hgne':wr.heap.size≠gs:=by omega
    have HRs:=Hid.mk2 hrs
    clear hNe hrest hm hmc ha0 hrs hgb
    go_wp2_with ((go_at_call 44;refine (takes_any c _).mono ?_;rintro e _ ⟨rfl,rfl⟩;rw[HT.out]))
    have hfb:=((fin_blk HRb.out (.int .i64 0) (.int .i64 0) (.int .i64 ((n:Int)+1))).alloc (.cells #[.int .i64 ps,.int .i64 c,.int .i64 a,.int .i64 nx] 88))
    have g0:=hfb.cell 0
    have g1:=hfb.cell 1
    have g2:=hfb.cell 2
    refine bodyPost_ret (v:=.agg #[.int .i64 0,.int .i64 0,.int .i64 ((n:Int)+1)]) (by simp[results,Tryz.results23,go_sem,g0,g1,g2]) rfl ⟨?_,by rw[HEnd.out];unfold resA;simp⟩
    exact HBw.out.trans ((fin_below (Below.refl w.heap.size wr) (by omega) _ _ _).alloc (by simp;omega) _)
  ·have HT:Hid (takesN c=2):=(by unfold takesN;rw[if_neg (by omega),if_neg (by omega)]:takesN c=2)
   have HLy:Hid (laysN c=1):=(by unfold laysN;rw[if_neg (by omega)]:laysN c=1)
   obtain ⟨z,hz0',hzm⟩:=get_of (st:=st) (k:=0) (by have:=HTk0.out;rw[HT.out] at this;omega)
   obtain ⟨z2,hz2',hzm2⟩:=get_of (st:=st) (k:=1) (by have:=HTk0.out;rw[HT.out] at this;omega)
   have hfst:=fst_of hz0'
   have hsnd:=snd_of hz2'
   have HZ:Hid (In64 z):=HNum.out z hzm
   have HZ2:Hid (In64 z2):=HNum.out z2 hzm2
   have hs00:stepM x y (nth l i) st=layM (joinN c z2 z) nx (st.drop 2):=by
    rw[HE.out]
    unfold stepM
    simp only
    rw[if_neg (by omega),if_neg (by omega),if_neg (by omega),if_neg (by omega),if_neg (by omega),if_neg (by omega),if_neg (by omega),if_neg (by omega),if_neg (by omega),hfst,hsnd]
   have HKc:=Hid.mk2 hk
   have q16:((c:Int)==16)=false:=by simp;omega
   have q17:((c:Int)==17)=false:=by simp;omega
   have q0:((c:Int)==0)=false:=by simp;omega
   have q1:((c:Int)==1)=false:=by simp;omega
   have q2:((c:Int)==2)=false:=by simp;omega
   have q3:((c:Int)==3)=false:=by simp;omega
   have q13:((c:Int)==13)=false:=by simp;omega
   have q14:((c:Int)==14)=false:=by simp;omega
   have q15:((c:Int)==15)=false:=by simp;omega
   obtain ⟨zv,hzv⟩:∃ zv,zv=(joinN c z2 z).1:=⟨_,rfl⟩
   obtain ⟨zf,hzf⟩:∃ zf,zf=(joinN c z2 z).2:=⟨_,rfl⟩
   have hjj:joinN c z2 z=(zv,zf):=by rw[hzv,hzf]
   have HJ:=Hid.mk2 hjj
   have hzf2:zf≤2:=by rw[hzf];exact join_le2 c z2 z
   by_cases hf0:zf=0
   ·have hs0:stepM x y (nth l i) st=.inr (nx,zv :: st.drop 2):=by rw[hs00,hjj,hf0];rfl
    obtain ⟨k2,f2',hik,hpos,hrr2,hnext⟩:=HRr.out.goes HXY.out hs0
    have hk2:=hnext (by rw[HE.out])
    subst hk2
    have HR2:=Hid.mk2 hrr2
    subst hf0
    clear hs0 hs00 hjj hzv hzf hik hpos hrr2 hnext hk hfst hsnd
    rcases HO.out.2 with ⟨hv,hst0⟩ | ⟨gs,cs,cur,rfl,hgs,hgb,_,_,_,_⟩
    ·exfalso;have:=HTk0.out;rw[HT.out] at this;omega
    ·obtain ⟨hNe,hNc,hall,hrest⟩:=rest_cells (tk:=2) HO.out (by have:=HTk0.out;rw[HT.out] at this;exact this)
     obtain ⟨m,hm⟩:∃ m,m=st.length - 2:=⟨_,rfl⟩
     obtain ⟨mc,hmc⟩:∃ mc,mc=cs - 2:=⟨_,rfl⟩
     obtain ⟨a0,ha0⟩:∃ a0,a0=if cs=2 then 0 else 2:=⟨_,rfl⟩
     obtain ⟨rst,hrs⟩:∃ rst,rst=st.drop 2:=⟨_,rfl⟩
     have HRl:Hid (m=rst.length):=(by rw[hrs,hm,List.length_drop]:m=rst.length)
     have hm255:m≤255:=by omega
     have hsl1:∀ wx,(Instr.slice 40 (.slice (some ⟨gs,0,none⟩) st.length cs) none (some (.int .i64 2)) none).run Tryz.prog wx=.ok (.slice (some ⟨gs,0,none⟩) 2 cs) wx:=fun wx=>slh_int gs st.length cs 2 (by have:=HTk0.out;rw[HT.out] at this;omega) wx
     have hsl2:∀ wx,(Instr.slice 40 (.slice (some ⟨gs,0,none⟩) st.length cs) (some (.int .i64 2)) none none).run Tryz.prog wx=.ok (.slice (some ⟨gs,a0,none⟩) m mc) wx:=fun wx=>by
      rw[ha0,hm,hmc]
      exact sll_int gs st.length cs 2 (by have:=HTk0.out;rw[HT.out] at this;exact this) wx
     have HRest:Hid (∀ j u,(cellsZ rst)[j]?=some u→wr.cell? ((⟨gs,a0,none⟩:Addr).add j)=some u):=(by rw[hrs,ha0];exact hrest:∀ j u,(cellsZ rst)[j]?=some u→wr.cell? ((⟨gs,a0,none⟩:Addr).add j)=some u)
     have hgslt:gs < wr.heap.size:=lt_of_block hgb
     have hgne:gs≠wr.heap.size:=by omega
     have hgne':wr.heap.size≠gs:=by omega
     have HRs:=Hid.mk2 hrs
     clear hNe hrest hm hmc ha0 hrs hgb
     have cz:wr.cell? ⟨gs,0,none⟩=some (.int .i64 z):=hall 0 _ (by simp[cellsZ,hz0'])
     have cz':=((box3 wr (.cells #[.int .i64 ps,.int .i64 c,.int .i64 a,.int .i64 nx] 88)).cell (p:=⟨gs,0,none⟩) hgslt).trans cz
     have cz2:wr.cell? ⟨gs,1,none⟩=some (.int .i64 z2):=hall 1 _ (by simp[cellsZ,hz2'])
     have cz2':=((box3 wr (.cells #[.int .i64 ps,.int .i64 c,.int .i64 a,.int .i64 nx] 88)).cell (p:=⟨gs,1,none⟩) hgslt).trans cz2
     clear hall hz0' hz2'
     go_wp2_with ((go_at_call 44;refine (takes_any c _).mono ?_;rintro e _ ⟨rfl,rfl⟩;rw[HT.out]))
     go_region_held3 (fun w'=>w'.cell? ⟨wr.heap.size,1,none⟩=some (.int .i64 c)∧w'.cell? ⟨gs,1,none⟩=some (.int .i64 z2)∧w'.cell? ⟨gs,0,none⟩=some (.int .i64 z)) (go_keep) (first | (go_at_call 49;refine (sign_any c HKc.out _).mono ?_;rintro e w1 ⟨rfl,hb1⟩;have hbw1:Below wr.heap.size wr w1:=(box3 _ _).drew.trans (hb1.mono (by simp));have hsz1:=hbw1.size;have x1:=(hb1.cell (p:=⟨wr.heap.size,1,none⟩) (by simp)).trans (show _=some (.int .i64 c) by simp);have y0:=(hbw1.cell (p:=⟨gs,0,none⟩) hgslt).trans cz;have y1:=(hbw1.cell (p:=⟨gs,1,none⟩) hgslt).trans cz2) | (go_at_call 46;refine (Joined_any c HKc.out z2 z HZ2.out HZ.out _).mono ?_;rintro e _ ⟨rfl,rfl⟩;rw[HJ.out]))
     all_goals
      go_wp2_with (first | (go_at_call 50;refine (lays_any c _).mono ?_;rintro e _ ⟨rfl,rfl⟩;rw[HLy.out]) | (at_builtin;refine wpList_append_own _ rfl (.tmp 125) (.tmp 127) 40 rfl (w.heap.size+3) 3 i0 (.int .i64 0) 1 8 Tryz.underlying40 hin hz0 hz1 hz2 rfl (by decide) _ _ _ rfl (World.ownsRow_nil _ _ _ _) ⟨_,0,none⟩ 1 1 [.int .i64 (zv)] rfl rfl (cell_one_at _ _ _ _ (by simp)) one_int1 (by unfold maxLen;omega) (by omega) (by first | omega | (simp;omega)) ?_;intro v2 w2 hown2 hgrow2 _;have hbw2:Below wr.heap.size wr w2:=grown_nil hbw1 hgrow2;have hsz2:=hbw2.size) | (at_builtin;refine wpList_append_own _ rfl (.tmp 129) (.tmp 130) 40 rfl (w.heap.size+3) 3 i0 (.int .i64 0) 1 8 Tryz.underlying40 hin hz0 hz1 hz2 rfl (by decide) _ _ _ rfl (hown2) ⟨gs,a0,none⟩ m mc (cellsZ rst) rfl (by rw[HRl.out];simp[cellsZ]) (fun j u hj=>(hbw2.cell (p:=(⟨gs,a0,none⟩:Addr).add j) (by rw[add_block];exact hgslt)).trans (HRest.out j u hj)) (one_cells _) (by unfold maxLen;omega) (by omega) (by first | omega | (simp;omega)) ?_;intro v3 w3 hown3 hgrow3 _;have hbw3:Below (w.heap.size+3) wr w3:=grown_own (by omega) (hbw2.mono hsz) hown2 hgrow3))
      go_roundw
      case rel=>exact ⟨zv :: rst,i+1,n+1,f2',by go_num,by push_cast;go_num,own_lay hown3 HRl.out,HBl.out.trans hbw3,by rw[HRs.out];exact HR2.out⟩
      case measure=>have:=HR2.out.hi;simp[intOf];omega
   ·have hs0:stepM x y (nth l i) st=.inl (2,zf):=by rw[hs00,hjj];unfold layM;simp only[hf0,if_false]
    have HEnd:=Hid.mk2 (HRr.out.ends hs0)
    have ef:((zf:Int)==0)=false:=by simp;omega
    have ef':((zf:Int) != 0)=true:=by simp;omega
    clear hs0 hs00 hjj hzv hzf hk hfst hsnd hf0
    rcases HO.out.2 with ⟨hv,hst0⟩ | ⟨gs,cs,cur,rfl,hgs,hgb,_,_,_,_⟩
    ·exfalso;have:=HTk0.out;rw[HT.out] at this;omega
    ·obtain ⟨hNe,hNc,hall,hrest⟩:=rest_cells (tk:=2) HO.out (by have:=HTk0.out;rw[HT.out] at this;exact this)
     obtain ⟨m,hm⟩:∃ m,m=st.length - 2:=⟨_,rfl⟩
     obtain ⟨mc,hmc⟩:∃ mc,mc=cs - 2:=⟨_,rfl⟩
     obtain ⟨a0,ha0⟩:∃ a0,a0=if cs=2 then 0 else 2:=⟨_,rfl⟩
     obtain ⟨rst,hrs⟩:∃ rst,rst=st.drop 2:=⟨_,rfl⟩
     have HRl:Hid (m=rst.length):=(by rw[hrs,hm,List.length_drop]:m=rst.length)
     have hm255:m≤255:=by omega
     have hsl1:∀ wx,(Instr.slice 40 (.slice (some ⟨gs,0,none⟩) st.length cs) none (some (.int .i64 2)) none).run Tryz.prog wx=.ok (.slice (some ⟨gs,0,none⟩) 2 cs) wx:=fun wx=>slh_int gs st.length cs 2 (by have:=HTk0.out;rw[HT.out] at this;omega) wx
     have hsl2:∀ wx,(Instr.slice 40 (.slice (some ⟨gs,0,none⟩) st.length cs) (some (.int .i64 2)) none none).run Tryz.prog wx=.ok (.slice (some ⟨gs,a0,none⟩) m mc) wx:=fun wx=>by
      rw[ha0,hm,hmc]
      exact sll_int gs st.length cs 2 (by have:=HTk0.out;rw[HT.out] at this;exact this) wx
     have HRest:Hid (∀ j u,(cellsZ rst)[j]?=some u→wr.cell? ((⟨gs,a0,none⟩:Addr).add j)=some u):=(by rw[hrs,ha0];exact hrest:∀ j u,(cellsZ rst)[j]?=some u→wr.cell? ((⟨gs,a0,none⟩:Addr).add j)=some u)
     have hgslt:gs < wr.heap.size:=lt_of_block hgb
     have hgne:gs≠wr.heap.size:=by omega
     have hgne':wr.heap.size≠gs:=by omega
     have HRs:=Hid.mk2 hrs
     clear hNe hrest hm hmc ha0 hrs hgb
     have cz:wr.cell? ⟨gs,0,none⟩=some (.int .i64 z):=hall 0 _ (by simp[cellsZ,hz0'])
     have cz':=((box3 wr (.cells #[.int .i64 ps,.int .i64 c,.int .i64 a,.int .i64 nx] 88)).cell (p:=⟨gs,0,none⟩) hgslt).trans cz
     have cz2:wr.cell? ⟨gs,1,none⟩=some (.int .i64 z2):=hall 1 _ (by simp[cellsZ,hz2'])
     have cz2':=((box3 wr (.cells #[.int .i64 ps,.int .i64 c,.int .i64 a,.int .i64 nx] 88)).cell (p:=⟨gs,1,none⟩) hgslt).trans cz2
     clear hall hz0' hz2'
     go_wp2_with ((go_at_call 44;refine (takes_any c _).mono ?_;rintro e _ ⟨rfl,rfl⟩;rw[HT.out]))
     go_region_held3 (fun w'=>w'.cell? ⟨wr.heap.size,1,none⟩=some (.int .i64 c)∧w'.cell? ⟨gs,1,none⟩=some (.int .i64 z2)∧w'.cell? ⟨gs,0,none⟩=some (.int .i64 z)) (go_keep) (first | (go_at_call 49;refine (sign_any c HKc.out _).mono ?_;rintro e w1 ⟨rfl,hb1⟩;have hbw1:Below wr.heap.size wr w1:=(box3 _ _).drew.trans (hb1.mono (by simp));have hsz1:=hbw1.size;have x1:=(hb1.cell (p:=⟨wr.heap.size,1,none⟩) (by simp)).trans (show _=some (.int .i64 c) by simp);have y0:=(hbw1.cell (p:=⟨gs,0,none⟩) hgslt).trans cz;have y1:=(hbw1.cell (p:=⟨gs,1,none⟩) hgslt).trans cz2) | (go_at_call 46;refine (Joined_any c HKc.out z2 z HZ2.out HZ.out _).mono ?_;rintro e _ ⟨rfl,rfl⟩;rw[HJ.out]))
     all_goals
      have HRb1:=Hid.mk2 (HRb.out.below hbw1 hl2)
      have p0:=HRb1.out.cell 0
      have p1:=HRb1.out.cell 1
      have p2:=HRb1.out.cell 2
      have e0:=HRb1.out.free 0
      have e1:=HRb1.out.free 1
      have e2:=HRb1.out.free 2
      go_wp2
      have hfb:=(fin_blk HRb1.out (.int .i64 2) (.int .i64 zf) (.int .i64 ((n:Int)+1)))
      have g0:=hfb.cell 0
      have g1:=hfb.cell 1
      have g2:=hfb.cell 2
      refine bodyPost_ret (v:=.agg #[.int .i64 2,.int .i64 zf,.int .i64 ((n:Int)+1)]) (by simp[results,Tryz.results23,go_sem,g0,g1,g2]) rfl ⟨?_,by rw[HEnd.out];unfold resA;simp⟩
      exact HBw.out.trans (fin_below (hbw1.mono (by omega)) (by omega) _ _ _)
end Go.Proofs.YtldfkcpbjooemaaGreatDoor
