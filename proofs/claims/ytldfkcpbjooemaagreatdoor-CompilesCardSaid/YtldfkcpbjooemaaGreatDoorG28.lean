/-
  The program's check: the parts of a node and of an EXPR.
-/
import Derived.Test.YtldfkcpbjooemaaGreatDoorG27
import Derived.Test.YtldfkcpbjooemaaGreatDoorG12
import Derived.Deep.RegionWith
set_option linter.unusedVariables false
set_option linter.unusedSimpArgs false
namespace Go.Proofs.YtldfkcpbjooemaaGreatDoor
open Go.RowKit Go.Deep
structure PtAt (w:World) (kb:Nat) (nv lv rv:Value) (sz:List Nat) (N:List PNode) (ls:List PLet) (rs:List PRule):Prop where
 row:Blk w kb (cellsK (padK sz ls.length)).toArray 3
 pa:PolAt w nv lv rv N ls rs
 le:sz.length≤ls.length
 bd:∀ s∈sz,s≤150 * sz.length+1
theorem PtAt.below {w w':World} {kb:Nat} {nv lv rv:Value} {sz:List Nat} {N:List PNode} {ls:List PLet} {rs:List PRule} (h:PtAt w kb nv lv rv sz N ls rs) (hb:Below w.heap.size w w'):PtAt w' kb nv lv rv sz N ls rs :=
 ⟨h.row.below hb h.row.lt,h.pa.below hb,h.le,h.bd⟩
theorem PtAt.reads {w:World} {kb:Nat} {nv lv rv:Value} {sz:List Nat} {N:List PNode} {ls:List PLet} {rs:List PRule} (h:PtAt w kb nv lv rv sz N ls rs):Reads w (.slice (some ⟨kb,0,none⟩) ls.length ls.length) (padK sz ls.length).length (cellsK (padK sz ls.length)):=by
 refine .inr ⟨kb,0,ls.length,by rw[padK_len _ _ h.le],by rw[padK_len _ _ h.le];exact Nat.le_refl _,h.row.lt,fun j u hj=>?_⟩
 rw[Nat.zero_add,h.row.cell]
 simpa using hj
theorem at_pt {w:World} {kb:Nat} {nv lv rv:Value} {sz:List Nat} {N:List PNode} {ls:List PLet} {rs:List PRule} (h:PtAt w kb nv lv rv sz N ls rs) (i:Nat) (hi:i≤1000) :
  Calls Tryz.prog 185 #[.slice (some ⟨kb,0,none⟩) ls.length ls.length,.int .i64 i] w fun e w'=>e=.returned (.int .i64 (sz.getD i 0:Nat))∧w'=w:=by
 have hl:=padK_len _ _ h.le
 have:=at_any (padK sz ls.length) (.slice (some ⟨kb,0,none⟩) ls.length ls.length) i w h.reads (by rw[hl];exact h.pa.lb) ⟨by omega,by omega⟩
 have e:atN (padK sz ls.length) i=sz.getD i 0:=by rw[atN_nat,padK_get]
 rw[e] at this
 exact this
theorem getD_le {l:List Nat} {M i:Nat} (h:∀ s∈l,s≤M):l.getD i 0≤M:=by
 rw[List.getD_eq_getElem?_getD]
 cases hx:l[i]? with
 | none=>exact Nat.zero_le _
 | some s=>exact h s (List.mem_of_getElem? hx)
theorem partNode_le {ls:List PLet} {sz:List Nat} {M:Nat} (h:∀ s∈sz,s≤M) (h1:1≤M) (t:RTok):partNode ls sz t≤M:=by
 unfold partNode;split
 ·exact getD_le h
 ·exact h1
theorem countGo_le {ls:List PLet} {sz:List Nat} {M:Nat} (h:∀ s∈sz,s≤M) (h1:1≤M):∀ (l:List PNode) (c:Nat),c≤150+M→countGo ls sz c l≤150+M
 | [],c,hc=>hc
 | n :: r,c,hc=>by
  rw[countGo]
  split
  ·have:=partNode_le (ls:=ls) h h1 n.tok
   exact countGo_le h h1 r _ (by omega)
  ·exact hc
theorem sum_wrap (a b:Nat) (h:a+b < 1000000000):Value.int .i64 (IntKind.i64.wrap ((a:Int)+(b:Int)))=Value.int .i64 ((a+b:Nat):Int):=by
 rw[IntWalk.i64_in _ ⟨by omega,by omega⟩];rfl
def tokV (t:RTok):Value:=.agg #[.int .i64 (kindP t.text),.int .i64 t.at',.string (bsOf t.text)]
set_option maxHeartbeats 1000000 in
theorem partsOfNode_any {w:World} {kb:Nat} {nv lv rv:Value} {sz:List Nat} {N:List PNode} {ls:List PLet} {rs:List PRule} (h:PtAt w kb nv lv rv sz N ls rs) (t:RTok) :
  Calls Tryz.prog 166 #[polA nv lv rv,tokV t,.slice (some ⟨kb,0,none⟩) ls.length ls.length] w fun e' w'=>e'=.returned (.int .i64 (partNode ls sz t:Nat))∧Below w.heap.size w w':=by
 obtain ⟨la,lc,rfl⟩:=h.pa.l.shape
 have hlb:=h.pa.lb
 have hb:Below w.heap.size w ((w.alloc (.cells #[nv,.slice la ls.length lc,rv] 64)).alloc (.cells #[.int .i64 (kindP t.text),.int .i64 t.at',.string (bsOf t.text)] 107)):=(new_below w _).alloc (by simp) _
 have HP:=hideP (h.below hb)
 have HB:=hideP hb
 have hle:=letIx_le ls t.text
 obtain ⟨ix,hix⟩:∃ ix,letIx ls t.text=ix:=⟨_,rfl⟩
 have HIE:Hid (letIx ls (bsOf t.text).toList=ix):=by rw[Hid,bsOf_toList,hix]
 have HPN:Hid (partNode ls sz t=if kindP t.text=2 then sz.getD ix 0 else 1):=by rw[Hid,partNode,hix]
 rw[hix] at hle
 have hix2:ix≤1000:=by omega
 clear h hb hix
 unfold polA tokV
 by_cases hk:kindP t.text=2
 ·have hk':((kindP t.text:Int) != 2)=false:=by rw[hk];rfl
  rw[HPN.out,if_pos hk]
  clear HPN hk
  go_enter Tryz.func166,Tryz.ntmps166
  go_wp2_with (first | (go_at_call 142;refine (LetOf_any ls _ (bsOf t.text) _ HP.out.pa.l hlb).mono ?_;rintro e' w4 ⟨rfl,rfl⟩;rw[HIE.out]) | (go_at_call 185;refine (at_pt HP.out ix hix2).mono ?_;rintro e' w5 ⟨rfl,rfl⟩))
  go_ret
  exact ⟨rfl,HB.out⟩
 ·have hk':((kindP t.text:Int) != 2)=true:=by simp;omega
  rw[HPN.out,if_neg hk]
  clear HPN
  go_enter Tryz.func166,Tryz.ntmps166
  go_wp2
  go_ret
  exact ⟨rfl,HB.out⟩
structure PtW (w wr:World) (kb:Nat) (nv lv rv:Value) (sz:List Nat) (e:PExp) (N:List PNode) (ls:List PLet) (rs:List PRule):Prop where
 c:Chk2 w wr nv lv rv e N ls rs
 p:PtAt wr kb nv lv rv sz N ls rs
theorem PtW.below {w wr w':World} {kb:Nat} {nv lv rv:Value} {sz:List Nat} {e:PExp} {N:List PNode} {ls:List PLet} {rs:List PRule} (h:PtW w wr kb nv lv rv sz e N ls rs) (hb:Below wr.heap.size wr w'):PtW w w' kb nv lv rv sz e N ls rs:=⟨h.c.below hb,h.p.below hb⟩
theorem PtW.drew {w wr:World} {kb:Nat} {nv lv rv:Value} {sz:List Nat} {e:PExp} {N:List PNode} {ls:List PLet} {rs:List PRule} (h:PtW w wr kb nv lv rv sz e N ls rs):PtW w wr.drew kb nv lv rv sz e N ls rs:=h.below (below_drewN (Below.refl _ wr) 1)
theorem PtW.node3 {w wr:World} {kb:Nat} {na:Option Addr} {nc:Nat} {lv rv:Value} {sz:List Nat} {e:PExp} {N:List PNode} {ls:List PLet} {rs:List PRule} (h:PtW w wr kb (.slice na N.length nc) lv rv sz e N ls rs) {i:Nat} (hi:i < N.length) {tk:RTok} (ht:N[i].tok=tk):∃ g o,na=some ⟨g,o,none⟩∧g < wr.heap.size∧N.length≤nc ∧
  wr.cell? ⟨g,o+i * 6,none⟩=some (.int .i64 (kindP tk.text))∧wr.cell? ⟨g,o+i * 6+1,none⟩=some (.int .i64 tk.at')∧wr.cell? ⟨g,o+i * 6+2,none⟩=some (.string (bsOf tk.text)):=by
 subst ht
 obtain ⟨g,o,cap,hcut,hcap,hg,hc⟩:=h.p.pa.n.pos (by omega)
 cases hcut
 have f:=fun j (hj:j < 6) u (hu:(cellN N[i])[j]?=some u)=>hc (i * 6+j) u ((flat_get cellN 6 (fun _=>rfl) N i hi j hj).trans hu)
 refine ⟨g,o,rfl,hg,hcap,f 0 (by omega) _ rfl, ?_, ?_⟩
 ·rw[Nat.add_assoc];exact f 1 (by omega) _ rfl
 ·rw[Nat.add_assoc];exact f 2 (by omega) _ rfl
set_option maxHeartbeats 4000000 in
set_option maxRecDepth 100000 in
theorem partsOf_any {w:World} {kb:Nat} {nv lv rv:Value} {sz:List Nat} {N:List PNode} {ls:List PLet} {rs:List PRule} (h:PtAt w kb nv lv rv sz N ls rs) (e:PExp) (he:ExpOk N e) :
  Calls Tryz.prog 146 #[polA nv lv rv,expA e,.slice (some ⟨kb,0,none⟩) ls.length ls.length] w fun e' w'=>e'=.returned (.int .i64 (countGo ls sz 0 (segE N e):Nat))∧Below w.heap.size w w':=by
 obtain ⟨na,nc,rfl⟩:=h.pa.n.shape
 obtain ⟨la,lc,rfl⟩:=h.pa.l.shape
 obtain ⟨ra,rc,rfl⟩:=h.pa.r.shape
 have hnb:=h.pa.nb
 have hlb:=h.pa.lb
 have hrb:=h.pa.rb
 have hc0:=chk2_start (e:=e) h.pa
 have HC:=hideP (PtW.mk hc0 (h.below (hc0.bl)))
 have hbd:∀ s∈sz,s≤60151:=fun s hs=>by have:=h.bd s hs;have:=h.le;omega
 have HBD:=hideP hbd
 obtain ⟨he1,he2⟩:=he
 clear h hc0 hbd
 unfold polA expA
 go_enter Tryz.func146,Tryz.ntmps146
 go_wp2
 go_loopw [7,8] (fun vc vi wr=>∃ c i:Nat,e.fr≤i∧i≤e.behind∧c≤60301∧vc=.int .i64 c∧vi=.int .i64 i∧PtW w wr kb (.slice na N.length nc) (.slice la ls.length lc) (.slice ra rs.length rc) sz e N ls rs∧countGo ls sz 0 (segE N e)=countGo ls sz c ((N.drop i).take (e.behind - i))) (fun _ i _=>1000 - (intOf i).toNat)
 case atStart=>exact ⟨0,e.fr,Nat.le_refl _,he1,by omega,rfl,rfl,HC.out,rfl⟩
 case round =>
  obtain ⟨c,i,hi1,hi2,hcb,rfl,rfl,hc,hgo⟩:=hrel
  clear HC
  have HC:=hideP hc
  have HGO:=hideP hgo
  have hB:=hc.c.bp.lt
  have hB2:=hc.c.be.lt
  have p0:=hc.c.bp.cell 0
  have p1:=hc.c.bp.cell 1
  have p2:=hc.c.bp.cell 2
  have e2:=hc.c.be.cell 2
  simp only[List.getElem?_toArray,List.getElem?_cons_zero,List.getElem?_cons_succ] at p0 p1 p2 e2
  clear hc hgo
  by_cases hlt:i < e.behind
  ·have hiN:i < N.length:=by omega
   have hseg:=seg_at N i e.behind hlt hiN
   obtain ⟨tk,htk⟩:∃ tk,N[i].tok=tk:=⟨_,rfl⟩
   obtain ⟨g,o,rfl,hg,hcap,d0,d1,d2⟩:=HC.out.node3 hiN htk
   by_cases hc:c≤150
   ·have HSG:Hid (countGo ls sz 0 (segE N e)=countGo ls sz (c+partNode ls sz tk) ((N.drop (i+1)).take (e.behind - (i+1)))):=by
     rw[Hid,HGO.out,hseg,countGo,if_pos hc,htk]
    have hpn:=partNode_le (ls:=ls) HBD.out (by omega) tk
    obtain ⟨pn,hpne⟩:∃ pn,partNode ls sz tk=pn:=⟨_,rfl⟩
    have HPE:=hideP hpne
    rw[hpne] at HSG hpn
    have HTK:=hideP htk
    have hc':decide ((c:Int)≤150)=true:=by simp;omega
    clear hseg htk hpne HGO
    go_wp2
    go_region_held3 (fun w'=>w'.cell? ⟨w.heap.size,0,none⟩=some (.slice (some ⟨g,o,none⟩) N.length nc)∧w'.cell? ⟨w.heap.size,1,none⟩=some (.slice la ls.length lc)∧w'.cell? ⟨w.heap.size,2,none⟩=some (.slice ra rs.length rc)∧w'.cell? ⟨g,o+i * 6,none⟩=some (.int .i64 (kindP tk.text))∧w'.cell? ⟨g,o+i * 6+1,none⟩=some (.int .i64 tk.at')∧w'.cell? ⟨g,o+i * 6+2,none⟩=some (.string (bsOf tk.text))) (go_keep) ((go_at_call 166;refine (partsOfNode_any HC.out.drew.p tk).mono ?_;rintro e' w5 ⟨rfl,hb5⟩;rw[HPE.out];replace HC:=hideP (HC.out.drew.below hb5);clear hb5;have p0':=HC.out.c.bp.cell 0;have p1':=HC.out.c.bp.cell 1;have p2':=HC.out.c.bp.cell 2;obtain ⟨g',o',he',hg',_,c0,c1,c2⟩:=HC.out.node3 hiN HTK.out;cases he'))
    go_wp2
    go_roundw
    case rel=>exact ⟨c+pn,i+1,by omega,by omega,by omega,sum_wrap c pn (by omega),by go_num,HC.out,HSG.out⟩
    case measure=>simp[intOf];omega
   ·have HRES:Hid (countGo ls sz 0 (segE N e)=c):=by rw[Hid,HGO.out,hseg,countGo,if_neg hc]
    have hc':decide ((c:Int)≤150)=false:=by simp;omega
    clear hseg htk HGO
    go_wp2
    go_ret
    exact ⟨ret_int (by rw[HRES.out]),HC.out.c.bl⟩
  ·have HRES:Hid (countGo ls sz 0 (segE N e)=c):=by rw[Hid,HGO.out,seg_none N i e.behind (by omega)];rfl
   clear HGO
   go_wp2
   go_ret
   exact ⟨ret_int (by rw[HRES.out]),HC.out.c.bl⟩
end Go.Proofs.YtldfkcpbjooemaaGreatDoor
namespace Go.Proofs.YtldfkcpbjooemaaGreatDoor
open Go.RowKit Go.Deep
structure PtU (w wr:World) (kb:Nat) (nv lv rv:Value) (sz:List Nat) (N:List PNode) (ls:List PLet) (rs:List PRule):Prop where
 c:Chk1 w wr nv lv rv N ls rs
 p:PtAt wr kb nv lv rv sz N ls rs
 hk:w.heap.size < kb
theorem PtU.below {w wr w':World} {kb:Nat} {nv lv rv:Value} {sz:List Nat} {N:List PNode} {ls:List PLet} {rs:List PRule} (h:PtU w wr kb nv lv rv sz N ls rs) (hb:Below wr.heap.size wr w'):PtU w w' kb nv lv rv sz N ls rs:=⟨h.c.below hb,h.p.below hb,h.hk⟩
theorem PtU.drew {w wr:World} {kb:Nat} {nv lv rv:Value} {sz:List Nat} {N:List PNode} {ls:List PLet} {rs:List PRule} (h:PtU w wr kb nv lv rv sz N ls rs):PtU w wr.drew kb nv lv rv sz N ls rs:=h.below (below_drewN (Below.refl _ wr) 1)
theorem ptu_start {w:World} {nv lv rv:Value} {N:List PNode} {ls:List PLet} {rs:List PRule} (h:PolAt w nv lv rv N ls rs):PtU w ((w.alloc (.cells #[nv,lv,rv] 64)).alloc (.cells (zeroK ls.length) 3)) (w.heap.size+1) nv lv rv [] N ls rs:=by
 have hb:Below w.heap.size w ((w.alloc (.cells #[nv,lv,rv] 64)).alloc (.cells (zeroK ls.length) 3)):=(new_below w _).alloc (by simp) _
 refine ⟨⟨(Blk.new w _ _).alloc _,h.below hb,hb⟩,⟨?_,h.below hb,Nat.zero_le _,fun s hs=>by cases hs⟩,by omega⟩
 have:=Blk.new (w.alloc (.cells #[nv,lv,rv] 64)) (zeroK ls.length) 3
 have e:(w.alloc (.cells #[nv,lv,rv] 64)).heap.size=w.heap.size+1:=by simp
 rw[e] at this
 exact this
theorem apart_start1 {w:World} {nv lv rv:Value} {N:List PNode} {ls:List PLet} {rs:List PRule} (h:PolAt w nv lv rv N ls rs):Apart2 (w.heap.size+1) (w.heap.size+1) nv lv rv:=by
 have:=apart_start h
 exact ⟨⟨this.n.2,this.n.2⟩,⟨this.l.2,this.l.2⟩,⟨this.r.2,this.r.2⟩⟩
theorem PtU.put {w wr:World} {kb:Nat} {nv lv rv:Value} {sz:List Nat} {N:List PNode} {ls:List PLet} {rs:List PRule} (h:PtU w wr kb nv lv rv sz N ls rs) (ha:Apart2 kb kb nv lv rv) (hl:sz.length < ls.length) (k:Nat) (hkb:k≤150 * (sz.length+1)+1):PtU w (wr.setCell ⟨kb,sz.length,none⟩ (.int .i64 k)) kb nv lv rv (sz++[k]) N ls rs:=by
 have hk:=h.hk
 have hp:PolAt (wr.setCell ⟨kb,sz.length,none⟩ (.int .i64 k)) nv lv rv N ls rs:=h.p.pa.set1 ha _ _
 refine ⟨⟨h.c.bp.other _ _ (by simp only;omega),hp,h.c.bl.setCell (p:=⟨kb,sz.length,none⟩) (by simp only;omega) _⟩,⟨?_,hp,by simp;omega, ?_⟩,hk⟩
 ·have:=h.p.row.set sz.length (.int .i64 k)
  have e:(cellsK (padK sz ls.length)).toArray.setIfInBounds sz.length (.int .i64 k)=(cellsK (padK (sz++[k]) ls.length)).toArray:=by
   rw[← padK_set sz ls.length k hl,List.setIfInBounds_toArray,cellsK,cellsK,List.map_set]
  rw[e] at this
  exact this
 ·intro s hs
  simp only[List.mem_append,List.mem_singleton,List.length_append,List.length_singleton] at hs ⊢
  rcases hs with hs | rfl
  ·have:=h.p.bd s hs;omega
  ·exact hkb
theorem PtAt.rowc {w:World} {kb:Nat} {nv lv rv:Value} {sz:List Nat} {N:List PNode} {ls:List PLet} {rs:List PRule} (h:PtAt w kb nv lv rv sz N ls rs) {i:Nat} (hi:i < ls.length):∃ x:Int,w.cell? ⟨kb,i,none⟩=some (.int .i64 x)∧w.frozen? ⟨kb,i,none⟩=false:=by
 have hl:=padK_len sz ls.length h.le
 refine ⟨((padK sz ls.length)[i]'(by omega):Nat), ?_,h.row.free i⟩
 rw[h.row.cell]
 simp[cellsK,hl,hi]
theorem PtU.let3 {w wr:World} {kb:Nat} {nv rv:Value} {la:Option Addr} {lc:Nat} {sz:List Nat} {N:List PNode} {ls:List PLet} {rs:List PRule} (h:PtU w wr kb nv (.slice la ls.length lc) rv sz N ls rs) {i:Nat} (hi:i < ls.length) {pl:PLet} (hp:ls[i]=pl):∃ g o,la=some ⟨g,o,none⟩∧g < wr.heap.size∧ls.length≤lc ∧
  wr.cell? ⟨g,o+i * 6+3,none⟩=some (.int .i64 pl.val.place)∧wr.cell? ⟨g,o+i * 6+4,none⟩=some (.int .i64 pl.val.fr)∧wr.cell? ⟨g,o+i * 6+5,none⟩=some (.int .i64 pl.val.behind):=by
 subst hp
 obtain ⟨g,o,h1,h2,h3,_,_,_,h4,h5,h6⟩:=h.c.let6 hi
 exact ⟨g,o,h1,h2,h3,h4,h5,h6⟩
set_option maxHeartbeats 8000000 in
set_option maxRecDepth 100000 in
theorem parts_any (nv lv rv:Value) (N:List PNode) (ls:List PLet) (rs:List PRule) (w:World) (h:PolAt w nv lv rv N ls rs) (hx:ExpsOk N ls rs) :
  Calls Tryz.prog 106 #[polA nv lv rv] w fun e' w'=>e'=.returned (.int .i64 (pParts N ls rs:Nat))∧Below w.heap.size w w':=by
 obtain ⟨na,nc,rfl⟩:=h.n.shape
 obtain ⟨la,lc,rfl⟩:=h.l.shape
 obtain ⟨ra,rc,rfl⟩:=h.r.shape
 obtain ⟨i0,hin,hz0,hz1,hz2⟩:=info_parts Tryz.infoInt3
 have hnb:=h.nb
 have hlb:=h.lb
 have hrb:=h.rb
 have hmk:∀ wx:World,(Instr.makeSlice 40 (.int .i64 ls.length) (.int .i64 ls.length)).run Tryz.prog wx=.ok (.slice (some ⟨wx.heap.size,0,none⟩) ls.length ls.length) (wx.alloc (.cells (zeroK ls.length) 3)):=by
  intro wx
  have:=run_make (P:=Tryz.prog) wx 40 3 i0 _ Tryz.underlying40 hin hz0 .i64 .i64 ls.length ls.length (by omega) (by omega) (by rw[hz2];omega) (by omega)
  rw[this,hz1,Int.toNat_natCast,made_zero2]
 have HK:=hideP (ptu_start h)
 have HA:=hideP (apart_start1 h)
 have HX:=hideP hx
 clear h hx
 unfold polA
 go_enter Tryz.func106,Tryz.ntmps106
 go_wp2
 generalize ((w.alloc (.cells #[.slice na N.length nc,.slice la ls.length lc,.slice ra rs.length rc] 64)).alloc (.cells (zeroK ls.length) 3))=w1 at HK ⊢
 generalize w.heap.size+1=kb at HK HA ⊢
 go_loopw [4] (fun vi wr=>∃ (i:Nat) (sz:List Nat),i≤ls.length∧sz.length=i∧vi=.int .i64 i∧PtU w wr kb (.slice na N.length nc) (.slice la ls.length lc) (.slice ra rs.length rc) sz N ls rs∧sizesL ls N [] ls=sizesL ls N sz (ls.drop i)) (fun i _=>1000 - (intOf i).toNat)
 case atStart=>exact ⟨0,[],Nat.zero_le _,rfl,rfl,HK.out,rfl⟩
 case round =>
  obtain ⟨i,sz,hi,hsl,rfl,hk,hgo⟩:=hrel
  clear HK
  have HK:=hideP hk
  have HGO:=hideP hgo
  have HSL:=hideP hsl
  have hB:=hk.c.bp.lt
  have p0:=hk.c.bp.cell 0
  have p1:=hk.c.bp.cell 1
  have p2:=hk.c.bp.cell 2
  simp only[List.getElem?_toArray,List.getElem?_cons_zero,List.getElem?_cons_succ] at p0 p1 p2
  clear hgo
  by_cases hlt:i < ls.length
  ·have hdrop:=List.drop_eq_getElem_cons hlt
   obtain ⟨pl,hpl⟩:∃ pl,ls[i]=pl:=⟨_,rfl⟩
   obtain ⟨g,o,rfl,hg,hcap,d3,d4,d5⟩:=hk.let3 hlt hpl
   have hg2:=HGO.out
   rw[hdrop,hpl] at hg2
   have HG2:Hid (sizesL ls N [] ls=sizesL ls N (sz++[countGo ls sz 0 (segE N pl.val)]) (ls.drop (i+1))):=hg2
   have hex:=HX.out.l ls[i] (List.getElem_mem hlt)
   rw[hpl] at hex
   have HEX:=hideP hex
   have hcb:=countGo_le (ls:=ls) hk.p.bd (by omega) (segE N pl.val) 0 (by omega)
   rw[hsl] at hcb
   obtain ⟨cn,hcn⟩:∃ cn,countGo ls sz 0 (segE N pl.val)=cn:=⟨_,rfl⟩
   have HCN:=hideP hcn
   rw[hcn] at hcb HG2
   have HPL:=hideP hpl
   have hkl:=hk.p.row.lt
   obtain ⟨x0,r0,r1⟩:=hk.p.rowc hlt
   clear hdrop hpl hex hg2 hcn hk HGO hsl
   go_wp2
   go_region_with ((go_at_call 146;refine (partsOf_any HK.out.drew.p pl.val HEX.out).mono ?_;rintro e' w5 ⟨rfl,hb5⟩;rw[HCN.out];have HK5:=hideP (HK.out.drew.below hb5);clear hb5;obtain ⟨x5,z0,z1⟩:=HK5.out.p.rowc hlt;have hkl5:=HK5.out.p.row.lt))
   all_goals
    have hfin:=HK5.out.put HA.out (by rw[HSL.out];exact hlt) cn (by rw[HSL.out];omega)
    rw[HSL.out] at hfin
    have HKF:=hideP hfin
    clear hfin
    go_wp2
    go_roundw
    case rel=>exact ⟨i+1,sz++[cn],by omega,by simp[HSL.out],by go_num,HKF.out,HG2.out⟩
    case measure=>simp[intOf];omega
  ·have HSZ:Hid (sizesL ls N [] ls=sz):=by rw[Hid,HGO.out,List.drop_eq_nil_of_le (by omega)];rfl
   have hbd:∀ s∈sz,s≤60151:=fun s hs=>by have:=hk.p.bd s hs;omega
   have HBD:=hideP hbd
   clear HGO hk hsl HSL hbd
   go_wp2
   go_loopw [5,6] (fun va vi wr=>∃ (a j:Nat),j≤rs.length∧a≤j * 200000∧va=.int .i64 a∧vi=.int .i64 j∧PtU w wr kb (.slice na N.length nc) (.slice la ls.length lc) (.slice ra rs.length rc) sz N ls rs∧partsR ls N sz 0 rs=partsR ls N sz a (rs.drop j)) (fun _ i _=>1000 - (intOf i).toNat)
   case atStart=>exact ⟨0,0,Nat.zero_le _,by omega,rfl,rfl,HK.out,rfl⟩
   case round =>
    obtain ⟨a,j,hj,hab,rfl,rfl,hk,hgo⟩:=hrel
    clear HK
    have HK:=hideP hk
    have HGO:=hideP hgo
    have hB:=hk.c.bp.lt
    have p0:=hk.c.bp.cell 0
    have p1:=hk.c.bp.cell 1
    have p2:=hk.c.bp.cell 2
    simp only[List.getElem?_toArray,List.getElem?_cons_zero,List.getElem?_cons_succ] at p0 p1 p2
    clear hgo
    by_cases hlt:j < rs.length
    ·have hdrop:=List.drop_eq_getElem_cons hlt
     obtain ⟨pr,hpr⟩:∃ pr,rs[j]=pr:=⟨_,rfl⟩
     obtain ⟨g,o,rfl,hg,hcap,d0,d1,d2,d3,d4,d5,d6,d7⟩:=hk.c.rule8p hlt hpr
     have hg2:=HGO.out
     rw[hdrop,hpr] at hg2
     have HG2:Hid (partsR ls N sz 0 rs=partsR ls N sz (a+countGo ls sz 0 (segE N pr.when)+countGo ls sz 0 (segE N pr.score)) (rs.drop (j+1))):=hg2
     have hew:=HX.out.w rs[j] (List.getElem_mem hlt)
     have hes:=HX.out.s rs[j] (List.getElem_mem hlt)
     rw[hpr] at hew hes
     have HEW:=hideP hew
     have HES:=hideP hes
     have hb1:=countGo_le (ls:=ls) HBD.out (by omega) (segE N pr.when) 0 (by omega)
     have hb2:=countGo_le (ls:=ls) HBD.out (by omega) (segE N pr.score) 0 (by omega)
     obtain ⟨c1,hc1⟩:∃ c1,countGo ls sz 0 (segE N pr.when)=c1:=⟨_,rfl⟩
     obtain ⟨c2,hc2⟩:∃ c2,countGo ls sz 0 (segE N pr.score)=c2:=⟨_,rfl⟩
     have HC1:=hideP hc1
     have HC2:=hideP hc2
     rw[hc1] at hb1 HG2
     rw[hc2] at hb2 HG2
     have HPR:=hideP hpr
     have hw1:IntKind.i64.wrap ((a:Int)+(c1:Int))=((a+c1:Nat):Int):=by rw[IntWalk.i64_in _ ⟨by omega,by omega⟩];rfl
     have hw2:IntKind.i64.wrap (((a+c1:Nat):Int)+(c2:Int))=((a+c1+c2:Nat):Int):=by rw[IntWalk.i64_in _ ⟨by omega,by omega⟩];rfl
     have HW1:=hideP hw1
     have HW2:=hideP hw2
     clear hdrop hpr hew hes hg2 hc1 hc2 hk HGO hw1 hw2
     go_wp2
     go_region_held3 (fun w'=>w'.cell? ⟨w.heap.size,0,none⟩=some (.slice na N.length nc)∧w'.cell? ⟨w.heap.size,1,none⟩=some (.slice la ls.length lc)∧w'.cell? ⟨w.heap.size,2,none⟩=some (.slice (some ⟨g,o,none⟩) rs.length rc)∧w'.cell? ⟨g,o+j * 8+1,none⟩=some (.int .i64 pr.when.place)∧w'.cell? ⟨g,o+j * 8+2,none⟩=some (.int .i64 pr.when.fr)∧w'.cell? ⟨g,o+j * 8+3,none⟩=some (.int .i64 pr.when.behind)) (go_keep) ((go_at_call 146;refine (partsOf_any HK.out.drew.p pr.when HEW.out).mono ?_;rintro e' w5 ⟨rfl,hb5⟩;rw[HC1.out];replace HK:=hideP (HK.out.drew.below hb5);clear hb5;have p0':=HK.out.c.bp.cell 0;have p1':=HK.out.c.bp.cell 1;have p2':=HK.out.c.bp.cell 2;obtain ⟨g',o',he',hg',_,c0,c1',c2',c3,c4,c5,c6,c7⟩:=HK.out.c.rule8p hlt HPR.out;cases he'))
     try rw[HW1.out]
     go_wp2
     go_region_held3 (fun w'=>w'.cell? ⟨w.heap.size,0,none⟩=some (.slice na N.length nc)∧w'.cell? ⟨w.heap.size,1,none⟩=some (.slice la ls.length lc)∧w'.cell? ⟨w.heap.size,2,none⟩=some (.slice (some ⟨g,o,none⟩) rs.length rc)∧w'.cell? ⟨g,o+j * 8+5,none⟩=some (.int .i64 pr.score.place)∧w'.cell? ⟨g,o+j * 8+6,none⟩=some (.int .i64 pr.score.fr)∧w'.cell? ⟨g,o+j * 8+7,none⟩=some (.int .i64 pr.score.behind)) (go_keep) ((go_at_call 146;refine (partsOf_any HK.out.drew.p pr.score HES.out).mono ?_;rintro e' w6 ⟨rfl,hb6⟩;rw[HC2.out];replace HK:=hideP (HK.out.drew.below hb6);clear hb6;have p0'':=HK.out.c.bp.cell 0;have p1'':=HK.out.c.bp.cell 1;have p2'':=HK.out.c.bp.cell 2;obtain ⟨g'',o'',he'',hg'',_,e0,e1',e2',e3,e4,e5,e6,e7⟩:=HK.out.c.rule8p hlt HPR.out;cases he''))
     try rw[HW2.out]
     go_wp2
     go_roundw
     case rel=>exact ⟨a+c1+c2,j+1,by omega,by omega,sum_wrap (a+c1) c2 (by omega),by go_num,HK.out,HG2.out⟩
     case measure=>simp[intOf];omega
    ·have HRES:Hid (pParts N ls rs=a):=by rw[Hid,pParts,HSZ.out,HGO.out,List.drop_eq_nil_of_le (by omega)];rfl
     clear HGO hk
     go_wp2
     go_ret
     exact ⟨ret_int (by rw[HRES.out]),HK.out.c.bl⟩
end Go.Proofs.YtldfkcpbjooemaaGreatDoor
