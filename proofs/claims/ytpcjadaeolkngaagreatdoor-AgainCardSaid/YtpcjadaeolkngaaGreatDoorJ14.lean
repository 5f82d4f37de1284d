/-
  The program's check: names of a policy.
-/
import Derived.Test.YtpcjadaeolkngaaGreatDoorJ13
set_option linter.unusedVariables false
set_option linter.unusedSimpArgs false
namespace Go.Proofs.YtpcjadaeolkngaaGreatDoor
open Go.RowKit Go.Deep
structure ExpOk(N:List PNode)(e:PExp):Prop where
 le:e.fr≤e.behind
 lt:e.behind≤N.length
structure ExpsOk(N:List PNode)(ls:List PLet)(rs:List PRule):Prop where
 may:∀ n∈N,mayT n.tok.text=true
 l:∀ p∈ls,ExpOk N p.val
 w:∀ p∈rs,ExpOk N p.when
 s:∀ p∈rs,ExpOk N p.score
structure Chk1(w wr:World)(nv lv rv:Value)(N:List PNode)(ls:List PLet)(rs:List PRule):Prop where
 bp:Blk wr w.heap.size #[nv,lv,rv] 73
 pa:PolAt wr nv lv rv N ls rs
 bl:Below w.heap.size w wr
theorem Chk1.below{w wr w':World}{nv lv rv:Value}{N:List PNode}{ls:List PLet}{rs:List PRule}(h:Chk1 w wr nv lv rv N ls rs)(hb:Below wr.heap.size wr w'):Chk1 w w' nv lv rv N ls rs :=
 ⟨h.bp.below hb h.bp.lt,h.pa.below hb,h.bl.trans (hb.mono h.bl.size)⟩
theorem Chk1.drew{w wr:World}{nv lv rv:Value}{N:List PNode}{ls:List PLet}{rs:List PRule}(h:Chk1 w wr nv lv rv N ls rs):Chk1 w wr.drew nv lv rv N ls rs:=h.below (below_drewN (Below.refl _ wr) 1)
theorem chk1_start{w:World}{nv lv rv:Value}{N:List PNode}{ls:List PLet}{rs:List PRule}(h:PolAt w nv lv rv N ls rs):Chk1 w (w.alloc (.cells #[nv,lv,rv] 73)) nv lv rv N ls rs :=
 ⟨Blk.new w _ _,h.below (new_below w _),new_below w _⟩
theorem Chk1.let6{w wr:World}{nv rv:Value}{la:Option Addr}{lc:Nat}{N:List PNode}{ls:List PLet}{rs:List PRule}(h:Chk1 w wr nv (.slice la ls.length lc) rv N ls rs){i:Nat}(hi:i<ls.length):∃ g o,la=some ⟨g,o,none⟩∧g<wr.heap.size∧ls.length≤lc ∧
  wr.cell? ⟨g,o+i*6,none⟩=some (.int .i64 (kindP ls[i].name.text))∧wr.cell? ⟨g,o+i*6+1,none⟩=some (.int .i64 ls[i].name.at')∧wr.cell? ⟨g,o+i*6+2,none⟩=some (.string (bsOf ls[i].name.text)) ∧
  wr.cell? ⟨g,o+i*6+3,none⟩=some (.int .i64 ls[i].val.place)∧wr.cell? ⟨g,o+i*6+4,none⟩=some (.int .i64 ls[i].val.fr)∧wr.cell? ⟨g,o+i*6+5,none⟩=some (.int .i64 ls[i].val.behind):=by
 obtain ⟨g,o,cap,hcut,hcap,hg,hc⟩:=h.pa.l.pos (by omega)
 cases hcut
 have f:=fun j (hj:j<6) u (hu:(cellL ls[i])[j]?=some u)=>hc (i*6+j) u ((flat_get cellL 6 (fun _=>rfl) ls i hi j hj).trans hu)
 refine ⟨g,o,rfl,hg,hcap,f 0 (by omega) _ rfl, ?_, ?_, ?_, ?_, ?_⟩
 ·rw[Nat.add_assoc];exact f 1 (by omega) _ rfl
 ·rw[Nat.add_assoc];exact f 2 (by omega) _ rfl
 ·rw[Nat.add_assoc];exact f 3 (by omega) _ rfl
 ·rw[Nat.add_assoc];exact f 4 (by omega) _ rfl
 ·rw[Nat.add_assoc];exact f 5 (by omega) _ rfl
theorem Chk1.rule8{w wr:World}{nv lv:Value}{ra:Option Addr}{rc:Nat}{N:List PNode}{ls:List PLet}{rs:List PRule}(h:Chk1 w wr nv lv (.slice ra rs.length rc) N ls rs){i:Nat}(hi:i<rs.length):∃ g o,ra=some ⟨g,o,none⟩∧g<wr.heap.size∧rs.length≤rc ∧
  wr.cell? ⟨g,o+i*8,none⟩=some (.bool rs[i].hw)∧wr.cell? ⟨g,o+i*8+1,none⟩=some (.int .i64 rs[i].when.place)∧wr.cell? ⟨g,o+i*8+2,none⟩=some (.int .i64 rs[i].when.fr)∧wr.cell? ⟨g,o+i*8+3,none⟩=some (.int .i64 rs[i].when.behind) ∧
  wr.cell? ⟨g,o+i*8+4,none⟩=some (.bool rs[i].hs)∧wr.cell? ⟨g,o+i*8+5,none⟩=some (.int .i64 rs[i].score.place)∧wr.cell? ⟨g,o+i*8+6,none⟩=some (.int .i64 rs[i].score.fr)∧wr.cell? ⟨g,o+i*8+7,none⟩=some (.int .i64 rs[i].score.behind):=by
 obtain ⟨g,o,cap,hcut,hcap,hg,hc⟩:=h.pa.r.pos (by omega)
 cases hcut
 have f:=fun j (hj:j<8) u (hu:(cellU rs[i])[j]?=some u)=>hc (i*8+j) u ((flat_get cellU 8 (fun _=>rfl) rs i hi j hj).trans hu)
 refine ⟨g,o,rfl,hg,hcap,f 0 (by omega) _ rfl, ?_, ?_, ?_, ?_, ?_, ?_, ?_⟩
 ·rw[Nat.add_assoc];exact f 1 (by omega) _ rfl
 ·rw[Nat.add_assoc];exact f 2 (by omega) _ rfl
 ·rw[Nat.add_assoc];exact f 3 (by omega) _ rfl
 ·rw[Nat.add_assoc];exact f 4 (by omega) _ rfl
 ·rw[Nat.add_assoc];exact f 5 (by omega) _ rfl
 ·rw[Nat.add_assoc];exact f 6 (by omega) _ rfl
 ·rw[Nat.add_assoc];exact f 7 (by omega) _ rfl
theorem Chk1.rule8p{w wr:World}{nv lv:Value}{ra:Option Addr}{rc:Nat}{N:List PNode}{ls:List PLet}{rs:List PRule}(h:Chk1 w wr nv lv (.slice ra rs.length rc) N ls rs){i:Nat}(hi:i<rs.length){pr:PRule}(hp:rs[i]=pr):∃ g o,ra=some ⟨g,o,none⟩∧g<wr.heap.size∧rs.length≤rc ∧
  wr.cell? ⟨g,o+i*8,none⟩=some (.bool pr.hw)∧wr.cell? ⟨g,o+i*8+1,none⟩=some (.int .i64 pr.when.place)∧wr.cell? ⟨g,o+i*8+2,none⟩=some (.int .i64 pr.when.fr)∧wr.cell? ⟨g,o+i*8+3,none⟩=some (.int .i64 pr.when.behind) ∧
  wr.cell? ⟨g,o+i*8+4,none⟩=some (.bool pr.hs)∧wr.cell? ⟨g,o+i*8+5,none⟩=some (.int .i64 pr.score.place)∧wr.cell? ⟨g,o+i*8+6,none⟩=some (.int .i64 pr.score.fr)∧wr.cell? ⟨g,o+i*8+7,none⟩=some (.int .i64 pr.score.behind):=by
 subst hp;exact h.rule8 hi
set_option maxHeartbeats 2000000 in
set_option maxRecDepth 100000 in
theorem names_any(nv lv rv:Value)(N:List PNode)(ls:List PLet)(rs:List PRule)(w:World)(h:PolAt w nv lv rv N ls rs)(hx:ExpsOk N ls rs) :
  Calls Tryz.prog 71 #[polA nv lv rv] w fun e' w'=>e'=.returned (resN (pNames N ls rs))∧Below w.heap.size w w':=by
 obtain ⟨na,nc,rfl⟩:=h.n.shape
 obtain ⟨la,lc,rfl⟩:=h.l.shape
 obtain ⟨ra,rc,rfl⟩:=h.r.shape
 have hnb:=h.nb
 have hlb:=h.lb
 have hrb:=h.rb
 have HC:=hideP (chk1_start h)
 have HX:=hideP hx
 clear h hx
 unfold polA
 go_enter Tryz.func71,Tryz.ntmps71
 go_wp2
 go_loopw [4] (fun vi wr=>∃ i:Nat,i≤ls.length∧vi=.int .i64 i∧Chk1 w wr (.slice na N.length nc) (.slice la ls.length lc) (.slice ra rs.length rc) N ls rs∧pNamesL N ls 0 ls=pNamesL N ls i (ls.drop i)) (fun i _=>1000-(intOf i).toNat)
 case atStart=>exact ⟨0,Nat.zero_le _,rfl,HC.out,rfl⟩
 case round =>
  obtain ⟨i,hi,rfl,hc,hgo⟩:=hrel
  clear HC
  have HC:=hideP hc
  have HGO:=hideP hgo
  have hB:=hc.bp.lt
  have p0:=hc.bp.cell 0
  have p1:=hc.bp.cell 1
  have p2:=hc.bp.cell 2
  simp only[List.getElem?_toArray,List.getElem?_cons_zero,List.getElem?_cons_succ]at p0 p1 p2
  by_cases hlt:i<ls.length
  ·obtain ⟨g,o,rfl,hg,hcap,d0,d1,d2,d3,d4,d5⟩:=hc.let6 hlt
   have hdrop:=List.drop_eq_getElem_cons hlt
   have HSG:Hid (pNamesL N ls 0 ls=if letIx ls ls[i].name.text<i then some ls[i].name.at' else match namesE ls i (segE N ls[i].val) with | some q=>some q | none=>pNamesL N ls (i+1) (ls.drop (i+1))):=by
    rw[Hid,HGO.out,hdrop];rfl
   have hex:=HX.out.l ls[i] (List.getElem_mem hlt)
   obtain ⟨pl,hpl⟩:∃ pl,pl=ls[i]:=⟨_,rfl⟩
   rw[← hpl]at HSG d0 d1 d2 d3 d4 d5 hex
   have HEX:=hideP hex
   clear hc hgo HGO hdrop hpl hex
   obtain ⟨ix,hixe⟩:∃ ix,ix=letIx ls pl.name.text:=⟨_,rfl⟩
   have HIE:Hid (letIx ls (bsOf pl.name.text).toList=ix):=by rw[Hid,bsOf_toList,hixe]
   rw[← hixe]at HSG
   clear hixe
   have HC4:=hideP (HC.out.below (new_below wr (.cells #[.int .i64 (kindP pl.name.text),.int .i64 pl.name.at',.string (bsOf pl.name.text)] 101)))
   by_cases hix:ix<i
   ·have hix':decide ((ix:Int)<(i:Int))=true:=by simp;omega
    go_wp2_with (go_at_call 105;refine (LetOf_any ls _ (bsOf pl.name.text) _ HC4.out.pa.l hlb).mono ?_;rintro e' w4 ⟨rfl,rfl⟩;rw[HIE.out])
    go_quiet (fail)
    go_wp2
    go_ret2
    exact ⟨by rw[pNames,HSG.out,if_pos hix];rfl,below_drewN HC4.out.bl _⟩
   ·have hix':decide ((ix:Int)<(i:Int))=false:=by simp;omega
    have HIX:=hideP hix
    have hgl:g<(wr.alloc (.cells #[.int .i64 (kindP pl.name.text),.int .i64 pl.name.at',.string (bsOf pl.name.text)] 101)).heap.size:=by simp;omega
    go_wp2_with (go_at_call 105;refine (LetOf_any ls _ (bsOf pl.name.text) _ HC4.out.pa.l hlb).mono ?_;rintro e' w4 ⟨rfl,rfl⟩;rw[HIE.out])
    cases hnm:namesE ls i (segE N pl.val) with
    | some q =>
     have HNM:=hideP hnm
     clear hnm
     go_region_held3 (fun w'=>w'.cell? ⟨w.heap.size,0,none⟩=some (.slice na N.length nc)∧w'.cell? ⟨w.heap.size,1,none⟩=some (.slice (some ⟨g,o,none⟩) ls.length lc)∧w'.cell? ⟨w.heap.size,2,none⟩=some (.slice ra rs.length rc)∧w'.cell? ⟨g,o+i*6+3,none⟩=some (.int .i64 pl.val.place)∧w'.cell? ⟨g,o+i*6+4,none⟩=some (.int .i64 pl.val.fr)∧w'.cell? ⟨g,o+i*6+5,none⟩=some (.int .i64 pl.val.behind)) (go_keep) ((go_at_call 106;refine (namesOf_any _ _ _ pl.val i N ls rs _ (HC4.out.drew.pa) HX.out.may HEX.out.le HEX.out.lt (by omega)).mono ?_;rintro e' w5 ⟨rfl,hb5⟩;rw[HNM.out];simp only[resN];have HC5:=hideP (HC4.out.drew.below hb5);have k0:=HC5.out.bp.cell 0;have k1:=HC5.out.bp.cell 1;have k2:=HC5.out.bp.cell 2;have k3:=(hb5.cell (p:=⟨g,o+i*6+3,none⟩) hgl).trans (((new_below wr (.cells #[.int .i64 (kindP pl.name.text),.int .i64 pl.name.at',.string (bsOf pl.name.text)] 101)).cell (p:=⟨g,o+i*6+3,none⟩) hg).trans d3);have k4:=(hb5.cell (p:=⟨g,o+i*6+4,none⟩) hgl).trans (((new_below wr (.cells #[.int .i64 (kindP pl.name.text),.int .i64 pl.name.at',.string (bsOf pl.name.text)] 101)).cell (p:=⟨g,o+i*6+4,none⟩) hg).trans d4);have k5:=(hb5.cell (p:=⟨g,o+i*6+5,none⟩) hgl).trans (((new_below wr (.cells #[.int .i64 (kindP pl.name.text),.int .i64 pl.name.at',.string (bsOf pl.name.text)] 101)).cell (p:=⟨g,o+i*6+5,none⟩) hg).trans d5);clear hb5))
     go_wp2
     go_ret2
     exact ⟨by rw[pNames,HSG.out,if_neg HIX.out,HNM.out];rfl,HC5.out.bl⟩
    | none =>
     have HNM:=hideP hnm
     clear hnm
     go_region_held3 (fun w'=>w'.cell? ⟨w.heap.size,0,none⟩=some (.slice na N.length nc)∧w'.cell? ⟨w.heap.size,1,none⟩=some (.slice (some ⟨g,o,none⟩) ls.length lc)∧w'.cell? ⟨w.heap.size,2,none⟩=some (.slice ra rs.length rc)∧w'.cell? ⟨g,o+i*6+3,none⟩=some (.int .i64 pl.val.place)∧w'.cell? ⟨g,o+i*6+4,none⟩=some (.int .i64 pl.val.fr)∧w'.cell? ⟨g,o+i*6+5,none⟩=some (.int .i64 pl.val.behind)) (go_keep) ((go_at_call 106;refine (namesOf_any _ _ _ pl.val i N ls rs _ (HC4.out.drew.pa) HX.out.may HEX.out.le HEX.out.lt (by omega)).mono ?_;rintro e' w5 ⟨rfl,hb5⟩;rw[HNM.out];simp only[resN];have HC5:=hideP (HC4.out.drew.below hb5);have k0:=HC5.out.bp.cell 0;have k1:=HC5.out.bp.cell 1;have k2:=HC5.out.bp.cell 2;have k3:=(hb5.cell (p:=⟨g,o+i*6+3,none⟩) hgl).trans (((new_below wr (.cells #[.int .i64 (kindP pl.name.text),.int .i64 pl.name.at',.string (bsOf pl.name.text)] 101)).cell (p:=⟨g,o+i*6+3,none⟩) hg).trans d3);have k4:=(hb5.cell (p:=⟨g,o+i*6+4,none⟩) hgl).trans (((new_below wr (.cells #[.int .i64 (kindP pl.name.text),.int .i64 pl.name.at',.string (bsOf pl.name.text)] 101)).cell (p:=⟨g,o+i*6+4,none⟩) hg).trans d4);have k5:=(hb5.cell (p:=⟨g,o+i*6+5,none⟩) hgl).trans (((new_below wr (.cells #[.int .i64 (kindP pl.name.text),.int .i64 pl.name.at',.string (bsOf pl.name.text)] 101)).cell (p:=⟨g,o+i*6+5,none⟩) hg).trans d5);clear hb5))
     go_wp2
     go_roundw
     case rel=>exact ⟨i+1,by omega,by go_num,HC5.out,by rw[HSG.out,if_neg HIX.out,HNM.out]⟩
     case measure=>simp[intOf];omega
  ·have HL0:Hid (pNamesL N ls 0 ls=none):=by rw[Hid,HGO.out,List.drop_eq_nil_of_le (by omega)];rfl
   have HPN:Hid (pNames N ls rs=pNamesR N ls rs):=by rw[Hid,pNames,HL0.out]
   clear hc hgo HGO HL0
   go_wp2
   clear p0 p1 p2 hB hi hlt
   go_loopw [8] (fun vj wx=>∃ j:Nat,j≤rs.length∧vj=.int .i64 j∧Chk1 w wx (.slice na N.length nc) (.slice la ls.length lc) (.slice ra rs.length rc) N ls rs∧pNamesR N ls rs=pNamesR N ls (rs.drop j)) (fun j _=>1000-(intOf j).toNat)
   case atStart=>exact ⟨0,Nat.zero_le _,rfl,HC.out,rfl⟩
   case round =>
    obtain ⟨j,hj,rfl,hc,hgo⟩:=hrel
    clear HC
    have HC:=hideP hc
    have HGO:=hideP hgo
    have hB:=hc.bp.lt
    have p0:=hc.bp.cell 0
    have p1:=hc.bp.cell 1
    have p2:=hc.bp.cell 2
    simp only[List.getElem?_toArray,List.getElem?_cons_zero,List.getElem?_cons_succ]at p0 p1 p2
    by_cases hlt:j<rs.length
    ·have hdrop:=List.drop_eq_getElem_cons hlt
     obtain ⟨pr,hpr⟩:∃ pr,rs[j]=pr:=⟨_,rfl⟩
     obtain ⟨g,o,rfl,hg,hcap,d0,d1,d2,d3,d4,d5,d6,d7⟩:=hc.rule8p hlt hpr
     have HSG:Hid (pNamesR N ls rs=match namesE ls ls.length (segE N pr.when) with | some q=>some q | none=>match namesE ls ls.length (segE N pr.score) with | some q=>some q | none=>pNamesR N ls (rs.drop (j+1))):=by
      rw[Hid,HGO.out,hdrop,hpr];rfl
     have HEW:=hideP (HX.out.w rs[j] (List.getElem_mem hlt))
     have HES:=hideP (HX.out.s rs[j] (List.getElem_mem hlt))
     rw[hpr]at HEW HES
     have HPR:=hideP hpr
     clear hc hgo HGO hdrop hpr
     cases hnw:namesE ls ls.length (segE N pr.when) with
     | some q =>
      have HNW:=hideP hnw
      clear hnw
      go_wp2
      go_region_held3 (fun w'=>w'.cell? ⟨w.heap.size,0,none⟩=some (.slice na N.length nc)∧w'.cell? ⟨w.heap.size,1,none⟩=some (.slice la ls.length lc)∧w'.cell? ⟨w.heap.size,2,none⟩=some (.slice (some ⟨g,o,none⟩) rs.length rc)∧w'.cell? ⟨g,o+j*8+1,none⟩=some (.int .i64 pr.when.place)∧w'.cell? ⟨g,o+j*8+2,none⟩=some (.int .i64 pr.when.fr)∧w'.cell? ⟨g,o+j*8+3,none⟩=some (.int .i64 pr.when.behind)) (go_keep) ((go_at_call 106;refine (namesOf_any _ _ _ pr.when ls.length N ls rs _ (HC.out.drew.pa) HX.out.may HEW.out.le HEW.out.lt (by omega)).mono ?_;rintro e' w5 ⟨rfl,hb5⟩;rw[HNW.out];simp only[resN];replace HC:=hideP (HC.out.drew.below hb5);clear hb5;have p0':=HC.out.bp.cell 0;have p1':=HC.out.bp.cell 1;have p2':=HC.out.bp.cell 2;obtain ⟨g',o',he',hg',_,c0,c1,c2,c3,c4,c5,c6,c7⟩:=HC.out.rule8p hlt HPR.out;cases he'))
      go_wp2
      go_ret2
      exact ⟨by rw[HPN.out,HSG.out,HNW.out];rfl,HC.out.bl⟩
     | none =>
      have HNW:=hideP hnw
      clear hnw
      go_wp2
      go_region_held3 (fun w'=>w'.cell? ⟨w.heap.size,0,none⟩=some (.slice na N.length nc)∧w'.cell? ⟨w.heap.size,1,none⟩=some (.slice la ls.length lc)∧w'.cell? ⟨w.heap.size,2,none⟩=some (.slice (some ⟨g,o,none⟩) rs.length rc)∧w'.cell? ⟨g,o+j*8+1,none⟩=some (.int .i64 pr.when.place)∧w'.cell? ⟨g,o+j*8+2,none⟩=some (.int .i64 pr.when.fr)∧w'.cell? ⟨g,o+j*8+3,none⟩=some (.int .i64 pr.when.behind)) (go_keep) ((go_at_call 106;refine (namesOf_any _ _ _ pr.when ls.length N ls rs _ (HC.out.drew.pa) HX.out.may HEW.out.le HEW.out.lt (by omega)).mono ?_;rintro e' w5 ⟨rfl,hb5⟩;rw[HNW.out];simp only[resN];replace HC:=hideP (HC.out.drew.below hb5);clear hb5;have p0':=HC.out.bp.cell 0;have p1':=HC.out.bp.cell 1;have p2':=HC.out.bp.cell 2;obtain ⟨g',o',he',hg',_,c0,c1,c2,c3,c4,c5,c6,c7⟩:=HC.out.rule8p hlt HPR.out;cases he'))
      clear p0 p1 p2 d0 d1 d2 d3 d4 d5 d6 d7 hB hg
      have hB:=HC.out.bp.lt
      cases hns:namesE ls ls.length (segE N pr.score) with
      | some q =>
       have HNS:=hideP hns
       clear hns
       go_wp2
       go_region_held3 (fun w'=>w'.cell? ⟨w.heap.size,0,none⟩=some (.slice na N.length nc)∧w'.cell? ⟨w.heap.size,1,none⟩=some (.slice la ls.length lc)∧w'.cell? ⟨w.heap.size,2,none⟩=some (.slice (some ⟨g,o,none⟩) rs.length rc)∧w'.cell? ⟨g,o+j*8+5,none⟩=some (.int .i64 pr.score.place)∧w'.cell? ⟨g,o+j*8+6,none⟩=some (.int .i64 pr.score.fr)∧w'.cell? ⟨g,o+j*8+7,none⟩=some (.int .i64 pr.score.behind)) (go_keep) ((go_at_call 106;refine (namesOf_any _ _ _ pr.score ls.length N ls rs _ (HC.out.drew.pa) HX.out.may HES.out.le HES.out.lt (by omega)).mono ?_;rintro e' w5 ⟨rfl,hb5⟩;rw[HNS.out];simp only[resN];replace HC:=hideP (HC.out.drew.below hb5);clear hb5;have p0':=HC.out.bp.cell 0;have p1':=HC.out.bp.cell 1;have p2':=HC.out.bp.cell 2;obtain ⟨g',o',he',hg',_,c0,c1,c2,c3,c4,c5,c6,c7⟩:=HC.out.rule8p hlt HPR.out;cases he'))
       go_wp2
       go_ret2
       exact ⟨by rw[HPN.out,HSG.out,HNW.out,HNS.out];rfl,HC.out.bl⟩
      | none =>
       have HNS:=hideP hns
       clear hns
       go_wp2
       go_region_held3 (fun w'=>w'.cell? ⟨w.heap.size,0,none⟩=some (.slice na N.length nc)∧w'.cell? ⟨w.heap.size,1,none⟩=some (.slice la ls.length lc)∧w'.cell? ⟨w.heap.size,2,none⟩=some (.slice (some ⟨g,o,none⟩) rs.length rc)∧w'.cell? ⟨g,o+j*8+5,none⟩=some (.int .i64 pr.score.place)∧w'.cell? ⟨g,o+j*8+6,none⟩=some (.int .i64 pr.score.fr)∧w'.cell? ⟨g,o+j*8+7,none⟩=some (.int .i64 pr.score.behind)) (go_keep) ((go_at_call 106;refine (namesOf_any _ _ _ pr.score ls.length N ls rs _ (HC.out.drew.pa) HX.out.may HES.out.le HES.out.lt (by omega)).mono ?_;rintro e' w5 ⟨rfl,hb5⟩;rw[HNS.out];simp only[resN];replace HC:=hideP (HC.out.drew.below hb5);clear hb5;have p0':=HC.out.bp.cell 0;have p1':=HC.out.bp.cell 1;have p2':=HC.out.bp.cell 2;obtain ⟨g',o',he',hg',_,c0,c1,c2,c3,c4,c5,c6,c7⟩:=HC.out.rule8p hlt HPR.out;cases he'))
       go_wp2
       go_roundw
       case rel=>exact ⟨j+1,by omega,by go_num,HC.out,by rw[HSG.out,HNW.out,HNS.out]⟩
       case measure=>simp[intOf];omega
    ·have HL0:Hid (pNamesR N ls rs=none):=by rw[Hid,HGO.out,List.drop_eq_nil_of_le (by omega)];rfl
     clear hc hgo HGO
     go_wp2
     go_ret2
     exact ⟨by rw[HPN.out,HL0.out];rfl,HC.out.bl⟩
set_option maxHeartbeats 1000000 in
theorem kindOfSingle_any(k:Nat)(w:World) :
  Calls Tryz.prog 149 #[.int .i64 k] w fun e w'=>e=.returned (.int .i64 (kindOne k:Nat))∧w'=w:=by
 go_enter Tryz.func149,Tryz.ntmps149
 go_wp2
 all_goals go_ret
 all_goals exact ⟨ret_int (by simp at *;unfold kindOne;(repeat' split) <;> omega),rfl⟩
set_option maxHeartbeats 1000000 in
theorem kindOfOne_any(k a:Nat)(w:World) :
  Calls Tryz.prog 146 #[.int .i64 k,.int .i64 a] w fun e w'=>e=.returned (.int .i64 (kindUn k a:Nat))∧w'=w:=by
 go_enter Tryz.func146,Tryz.ntmps146
 go_wp2
 all_goals go_ret
 all_goals exact ⟨ret_int (by (try simp at *);unfold kindUn;(repeat' split) <;> omega),rfl⟩
set_option maxHeartbeats 1000000 in
theorem kindOfTwo_any(k a b:Nat)(w:World) :
  Calls Tryz.prog 147 #[.int .i64 k,.int .i64 a,.int .i64 b] w fun e w'=>e=.returned (.int .i64 (kindBin k a b:Nat))∧w'=w:=by
 go_enter Tryz.func147,Tryz.ntmps147
 go_wp2
 all_goals go_ret
 all_goals exact ⟨ret_int (by simp at *;unfold kindBin;(repeat' split) <;> omega),rfl⟩
def padK(ks:List Nat)(n:Nat):List Nat:=ks++List.replicate (n-ks.length) 0
theorem padK_len(ks:List Nat)(n:Nat)(h:ks.length≤n):(padK ks n).length=n:=by simp[padK];omega
theorem padK_get(ks:List Nat)(n i:Nat):(padK ks n).getD i 0=ks.getD i 0:=by
 unfold padK
 simp only[List.getD_eq_getElem?_getD]
 by_cases h:i<ks.length
 ·rw[List.getElem?_append_left h]
 ·rw[List.getElem?_append_right (by omega),List.getElem?_eq_none (l:=ks) (by omega),List.getElem?_replicate]
  split <;> rfl
theorem padK_set(ks:List Nat)(n x:Nat)(h:ks.length<n):(padK ks n).set ks.length x=padK (ks++[x]) n:=by
 unfold padK
 rw[List.set_append_right _ _ (Nat.le_refl _),Nat.sub_self,show n-ks.length=(n-(ks.length+1))+1 by omega,List.replicate_succ,List.set_cons_zero]
 simp
structure LkAt(w:World)(B kb:Nat)(nv lv rv:Value)(ks:List Nat)(f:Option Nat)(N:List PNode)(ls:List PLet)(rs:List PRule):Prop where
 blk:Blk w B #[nv,lv,rv,.slice (some ⟨kb,0,none⟩) N.length N.length,.bool f.isSome,.int .i64 (f.getD 0:Nat)] 180
 row:Blk w kb (cellsK (padK ks N.length)).toArray 3
 pa:PolAt w nv lv rv N ls rs
 ne:kb≠B
 le:ks.length≤N.length
theorem LkAt.below{w w':World}{B kb:Nat}{nv lv rv:Value}{ks:List Nat}{f:Option Nat}{N:List PNode}{ls:List PLet}{rs:List PRule}(h:LkAt w B kb nv lv rv ks f N ls rs)(hb:Below w.heap.size w w'):LkAt w' B kb nv lv rv ks f N ls rs :=
 ⟨h.blk.below hb h.blk.lt,h.row.below hb h.row.lt,h.pa.below hb,h.ne,h.le⟩
theorem LkAt.drewN{w:World}{B kb:Nat}{nv lv rv:Value}{ks:List Nat}{f:Option Nat}{N:List PNode}{ls:List PLet}{rs:List PRule}(h:LkAt w B kb nv lv rv ks f N ls rs)(n:Nat):LkAt (w.drewN n) B kb nv lv rv ks f N ls rs:=h.below (below_drewN (Below.refl _ w) n)
theorem LkAt.reads{w:World}{B kb:Nat}{nv lv rv:Value}{ks:List Nat}{f:Option Nat}{N:List PNode}{ls:List PLet}{rs:List PRule}(h:LkAt w B kb nv lv rv ks f N ls rs):Reads w (.slice (some ⟨kb,0,none⟩) N.length N.length) (padK ks N.length).length (cellsK (padK ks N.length)):=by
 refine .inr ⟨kb,0,N.length,by rw[padK_len _ _ h.le],by rw[padK_len _ _ h.le];exact Nat.le_refl _,h.row.lt,fun j u hj=>?_⟩
 rw[Nat.zero_add,h.row.cell]
 simpa using hj
theorem at_lk{w:World}{B kb:Nat}{nv lv rv:Value}{ks:List Nat}{f:Option Nat}{N:List PNode}{ls:List PLet}{rs:List PRule}(h:LkAt w B kb nv lv rv ks f N ls rs)(i:Int)(hi:-2≤i∧i≤1000) :
  Calls Tryz.prog 145 #[.slice (some ⟨kb,0,none⟩) N.length N.length,.int .i64 i] w fun e w'=>e=.returned (.int .i64 (atN ks i:Nat))∧w'=w:=by
 have hl:=padK_len _ _ h.le
 have:=at_any (padK ks N.length) (.slice (some ⟨kb,0,none⟩) N.length N.length) i w h.reads (by rw[hl];exact h.pa.nb) hi
 have e:atN (padK ks N.length) i=atN ks i:=by
  unfold atN
  split
  ·rfl
  ·exact padK_get _ _ _
 rw[e]at this
 exact this
theorem atN_kind(ks:List Nat)(e:PExp)(h:1≤e.behind):atN ks ((e.behind:Int)-1)=kindAt ks e:=by
 rw[show ((e.behind:Int)-1)=((e.behind-1:Nat):Int) by omega,atN_nat];rfl
set_option maxHeartbeats 1000000 in
theorem kindOf_any{w:World}{B kb:Nat}{nv lv rv:Value}{ks:List Nat}{f:Option Nat}{N:List PNode}{ls:List PLet}{rs:List PRule}(h:LkAt w B kb nv lv rv ks f N ls rs)(e:PExp)(he:1≤e.behind∧e.behind≤401) :
  Calls Tryz.prog 127 #[.pointer (some ⟨B,0,none⟩),expA e] w fun e' w'=>e'=.returned (.int .i64 (kindAt ks e:Nat))∧Below w.heap.size w w':=by
 have HL:=hideP (h.below (new_below w (.cells #[.int .i64 e.place,.int .i64 e.fr,.int .i64 e.behind] 105)))
 have hB:=h.blk.lt
 have c3:=h.blk.cell 3
 simp only[List.getElem?_toArray,List.getElem?_cons_zero,List.getElem?_cons_succ]at c3
 have HAT:=hideP (atN_kind ks e he.1)
 clear h
 unfold expA
 obtain ⟨he1,he2⟩:=he
 go_enter Tryz.func127,Tryz.ntmps127
 go_wp2
 go_quiet ((go_at_call 145;exact Calls.quiet_of_same (at_lk (HL.out.drewN _) _ ⟨by omega,by omega⟩)))
 go_wp2
 go_ret
 exact ⟨ret_int (by rw[HAT.out]),below_drewN (new_below w _) _⟩
theorem Blk.drewM{w:World}{b:Nat}{cs:Array Value}{t:TypeId}(h:Blk w b cs t)(n:Nat):Blk (w.drewN n) b cs t:=h
def nameK(ls:List PLet)(ks:List Nat)(t:Txt):Nat:=match ls[letIx ls t]? with
 | some p=>kindAt ks p.val
 | none=>0
set_option maxHeartbeats 1000000 in
theorem kindOfName_any{w:World}{B kb:Nat}{nv lv rv:Value}{ks:List Nat}{f:Option Nat}{N:List PNode}{ls:List PLet}{rs:List PRule}(h:LkAt w B kb nv lv rv ks f N ls rs)(d:ByteArray)(hx:∀ p∈ls,1≤p.val.behind∧p.val.behind≤401) :
  Calls Tryz.prog 148 #[.pointer (some ⟨B,0,none⟩),.string d] w fun e' w'=>e'=.returned (.int .i64 (nameK ls ks d.toList:Nat))∧Below w.heap.size w w':=by
 obtain ⟨la,lc,rfl⟩:=h.pa.l.shape
 have hlb:=h.pa.lb
 have HL:=hideP h
 have hB:=h.blk.lt
 have c1:=h.blk.cell 1
 simp only[List.getElem?_toArray,List.getElem?_cons_zero,List.getElem?_cons_succ]at c1
 have hle:=letIx_le ls d.toList
 by_cases hlt:letIx ls d.toList<ls.length
 ·obtain ⟨g,o,cap,hcut,hcap,hg,hc⟩:=h.pa.l.pos (by omega)
  cases hcut
  have fc:=fun j (hj:j<6) u (hu:(cellL ls[letIx ls d.toList])[j]?=some u)=>hc (letIx ls d.toList*6+j) u ((flat_get cellL 6 (fun _=>rfl) ls _ hlt j hj).trans hu)
  obtain ⟨pl,hpl⟩:∃ pl,pl=ls[letIx ls d.toList]:=⟨_,rfl⟩
  have hbe:=hx pl (by rw[hpl];exact List.getElem_mem hlt)
  have HNK:Hid (nameK ls ks d.toList=kindAt ks pl.val):=by rw[Hid,nameK,List.getElem?_eq_getElem hlt,hpl]
  rw[← hpl]at fc
  obtain ⟨ix,hix⟩:∃ ix,letIx ls d.toList=ix:=⟨_,rfl⟩
  have HIX:=hideP hix
  rw[hix]at fc hlt
  have d3:w.cell? ⟨g,o+ix*6+3,none⟩=some (.int .i64 pl.val.place):=by rw[Nat.add_assoc];exact fc 3 (by omega) _ rfl
  have d4:w.cell? ⟨g,o+ix*6+4,none⟩=some (.int .i64 pl.val.fr):=by rw[Nat.add_assoc];exact fc 4 (by omega) _ rfl
  have d5:w.cell? ⟨g,o+ix*6+5,none⟩=some (.int .i64 pl.val.behind):=by rw[Nat.add_assoc];exact fc 5 (by omega) _ rfl
  clear fc hpl hc h hx hle hix
  rw[HNK.out]
  go_enter Tryz.func148,Tryz.ntmps148
  go_wp2_with (first | (go_at_call 105;refine (LetOf_any ls _ d _ HL.out.pa.l hlb).mono ?_;rintro e' w4 ⟨rfl,rfl⟩;rw[HIX.out]) | (go_at_call 127;refine (kindOf_any HL.out pl.val hbe).mono ?_;rintro e' w5 ⟨rfl,hb5⟩))
  go_ret
  exact ⟨rfl,hb5⟩
 ·have hix:letIx ls d.toList=ls.length:=by omega
  have HIX:=hideP hix
  have HNK:Hid (nameK ls ks d.toList=0):=by rw[Hid,nameK,List.getElem?_eq_none (by omega)]
  clear hx hle hix h
  rw[HNK.out]
  go_enter Tryz.func148,Tryz.ntmps148
  go_wp2_with (go_at_call 105;refine (LetOf_any ls _ d _ HL.out.pa.l hlb).mono ?_;rintro e' w4 ⟨rfl,rfl⟩;rw[HIX.out])
  go_ret
  exact ⟨rfl,Below.refl _ _⟩
theorem nodeK_name(ls:List PLet)(ks:List Nat)(n:PNode)(h1:n.ops≠1)(h2:n.ops≠2)(hk:kindP n.tok.text=2):nodeK ls ks n=nameK ls ks n.tok.text:=by
 unfold nodeK nameK
 rw[if_neg h1,if_neg h2,if_pos hk]
 cases ls[letIx ls n.tok.text]? <;> rfl
set_option maxHeartbeats 1000000 in
set_option maxRecDepth 100000 in
theorem kindOfNode_any{w:World}{B kb:Nat}{nv lv rv:Value}{ks:List Nat}{f:Option Nat}{N:List PNode}{ls:List PLet}{rs:List PRule}(h:LkAt w B kb nv lv rv ks f N ls rs)(n:PNode)(hn:n.left≤1000∧n.right≤1000)(hx:∀ p∈ls,1≤p.val.behind∧p.val.behind≤401) :
  Calls Tryz.prog 125 #[.pointer (some ⟨B,0,none⟩),nodA n] w fun e' w'=>e'=.returned (.int .i64 (nodeK ls ks n:Nat))∧Below w.heap.size w w':=by
 have HL:=hideP (h.below (new_below w (.cells #[.int .i64 (kindP n.tok.text),.int .i64 n.tok.at',.string (bsOf n.tok.text),.int .i64 n.ops,.int .i64 n.left,.int .i64 n.right] 154)))
 have hB:=h.blk.lt
 have c3:=h.blk.cell 3
 simp only[List.getElem?_toArray,List.getElem?_cons_zero,List.getElem?_cons_succ]at c3
 have HX:=hideP hx
 obtain ⟨hn1,hn2⟩:=hn
 clear h hx
 unfold nodA
 by_cases h1:n.ops=1
 ·have e1:((n.ops:Int)==1)=true:=by simp;omega
  have HK:Hid (nodeK ls ks n=kindUn (kindP n.tok.text) (atN ks (n.left:Int))):=by rw[Hid,nodeK,if_pos h1,atN_nat]
  rw[HK.out]
  clear h1
  go_enter Tryz.func125,Tryz.ntmps125
  go_wp2
  go_quiet ((go_at_call 145;exact Calls.quiet_of_same (at_lk (HL.out.drewN _) _ ⟨by omega,by omega⟩)))
  go_wp2_with (go_at_call 146;refine (kindOfOne_any _ _ _).mono ?_;rintro e' w5 ⟨rfl,rfl⟩)
  go_ret
  exact ⟨rfl,below_drewN (new_below w _) _⟩
 have e1:((n.ops:Int)==1)=false:=by simp;omega
 by_cases h2:n.ops=2
 ·have e2:((n.ops:Int)==2)=true:=by simp;omega
  have HK:Hid (nodeK ls ks n=kindBin (kindP n.tok.text) (atN ks (n.left:Int)) (atN ks (n.right:Int))):=by rw[Hid,nodeK,if_neg h1,if_pos h2,atN_nat,atN_nat]
  rw[HK.out]
  clear h1 h2
  go_enter Tryz.func125,Tryz.ntmps125
  go_wp2
  go_quiet ((go_at_call 145;exact Calls.quiet_of_same (at_lk (HL.out.drewN _) _ ⟨by omega,by omega⟩)))
  have HL2:=hideP (HL.out.drewN nq)
  have HB2:=hideP (below_drewN (new_below w (.cells #[.int .i64 (kindP n.tok.text),.int .i64 n.tok.at',.string (bsOf n.tok.text),.int .i64 n.ops,.int .i64 n.left,.int .i64 n.right] 154)) nq)
  have HN2:=hideP ((Blk.new w #[.int .i64 (kindP n.tok.text),.int .i64 n.tok.at',.string (bsOf n.tok.text),.int .i64 n.ops,.int .i64 n.left,.int .i64 n.right] 154).drewM nq)
  generalize (w.alloc (.cells #[.int .i64 (kindP n.tok.text),.int .i64 n.tok.at',.string (bsOf n.tok.text),.int .i64 n.ops,.int .i64 n.left,.int .i64 n.right] 154)).drewN nq=wq at HL2 HB2 HN2 ⊢
  have k0:=HN2.out.cell 0
  have k5:=HN2.out.cell 5
  have k3:=HL2.out.blk.cell 3
  simp only[List.getElem?_toArray,List.getElem?_cons_zero,List.getElem?_cons_succ]at k0 k5 k3
  clear c3
  go_wp2
  go_quiet ((go_at_call 145;exact Calls.quiet_of_same (at_lk (HL2.out.drewN _) _ ⟨by omega,by omega⟩)))
  go_wp2_with (go_at_call 147;refine (kindOfTwo_any _ _ _ _).mono ?_;rintro e' w5 ⟨rfl,rfl⟩)
  go_ret
  exact ⟨rfl,below_drewN HB2.out _⟩
 have e2:((n.ops:Int)==2)=false:=by simp;omega
 by_cases h3:kindP n.tok.text=2
 ·have e3:((kindP n.tok.text:Int)==2)=true:=by simp;omega
  have HK:=hideP (nodeK_name ls ks n h1 h2 h3)
  rw[HK.out]
  clear h1 h2 h3
  go_enter Tryz.func125,Tryz.ntmps125
  go_wp2_with (go_at_call 148;refine (kindOfName_any HL.out (bsOf n.tok.text) HX.out).mono ?_;rintro e' w5 ⟨rfl,hb5⟩;rw[bsOf_toList])
  go_ret
  exact ⟨rfl,(new_below w _).trans (hb5.mono (by simp))⟩
 ·have e3:((kindP n.tok.text:Int)==2)=false:=by simp;omega
  have HK:Hid (nodeK ls ks n=kindOne (kindP n.tok.text)):=by rw[Hid,nodeK,if_neg h1,if_neg h2,if_neg h3]
  rw[HK.out]
  clear h1 h2 h3
  go_enter Tryz.func125,Tryz.ntmps125
  go_wp2_with (go_at_call 149;refine (kindOfSingle_any _ _).mono ?_;rintro e' w5 ⟨rfl,rfl⟩)
  go_ret
  exact ⟨rfl,new_below w _⟩
end Go.Proofs.YtpcjadaeolkngaaGreatDoor
