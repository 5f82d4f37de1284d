/-
  The program's check: kinds of values: its small functions.
-/
import Derived.Test.YtpcjadaeolkngaaGreatDoorK14
set_option linter.unusedVariables false
set_option linter.unusedSimpArgs false
namespace Go.Proofs.YtpcjadaeolkngaaGreatDoor
open Go.RowKit Go.Deep
set_option maxHeartbeats 1000000 in
theorem kindOfSingle_any (k:Nat) (w:World) :
  Calls Tryz.prog 149 #[.int .i64 k] w fun e w'=>e=.returned (.int .i64 (kindOne k:Nat))∧w'=w:=by
 go_enter Tryz.func149,Tryz.ntmps149
 go_wp2
 all_goals go_ret
 all_goals exact ⟨ret_int (by simp at *;unfold kindOne;(repeat' split) <;> omega),rfl⟩
set_option maxHeartbeats 1000000 in
theorem kindOfOne_any (k a:Nat) (w:World) :
  Calls Tryz.prog 146 #[.int .i64 k,.int .i64 a] w fun e w'=>e=.returned (.int .i64 (kindUn k a:Nat))∧w'=w:=by
 go_enter Tryz.func146,Tryz.ntmps146
 go_wp2
 all_goals go_ret
 all_goals exact ⟨ret_int (by (try simp at *);unfold kindUn;(repeat' split) <;> omega),rfl⟩
set_option maxHeartbeats 1000000 in
theorem kindOfTwo_any (k a b:Nat) (w:World) :
  Calls Tryz.prog 147 #[.int .i64 k,.int .i64 a,.int .i64 b] w fun e w'=>e=.returned (.int .i64 (kindBin k a b:Nat))∧w'=w:=by
 go_enter Tryz.func147,Tryz.ntmps147
 go_wp2
 all_goals go_ret
 all_goals exact ⟨ret_int (by simp at *;unfold kindBin;(repeat' split) <;> omega),rfl⟩
def padK (ks:List Nat) (n:Nat):List Nat:=ks++List.replicate (n - ks.length) 0
theorem padK_len (ks:List Nat) (n:Nat) (h:ks.length≤n):(padK ks n).length=n:=by simp[padK];omega
theorem padK_get (ks:List Nat) (n i:Nat):(padK ks n).getD i 0=ks.getD i 0:=by
 unfold padK
 simp only[List.getD_eq_getElem?_getD]
 by_cases h:i < ks.length
 ·rw[List.getElem?_append_left h]
 ·rw[List.getElem?_append_right (by omega),List.getElem?_eq_none (l:=ks) (by omega),List.getElem?_replicate]
  split <;> rfl
theorem padK_set (ks:List Nat) (n x:Nat) (h:ks.length < n):(padK ks n).set ks.length x=padK (ks++[x]) n:=by
 unfold padK
 rw[List.set_append_right _ _ (Nat.le_refl _),Nat.sub_self,show n - ks.length=(n - (ks.length+1))+1 by omega,List.replicate_succ,List.set_cons_zero]
 simp
structure LkAt (w:World) (B kb:Nat) (nv lv rv:Value) (ks:List Nat) (f:Option Nat) (N:List PNode) (ls:List PLet) (rs:List PRule):Prop where
 blk:Blk w B #[nv,lv,rv,.slice (some ⟨kb,0,none⟩) N.length N.length,.bool f.isSome,.int .i64 (f.getD 0:Nat)] 180
 row:Blk w kb (cellsK (padK ks N.length)).toArray 3
 pa:PolAt w nv lv rv N ls rs
 ne:kb≠B
 le:ks.length≤N.length
theorem LkAt.below {w w':World} {B kb:Nat} {nv lv rv:Value} {ks:List Nat} {f:Option Nat} {N:List PNode} {ls:List PLet} {rs:List PRule} (h:LkAt w B kb nv lv rv ks f N ls rs) (hb:Below w.heap.size w w'):LkAt w' B kb nv lv rv ks f N ls rs :=
 ⟨h.blk.below hb h.blk.lt,h.row.below hb h.row.lt,h.pa.below hb,h.ne,h.le⟩
theorem LkAt.drewN {w:World} {B kb:Nat} {nv lv rv:Value} {ks:List Nat} {f:Option Nat} {N:List PNode} {ls:List PLet} {rs:List PRule} (h:LkAt w B kb nv lv rv ks f N ls rs) (n:Nat):LkAt (w.drewN n) B kb nv lv rv ks f N ls rs:=h.below (below_drewN (Below.refl _ w) n)
theorem LkAt.reads {w:World} {B kb:Nat} {nv lv rv:Value} {ks:List Nat} {f:Option Nat} {N:List PNode} {ls:List PLet} {rs:List PRule} (h:LkAt w B kb nv lv rv ks f N ls rs):Reads w (.slice (some ⟨kb,0,none⟩) N.length N.length) (padK ks N.length).length (cellsK (padK ks N.length)):=by
 refine .inr ⟨kb,0,N.length,by rw[padK_len _ _ h.le],by rw[padK_len _ _ h.le];exact Nat.le_refl _,h.row.lt,fun j u hj=>?_⟩
 rw[Nat.zero_add,h.row.cell]
 simpa using hj
theorem at_lk {w:World} {B kb:Nat} {nv lv rv:Value} {ks:List Nat} {f:Option Nat} {N:List PNode} {ls:List PLet} {rs:List PRule} (h:LkAt w B kb nv lv rv ks f N ls rs) (i:Int) (hi:-2≤i∧i≤1000) :
  Calls Tryz.prog 145 #[.slice (some ⟨kb,0,none⟩) N.length N.length,.int .i64 i] w fun e w'=>e=.returned (.int .i64 (atN ks i:Nat))∧w'=w:=by
 have hl:=padK_len _ _ h.le
 have:=at_any (padK ks N.length) (.slice (some ⟨kb,0,none⟩) N.length N.length) i w h.reads (by rw[hl];exact h.pa.nb) hi
 have e:atN (padK ks N.length) i=atN ks i:=by
  unfold atN
  split
  ·rfl
  ·exact padK_get _ _ _
 rw[e] at this
 exact this
theorem atN_kind (ks:List Nat) (e:PExp) (h:1≤e.behind):atN ks ((e.behind:Int) - 1)=kindAt ks e:=by
 rw[show ((e.behind:Int) - 1)=((e.behind - 1:Nat):Int) by omega,atN_nat];rfl
set_option maxHeartbeats 1000000 in
theorem kindOf_any {w:World} {B kb:Nat} {nv lv rv:Value} {ks:List Nat} {f:Option Nat} {N:List PNode} {ls:List PLet} {rs:List PRule} (h:LkAt w B kb nv lv rv ks f N ls rs) (e:PExp) (he:1≤e.behind∧e.behind≤401) :
  Calls Tryz.prog 127 #[.pointer (some ⟨B,0,none⟩),expA e] w fun e' w'=>e'=.returned (.int .i64 (kindAt ks e:Nat))∧Below w.heap.size w w':=by
 have HL:=hideP (h.below (new_below w (.cells #[.int .i64 e.place,.int .i64 e.fr,.int .i64 e.behind] 105)))
 have hB:=h.blk.lt
 have c3:=h.blk.cell 3
 simp only[List.getElem?_toArray,List.getElem?_cons_zero,List.getElem?_cons_succ] at c3
 have HAT:=hideP (atN_kind ks e he.1)
 clear h
 unfold expA
 obtain ⟨he1,he2⟩:=he
 go_enter Tryz.func127,Tryz.ntmps127
 go_wp2
 go_quiet ((go_at_call 145;exact Calls.quiet_of_same (at_lk (HL.out.drewN _) _ ⟨by omega,by omega⟩)))
 go_wp2
 go_ret
 exact ⟨ret_int (by rw[HAT.out]),below_drewN (new_below w _) _⟩
end Go.Proofs.YtpcjadaeolkngaaGreatDoor
namespace Go.Proofs.YtpcjadaeolkngaaGreatDoor
open Go.RowKit Go.Deep
theorem Blk.drewM {w:World} {b:Nat} {cs:Array Value} {t:TypeId} (h:Blk w b cs t) (n:Nat):Blk (w.drewN n) b cs t:=h
def nameK (ls:List PLet) (ks:List Nat) (t:Txt):Nat:=match ls[letIx ls t]? with
 | some p=>kindAt ks p.val
 | none=>0
set_option maxHeartbeats 1000000 in
theorem kindOfName_any {w:World} {B kb:Nat} {nv lv rv:Value} {ks:List Nat} {f:Option Nat} {N:List PNode} {ls:List PLet} {rs:List PRule} (h:LkAt w B kb nv lv rv ks f N ls rs) (d:ByteArray) (hx:∀ p∈ls,1≤p.val.behind∧p.val.behind≤401) :
  Calls Tryz.prog 148 #[.pointer (some ⟨B,0,none⟩),.string d] w fun e' w'=>e'=.returned (.int .i64 (nameK ls ks d.toList:Nat))∧Below w.heap.size w w':=by
 obtain ⟨la,lc,rfl⟩:=h.pa.l.shape
 have hlb:=h.pa.lb
 have HL:=hideP h
 have hB:=h.blk.lt
 have c1:=h.blk.cell 1
 simp only[List.getElem?_toArray,List.getElem?_cons_zero,List.getElem?_cons_succ] at c1
 have hle:=letIx_le ls d.toList
 by_cases hlt:letIx ls d.toList < ls.length
 ·obtain ⟨g,o,cap,hcut,hcap,hg,hc⟩:=h.pa.l.pos (by omega)
  cases hcut
  have fc:=fun j (hj:j < 6) u (hu:(cellL ls[letIx ls d.toList])[j]?=some u)=>hc (letIx ls d.toList * 6+j) u ((flat_get cellL 6 (fun _=>rfl) ls _ hlt j hj).trans hu)
  obtain ⟨pl,hpl⟩:∃ pl,pl=ls[letIx ls d.toList]:=⟨_,rfl⟩
  have hbe:=hx pl (by rw[hpl];exact List.getElem_mem hlt)
  have HNK:Hid (nameK ls ks d.toList=kindAt ks pl.val):=by rw[Hid,nameK,List.getElem?_eq_getElem hlt,hpl]
  rw[← hpl] at fc
  obtain ⟨ix,hix⟩:∃ ix,letIx ls d.toList=ix:=⟨_,rfl⟩
  have HIX:=hideP hix
  rw[hix] at fc hlt
  have d3:w.cell? ⟨g,o+ix * 6+3,none⟩=some (.int .i64 pl.val.place):=by rw[Nat.add_assoc];exact fc 3 (by omega) _ rfl
  have d4:w.cell? ⟨g,o+ix * 6+4,none⟩=some (.int .i64 pl.val.fr):=by rw[Nat.add_assoc];exact fc 4 (by omega) _ rfl
  have d5:w.cell? ⟨g,o+ix * 6+5,none⟩=some (.int .i64 pl.val.behind):=by rw[Nat.add_assoc];exact fc 5 (by omega) _ rfl
  clear fc hpl hc h hx hle hix
  rw[HNK.out]
  go_enter Tryz.func148,Tryz.ntmps148
  go_wp2_with (first | (go_at_call 105;refine (LetOf_any ls _ d _ HL.out.pa.l hlb).mono ?_;rintro e' w4 ⟨rfl,rfl⟩;rw[HIX.out]) | (go_at_call 127;refine (kindOf_any HL.out pl.val hbe).mono ?_;rintro e' w5 ⟨rfl,hb5⟩))
  go_ret
  exact ⟨rfl,hb5⟩
 ·have hix:letIx ls d.toList=ls.length:=by omega
  have HIX:=hideP hix
  have HNK:Hid (nameK ls ks d.toList=0):=by rw[Hid,nameK,List.getElem?_eq_none (by omega)]
  clear hx hle hix h
  rw[HNK.out]
  go_enter Tryz.func148,Tryz.ntmps148
  go_wp2_with (go_at_call 105;refine (LetOf_any ls _ d _ HL.out.pa.l hlb).mono ?_;rintro e' w4 ⟨rfl,rfl⟩;rw[HIX.out])
  go_ret
  exact ⟨rfl,Below.refl _ _⟩
theorem nodeK_name (ls:List PLet) (ks:List Nat) (n:PNode) (h1:n.ops≠1) (h2:n.ops≠2) (hk:kindP n.tok.text=2):nodeK ls ks n=nameK ls ks n.tok.text:=by
 unfold nodeK nameK
 rw[if_neg h1,if_neg h2,if_pos hk]
 cases ls[letIx ls n.tok.text]? <;> rfl
set_option maxHeartbeats 1000000 in
set_option maxRecDepth 100000 in
theorem kindOfNode_any {w:World} {B kb:Nat} {nv lv rv:Value} {ks:List Nat} {f:Option Nat} {N:List PNode} {ls:List PLet} {rs:List PRule} (h:LkAt w B kb nv lv rv ks f N ls rs) (n:PNode) (hn:n.left≤1000∧n.right≤1000) (hx:∀ p∈ls,1≤p.val.behind∧p.val.behind≤401) :
  Calls Tryz.prog 125 #[.pointer (some ⟨B,0,none⟩),nodA n] w fun e' w'=>e'=.returned (.int .i64 (nodeK ls ks n:Nat))∧Below w.heap.size w w':=by
 have HL:=hideP (h.below (new_below w (.cells #[.int .i64 (kindP n.tok.text),.int .i64 n.tok.at',.string (bsOf n.tok.text),.int .i64 n.ops,.int .i64 n.left,.int .i64 n.right] 154)))
 have hB:=h.blk.lt
 have c3:=h.blk.cell 3
 simp only[List.getElem?_toArray,List.getElem?_cons_zero,List.getElem?_cons_succ] at c3
 have HX:=hideP hx
 obtain ⟨hn1,hn2⟩:=hn
 clear h hx
 unfold nodA
 by_cases h1:n.ops=1
 ·have e1:((n.ops:Int)==1)=true:=by simp;omega
  have HK:Hid (nodeK ls ks n=kindUn (kindP n.tok.text) (atN ks (n.left:Int))):=by rw[Hid,nodeK,if_pos h1,atN_nat]
  rw[HK.out]
  clear h1
  go_enter Tryz.func125,Tryz.ntmps125
  go_wp2
  go_quiet ((go_at_call 145;exact Calls.quiet_of_same (at_lk (HL.out.drewN _) _ ⟨by omega,by omega⟩)))
  go_wp2_with (go_at_call 146;refine (kindOfOne_any _ _ _).mono ?_;rintro e' w5 ⟨rfl,rfl⟩)
  go_ret
  exact ⟨rfl,below_drewN (new_below w _) _⟩
 have e1:((n.ops:Int)==1)=false:=by simp;omega
 by_cases h2:n.ops=2
 ·have e2:((n.ops:Int)==2)=true:=by simp;omega
  have HK:Hid (nodeK ls ks n=kindBin (kindP n.tok.text) (atN ks (n.left:Int)) (atN ks (n.right:Int))):=by rw[Hid,nodeK,if_neg h1,if_pos h2,atN_nat,atN_nat]
  rw[HK.out]
  clear h1 h2
  go_enter Tryz.func125,Tryz.ntmps125
  go_wp2
  go_quiet ((go_at_call 145;exact Calls.quiet_of_same (at_lk (HL.out.drewN _) _ ⟨by omega,by omega⟩)))
  have HL2:=hideP (HL.out.drewN nq)
  have HB2:=hideP (below_drewN (new_below w (.cells #[.int .i64 (kindP n.tok.text),.int .i64 n.tok.at',.string (bsOf n.tok.text),.int .i64 n.ops,.int .i64 n.left,.int .i64 n.right] 154)) nq)
  have HN2:=hideP ((Blk.new w #[.int .i64 (kindP n.tok.text),.int .i64 n.tok.at',.string (bsOf n.tok.text),.int .i64 n.ops,.int .i64 n.left,.int .i64 n.right] 154).drewM nq)
  generalize (w.alloc (.cells #[.int .i64 (kindP n.tok.text),.int .i64 n.tok.at',.string (bsOf n.tok.text),.int .i64 n.ops,.int .i64 n.left,.int .i64 n.right] 154)).drewN nq=wq at HL2 HB2 HN2 ⊢
  have k0:=HN2.out.cell 0
  have k5:=HN2.out.cell 5
  have k3:=HL2.out.blk.cell 3
  simp only[List.getElem?_toArray,List.getElem?_cons_zero,List.getElem?_cons_succ] at k0 k5 k3
  clear c3
  go_wp2
  go_quiet ((go_at_call 145;exact Calls.quiet_of_same (at_lk (HL2.out.drewN _) _ ⟨by omega,by omega⟩)))
  go_wp2_with (go_at_call 147;refine (kindOfTwo_any _ _ _ _).mono ?_;rintro e' w5 ⟨rfl,rfl⟩)
  go_ret
  exact ⟨rfl,below_drewN HB2.out _⟩
 have e2:((n.ops:Int)==2)=false:=by simp;omega
 by_cases h3:kindP n.tok.text=2
 ·have e3:((kindP n.tok.text:Int)==2)=true:=by simp;omega
  have HK:=hideP (nodeK_name ls ks n h1 h2 h3)
  rw[HK.out]
  clear h1 h2 h3
  go_enter Tryz.func125,Tryz.ntmps125
  go_wp2_with (go_at_call 148;refine (kindOfName_any HL.out (bsOf n.tok.text) HX.out).mono ?_;rintro e' w5 ⟨rfl,hb5⟩;rw[bsOf_toList])
  go_ret
  exact ⟨rfl,(new_below w _).trans (hb5.mono (by simp))⟩
 ·have e3:((kindP n.tok.text:Int)==2)=false:=by simp;omega
  have HK:Hid (nodeK ls ks n=kindOne (kindP n.tok.text)):=by rw[Hid,nodeK,if_neg h1,if_neg h2,if_neg h3]
  rw[HK.out]
  clear h1 h2 h3
  go_enter Tryz.func125,Tryz.ntmps125
  go_wp2_with (go_at_call 149;refine (kindOfSingle_any _ _).mono ?_;rintro e' w5 ⟨rfl,rfl⟩)
  go_ret
  exact ⟨rfl,new_below w _⟩
end Go.Proofs.YtpcjadaeolkngaaGreatDoor
namespace Go.Proofs.YtpcjadaeolkngaaGreatDoor
open Go.RowKit Go.Deep
structure But2 (a b:Nat) (w w':World):Prop where
 os:w'.os=w.os
 tape:w'.tape=w.tape
 output:w'.output=w.output
 size:w.heap.size≤w'.heap.size
 block:∀ k,k≠a→k≠b→k < w.heap.size→w'.heap[k]?=w.heap[k]?
theorem But2.refl (a b:Nat) (w:World):But2 a b w w:=⟨rfl,rfl,rfl,Nat.le_refl _,fun _ _ _ _=>rfl⟩
theorem But2.trans {a b:Nat} {w w1 w2:World} (h:But2 a b w w1) (g:But2 a b w1 w2):But2 a b w w2 :=
 ⟨g.os.trans h.os,g.tape.trans h.tape,g.output.trans h.output,Nat.le_trans h.size g.size,fun k h1 h2 h3=>(g.block k h1 h2 (Nat.lt_of_lt_of_le h3 h.size)).trans (h.block k h1 h2 h3)⟩
theorem But2.of {a b:Nat} {w w':World} (h:Below w.heap.size w w'):But2 a b w w':=⟨h.os,h.tape,h.output,h.size,fun k _ _ h3=>h.block k h3⟩
theorem But2.set1 {a b:Nat} {w:World} (i:Nat) (v:Value):But2 a b w (w.setCell ⟨a,i,none⟩ v):=by
 have g:=(Below.refl a w).setCell (p:=⟨a,i,none⟩) (Nat.le_refl _) v
 exact ⟨g.os,g.tape,g.output,g.size,fun k h1 _ _=>Below.heap_setCell _ _ _ _ h1⟩
theorem But2.set2 {a b:Nat} {w:World} (i:Nat) (v:Value):But2 a b w (w.setCell ⟨b,i,none⟩ v):=by
 have g:=(Below.refl b w).setCell (p:=⟨b,i,none⟩) (Nat.le_refl _) v
 exact ⟨g.os,g.tape,g.output,g.size,fun k _ h2 _=>Below.heap_setCell _ _ _ _ h2⟩
theorem But2.below {a b B:Nat} {w w':World} (h:But2 a b w w') (h1:B≤a) (h2:B≤b) (h3:B≤w.heap.size):Below B w w':=⟨h.os,h.tape,h.output,h.size,fun k hk=>h.block k (by omega) (by omega) (by omega)⟩
theorem Blk.but2 {w w':World} {a b c:Nat} {cs:Array Value} {t:TypeId} (h:Blk w c cs t) (hb:But2 a b w w') (h1:c≠a) (h2:c≠b):Blk w' c cs t:=(hb.block c h1 h2 h.lt).trans h
theorem Reads.set {w:World} {v:Value} {n:Nat} {xs:List Value} (h:Reads w v n xs) {b i:Nat} {u:Value} (hne:v.ownBlock≠some b):Reads (w.setCell ⟨b,i,none⟩ u) v n xs:=by
 rcases h with h | ⟨g,o,cap,rfl,hn,hlt,hc⟩
 ·exact .inl h
 ·refine .inr ⟨g,o,cap,rfl,hn,by simpa using hlt,fun j x hj=>?_⟩
  have hgb:g≠b:=fun e=>hne (by rw[e];rfl)
  rw[← hc j x hj]
  show (w.setCell ⟨b,i,none⟩ u).cell? ⟨g,o+j,none⟩=_
  unfold World.cell?
  rw[Below.heap_setCell _ _ _ _ hgb]
structure Apart2 (B kb:Nat) (nv lv rv:Value):Prop where
 n:nv.ownBlock≠some B∧nv.ownBlock≠some kb
 l:lv.ownBlock≠some B∧lv.ownBlock≠some kb
 r:rv.ownBlock≠some B∧rv.ownBlock≠some kb
theorem PolAt.set1 {w:World} {B kb:Nat} {nv lv rv:Value} {N:List PNode} {ls:List PLet} {rs:List PRule} (h:PolAt w nv lv rv N ls rs) (ha:Apart2 B kb nv lv rv) (i:Nat) (u:Value):PolAt (w.setCell ⟨B,i,none⟩ u) nv lv rv N ls rs :=
 ⟨h.n.set ha.n.1,h.l.set ha.l.1,h.r.set ha.r.1,h.nb,h.lb,h.rb⟩
theorem PolAt.set2 {w:World} {B kb:Nat} {nv lv rv:Value} {N:List PNode} {ls:List PLet} {rs:List PRule} (h:PolAt w nv lv rv N ls rs) (ha:Apart2 B kb nv lv rv) (i:Nat) (u:Value):PolAt (w.setCell ⟨kb,i,none⟩ u) nv lv rv N ls rs :=
 ⟨h.n.set ha.n.2,h.l.set ha.l.2,h.r.set ha.r.2,h.nb,h.lb,h.rb⟩
theorem LkAt.fails {w:World} {B kb:Nat} {nv lv rv:Value} {ks:List Nat} {N:List PNode} {ls:List PLet} {rs:List PRule} (h:LkAt w B kb nv lv rv ks none N ls rs) (ha:Apart2 B kb nv lv rv) (p:Nat):LkAt ((w.setCell ⟨B,4,none⟩ (.bool true)).setCell ⟨B,5,none⟩ (.int .i64 p)) B kb nv lv rv ks (some p) N ls rs :=
 ⟨(h.blk.set 4 (.bool true)).set 5 (.int .i64 p),(h.row.other _ _ (by simp only;exact h.ne)).other _ _ (by simp only;exact h.ne),(h.pa.set1 ha 4 _).set1 ha 5 _,h.ne,h.le⟩
theorem LkAt.kind {w:World} {B kb:Nat} {nv lv rv:Value} {ks:List Nat} {f:Option Nat} {N:List PNode} {ls:List PLet} {rs:List PRule} (h:LkAt w B kb nv lv rv ks f N ls rs) (ha:Apart2 B kb nv lv rv) (hl:ks.length < N.length) (k:Nat):LkAt (w.setCell ⟨kb,ks.length,none⟩ (.int .i64 k)) B kb nv lv rv (ks++[k]) f N ls rs:=by
 refine ⟨h.blk.other _ _ (by simp only;exact Ne.symm h.ne), ?_,h.pa.set2 ha _ _,h.ne,by simp;omega⟩
 have:=h.row.set ks.length (.int .i64 k)
 have e:(cellsK (padK ks N.length)).toArray.setIfInBounds ks.length (.int .i64 k)=(cellsK (padK (ks++[k]) N.length)).toArray:=by
  rw[← padK_set ks N.length k hl,List.setIfInBounds_toArray,cellsK,cellsK,List.map_set]
 rw[e] at this
 exact this
set_option maxHeartbeats 1000000 in
theorem fail_any {w:World} {B kb:Nat} {nv lv rv:Value} {ks:List Nat} {f:Option Nat} {N:List PNode} {ls:List PLet} {rs:List PRule} (h:LkAt w B kb nv lv rv ks f N ls rs) (ha:Apart2 B kb nv lv rv) (p:Nat) :
  Calls Tryz.prog 126 #[.pointer (some ⟨B,0,none⟩),.int .i64 p] w fun e w'=>e=.returned (.tuple #[])∧LkAt w' B kb nv lv rv ks (failK f true p) N ls rs∧But2 B kb w w':=by
 have HL:=hideP h
 have HA:=hideP ha
 have c4:=h.blk.cell 4
 have c5:=h.blk.cell 5
 have f4:=h.blk.free 4
 have f5:=h.blk.free 5
 simp only[List.getElem?_toArray,List.getElem?_cons_zero,List.getElem?_cons_succ] at c4 c5
 clear h ha
 cases f with
 | some q =>
  have c4':w.cell? ⟨B,4,none⟩=some (.bool true):=c4
  clear c4 c5
  go_enter Tryz.func126,Tryz.ntmps126
  go_wp2
  exact bodyPost_end (results_none rfl _ _ _) rfl ⟨rfl,HL.out,But2.refl _ _ _⟩
 | none =>
  have c4':w.cell? ⟨B,4,none⟩=some (.bool false):=c4
  clear c4
  go_enter Tryz.func126,Tryz.ntmps126
  go_wp2
  exact bodyPost_end (results_none rfl _ _ _) rfl ⟨rfl,HL.out.fails HA.out p,(But2.set1 4 _).trans (But2.set1 5 _)⟩
theorem LkAt.rowc {w:World} {B kb:Nat} {nv lv rv:Value} {ks:List Nat} {f:Option Nat} {N:List PNode} {ls:List PLet} {rs:List PRule} (h:LkAt w B kb nv lv rv ks f N ls rs) {i:Nat} (hi:i < N.length):∃ x:Int,w.cell? ⟨kb,i,none⟩=some (.int .i64 x)∧w.frozen? ⟨kb,i,none⟩=false∧w.cell? ⟨B,3,none⟩=some (.slice (some ⟨kb,0,none⟩) N.length N.length):=by
 have hl:=padK_len ks N.length h.le
 refine ⟨((padK ks N.length)[i]'(by omega):Nat), ?_,h.row.free i,h.blk.cell 3⟩
 rw[h.row.cell]
 simp[cellsK,hl,hi]
structure LkW (w0 w:World) (B kb:Nat) (nv lv rv:Value) (ks:List Nat) (f:Option Nat) (N:List PNode) (ls:List PLet) (rs:List PRule) (b:Nat) (cs:Array Value) (t:TypeId):Prop where
 lk:LkAt w B kb nv lv rv ks f N ls rs
 bx:Blk w b cs t
 n1:b≠B
 n2:b≠kb
 kp:But2 B kb w0 w
theorem LkW.step {w0 w w':World} {B kb:Nat} {nv lv rv:Value} {ks ks':List Nat} {f f':Option Nat} {N:List PNode} {ls:List PLet} {rs:List PRule} {b:Nat} {cs:Array Value} {t:TypeId} (h:LkW w0 w B kb nv lv rv ks f N ls rs b cs t) (hl:LkAt w' B kb nv lv rv ks' f' N ls rs) (hk:But2 B kb w w'):LkW w0 w' B kb nv lv rv ks' f' N ls rs b cs t :=
 ⟨hl,h.bx.but2 hk h.n1 h.n2,h.n1,h.n2,h.kp.trans hk⟩
set_option maxHeartbeats 2000000 in
set_option maxRecDepth 100000 in
theorem look_any {w:World} {B kb:Nat} {nv lv rv:Value} {ks:List Nat} {f:Option Nat} {N:List PNode} {ls:List PLet} {rs:List PRule} (h:LkAt w B kb nv lv rv ks f N ls rs) (ha:Apart2 B kb nv lv rv) (e:PExp) (he:ExpOk N e) (hk:ks.length=e.fr) (hx:∀ p∈ls,1≤p.val.behind∧p.val.behind≤401) (hn:∀ n∈N,n.left≤1000∧n.right≤1000) :
  Calls Tryz.prog 107 #[.pointer (some ⟨B,0,none⟩),expA e] w fun e' w'=>e'=.returned (.tuple #[])∧LkAt w' B kb nv lv rv (lookGo ls ks f (segE N e)).1 (lookGo ls ks f (segE N e)).2 N ls rs∧But2 B kb w w':=by
 obtain ⟨na,nc,rfl⟩:=h.pa.n.shape
 have hnb:=h.pa.nb
 have hB:=h.blk.lt
 have hkb:=h.row.lt
 have HW:=hideP (LkW.mk (h.below (new_below w (.cells #[.int .i64 e.place,.int .i64 e.fr,.int .i64 e.behind] 105))) (Blk.new w #[.int .i64 e.place,.int .i64 e.fr,.int .i64 e.behind] 105) (by omega) (by omega) (But2.of (new_below w _)))
 have HA:=hideP ha
 have HX:=hideP hx
 have HN:=hideP hn
 obtain ⟨he1,he2⟩:=he
 have HKS:=hideP hk
 clear h ha hx hn hk
 unfold expA
 go_enter Tryz.func107,Tryz.ntmps107
 go_wp2
 go_loopw [4] (fun vi wr=>∃ (i:Nat) (ks':List Nat) (f':Option Nat),e.fr≤i∧i≤e.behind∧vi=.int .i64 i∧ks'.length=i∧LkW w wr B kb (.slice na N.length nc) lv rv ks' f' N ls rs w.heap.size #[.int .i64 e.place,.int .i64 e.fr,.int .i64 e.behind] 105∧lookGo ls ks f (segE N e)=lookGo ls ks' f' ((N.drop i).take (e.behind - i))) (fun i _=>1000 - (intOf i).toNat)
 case atStart=>exact ⟨e.fr,ks,f,Nat.le_refl _,he1,rfl,HKS.out,HW.out,rfl⟩
 case round =>
  obtain ⟨i,ks',f',hi1,hi2,rfl,hks,hw,hgo⟩:=hrel
  clear HW
  have HW:=hideP hw
  have HGO:=hideP hgo
  have HKL:=hideP hks
  have hBr:=hw.lk.blk.lt
  have hkbr:=hw.lk.row.lt
  have hbx:=hw.bx.lt
  have e2:=hw.bx.cell 2
  have c0:=hw.lk.blk.cell 0
  have c3:=hw.lk.blk.cell 3
  simp only[List.getElem?_toArray,List.getElem?_cons_zero,List.getElem?_cons_succ] at e2 c0 c3
  clear hgo hks
  by_cases hlt:i < e.behind
  ·have hiN:i < N.length:=by omega
   obtain ⟨g,o,cap,hcut,hcap,hg,hcl⟩:=hw.lk.pa.n.pos (by omega)
   cases hcut
   have fc:=fun j (hj:j < 6) u (hu:(cellN N[i])[j]?=some u)=>hcl (i * 6+j) u ((flat_get cellN 6 (fun _=>rfl) N i hiN j hj).trans hu)
   have hseg:=seg_at N i e.behind hlt hiN
   obtain ⟨nd,hnd⟩:∃ nd,nd=N[i]:=⟨_,rfl⟩
   rw[← hnd] at fc hseg
   have HNR:=hideP (HN.out nd (by rw[hnd];exact List.getElem_mem hiN))
   have HSG:Hid (lookGo ls ks f (segE N e)=lookGo ls (ks'++[nodeK ls ks' nd]) (failK f' (nodeK ls ks' nd==0) nd.tok.at') ((N.drop (i+1)).take (e.behind - (i+1)))):=by rw[Hid,HGO.out,hseg];rfl
   have d0:wr.cell? ⟨g,o+i * 6,none⟩=some (.int .i64 (kindP nd.tok.text)):=fc 0 (by omega) _ rfl
   have d1:wr.cell? ⟨g,o+i * 6+1,none⟩=some (.int .i64 nd.tok.at'):=by rw[Nat.add_assoc];exact fc 1 (by omega) _ rfl
   have d2:wr.cell? ⟨g,o+i * 6+2,none⟩=some (.string (bsOf nd.tok.text)):=by rw[Nat.add_assoc];exact fc 2 (by omega) _ rfl
   have d3:wr.cell? ⟨g,o+i * 6+3,none⟩=some (.int .i64 nd.ops):=by rw[Nat.add_assoc];exact fc 3 (by omega) _ rfl
   have d4:wr.cell? ⟨g,o+i * 6+4,none⟩=some (.int .i64 nd.left):=by rw[Nat.add_assoc];exact fc 4 (by omega) _ rfl
   have d5:wr.cell? ⟨g,o+i * 6+5,none⟩=some (.int .i64 nd.right):=by rw[Nat.add_assoc];exact fc 5 (by omega) _ rfl
   have HL2:=hideP (hw.lk.below (new_below wr (.cells #[.int .i64 (kindP nd.tok.text),.int .i64 nd.tok.at',.string (bsOf nd.tok.text),.int .i64 nd.ops,.int .i64 nd.left,.int .i64 nd.right] 154)))
   have HN2:=hideP (Blk.new wr #[.int .i64 (kindP nd.tok.text),.int .i64 nd.tok.at',.string (bsOf nd.tok.text),.int .i64 nd.ops,.int .i64 nd.left,.int .i64 nd.right] 154)
   clear hcl hseg hnd fc hw HGO
   obtain ⟨kd,hkd⟩:∃ kd,nodeK ls ks' nd=kd:=⟨_,rfl⟩
   have HKD:=hideP hkd
   rw[hkd] at HSG
   clear hkd
   by_cases hz:kd=0
   ·have hz':((kd:Int)==0)=true:=by simp;omega
    have HFZ:Hid (failK f' (kd==0) nd.tok.at'=failK f' true nd.tok.at'):=by rw[Hid,hz];rfl
    rw[HFZ.out] at HSG
    have HZ:=hideP hz
    clear hz
    go_wp2_with (first | (go_at_call 125;refine (kindOfNode_any HL2.out nd HNR.out HX.out).mono ?_;rintro e' w5 ⟨rfl,hb5⟩;have HW5:=hideP ((HW.out.step HL2.out (But2.of (new_below wr _))).step (HL2.out.below hb5) (But2.of hb5));have HN5:=hideP (HN2.out.below hb5 HN2.out.lt);have hB5:=HW5.out.lk.blk.lt;have hk5:=HW5.out.lk.row.lt;have y1:=HN5.out.cell 1;obtain ⟨x5,z1,z2,z3⟩:=HW5.out.lk.rowc hiN;simp only[List.getElem?_toArray,List.getElem?_cons_zero,List.getElem?_cons_succ] at y1;clear hb5;rw[HKD.out]) | (go_at_call 126;refine (fail_any HW5.out.lk HA.out nd.tok.at').mono ?_;rintro e' w6 ⟨rfl,hl6,hb6⟩;have HW6:=hideP (HW5.out.step hl6 hb6);have hB6:=hl6.blk.lt;obtain ⟨x6,v1,v2,v3⟩:=hl6.rowc hiN;clear hl6 hb6))
    have hfin:=HW6.out.lk.kind HA.out (by rw[HKL.out];exact hiN) kd
    rw[HKL.out] at hfin
    have HW7:=hideP (HW6.out.step hfin (But2.set2 i (.int .i64 kd)))
    clear hfin
    go_roundw
    case rel=>exact ⟨i+1,_,_,by omega,by omega,by go_num,by simp[HKL.out],HW7.out,HSG.out⟩
    case measure=>simp[intOf];omega
   ·have hz':((kd:Int)==0)=false:=by simp;omega
    have HFZ:Hid (failK f' (kd==0) nd.tok.at'=f'):=by
     rw[Hid,show (kd==0)=false by simpa using hz]
     cases f' <;> rfl
    rw[HFZ.out] at HSG
    go_wp2_with (go_at_call 125;refine (kindOfNode_any HL2.out nd HNR.out HX.out).mono ?_;rintro e' w5 ⟨rfl,hb5⟩;have HW5:=hideP ((HW.out.step HL2.out (But2.of (new_below wr _))).step (HL2.out.below hb5) (But2.of hb5));have HN5:=hideP (HN2.out.below hb5 HN2.out.lt);have hB5:=HW5.out.lk.blk.lt;have hk5:=HW5.out.lk.row.lt;have y1:=HN5.out.cell 1;obtain ⟨x5,z1,z2,z3⟩:=HW5.out.lk.rowc hiN;simp only[List.getElem?_toArray,List.getElem?_cons_zero,List.getElem?_cons_succ] at y1;clear hb5;rw[HKD.out])
    have hfin:=HW5.out.lk.kind HA.out (by rw[HKL.out];exact hiN) kd
    rw[HKL.out] at hfin
    have HW7:=hideP (HW5.out.step hfin (But2.set2 i (.int .i64 kd)))
    clear hfin
    go_roundw
    case rel=>exact ⟨i+1,_,_,by omega,by omega,by go_num,by simp[HKL.out],HW7.out,HSG.out⟩
    case measure=>simp[intOf];omega
  ·have HRES:Hid (lookGo ls ks f (segE N e)=(ks',f')):=by rw[Hid,HGO.out,seg_none N i e.behind (by omega)];rfl
   clear hw HGO
   go_wp2
   exact bodyPost_end (results_none rfl _ _ _) rfl ⟨rfl,by rw[HRES.out];exact HW.out.lk,HW.out.kp⟩
end Go.Proofs.YtpcjadaeolkngaaGreatDoor
namespace Go.Proofs.YtpcjadaeolkngaaGreatDoor
open Go.RowKit Go.Deep
theorem lookGo_len (ls:List PLet):∀ (l:List PNode) (ks:List Nat) (f:Option Nat),(lookGo ls ks f l).1.length=ks.length+l.length
 | [],ks,f=>rfl
 | n :: r,ks,f=>by rw[lookGo,lookGo_len ls r];simp;omega
set_option maxHeartbeats 1000000 in
set_option maxRecDepth 100000 in
theorem lookFor_any {w:World} {B kb:Nat} {nv lv rv:Value} {ks:List Nat} {f:Option Nat} {N:List PNode} {ls:List PLet} {rs:List PRule} (h:LkAt w B kb nv lv rv ks f N ls rs) (ha:Apart2 B kb nv lv rv) (want:Nat) (e:PExp) (he:ExpOk N e) (he1:1≤e.behind) (hk:ks.length=e.fr) (hx:∀ p∈ls,1≤p.val.behind∧p.val.behind≤401) (hn:∀ n∈N,n.left≤1000∧n.right≤1000) :
  Calls Tryz.prog 108 #[.pointer (some ⟨B,0,none⟩),.int .i64 want,expA e] w fun e' w'=>e'=.returned (.tuple #[])∧LkAt w' B kb nv lv rv (lookFor ls N want e (ks,f)).1 (lookFor ls N want e (ks,f)).2 N ls rs∧But2 B kb w w':=by
 have hB:=h.blk.lt
 have hkb:=h.row.lt
 have HW:=hideP (LkW.mk (h.below (new_below w (.cells #[.int .i64 e.place,.int .i64 e.fr,.int .i64 e.behind] 105))) (Blk.new w #[.int .i64 e.place,.int .i64 e.fr,.int .i64 e.behind] 105) (by omega) (by omega) (But2.of (new_below w _)))
 have HA:=hideP ha
 have HX:=hideP hx
 have HN:=hideP hn
 have HE:=hideP he
 have HKS:=hideP hk
 have hbe:1≤e.behind∧e.behind≤401:=⟨he1,Nat.le_trans he.lt h.pa.nb⟩
 clear h ha hx hn hk he
 obtain ⟨st,hst⟩:∃ st,lookGo ls ks f (segE N e)=st:=⟨_,rfl⟩
 obtain ⟨ks2,f2⟩:=st
 have HST:=hideP hst
 have HLF:Hid (lookFor ls N want e (ks,f)=(ks2,failK f2 (decide (kindAt ks2 e≠want)) e.place)):=by rw[Hid,lookFor,hst]
 clear hst
 rw[HLF.out]
 obtain ⟨kd,hkd⟩:∃ kd,kindAt ks2 e=kd:=⟨_,rfl⟩
 have HKD:=hideP hkd
 rw[hkd]
 clear hkd
 by_cases hz:kd=want
 ·have hz':((kd:Int) != (want:Int))=false:=by simp;omega
  have HFZ:Hid (failK f2 (decide (kd≠want)) e.place=f2):=by
   rw[Hid,show decide (kd≠want)=false by simpa using hz]
   cases f2 <;> rfl
  rw[HFZ.out]
  unfold expA
  go_enter Tryz.func108,Tryz.ntmps108
  go_wp2_with (first | (go_at_call 107;refine (look_any HW.out.lk HA.out e HE.out HKS.out HX.out HN.out).mono ?_;rintro e' w5 ⟨rfl,hl5,hb5⟩;rw[HST.out] at hl5;have HW5:=hideP (HW.out.step hl5 hb5);have y0:=HW5.out.bx.cell 0;have y1:=HW5.out.bx.cell 1;have y2:=HW5.out.bx.cell 2;simp only[List.getElem?_toArray,List.getElem?_cons_zero,List.getElem?_cons_succ] at y0 y1 y2;clear hl5 hb5) | (go_at_call 127;refine (kindOf_any HW5.out.lk e hbe).mono ?_;rintro e' w6 ⟨rfl,hb6⟩;rw[HKD.out];have HW6:=hideP (HW5.out.step (HW5.out.lk.below hb6) (But2.of hb6));clear hb6))
  exact bodyPost_end (results_none rfl _ _ _) rfl ⟨rfl,HW6.out.lk,HW6.out.kp⟩
 ·have hz':((kd:Int) != (want:Int))=true:=by simp;omega
  have HFZ:Hid (failK f2 (decide (kd≠want)) e.place=failK f2 true e.place):=by rw[Hid,show decide (kd≠want)=true by simpa using hz]
  rw[HFZ.out]
  unfold expA
  go_enter Tryz.func108,Tryz.ntmps108
  go_wp2_with (first | (go_at_call 107;refine (look_any HW.out.lk HA.out e HE.out HKS.out HX.out HN.out).mono ?_;rintro e' w5 ⟨rfl,hl5,hb5⟩;rw[HST.out] at hl5;have HW5:=hideP (HW.out.step hl5 hb5);have y0:=HW5.out.bx.cell 0;have y1:=HW5.out.bx.cell 1;have y2:=HW5.out.bx.cell 2;simp only[List.getElem?_toArray,List.getElem?_cons_zero,List.getElem?_cons_succ] at y0 y1 y2;clear hl5 hb5) | (go_at_call 127;refine (kindOf_any HW5.out.lk e hbe).mono ?_;rintro e' w6 ⟨rfl,hb6⟩;rw[HKD.out];have HW6:=hideP (HW5.out.step (HW5.out.lk.below hb6) (But2.of hb6));clear hb6;have v0:=HW6.out.bx.cell 0;simp only[List.getElem?_toArray,List.getElem?_cons_zero,List.getElem?_cons_succ] at v0) | (go_at_call 126;refine (fail_any HW6.out.lk HA.out e.place).mono ?_;rintro e' w7 ⟨rfl,hl7,hb7⟩;have HW7:=hideP (HW6.out.step hl7 hb7);clear hl7 hb7))
  exact bodyPost_end (results_none rfl _ _ _) rfl ⟨rfl,HW7.out.lk,HW7.out.kp⟩
end Go.Proofs.YtpcjadaeolkngaaGreatDoor
