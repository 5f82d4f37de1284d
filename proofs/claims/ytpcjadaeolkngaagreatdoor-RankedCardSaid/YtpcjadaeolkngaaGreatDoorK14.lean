/-
  The program's check: a policy that was read, in memory; LetOf, at.
-/
import Derived.Test.YtpcjadaeolkngaaGreatDoorK13
set_option linter.unusedVariables false
set_option linter.unusedSimpArgs false
namespace Go.Proofs.YtpcjadaeolkngaaGreatDoor
open Go.RowKit Go.Deep
theorem flat_get {α:Type} (f:α→List Value) (m:Nat) (hf:∀ a,(f a).length=m):∀ (l:List α) (k:Nat) (h:k < l.length) (j:Nat),j < m→(l.flatMap f)[k * m+j]?=(f l[k])[j]?
 | [],k,h,_,_=>by simp at h
 | a :: r,0,h,j,hj=>by
  rw[List.flatMap_cons,Nat.zero_mul,Nat.zero_add,List.getElem?_append_left (by rw[hf];exact hj)];rfl
 | a :: r,k+1,h,j,hj=>by
  have ih:=flat_get f m hf r k (by simpa using h) j hj
  rw[List.flatMap_cons,show (k+1) * m+j=m+(k * m+j) by rw[Nat.succ_mul];omega,List.getElem?_append_right (by rw[hf];omega),hf,Nat.add_sub_cancel_left,ih]
  rfl
structure PolAt (w:World) (nv lv rv:Value) (N:List PNode) (ls:List PLet) (rs:List PRule):Prop where
 n:Reads w nv N.length (cellsN N)
 l:Reads w lv ls.length (cellsLt ls)
 r:Reads w rv rs.length (cellsU rs)
 nb:N.length≤401
 lb:ls.length≤401
 rb:rs.length≤401
theorem PolAt.below {w w':World} {nv lv rv:Value} {N:List PNode} {ls:List PLet} {rs:List PRule} (h:PolAt w nv lv rv N ls rs) (hb:Below w.heap.size w w'):PolAt w' nv lv rv N ls rs :=
 ⟨h.n.below hb,h.l.below hb,h.r.below hb,h.nb,h.lb,h.rb⟩
theorem PolAt.of {w:World} {base:Nat} {nv lv rv:Value} {L R:List RSt} {s:Txt} (h:PolMem w base nv lv rv L R) (hp:PolicyOf s L R):PolAt w nv lv rv (nodesS 0 (L++R)) (letsS 0 (L++R)) (rulesS 0 (L++R)):=by
 have h1:=letsS_le (L++R) 0
 have h2:=rulesS_le (L++R) 0
 have h3:=toksL_le (L++R)
 have h4:=hp.short
 refine ⟨reads_of_own h.ond,reads_of_own h.olt,reads_of_own h.orl, ?_,by omega,by omega⟩
 rw[nodesS_len _ hp.wf]
 have:∀ l:List RSt,(∀ s∈l,s.wf)→numS l≤(toksL l).length:=by
  intro l
  induction l with
  | nil=>intro _;exact Nat.le_refl _
  | cons s r ih =>
   intro hw
   have i1:=ih (fun x hx=>hw x (by simp[hx]))
   have i2:s.num≤s.body.length:=by
    rcases s.cases with ⟨kw,name,eq,e,semi,rfl⟩ | ⟨wh,act,sc,semi,rfl⟩
    ·have:=e.num_le (hw _ List.mem_cons_self).2.2.2.1
     rw[RSt.num_let,RSt.body_let];simp;omega
    ·have hws:=hw _ List.mem_cons_self
     have k1:=(whNodes_le wh hws.1 0).2
     have k2:=optNodes_le sc hws.2.2.1 0
     rw[optNodes_len sc hws.2.2.1] at k2
     rw[RSt.num_rule,RSt.body_rule,List.length_append,List.length_cons];omega
   rw[numS,toksL_cons,List.length_append,RSt.toks_length];omega
 have:=this (L++R) hp.wf
 omega
theorem letIx_step (ls:List PLet) (t:Txt) (i:Nat) (hi:i < ls.length) (h:∀ j (hj:j < i),(ls[j]'(by omega)).name.text≠t) (he:ls[i].name.text=t):letIx ls t=i:=by
 unfold letIx
 rw[List.findIdx_eq hi]
 refine ⟨by simpa using he,fun j hj=>?_⟩
 simpa using h j hj
theorem letIx_none (ls:List PLet) (t:Txt) (h:∀ j (hj:j < ls.length),ls[j].name.text≠t):letIx ls t=ls.length:=by
 unfold letIx
 rw[List.findIdx_eq_length]
 intro x hx
 obtain ⟨j,hj,rfl⟩:=List.getElem_of_mem hx
 simpa using h j hj
set_option maxHeartbeats 1000000 in
theorem LetOf_any (ls:List PLet) (lv:Value) (d:ByteArray) (w:World) (h:Reads w lv ls.length (cellsLt ls)) (hb:ls.length≤401) :
  Calls Tryz.prog 105 #[lv,.string d] w fun e w'=>e=.returned (.int .i64 (letIx ls d.toList:Nat))∧w'=w:=by
 obtain ⟨a,c,rfl⟩:=h.shape
 have HH:=hideP h
 clear h
 go_enter Tryz.func105,Tryz.ntmps105
 go_wp2
 go_loop [5] (fun vi=>∃ i:Nat,i≤ls.length∧vi=.int .i64 i∧∀ j (hj:j < i) (hl:j < ls.length),ls[j].name.text≠d.toList) (fun i=>ls.length - (intOf i).toNat)
 case atStart=>exact ⟨0,Nat.zero_le _,rfl,fun j hj=>by omega⟩
 case round =>
  obtain ⟨i,hi,rfl,hall⟩:=hrel
  have HA:=hideP hall
  clear hall
  by_cases hlt:i < ls.length
  ·obtain ⟨g,o,cap,hcut,hcap,hg,hc⟩:=HH.out.pos (by omega)
   cases hcut
   have c2:=hc (i * 6+2) _ (flat_get cellL 6 (fun _=>rfl) ls i hlt 2 (by omega))
   obtain ⟨x,hx⟩:∃ x,x=bsOf ls[i].name.text:=⟨_,rfl⟩
   have HX:Hid (ls[i].name.text=x.toList):=by rw[Hid,hx,bsOf_toList]
   have c2':w.cell? ⟨g,o+i * 6+2,none⟩=some (.string x):=by rw[hx,Nat.add_assoc];exact c2
   clear hx c2 hc
   cases heq:(x.toList==d.toList)
   ·go_wp2
    go_round
    case rel =>
     refine ⟨i+1,by omega,by go_num,fun j hj hl=>?_⟩
     by_cases hji:j < i
     ·exact HA.out j hji hl
     ·have:j=i:=by omega
      subst this
      rw[HX.out]
      simpa using heq
    case measure=>simp[intOf];omega
   ·go_wp2
    go_ret
    exact ⟨ret_int (by rw[letIx_step ls d.toList i hlt (fun j hj=>HA.out j hj (by omega)) (by rw[HX.out];simpa using heq)]),rfl⟩
  ·go_wp2
   go_ret
   exact ⟨ret_int (by rw[letIx_none ls d.toList (fun j hj=>HA.out j (by omega) hj)]),rfl⟩
def cellsK (l:List Nat):List Value:=l.map (fun n:Nat=>.int .i64 (n:Int))
def atN (ks:List Nat) (i:Int):Nat:=if i < 0 then 0 else ks.getD i.toNat 0
theorem atN_neg {ks:List Nat} {i:Int} (h:i < 0):atN ks i=0:=if_pos h
theorem atN_nat (ks:List Nat) (n:Nat):atN ks (n:Int)=ks.getD n 0:=by
 rw[atN,if_neg (by omega),Int.toNat_natCast]
set_option maxHeartbeats 1000000 in
theorem at_any (ks:List Nat) (kv:Value) (i:Int) (w:World) (h:Reads w kv ks.length (cellsK ks)) (hb:ks.length≤401) (hi:-2≤i∧i≤1000) :
  Calls Tryz.prog 145 #[kv,.int .i64 i] w fun e w'=>e=.returned (.int .i64 (atN ks i:Nat))∧w'=w:=by
 obtain ⟨a,c,rfl⟩:=h.shape
 have HH:=hideP h
 clear h
 by_cases h0:i < 0
 ·have hd:decide (i < 0)=true:=by simpa using h0
  have HN:=hideP (atN_neg (ks:=ks) h0)
  go_enter Tryz.func145,Tryz.ntmps145
  go_wp2
  go_ret
  exact ⟨ret_int (by rw[HN.out];rfl),rfl⟩
 ·obtain ⟨n,rfl⟩:∃ n:Nat,i=n:=⟨i.toNat,by omega⟩
  rw[atN_nat]
  by_cases hn:n < ks.length
  ·obtain ⟨g,o,cap,hcut,hcap,hg,hc⟩:=HH.out.pos (by omega)
   cases hcut
   have c0:=hc n (.int .i64 (ks[n]:Int)) (by simp[cellsK,hn])
   have HN:Hid (ks.getD n 0=ks[n]):=by simp[Hid,hn]
   clear hc
   rw[HN.out]
   generalize ks[n]=x at *
   go_enter Tryz.func145,Tryz.ntmps145
   go_wp2
   go_ret
   exact ⟨rfl,rfl⟩
  ·have HN:Hid (ks.getD n 0=0):=by rw[Hid,List.getD_eq_getElem?_getD,List.getElem?_eq_none (by omega)];rfl
   rw[HN.out]
   go_enter Tryz.func145,Tryz.ntmps145
   go_wp2
   go_ret
   exact ⟨rfl,rfl⟩
end Go.Proofs.YtpcjadaeolkngaaGreatDoor
namespace Go.Proofs.YtpcjadaeolkngaaGreatDoor
open Go.RowKit Go.Deep
def resN:Option Nat→Value
 | none=>.tuple #[.bool true,.int .i64 0]
 | some p=>.tuple #[.bool false,.int .i64 (p:Nat)]
def polA (nv lv rv:Value):Value:=.agg #[nv,lv,rv]
structure Chk2 (w wr:World) (nv lv rv:Value) (e:PExp) (N:List PNode) (ls:List PLet) (rs:List PRule):Prop where
 bp:Blk wr w.heap.size #[nv,lv,rv] 73
 be:Blk wr (w.heap.size+1) #[.int .i64 e.place,.int .i64 e.fr,.int .i64 e.behind] 105
 pa:PolAt wr nv lv rv N ls rs
 bl:Below w.heap.size w wr
theorem Chk2.below {w wr w':World} {nv lv rv:Value} {e:PExp} {N:List PNode} {ls:List PLet} {rs:List PRule} (h:Chk2 w wr nv lv rv e N ls rs) (hb:Below wr.heap.size wr w'):Chk2 w w' nv lv rv e N ls rs :=
 ⟨h.bp.below hb h.bp.lt,h.be.below hb h.be.lt,h.pa.below hb,h.bl.trans (hb.mono h.bl.size)⟩
theorem chk2_start {w:World} {nv lv rv:Value} {e:PExp} {N:List PNode} {ls:List PLet} {rs:List PRule} (h:PolAt w nv lv rv N ls rs):Chk2 w ((w.alloc (.cells #[nv,lv,rv] 73)).alloc (.cells #[.int .i64 e.place,.int .i64 e.fr,.int .i64 e.behind] 105)) nv lv rv e N ls rs:=by
 have hb:Below w.heap.size w ((w.alloc (.cells #[nv,lv,rv] 73)).alloc (.cells #[.int .i64 e.place,.int .i64 e.fr,.int .i64 e.behind] 105)):=(new_below w _).alloc (by simp) _
 refine ⟨(Blk.new w _ _).alloc _, ?_,h.below hb,hb⟩
 have:=Blk.new (w.alloc (.cells #[nv,lv,rv] 73)) #[.int .i64 e.place,.int .i64 e.fr,.int .i64 e.behind] 105
 simpa using this
theorem seg_at (N:List PNode) (i b:Nat) (h1:i < b) (h2:i < N.length):(N.drop i).take (b - i)=N[i] :: (N.drop (i+1)).take (b - (i+1)):=by
 rw[List.drop_eq_getElem_cons h2,show b - i=(b - (i+1))+1 by omega,List.take_succ_cons]
theorem seg_none (N:List PNode) (i b:Nat) (h:b≤i):(N.drop i).take (b - i)=[]:=by
 rw[show b - i=0 by omega,List.take_zero]
set_option maxHeartbeats 1000000 in
set_option maxRecDepth 100000 in
theorem namesOf_any (nv lv rv:Value) (e:PExp) (ahead:Nat) (N:List PNode) (ls:List PLet) (rs:List PRule) (w:World) (h:PolAt w nv lv rv N ls rs) (hm:∀ n∈N,mayT n.tok.text=true) (he1:e.fr≤e.behind) (he2:e.behind≤N.length) (ha:ahead≤401) :
  Calls Tryz.prog 106 #[polA nv lv rv,expA e,.int .i64 ahead] w fun e' w'=>e'=.returned (resN (namesE ls ahead (segE N e)))∧Below w.heap.size w w':=by
 obtain ⟨na,nc,rfl⟩:=h.n.shape
 obtain ⟨la,lc,rfl⟩:=h.l.shape
 obtain ⟨ra,rc,rfl⟩:=h.r.shape
 have hnb:=h.nb
 have hlb:=h.lb
 have hrb:=h.rb
 have HC:=hideP (chk2_start (e:=e) h)
 have HM:=hideP hm
 clear h hm
 unfold polA expA
 go_enter Tryz.func106,Tryz.ntmps106
 go_wp2
 go_loopw [8] (fun vi wr=>∃ i:Nat,e.fr≤i∧i≤e.behind∧vi=.int .i64 i∧Chk2 w wr (.slice na N.length nc) (.slice la ls.length lc) (.slice ra rs.length rc) e N ls rs∧namesE ls ahead (segE N e)=namesE ls ahead ((N.drop i).take (e.behind - i))) (fun i _=>1000 - (intOf i).toNat)
 case atStart=>exact ⟨e.fr,Nat.le_refl _,he1,rfl,HC.out,rfl⟩
 case round =>
  obtain ⟨i,hi1,hi2,rfl,hc,hgo⟩:=hrel
  clear HC
  have HC:=hideP hc
  have HGO:=hideP hgo
  have hB:=hc.bp.lt
  have hB2:=hc.be.lt
  have p0:=hc.bp.cell 0
  have p1:=hc.bp.cell 1
  have e2:=hc.be.cell 2
  simp only[List.getElem?_toArray,List.getElem?_cons_zero,List.getElem?_cons_succ] at p0 p1 e2
  clear hc hgo
  by_cases hlt:i < e.behind
  ·have hiN:i < N.length:=by omega
   obtain ⟨g,o,cap,hcut,hcap,hg,hcl⟩:=HC.out.pa.n.pos (by omega)
   cases hcut
   have d0:=hcl (i * 6+0) _ (flat_get cellN 6 (fun _=>rfl) N i hiN 0 (by omega))
   have d1:=hcl (i * 6+1) _ (flat_get cellN 6 (fun _=>rfl) N i hiN 1 (by omega))
   have d2:=hcl (i * 6+2) _ (flat_get cellN 6 (fun _=>rfl) N i hiN 2 (by omega))
   have hseg:=seg_at N i e.behind hlt hiN
   have HSG:Hid (namesE ls ahead (segE N e)=if nameT N[i].tok.text&&decide (ahead≤letIx ls N[i].tok.text) then some N[i].tok.at' else namesE ls ahead ((N.drop (i+1)).take (e.behind - (i+1)))):=by
    rw[Hid,HGO.out,hseg];rfl
   have hmi:=HM.out N[i] (List.getElem_mem hiN)
   have K:=kindOf _ hmi
   obtain ⟨tk,htk⟩:∃ tk,tk=N[i].tok:=⟨_,rfl⟩
   rw[← htk] at HSG K
   have f0:wr.cell? ⟨g,o+i * 6,none⟩=some (.int .i64 (kindP tk.text)):=by rw[htk];exact d0
   have f1:wr.cell? ⟨g,o+i * 6+1,none⟩=some (.int .i64 tk.at'):=by rw[htk,Nat.add_assoc];exact d1
   have f2:wr.cell? ⟨g,o+i * 6+2,none⟩=some (.string (bsOf tk.text)):=by rw[htk,Nat.add_assoc];exact d2
   have hix:=letIx_le ls tk.text
   have HIX:=hideP hix
   clear d0 d1 d2 hcl hseg hmi htk HGO
   have HB4:=hideP (HC.out.below (new_below wr (.cells #[.int .i64 (kindP tk.text),.int .i64 tk.at',.string (bsOf tk.text)] 101)))
   by_cases hk:kindP tk.text=2
   ·have hk':((kindP tk.text:Int)==2)=true:=by rw[hk];rfl
    have hnm:nameT tk.text=true:=K.kname.1 hk
    have HNM:=hideP hnm
    obtain ⟨ix,hixe⟩:∃ ix,ix=letIx ls tk.text:=⟨_,rfl⟩
    have HIE:Hid (letIx ls (bsOf tk.text).toList=ix):=by rw[Hid,bsOf_toList,hixe]
    rw[← hixe] at HSG hix
    clear K hk hnm hixe HIX
    by_cases hge:ahead≤ix
    ·have hge':decide ((ahead:Int)≤(ix:Int))=true:=by simp;omega
     go_wp2_with (go_at_call 105;refine (LetOf_any ls _ (bsOf tk.text) _ HB4.out.pa.l hlb).mono ?_;rintro e' w4 ⟨rfl,rfl⟩;rw[HIE.out])
     go_quiet (fail)
     go_wp2
     go_ret2
     exact ⟨by rw[HSG.out,HNM.out,decide_eq_true hge];rfl,below_drewN HB4.out.bl _⟩
    ·have hge':decide ((ahead:Int)≤(ix:Int))=false:=by simp;omega
     have hgd:decide (ahead≤ix)=false:=by simpa using hge
     have HGD:=hideP hgd
     clear hgd
     go_wp2_with (go_at_call 105;refine (LetOf_any ls _ (bsOf tk.text) _ HB4.out.pa.l hlb).mono ?_;rintro e' w4 ⟨rfl,rfl⟩;rw[HIE.out])
     go_roundw
     case rel=>exact ⟨i+1,by omega,by omega,by go_num,HB4.out,by rw[HSG.out,HGD.out];simp⟩
     case measure=>simp[intOf];omega
   ·have hk':((kindP tk.text:Int)==2)=false:=by simp;omega
    have hnm:nameT tk.text=false:=by
     cases hx:nameT tk.text
     ·rfl
     ·exact absurd (K.kname.2 hx) hk
    have HNM:=hideP hnm
    clear K hnm
    go_wp2
    go_roundw
    case rel=>exact ⟨i+1,by omega,by omega,by go_num,HB4.out,by rw[HSG.out,HNM.out];simp⟩
    case measure=>simp[intOf];omega
  ·have hsn:=seg_none N i e.behind (by omega)
   have HRES:Hid (namesE ls ahead (segE N e)=none):=by rw[Hid,HGO.out,hsn];rfl
   clear hsn HGO
   go_wp2
   go_ret2
   exact ⟨by rw[HRES.out];rfl,HC.out.bl⟩
end Go.Proofs.YtpcjadaeolkngaaGreatDoor
namespace Go.Proofs.YtpcjadaeolkngaaGreatDoor
open Go.RowKit Go.Deep
structure ExpOk (N:List PNode) (e:PExp):Prop where
 le:e.fr≤e.behind
 lt:e.behind≤N.length
structure ExpsOk (N:List PNode) (ls:List PLet) (rs:List PRule):Prop where
 may:∀ n∈N,mayT n.tok.text=true
 l:∀ p∈ls,ExpOk N p.val
 w:∀ p∈rs,ExpOk N p.when
 s:∀ p∈rs,ExpOk N p.score
structure Chk1 (w wr:World) (nv lv rv:Value) (N:List PNode) (ls:List PLet) (rs:List PRule):Prop where
 bp:Blk wr w.heap.size #[nv,lv,rv] 73
 pa:PolAt wr nv lv rv N ls rs
 bl:Below w.heap.size w wr
theorem Chk1.below {w wr w':World} {nv lv rv:Value} {N:List PNode} {ls:List PLet} {rs:List PRule} (h:Chk1 w wr nv lv rv N ls rs) (hb:Below wr.heap.size wr w'):Chk1 w w' nv lv rv N ls rs :=
 ⟨h.bp.below hb h.bp.lt,h.pa.below hb,h.bl.trans (hb.mono h.bl.size)⟩
theorem Chk1.drew {w wr:World} {nv lv rv:Value} {N:List PNode} {ls:List PLet} {rs:List PRule} (h:Chk1 w wr nv lv rv N ls rs):Chk1 w wr.drew nv lv rv N ls rs:=h.below (below_drewN (Below.refl _ wr) 1)
theorem chk1_start {w:World} {nv lv rv:Value} {N:List PNode} {ls:List PLet} {rs:List PRule} (h:PolAt w nv lv rv N ls rs):Chk1 w (w.alloc (.cells #[nv,lv,rv] 73)) nv lv rv N ls rs :=
 ⟨Blk.new w _ _,h.below (new_below w _),new_below w _⟩
theorem Chk1.let6 {w wr:World} {nv rv:Value} {la:Option Addr} {lc:Nat} {N:List PNode} {ls:List PLet} {rs:List PRule} (h:Chk1 w wr nv (.slice la ls.length lc) rv N ls rs) {i:Nat} (hi:i < ls.length):∃ g o,la=some ⟨g,o,none⟩∧g < wr.heap.size∧ls.length≤lc ∧
  wr.cell? ⟨g,o+i * 6,none⟩=some (.int .i64 (kindP ls[i].name.text))∧wr.cell? ⟨g,o+i * 6+1,none⟩=some (.int .i64 ls[i].name.at')∧wr.cell? ⟨g,o+i * 6+2,none⟩=some (.string (bsOf ls[i].name.text)) ∧
  wr.cell? ⟨g,o+i * 6+3,none⟩=some (.int .i64 ls[i].val.place)∧wr.cell? ⟨g,o+i * 6+4,none⟩=some (.int .i64 ls[i].val.fr)∧wr.cell? ⟨g,o+i * 6+5,none⟩=some (.int .i64 ls[i].val.behind):=by
 obtain ⟨g,o,cap,hcut,hcap,hg,hc⟩:=h.pa.l.pos (by omega)
 cases hcut
 have f:=fun j (hj:j < 6) u (hu:(cellL ls[i])[j]?=some u)=>hc (i * 6+j) u ((flat_get cellL 6 (fun _=>rfl) ls i hi j hj).trans hu)
 refine ⟨g,o,rfl,hg,hcap,f 0 (by omega) _ rfl, ?_, ?_, ?_, ?_, ?_⟩
 ·rw[Nat.add_assoc];exact f 1 (by omega) _ rfl
 ·rw[Nat.add_assoc];exact f 2 (by omega) _ rfl
 ·rw[Nat.add_assoc];exact f 3 (by omega) _ rfl
 ·rw[Nat.add_assoc];exact f 4 (by omega) _ rfl
 ·rw[Nat.add_assoc];exact f 5 (by omega) _ rfl
theorem Chk1.rule8 {w wr:World} {nv lv:Value} {ra:Option Addr} {rc:Nat} {N:List PNode} {ls:List PLet} {rs:List PRule} (h:Chk1 w wr nv lv (.slice ra rs.length rc) N ls rs) {i:Nat} (hi:i < rs.length):∃ g o,ra=some ⟨g,o,none⟩∧g < wr.heap.size∧rs.length≤rc ∧
  wr.cell? ⟨g,o+i * 8,none⟩=some (.bool rs[i].hw)∧wr.cell? ⟨g,o+i * 8+1,none⟩=some (.int .i64 rs[i].when.place)∧wr.cell? ⟨g,o+i * 8+2,none⟩=some (.int .i64 rs[i].when.fr)∧wr.cell? ⟨g,o+i * 8+3,none⟩=some (.int .i64 rs[i].when.behind) ∧
  wr.cell? ⟨g,o+i * 8+4,none⟩=some (.bool rs[i].hs)∧wr.cell? ⟨g,o+i * 8+5,none⟩=some (.int .i64 rs[i].score.place)∧wr.cell? ⟨g,o+i * 8+6,none⟩=some (.int .i64 rs[i].score.fr)∧wr.cell? ⟨g,o+i * 8+7,none⟩=some (.int .i64 rs[i].score.behind):=by
 obtain ⟨g,o,cap,hcut,hcap,hg,hc⟩:=h.pa.r.pos (by omega)
 cases hcut
 have f:=fun j (hj:j < 8) u (hu:(cellU rs[i])[j]?=some u)=>hc (i * 8+j) u ((flat_get cellU 8 (fun _=>rfl) rs i hi j hj).trans hu)
 refine ⟨g,o,rfl,hg,hcap,f 0 (by omega) _ rfl, ?_, ?_, ?_, ?_, ?_, ?_, ?_⟩
 ·rw[Nat.add_assoc];exact f 1 (by omega) _ rfl
 ·rw[Nat.add_assoc];exact f 2 (by omega) _ rfl
 ·rw[Nat.add_assoc];exact f 3 (by omega) _ rfl
 ·rw[Nat.add_assoc];exact f 4 (by omega) _ rfl
 ·rw[Nat.add_assoc];exact f 5 (by omega) _ rfl
 ·rw[Nat.add_assoc];exact f 6 (by omega) _ rfl
 ·rw[Nat.add_assoc];exact f 7 (by omega) _ rfl
theorem Chk1.rule8p {w wr:World} {nv lv:Value} {ra:Option Addr} {rc:Nat} {N:List PNode} {ls:List PLet} {rs:List PRule} (h:Chk1 w wr nv lv (.slice ra rs.length rc) N ls rs) {i:Nat} (hi:i < rs.length) {pr:PRule} (hp:rs[i]=pr):∃ g o,ra=some ⟨g,o,none⟩∧g < wr.heap.size∧rs.length≤rc ∧
  wr.cell? ⟨g,o+i * 8,none⟩=some (.bool pr.hw)∧wr.cell? ⟨g,o+i * 8+1,none⟩=some (.int .i64 pr.when.place)∧wr.cell? ⟨g,o+i * 8+2,none⟩=some (.int .i64 pr.when.fr)∧wr.cell? ⟨g,o+i * 8+3,none⟩=some (.int .i64 pr.when.behind) ∧
  wr.cell? ⟨g,o+i * 8+4,none⟩=some (.bool pr.hs)∧wr.cell? ⟨g,o+i * 8+5,none⟩=some (.int .i64 pr.score.place)∧wr.cell? ⟨g,o+i * 8+6,none⟩=some (.int .i64 pr.score.fr)∧wr.cell? ⟨g,o+i * 8+7,none⟩=some (.int .i64 pr.score.behind):=by
 subst hp;exact h.rule8 hi
set_option maxHeartbeats 2000000 in
set_option maxRecDepth 100000 in
theorem names_any (nv lv rv:Value) (N:List PNode) (ls:List PLet) (rs:List PRule) (w:World) (h:PolAt w nv lv rv N ls rs) (hx:ExpsOk N ls rs) :
  Calls Tryz.prog 71 #[polA nv lv rv] w fun e' w'=>e'=.returned (resN (pNames N ls rs))∧Below w.heap.size w w':=by
 obtain ⟨na,nc,rfl⟩:=h.n.shape
 obtain ⟨la,lc,rfl⟩:=h.l.shape
 obtain ⟨ra,rc,rfl⟩:=h.r.shape
 have hnb:=h.nb
 have hlb:=h.lb
 have hrb:=h.rb
 have HC:=hideP (chk1_start h)
 have HX:=hideP hx
 clear h hx
 unfold polA
 go_enter Tryz.func71,Tryz.ntmps71
 go_wp2
 go_loopw [4] (fun vi wr=>∃ i:Nat,i≤ls.length∧vi=.int .i64 i∧Chk1 w wr (.slice na N.length nc) (.slice la ls.length lc) (.slice ra rs.length rc) N ls rs∧pNamesL N ls 0 ls=pNamesL N ls i (ls.drop i)) (fun i _=>1000 - (intOf i).toNat)
 case atStart=>exact ⟨0,Nat.zero_le _,rfl,HC.out,rfl⟩
 case round =>
  obtain ⟨i,hi,rfl,hc,hgo⟩:=hrel
  clear HC
  have HC:=hideP hc
  have HGO:=hideP hgo
  have hB:=hc.bp.lt
  have p0:=hc.bp.cell 0
  have p1:=hc.bp.cell 1
  have p2:=hc.bp.cell 2
  simp only[List.getElem?_toArray,List.getElem?_cons_zero,List.getElem?_cons_succ] at p0 p1 p2
  by_cases hlt:i < ls.length
  ·obtain ⟨g,o,rfl,hg,hcap,d0,d1,d2,d3,d4,d5⟩:=hc.let6 hlt
   have hdrop:=List.drop_eq_getElem_cons hlt
   have HSG:Hid (pNamesL N ls 0 ls=if letIx ls ls[i].name.text < i then some ls[i].name.at' else match namesE ls i (segE N ls[i].val) with | some q=>some q | none=>pNamesL N ls (i+1) (ls.drop (i+1))):=by
    rw[Hid,HGO.out,hdrop];rfl
   have hex:=HX.out.l ls[i] (List.getElem_mem hlt)
   obtain ⟨pl,hpl⟩:∃ pl,pl=ls[i]:=⟨_,rfl⟩
   rw[← hpl] at HSG d0 d1 d2 d3 d4 d5 hex
   have HEX:=hideP hex
   clear hc hgo HGO hdrop hpl hex
   obtain ⟨ix,hixe⟩:∃ ix,ix=letIx ls pl.name.text:=⟨_,rfl⟩
   have HIE:Hid (letIx ls (bsOf pl.name.text).toList=ix):=by rw[Hid,bsOf_toList,hixe]
   rw[← hixe] at HSG
   clear hixe
   have HC4:=hideP (HC.out.below (new_below wr (.cells #[.int .i64 (kindP pl.name.text),.int .i64 pl.name.at',.string (bsOf pl.name.text)] 101)))
   by_cases hix:ix < i
   ·have hix':decide ((ix:Int) < (i:Int))=true:=by simp;omega
    go_wp2_with (go_at_call 105;refine (LetOf_any ls _ (bsOf pl.name.text) _ HC4.out.pa.l hlb).mono ?_;rintro e' w4 ⟨rfl,rfl⟩;rw[HIE.out])
    go_quiet (fail)
    go_wp2
    go_ret2
    exact ⟨by rw[pNames,HSG.out,if_pos hix];rfl,below_drewN HC4.out.bl _⟩
   ·have hix':decide ((ix:Int) < (i:Int))=false:=by simp;omega
    have HIX:=hideP hix
    have hgl:g < (wr.alloc (.cells #[.int .i64 (kindP pl.name.text),.int .i64 pl.name.at',.string (bsOf pl.name.text)] 101)).heap.size:=by simp;omega
    go_wp2_with (go_at_call 105;refine (LetOf_any ls _ (bsOf pl.name.text) _ HC4.out.pa.l hlb).mono ?_;rintro e' w4 ⟨rfl,rfl⟩;rw[HIE.out])
    cases hnm:namesE ls i (segE N pl.val) with
    | some q =>
     have HNM:=hideP hnm
     clear hnm
     go_region_held3 (fun w'=>w'.cell? ⟨w.heap.size,0,none⟩=some (.slice na N.length nc)∧w'.cell? ⟨w.heap.size,1,none⟩=some (.slice (some ⟨g,o,none⟩) ls.length lc)∧w'.cell? ⟨w.heap.size,2,none⟩=some (.slice ra rs.length rc)∧w'.cell? ⟨g,o+i * 6+3,none⟩=some (.int .i64 pl.val.place)∧w'.cell? ⟨g,o+i * 6+4,none⟩=some (.int .i64 pl.val.fr)∧w'.cell? ⟨g,o+i * 6+5,none⟩=some (.int .i64 pl.val.behind)) (go_keep) ((go_at_call 106;refine (namesOf_any _ _ _ pl.val i N ls rs _ (HC4.out.drew.pa) HX.out.may HEX.out.le HEX.out.lt (by omega)).mono ?_;rintro e' w5 ⟨rfl,hb5⟩;rw[HNM.out];simp only[resN];have HC5:=hideP (HC4.out.drew.below hb5);have k0:=HC5.out.bp.cell 0;have k1:=HC5.out.bp.cell 1;have k2:=HC5.out.bp.cell 2;have k3:=(hb5.cell (p:=⟨g,o+i * 6+3,none⟩) hgl).trans (((new_below wr (.cells #[.int .i64 (kindP pl.name.text),.int .i64 pl.name.at',.string (bsOf pl.name.text)] 101)).cell (p:=⟨g,o+i * 6+3,none⟩) hg).trans d3);have k4:=(hb5.cell (p:=⟨g,o+i * 6+4,none⟩) hgl).trans (((new_below wr (.cells #[.int .i64 (kindP pl.name.text),.int .i64 pl.name.at',.string (bsOf pl.name.text)] 101)).cell (p:=⟨g,o+i * 6+4,none⟩) hg).trans d4);have k5:=(hb5.cell (p:=⟨g,o+i * 6+5,none⟩) hgl).trans (((new_below wr (.cells #[.int .i64 (kindP pl.name.text),.int .i64 pl.name.at',.string (bsOf pl.name.text)] 101)).cell (p:=⟨g,o+i * 6+5,none⟩) hg).trans d5);clear hb5))
     go_wp2
     go_ret2
     exact ⟨by rw[pNames,HSG.out,if_neg HIX.out,HNM.out];rfl,HC5.out.bl⟩
    | none =>
     have HNM:=hideP hnm
     clear hnm
     go_region_held3 (fun w'=>w'.cell? ⟨w.heap.size,0,none⟩=some (.slice na N.length nc)∧w'.cell? ⟨w.heap.size,1,none⟩=some (.slice (some ⟨g,o,none⟩) ls.length lc)∧w'.cell? ⟨w.heap.size,2,none⟩=some (.slice ra rs.length rc)∧w'.cell? ⟨g,o+i * 6+3,none⟩=some (.int .i64 pl.val.place)∧w'.cell? ⟨g,o+i * 6+4,none⟩=some (.int .i64 pl.val.fr)∧w'.cell? ⟨g,o+i * 6+5,none⟩=some (.int .i64 pl.val.behind)) (go_keep) ((go_at_call 106;refine (namesOf_any _ _ _ pl.val i N ls rs _ (HC4.out.drew.pa) HX.out.may HEX.out.le HEX.out.lt (by omega)).mono ?_;rintro e' w5 ⟨rfl,hb5⟩;rw[HNM.out];simp only[resN];have HC5:=hideP (HC4.out.drew.below hb5);have k0:=HC5.out.bp.cell 0;have k1:=HC5.out.bp.cell 1;have k2:=HC5.out.bp.cell 2;have k3:=(hb5.cell (p:=⟨g,o+i * 6+3,none⟩) hgl).trans (((new_below wr (.cells #[.int .i64 (kindP pl.name.text),.int .i64 pl.name.at',.string (bsOf pl.name.text)] 101)).cell (p:=⟨g,o+i * 6+3,none⟩) hg).trans d3);have k4:=(hb5.cell (p:=⟨g,o+i * 6+4,none⟩) hgl).trans (((new_below wr (.cells #[.int .i64 (kindP pl.name.text),.int .i64 pl.name.at',.string (bsOf pl.name.text)] 101)).cell (p:=⟨g,o+i * 6+4,none⟩) hg).trans d4);have k5:=(hb5.cell (p:=⟨g,o+i * 6+5,none⟩) hgl).trans (((new_below wr (.cells #[.int .i64 (kindP pl.name.text),.int .i64 pl.name.at',.string (bsOf pl.name.text)] 101)).cell (p:=⟨g,o+i * 6+5,none⟩) hg).trans d5);clear hb5))
     go_wp2
     go_roundw
     case rel=>exact ⟨i+1,by omega,by go_num,HC5.out,by rw[HSG.out,if_neg HIX.out,HNM.out]⟩
     case measure=>simp[intOf];omega
  ·have HL0:Hid (pNamesL N ls 0 ls=none):=by rw[Hid,HGO.out,List.drop_eq_nil_of_le (by omega)];rfl
   have HPN:Hid (pNames N ls rs=pNamesR N ls rs):=by rw[Hid,pNames,HL0.out]
   clear hc hgo HGO HL0
   go_wp2
   clear p0 p1 p2 hB hi hlt
   go_loopw [8] (fun vj wx=>∃ j:Nat,j≤rs.length∧vj=.int .i64 j∧Chk1 w wx (.slice na N.length nc) (.slice la ls.length lc) (.slice ra rs.length rc) N ls rs∧pNamesR N ls rs=pNamesR N ls (rs.drop j)) (fun j _=>1000 - (intOf j).toNat)
   case atStart=>exact ⟨0,Nat.zero_le _,rfl,HC.out,rfl⟩
   case round =>
    obtain ⟨j,hj,rfl,hc,hgo⟩:=hrel
    clear HC
    have HC:=hideP hc
    have HGO:=hideP hgo
    have hB:=hc.bp.lt
    have p0:=hc.bp.cell 0
    have p1:=hc.bp.cell 1
    have p2:=hc.bp.cell 2
    simp only[List.getElem?_toArray,List.getElem?_cons_zero,List.getElem?_cons_succ] at p0 p1 p2
    by_cases hlt:j < rs.length
    ·have hdrop:=List.drop_eq_getElem_cons hlt
     obtain ⟨pr,hpr⟩:∃ pr,rs[j]=pr:=⟨_,rfl⟩
     obtain ⟨g,o,rfl,hg,hcap,d0,d1,d2,d3,d4,d5,d6,d7⟩:=hc.rule8p hlt hpr
     have HSG:Hid (pNamesR N ls rs=match namesE ls ls.length (segE N pr.when) with | some q=>some q | none=>match namesE ls ls.length (segE N pr.score) with | some q=>some q | none=>pNamesR N ls (rs.drop (j+1))):=by
      rw[Hid,HGO.out,hdrop,hpr];rfl
     have HEW:=hideP (HX.out.w rs[j] (List.getElem_mem hlt))
     have HES:=hideP (HX.out.s rs[j] (List.getElem_mem hlt))
     rw[hpr] at HEW HES
     have HPR:=hideP hpr
     clear hc hgo HGO hdrop hpr
     cases hnw:namesE ls ls.length (segE N pr.when) with
     | some q =>
      have HNW:=hideP hnw
      clear hnw
      go_wp2
      go_region_held3 (fun w'=>w'.cell? ⟨w.heap.size,0,none⟩=some (.slice na N.length nc)∧w'.cell? ⟨w.heap.size,1,none⟩=some (.slice la ls.length lc)∧w'.cell? ⟨w.heap.size,2,none⟩=some (.slice (some ⟨g,o,none⟩) rs.length rc)∧w'.cell? ⟨g,o+j * 8+1,none⟩=some (.int .i64 pr.when.place)∧w'.cell? ⟨g,o+j * 8+2,none⟩=some (.int .i64 pr.when.fr)∧w'.cell? ⟨g,o+j * 8+3,none⟩=some (.int .i64 pr.when.behind)) (go_keep) ((go_at_call 106;refine (namesOf_any _ _ _ pr.when ls.length N ls rs _ (HC.out.drew.pa) HX.out.may HEW.out.le HEW.out.lt (by omega)).mono ?_;rintro e' w5 ⟨rfl,hb5⟩;rw[HNW.out];simp only[resN];replace HC:=hideP (HC.out.drew.below hb5);clear hb5;have p0':=HC.out.bp.cell 0;have p1':=HC.out.bp.cell 1;have p2':=HC.out.bp.cell 2;obtain ⟨g',o',he',hg',_,c0,c1,c2,c3,c4,c5,c6,c7⟩:=HC.out.rule8p hlt HPR.out;cases he'))
      go_wp2
      go_ret2
      exact ⟨by rw[HPN.out,HSG.out,HNW.out];rfl,HC.out.bl⟩
     | none =>
      have HNW:=hideP hnw
      clear hnw
      go_wp2
      go_region_held3 (fun w'=>w'.cell? ⟨w.heap.size,0,none⟩=some (.slice na N.length nc)∧w'.cell? ⟨w.heap.size,1,none⟩=some (.slice la ls.length lc)∧w'.cell? ⟨w.heap.size,2,none⟩=some (.slice (some ⟨g,o,none⟩) rs.length rc)∧w'.cell? ⟨g,o+j * 8+1,none⟩=some (.int .i64 pr.when.place)∧w'.cell? ⟨g,o+j * 8+2,none⟩=some (.int .i64 pr.when.fr)∧w'.cell? ⟨g,o+j * 8+3,none⟩=some (.int .i64 pr.when.behind)) (go_keep) ((go_at_call 106;refine (namesOf_any _ _ _ pr.when ls.length N ls rs _ (HC.out.drew.pa) HX.out.may HEW.out.le HEW.out.lt (by omega)).mono ?_;rintro e' w5 ⟨rfl,hb5⟩;rw[HNW.out];simp only[resN];replace HC:=hideP (HC.out.drew.below hb5);clear hb5;have p0':=HC.out.bp.cell 0;have p1':=HC.out.bp.cell 1;have p2':=HC.out.bp.cell 2;obtain ⟨g',o',he',hg',_,c0,c1,c2,c3,c4,c5,c6,c7⟩:=HC.out.rule8p hlt HPR.out;cases he'))
      clear p0 p1 p2 d0 d1 d2 d3 d4 d5 d6 d7 hB hg
      have hB:=HC.out.bp.lt
      cases hns:namesE ls ls.length (segE N pr.score) with
      | some q =>
       have HNS:=hideP hns
       clear hns
       go_wp2
       go_region_held3 (fun w'=>w'.cell? ⟨w.heap.size,0,none⟩=some (.slice na N.length nc)∧w'.cell? ⟨w.heap.size,1,none⟩=some (.slice la ls.length lc)∧w'.cell? ⟨w.heap.size,2,none⟩=some (.slice (some ⟨g,o,none⟩) rs.length rc)∧w'.cell? ⟨g,o+j * 8+5,none⟩=some (.int .i64 pr.score.place)∧w'.cell? ⟨g,o+j * 8+6,none⟩=some (.int .i64 pr.score.fr)∧w'.cell? ⟨g,o+j * 8+7,none⟩=some (.int .i64 pr.score.behind)) (go_keep) ((go_at_call 106;refine (namesOf_any _ _ _ pr.score ls.length N ls rs _ (HC.out.drew.pa) HX.out.may HES.out.le HES.out.lt (by omega)).mono ?_;rintro e' w5 ⟨rfl,hb5⟩;rw[HNS.out];simp only[resN];replace HC:=hideP (HC.out.drew.below hb5);clear hb5;have p0':=HC.out.bp.cell 0;have p1':=HC.out.bp.cell 1;have p2':=HC.out.bp.cell 2;obtain ⟨g',o',he',hg',_,c0,c1,c2,c3,c4,c5,c6,c7⟩:=HC.out.rule8p hlt HPR.out;cases he'))
       go_wp2
       go_ret2
       exact ⟨by rw[HPN.out,HSG.out,HNW.out,HNS.out];rfl,HC.out.bl⟩
      | none =>
       have HNS:=hideP hns
       clear hns
       go_wp2
       go_region_held3 (fun w'=>w'.cell? ⟨w.heap.size,0,none⟩=some (.slice na N.length nc)∧w'.cell? ⟨w.heap.size,1,none⟩=some (.slice la ls.length lc)∧w'.cell? ⟨w.heap.size,2,none⟩=some (.slice (some ⟨g,o,none⟩) rs.length rc)∧w'.cell? ⟨g,o+j * 8+5,none⟩=some (.int .i64 pr.score.place)∧w'.cell? ⟨g,o+j * 8+6,none⟩=some (.int .i64 pr.score.fr)∧w'.cell? ⟨g,o+j * 8+7,none⟩=some (.int .i64 pr.score.behind)) (go_keep) ((go_at_call 106;refine (namesOf_any _ _ _ pr.score ls.length N ls rs _ (HC.out.drew.pa) HX.out.may HES.out.le HES.out.lt (by omega)).mono ?_;rintro e' w5 ⟨rfl,hb5⟩;rw[HNS.out];simp only[resN];replace HC:=hideP (HC.out.drew.below hb5);clear hb5;have p0':=HC.out.bp.cell 0;have p1':=HC.out.bp.cell 1;have p2':=HC.out.bp.cell 2;obtain ⟨g',o',he',hg',_,c0,c1,c2,c3,c4,c5,c6,c7⟩:=HC.out.rule8p hlt HPR.out;cases he'))
       go_wp2
       go_roundw
       case rel=>exact ⟨j+1,by omega,by go_num,HC.out,by rw[HSG.out,HNW.out,HNS.out]⟩
       case measure=>simp[intOf];omega
    ·have HL0:Hid (pNamesR N ls rs=none):=by rw[Hid,HGO.out,List.drop_eq_nil_of_le (by omega)];rfl
     clear hc hgo HGO
     go_wp2
     go_ret2
     exact ⟨by rw[HPN.out,HL0.out];rfl,HC.out.bl⟩
end Go.Proofs.YtpcjadaeolkngaaGreatDoor
