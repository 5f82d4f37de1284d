/-
  The program's check: fail, look, lookFor.
-/
import Derived.Test.YtpcjadaeolkngaaGreatDoorJ14
set_option linter.unusedVariables false
set_option linter.unusedSimpArgs false
namespace Go.Proofs.YtpcjadaeolkngaaGreatDoor
open Go.RowKit Go.Deep
structure But2(a b:Nat)(w w':World):Prop where
 os:w'.os=w.os
 tape:w'.tape=w.tape
 output:w'.output=w.output
 size:w.heap.size≤w'.heap.size
 block:∀ k,k≠a→k≠b→k<w.heap.size→w'.heap[k]?=w.heap[k]?
theorem But2.refl(a b:Nat)(w:World):But2 a b w w:=⟨rfl,rfl,rfl,Nat.le_refl _,fun _ _ _ _=>rfl⟩
theorem But2.trans{a b:Nat}{w w1 w2:World}(h:But2 a b w w1)(g:But2 a b w1 w2):But2 a b w w2 :=
 ⟨g.os.trans h.os,g.tape.trans h.tape,g.output.trans h.output,Nat.le_trans h.size g.size,fun k h1 h2 h3=>(g.block k h1 h2 (Nat.lt_of_lt_of_le h3 h.size)).trans (h.block k h1 h2 h3)⟩
theorem But2.of{a b:Nat}{w w':World}(h:Below w.heap.size w w'):But2 a b w w':=⟨h.os,h.tape,h.output,h.size,fun k _ _ h3=>h.block k h3⟩
theorem But2.set1{a b:Nat}{w:World}(i:Nat)(v:Value):But2 a b w (w.setCell ⟨a,i,none⟩ v):=by
 have g:=(Below.refl a w).setCell (p:=⟨a,i,none⟩) (Nat.le_refl _) v
 exact ⟨g.os,g.tape,g.output,g.size,fun k h1 _ _=>Below.heap_setCell _ _ _ _ h1⟩
theorem But2.set2{a b:Nat}{w:World}(i:Nat)(v:Value):But2 a b w (w.setCell ⟨b,i,none⟩ v):=by
 have g:=(Below.refl b w).setCell (p:=⟨b,i,none⟩) (Nat.le_refl _) v
 exact ⟨g.os,g.tape,g.output,g.size,fun k _ h2 _=>Below.heap_setCell _ _ _ _ h2⟩
theorem But2.below{a b B:Nat}{w w':World}(h:But2 a b w w')(h1:B≤a)(h2:B≤b)(h3:B≤w.heap.size):Below B w w':=⟨h.os,h.tape,h.output,h.size,fun k hk=>h.block k (by omega) (by omega) (by omega)⟩
theorem Blk.but2{w w':World}{a b c:Nat}{cs:Array Value}{t:TypeId}(h:Blk w c cs t)(hb:But2 a b w w')(h1:c≠a)(h2:c≠b):Blk w' c cs t:=(hb.block c h1 h2 h.lt).trans h
theorem Reads.set{w:World}{v:Value}{n:Nat}{xs:List Value}(h:Reads w v n xs){b i:Nat}{u:Value}(hne:v.ownBlock≠some b):Reads (w.setCell ⟨b,i,none⟩ u) v n xs:=by
 rcases h with h | ⟨g,o,cap,rfl,hn,hlt,hc⟩
 ·exact .inl h
 ·refine .inr ⟨g,o,cap,rfl,hn,by simpa using hlt,fun j x hj=>?_⟩
  have hgb:g≠b:=fun e=>hne (by rw[e];rfl)
  rw[← hc j x hj]
  show (w.setCell ⟨b,i,none⟩ u).cell? ⟨g,o+j,none⟩=_
  unfold World.cell?
  rw[Below.heap_setCell _ _ _ _ hgb]
structure Apart2(B kb:Nat)(nv lv rv:Value):Prop where
 n:nv.ownBlock≠some B∧nv.ownBlock≠some kb
 l:lv.ownBlock≠some B∧lv.ownBlock≠some kb
 r:rv.ownBlock≠some B∧rv.ownBlock≠some kb
theorem PolAt.set1{w:World}{B kb:Nat}{nv lv rv:Value}{N:List PNode}{ls:List PLet}{rs:List PRule}(h:PolAt w nv lv rv N ls rs)(ha:Apart2 B kb nv lv rv)(i:Nat)(u:Value):PolAt (w.setCell ⟨B,i,none⟩ u) nv lv rv N ls rs :=
 ⟨h.n.set ha.n.1,h.l.set ha.l.1,h.r.set ha.r.1,h.nb,h.lb,h.rb⟩
theorem PolAt.set2{w:World}{B kb:Nat}{nv lv rv:Value}{N:List PNode}{ls:List PLet}{rs:List PRule}(h:PolAt w nv lv rv N ls rs)(ha:Apart2 B kb nv lv rv)(i:Nat)(u:Value):PolAt (w.setCell ⟨kb,i,none⟩ u) nv lv rv N ls rs :=
 ⟨h.n.set ha.n.2,h.l.set ha.l.2,h.r.set ha.r.2,h.nb,h.lb,h.rb⟩
theorem LkAt.fails{w:World}{B kb:Nat}{nv lv rv:Value}{ks:List Nat}{N:List PNode}{ls:List PLet}{rs:List PRule}(h:LkAt w B kb nv lv rv ks none N ls rs)(ha:Apart2 B kb nv lv rv)(p:Nat):LkAt ((w.setCell ⟨B,4,none⟩ (.bool true)).setCell ⟨B,5,none⟩ (.int .i64 p)) B kb nv lv rv ks (some p) N ls rs :=
 ⟨(h.blk.set 4 (.bool true)).set 5 (.int .i64 p),(h.row.other _ _ (by simp only;exact h.ne)).other _ _ (by simp only;exact h.ne),(h.pa.set1 ha 4 _).set1 ha 5 _,h.ne,h.le⟩
theorem LkAt.kind{w:World}{B kb:Nat}{nv lv rv:Value}{ks:List Nat}{f:Option Nat}{N:List PNode}{ls:List PLet}{rs:List PRule}(h:LkAt w B kb nv lv rv ks f N ls rs)(ha:Apart2 B kb nv lv rv)(hl:ks.length<N.length)(k:Nat):LkAt (w.setCell ⟨kb,ks.length,none⟩ (.int .i64 k)) B kb nv lv rv (ks++[k]) f N ls rs:=by
 refine ⟨h.blk.other _ _ (by simp only;exact Ne.symm h.ne), ?_,h.pa.set2 ha _ _,h.ne,by simp;omega⟩
 have:=h.row.set ks.length (.int .i64 k)
 have e:(cellsK (padK ks N.length)).toArray.setIfInBounds ks.length (.int .i64 k)=(cellsK (padK (ks++[k]) N.length)).toArray:=by
  rw[← padK_set ks N.length k hl,List.setIfInBounds_toArray,cellsK,cellsK,List.map_set]
 rw[e]at this
 exact this
set_option maxHeartbeats 1000000 in
theorem fail_any{w:World}{B kb:Nat}{nv lv rv:Value}{ks:List Nat}{f:Option Nat}{N:List PNode}{ls:List PLet}{rs:List PRule}(h:LkAt w B kb nv lv rv ks f N ls rs)(ha:Apart2 B kb nv lv rv)(p:Nat) :
  Calls Tryz.prog 126 #[.pointer (some ⟨B,0,none⟩),.int .i64 p] w fun e w'=>e=.returned (.tuple #[])∧LkAt w' B kb nv lv rv ks (failK f true p) N ls rs∧But2 B kb w w':=by
 have HL:=hideP h
 have HA:=hideP ha
 have c4:=h.blk.cell 4
 have c5:=h.blk.cell 5
 have f4:=h.blk.free 4
 have f5:=h.blk.free 5
 simp only[List.getElem?_toArray,List.getElem?_cons_zero,List.getElem?_cons_succ]at c4 c5
 clear h ha
 cases f with
 | some q =>
  have c4':w.cell? ⟨B,4,none⟩=some (.bool true):=c4
  clear c4 c5
  go_enter Tryz.func126,Tryz.ntmps126
  go_wp2
  exact bodyPost_end (results_none rfl _ _ _) rfl ⟨rfl,HL.out,But2.refl _ _ _⟩
 | none =>
  have c4':w.cell? ⟨B,4,none⟩=some (.bool false):=c4
  clear c4
  go_enter Tryz.func126,Tryz.ntmps126
  go_wp2
  exact bodyPost_end (results_none rfl _ _ _) rfl ⟨rfl,HL.out.fails HA.out p,(But2.set1 4 _).trans (But2.set1 5 _)⟩
theorem LkAt.rowc{w:World}{B kb:Nat}{nv lv rv:Value}{ks:List Nat}{f:Option Nat}{N:List PNode}{ls:List PLet}{rs:List PRule}(h:LkAt w B kb nv lv rv ks f N ls rs){i:Nat}(hi:i<N.length):∃ x:Int,w.cell? ⟨kb,i,none⟩=some (.int .i64 x)∧w.frozen? ⟨kb,i,none⟩=false∧w.cell? ⟨B,3,none⟩=some (.slice (some ⟨kb,0,none⟩) N.length N.length):=by
 have hl:=padK_len ks N.length h.le
 refine ⟨((padK ks N.length)[i]'(by omega):Nat), ?_,h.row.free i,h.blk.cell 3⟩
 rw[h.row.cell]
 simp[cellsK,hl,hi]
structure LkW(w0 w:World)(B kb:Nat)(nv lv rv:Value)(ks:List Nat)(f:Option Nat)(N:List PNode)(ls:List PLet)(rs:List PRule)(b:Nat)(cs:Array Value)(t:TypeId):Prop where
 lk:LkAt w B kb nv lv rv ks f N ls rs
 bx:Blk w b cs t
 n1:b≠B
 n2:b≠kb
 kp:But2 B kb w0 w
theorem LkW.step{w0 w w':World}{B kb:Nat}{nv lv rv:Value}{ks ks':List Nat}{f f':Option Nat}{N:List PNode}{ls:List PLet}{rs:List PRule}{b:Nat}{cs:Array Value}{t:TypeId}(h:LkW w0 w B kb nv lv rv ks f N ls rs b cs t)(hl:LkAt w' B kb nv lv rv ks' f' N ls rs)(hk:But2 B kb w w'):LkW w0 w' B kb nv lv rv ks' f' N ls rs b cs t :=
 ⟨hl,h.bx.but2 hk h.n1 h.n2,h.n1,h.n2,h.kp.trans hk⟩
set_option maxHeartbeats 2000000 in
set_option maxRecDepth 100000 in
theorem look_any{w:World}{B kb:Nat}{nv lv rv:Value}{ks:List Nat}{f:Option Nat}{N:List PNode}{ls:List PLet}{rs:List PRule}(h:LkAt w B kb nv lv rv ks f N ls rs)(ha:Apart2 B kb nv lv rv)(e:PExp)(he:ExpOk N e)(hk:ks.length=e.fr)(hx:∀ p∈ls,1≤p.val.behind∧p.val.behind≤401)(hn:∀ n∈N,n.left≤1000∧n.right≤1000) :
  Calls Tryz.prog 107 #[.pointer (some ⟨B,0,none⟩),expA e] w fun e' w'=>e'=.returned (.tuple #[])∧LkAt w' B kb nv lv rv (lookGo ls ks f (segE N e)).1 (lookGo ls ks f (segE N e)).2 N ls rs∧But2 B kb w w':=by
 obtain ⟨na,nc,rfl⟩:=h.pa.n.shape
 have hnb:=h.pa.nb
 have hB:=h.blk.lt
 have hkb:=h.row.lt
 have HW:=hideP (LkW.mk (h.below (new_below w (.cells #[.int .i64 e.place,.int .i64 e.fr,.int .i64 e.behind] 105))) (Blk.new w #[.int .i64 e.place,.int .i64 e.fr,.int .i64 e.behind] 105) (by omega) (by omega) (But2.of (new_below w _)))
 have HA:=hideP ha
 have HX:=hideP hx
 have HN:=hideP hn
 obtain ⟨he1,he2⟩:=he
 have HKS:=hideP hk
 clear h ha hx hn hk
 unfold expA
 go_enter Tryz.func107,Tryz.ntmps107
 go_wp2
 go_loopw [4] (fun vi wr=>∃ (i:Nat) (ks':List Nat) (f':Option Nat),e.fr≤i∧i≤e.behind∧vi=.int .i64 i∧ks'.length=i∧LkW w wr B kb (.slice na N.length nc) lv rv ks' f' N ls rs w.heap.size #[.int .i64 e.place,.int .i64 e.fr,.int .i64 e.behind] 105∧lookGo ls ks f (segE N e)=lookGo ls ks' f' ((N.drop i).take (e.behind-i))) (fun i _=>1000-(intOf i).toNat)
 case atStart=>exact ⟨e.fr,ks,f,Nat.le_refl _,he1,rfl,HKS.out,HW.out,rfl⟩
 case round =>
  obtain ⟨i,ks',f',hi1,hi2,rfl,hks,hw,hgo⟩:=hrel
  clear HW
  have HW:=hideP hw
  have HGO:=hideP hgo
  have HKL:=hideP hks
  have hBr:=hw.lk.blk.lt
  have hkbr:=hw.lk.row.lt
  have hbx:=hw.bx.lt
  have e2:=hw.bx.cell 2
  have c0:=hw.lk.blk.cell 0
  have c3:=hw.lk.blk.cell 3
  simp only[List.getElem?_toArray,List.getElem?_cons_zero,List.getElem?_cons_succ]at e2 c0 c3
  clear hgo hks
  by_cases hlt:i<e.behind
  ·have hiN:i<N.length:=by omega
   obtain ⟨g,o,cap,hcut,hcap,hg,hcl⟩:=hw.lk.pa.n.pos (by omega)
   cases hcut
   have fc:=fun j (hj:j<6) u (hu:(cellN N[i])[j]?=some u)=>hcl (i*6+j) u ((flat_get cellN 6 (fun _=>rfl) N i hiN j hj).trans hu)
   have hseg:=seg_at N i e.behind hlt hiN
   obtain ⟨nd,hnd⟩:∃ nd,nd=N[i]:=⟨_,rfl⟩
   rw[← hnd]at fc hseg
   have HNR:=hideP (HN.out nd (by rw[hnd];exact List.getElem_mem hiN))
   have HSG:Hid (lookGo ls ks f (segE N e)=lookGo ls (ks'++[nodeK ls ks' nd]) (failK f' (nodeK ls ks' nd==0) nd.tok.at') ((N.drop (i+1)).take (e.behind-(i+1)))):=by rw[Hid,HGO.out,hseg];rfl
   have d0:wr.cell? ⟨g,o+i*6,none⟩=some (.int .i64 (kindP nd.tok.text)):=fc 0 (by omega) _ rfl
   have d1:wr.cell? ⟨g,o+i*6+1,none⟩=some (.int .i64 nd.tok.at'):=by rw[Nat.add_assoc];exact fc 1 (by omega) _ rfl
   have d2:wr.cell? ⟨g,o+i*6+2,none⟩=some (.string (bsOf nd.tok.text)):=by rw[Nat.add_assoc];exact fc 2 (by omega) _ rfl
   have d3:wr.cell? ⟨g,o+i*6+3,none⟩=some (.int .i64 nd.ops):=by rw[Nat.add_assoc];exact fc 3 (by omega) _ rfl
   have d4:wr.cell? ⟨g,o+i*6+4,none⟩=some (.int .i64 nd.left):=by rw[Nat.add_assoc];exact fc 4 (by omega) _ rfl
   have d5:wr.cell? ⟨g,o+i*6+5,none⟩=some (.int .i64 nd.right):=by rw[Nat.add_assoc];exact fc 5 (by omega) _ rfl
   have HL2:=hideP (hw.lk.below (new_below wr (.cells #[.int .i64 (kindP nd.tok.text),.int .i64 nd.tok.at',.string (bsOf nd.tok.text),.int .i64 nd.ops,.int .i64 nd.left,.int .i64 nd.right] 154)))
   have HN2:=hideP (Blk.new wr #[.int .i64 (kindP nd.tok.text),.int .i64 nd.tok.at',.string (bsOf nd.tok.text),.int .i64 nd.ops,.int .i64 nd.left,.int .i64 nd.right] 154)
   clear hcl hseg hnd fc hw HGO
   obtain ⟨kd,hkd⟩:∃ kd,nodeK ls ks' nd=kd:=⟨_,rfl⟩
   have HKD:=hideP hkd
   rw[hkd]at HSG
   clear hkd
   by_cases hz:kd=0
   ·have hz':((kd:Int)==0)=true:=by simp;omega
    have HFZ:Hid (failK f' (kd==0) nd.tok.at'=failK f' true nd.tok.at'):=by rw[Hid,hz];rfl
    rw[HFZ.out]at HSG
    have HZ:=hideP hz
    clear hz
    go_wp2_with (first | (go_at_call 125;refine (kindOfNode_any HL2.out nd HNR.out HX.out).mono ?_;rintro e' w5 ⟨rfl,hb5⟩;have HW5:=hideP ((HW.out.step HL2.out (But2.of (new_below wr _))).step (HL2.out.below hb5) (But2.of hb5));have HN5:=hideP (HN2.out.below hb5 HN2.out.lt);have hB5:=HW5.out.lk.blk.lt;have hk5:=HW5.out.lk.row.lt;have y1:=HN5.out.cell 1;obtain ⟨x5,z1,z2,z3⟩:=HW5.out.lk.rowc hiN;simp only[List.getElem?_toArray,List.getElem?_cons_zero,List.getElem?_cons_succ]at y1;clear hb5;rw[HKD.out]) | (go_at_call 126;refine (fail_any HW5.out.lk HA.out nd.tok.at').mono ?_;rintro e' w6 ⟨rfl,hl6,hb6⟩;have HW6:=hideP (HW5.out.step hl6 hb6);have hB6:=hl6.blk.lt;obtain ⟨x6,v1,v2,v3⟩:=hl6.rowc hiN;clear hl6 hb6))
    have hfin:=HW6.out.lk.kind HA.out (by rw[HKL.out];exact hiN) kd
    rw[HKL.out]at hfin
    have HW7:=hideP (HW6.out.step hfin (But2.set2 i (.int .i64 kd)))
    clear hfin
    go_roundw
    case rel=>exact ⟨i+1,_,_,by omega,by omega,by go_num,by simp[HKL.out],HW7.out,HSG.out⟩
    case measure=>simp[intOf];omega
   ·have hz':((kd:Int)==0)=false:=by simp;omega
    have HFZ:Hid (failK f' (kd==0) nd.tok.at'=f'):=by
     rw[Hid,show (kd==0)=false by simpa using hz]
     cases f' <;> rfl
    rw[HFZ.out]at HSG
    go_wp2_with (go_at_call 125;refine (kindOfNode_any HL2.out nd HNR.out HX.out).mono ?_;rintro e' w5 ⟨rfl,hb5⟩;have HW5:=hideP ((HW.out.step HL2.out (But2.of (new_below wr _))).step (HL2.out.below hb5) (But2.of hb5));have HN5:=hideP (HN2.out.below hb5 HN2.out.lt);have hB5:=HW5.out.lk.blk.lt;have hk5:=HW5.out.lk.row.lt;have y1:=HN5.out.cell 1;obtain ⟨x5,z1,z2,z3⟩:=HW5.out.lk.rowc hiN;simp only[List.getElem?_toArray,List.getElem?_cons_zero,List.getElem?_cons_succ]at y1;clear hb5;rw[HKD.out])
    have hfin:=HW5.out.lk.kind HA.out (by rw[HKL.out];exact hiN) kd
    rw[HKL.out]at hfin
    have HW7:=hideP (HW5.out.step hfin (But2.set2 i (.int .i64 kd)))
    clear hfin
    go_roundw
    case rel=>exact ⟨i+1,_,_,by omega,by omega,by go_num,by simp[HKL.out],HW7.out,HSG.out⟩
    case measure=>simp[intOf];omega
  ·have HRES:Hid (lookGo ls ks f (segE N e)=(ks',f')):=by rw[Hid,HGO.out,seg_none N i e.behind (by omega)];rfl
   clear hw HGO
   go_wp2
   exact bodyPost_end (results_none rfl _ _ _) rfl ⟨rfl,by rw[HRES.out];exact HW.out.lk,HW.out.kp⟩
theorem lookGo_len(ls:List PLet):∀ (l:List PNode) (ks:List Nat) (f:Option Nat),(lookGo ls ks f l).1.length=ks.length+l.length
 | [],ks,f=>rfl
 | n :: r,ks,f=>by rw[lookGo,lookGo_len ls r];simp;omega
set_option maxHeartbeats 1000000 in
set_option maxRecDepth 100000 in
theorem lookFor_any{w:World}{B kb:Nat}{nv lv rv:Value}{ks:List Nat}{f:Option Nat}{N:List PNode}{ls:List PLet}{rs:List PRule}(h:LkAt w B kb nv lv rv ks f N ls rs)(ha:Apart2 B kb nv lv rv)(want:Nat)(e:PExp)(he:ExpOk N e)(he1:1≤e.behind)(hk:ks.length=e.fr)(hx:∀ p∈ls,1≤p.val.behind∧p.val.behind≤401)(hn:∀ n∈N,n.left≤1000∧n.right≤1000) :
  Calls Tryz.prog 108 #[.pointer (some ⟨B,0,none⟩),.int .i64 want,expA e] w fun e' w'=>e'=.returned (.tuple #[])∧LkAt w' B kb nv lv rv (lookFor ls N want e (ks,f)).1 (lookFor ls N want e (ks,f)).2 N ls rs∧But2 B kb w w':=by
 have hB:=h.blk.lt
 have hkb:=h.row.lt
 have HW:=hideP (LkW.mk (h.below (new_below w (.cells #[.int .i64 e.place,.int .i64 e.fr,.int .i64 e.behind] 105))) (Blk.new w #[.int .i64 e.place,.int .i64 e.fr,.int .i64 e.behind] 105) (by omega) (by omega) (But2.of (new_below w _)))
 have HA:=hideP ha
 have HX:=hideP hx
 have HN:=hideP hn
 have HE:=hideP he
 have HKS:=hideP hk
 have hbe:1≤e.behind∧e.behind≤401:=⟨he1,Nat.le_trans he.lt h.pa.nb⟩
 clear h ha hx hn hk he
 obtain ⟨st,hst⟩:∃ st,lookGo ls ks f (segE N e)=st:=⟨_,rfl⟩
 obtain ⟨ks2,f2⟩:=st
 have HST:=hideP hst
 have HLF:Hid (lookFor ls N want e (ks,f)=(ks2,failK f2 (decide (kindAt ks2 e≠want)) e.place)):=by rw[Hid,lookFor,hst]
 clear hst
 rw[HLF.out]
 obtain ⟨kd,hkd⟩:∃ kd,kindAt ks2 e=kd:=⟨_,rfl⟩
 have HKD:=hideP hkd
 rw[hkd]
 clear hkd
 by_cases hz:kd=want
 ·have hz':((kd:Int) != (want:Int))=false:=by simp;omega
  have HFZ:Hid (failK f2 (decide (kd≠want)) e.place=f2):=by
   rw[Hid,show decide (kd≠want)=false by simpa using hz]
   cases f2 <;> rfl
  rw[HFZ.out]
  unfold expA
  go_enter Tryz.func108,Tryz.ntmps108
  go_wp2_with (first | (go_at_call 107;refine (look_any HW.out.lk HA.out e HE.out HKS.out HX.out HN.out).mono ?_;rintro e' w5 ⟨rfl,hl5,hb5⟩;rw[HST.out]at hl5;have HW5:=hideP (HW.out.step hl5 hb5);have y0:=HW5.out.bx.cell 0;have y1:=HW5.out.bx.cell 1;have y2:=HW5.out.bx.cell 2;simp only[List.getElem?_toArray,List.getElem?_cons_zero,List.getElem?_cons_succ]at y0 y1 y2;clear hl5 hb5) | (go_at_call 127;refine (kindOf_any HW5.out.lk e hbe).mono ?_;rintro e' w6 ⟨rfl,hb6⟩;rw[HKD.out];have HW6:=hideP (HW5.out.step (HW5.out.lk.below hb6) (But2.of hb6));clear hb6))
  exact bodyPost_end (results_none rfl _ _ _) rfl ⟨rfl,HW6.out.lk,HW6.out.kp⟩
 ·have hz':((kd:Int) != (want:Int))=true:=by simp;omega
  have HFZ:Hid (failK f2 (decide (kd≠want)) e.place=failK f2 true e.place):=by rw[Hid,show decide (kd≠want)=true by simpa using hz]
  rw[HFZ.out]
  unfold expA
  go_enter Tryz.func108,Tryz.ntmps108
  go_wp2_with (first | (go_at_call 107;refine (look_any HW.out.lk HA.out e HE.out HKS.out HX.out HN.out).mono ?_;rintro e' w5 ⟨rfl,hl5,hb5⟩;rw[HST.out]at hl5;have HW5:=hideP (HW.out.step hl5 hb5);have y0:=HW5.out.bx.cell 0;have y1:=HW5.out.bx.cell 1;have y2:=HW5.out.bx.cell 2;simp only[List.getElem?_toArray,List.getElem?_cons_zero,List.getElem?_cons_succ]at y0 y1 y2;clear hl5 hb5) | (go_at_call 127;refine (kindOf_any HW5.out.lk e hbe).mono ?_;rintro e' w6 ⟨rfl,hb6⟩;rw[HKD.out];have HW6:=hideP (HW5.out.step (HW5.out.lk.below hb6) (But2.of hb6));clear hb6;have v0:=HW6.out.bx.cell 0;simp only[List.getElem?_toArray,List.getElem?_cons_zero,List.getElem?_cons_succ]at v0) | (go_at_call 126;refine (fail_any HW6.out.lk HA.out e.place).mono ?_;rintro e' w7 ⟨rfl,hl7,hb7⟩;have HW7:=hideP (HW6.out.step hl7 hb7);clear hl7 hb7))
  exact bodyPost_end (results_none rfl _ _ _) rfl ⟨rfl,HW7.out.lk,HW7.out.kp⟩
def ConsL:Nat→List PLet→Prop
 | _,[]=>True
 | b,p :: r=>p.val.fr=b∧b<p.val.behind∧ConsL p.val.behind r
def endL:Nat→List PLet→Nat
 | b,[]=>b
 | _,p :: r=>endL p.val.behind r
def ConsR:Nat→List PRule→Prop
 | _,[]=>True
 | b,p :: r=>(p.hw=true→p.when.fr=b∧b<p.when.behind)∧(p.hs=true→p.score.fr=(if p.hw then p.when.behind else b)∧p.score.fr<p.score.behind)∧ConsR (if p.hs then p.score.behind else if p.hw then p.when.behind else b) r
theorem cons_lets:∀ (L:List RSt),(∀ s∈L,s.wf)→isLetL' L→∀ b,ConsL b (letsS b L)∧endL b (letsS b L)=b+numS L
 | [],_,_,b=>⟨trivial,rfl⟩
 | s :: r,hw,hl,b=>by
  rcases s.cases with ⟨kw,name,eq,e,semi,rfl⟩ | ⟨wh,act,sc,semi,rfl⟩
  ·obtain ⟨h1,h2⟩:=cons_lets r (fun x hx=>hw x (by simp[hx])) (fun x hx=>hl x (by simp[hx])) (b+e.num)
   have hp:=e.num_pos (hw _ List.mem_cons_self).2.2.2.1
   rw[letsS,RSt.lets_let,RSt.num_let,List.singleton_append,numS,RSt.num_let]
   exact ⟨⟨rfl,by simp[layE];omega,h1⟩,by rw[endL];show endL (b+e.num) _=_;rw[h2];omega⟩
  ·have:=hl _ List.mem_cons_self;cases this
theorem cons_rules:∀ (R:List RSt),(∀ s∈R,s.wf)→isRuleL' R→∀ b,ConsR b (rulesS b R)
 | [],_,_,b=>trivial
 | s :: r,hw,hl,b=>by
  rcases s.cases with ⟨kw,name,eq,e,semi,rfl⟩ | ⟨wh,act,sc,semi,rfl⟩
  ·have:=hl _ List.mem_cons_self;cases this
  ·have ih:=cons_rules r (fun x hx=>hw x (by simp[hx])) (fun x hx=>hl x (by simp[hx])) (b+(RSt.rule wh act sc semi).num)
   have hws:=hw _ List.mem_cons_self
   rw[RSt.num_rule]at ih
   rw[rulesS,RSt.rules_rule,RSt.num_rule,List.singleton_append]
   cases wh with
   | none =>
    cases sc with
    | none=>exact ⟨fun h=>(by cases h),fun h=>(by cases h),by simpa[optNum] using ih⟩
    | some e =>
     have hp:=e.num_pos (hws.2.2.1 e rfl)
     exact ⟨fun h=>(by cases h),fun _=>⟨by simp[optE,layE,optNum],by simp[optE,layE,optNum];omega⟩,by simpa[optNum,optE,layE] using ih⟩
   | some p =>
    obtain ⟨k,e1⟩:=p
    have hp1:=e1.num_pos (hws.1 k e1 rfl).2
    cases sc with
    | none=>exact ⟨fun _=>⟨by simp[optE,layE],by simp[optE,layE];omega⟩,fun h=>(by cases h),by simpa[optNum,optE,layE] using ih⟩
    | some e =>
     have hp:=e.num_pos (hws.2.2.1 e rfl)
     exact ⟨fun _=>⟨by simp[optE,layE],by simp[optE,layE];omega⟩,fun _=>⟨by simp[optE,layE,optNum],by simp[optE,layE,optNum];omega⟩,by simpa[optNum,optE,layE,Nat.add_assoc] using ih⟩
structure Fits(N:List PNode)(ls:List PLet)(rs:List PRule):Prop where
 x:ExpsOk N ls rs
 l:ConsL 0 ls
 r:ConsR (endL 0 ls) rs
 n:∀ n∈N,n.left≤1000∧n.right≤1000
theorem consL_pos:∀ (ls:List PLet) (b:Nat),ConsL b ls→∀ p∈ls,1≤p.val.behind
 | [],_,_,p,hp=>by cases hp
 | q :: r,b,h,p,hp=>by
  obtain ⟨h1,h2,h3⟩:=h
  simp only[List.mem_cons]at hp
  rcases hp with rfl | hp
  ·omega
  ·exact consL_pos r _ h3 p hp
theorem Fits.lets{N:List PNode}{ls:List PLet}{rs:List PRule}(h:Fits N ls rs)(hN:N.length≤401):∀ p∈ls,1≤p.val.behind∧p.val.behind≤401 :=
 fun p hp=>⟨consL_pos ls 0 h.l p hp,Nat.le_trans (h.x.l p hp).lt hN⟩
theorem seg_len{N:List PNode}{e:PExp}(h:ExpOk N e):(segE N e).length=e.behind-e.fr:=by
 have h1:=h.le
 have h2:=h.lt
 simp[segE];omega
theorem look_len{ls:List PLet}{N:List PNode}{e:PExp}{ks:List Nat}{f:Option Nat}(h:ExpOk N e)(hk:ks.length=e.fr):(lookGo ls ks f (segE N e)).1.length=e.behind:=by
 rw[lookGo_len,seg_len h,hk]
 have:=h.le
 omega
end Go.Proofs.YtpcjadaeolkngaaGreatDoor
