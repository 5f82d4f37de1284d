/-
  The program's reader: a node more.
-/
import Derived.Test.YtgfnkeiigjholaaGreatDoorQ20
import Derived.Deep.AppendLies
set_option linter.unusedVariables false
set_option linter.unusedSimpArgs false
namespace Go.Proofs.YtgfnkeiigjholaaGreatDoor
open Go.RowKit Go.Deep
theorem one_nod(n:PNode):∀ u∈cellN n,u.oneCell'=true:=by
 intro u hu
 simp[cellN]at hu
 rcases hu with rfl | rfl | rfl | rfl | rfl | rfl <;> rfl
theorem cellsN_snoc(l:List PNode)(n:PNode):cellsN (l++[n])=cellsN l++cellN n:=by simp[cellsN]
theorem rd_added{w w3:World}{B:Nat}{S:RS}{n:PNode}{v:Value}{kd:Nat}(h:RdAt w B S)(ho:w3.ownsRow (B+1) 175 6 v (S.ns.length+1) (cellsN S.ns++[.int .i64 kd,.int .i64 n.tok.at',.string (bsOf n.tok.text),.int .i64 n.ops,.int .i64 n.left,.int .i64 n.right]))(hg:w.grownBy w3 S.nv.ownBlock)(hkd:kindP n.tok.text=kd)(hn:S.ns.length+1≤S.k) :
  RdAt (w3.setCell ⟨B,4,none⟩ v) B { S with nv:=v,ns:=S.ns++[n] }∧KeepN B w (w3.setCell ⟨B,4,none⟩ v):=by
 have hk:=KeepN.grown h.ond hg
 have hneB:some B≠S.nv.ownBlock:=by intro e;have:=(h.ond.lt B e.symm).1;omega
 have hb:Blk w3 B #[S.tv,.int .i64 S.k,.int .i64 S.d,.bool S.f,S.nv,S.lv,S.rv] 105:=by
  unfold Blk;rw[hg.block B h.blk.lt hneB];exact h.blk
 subst hkd
 refine ⟨⟨hb.set 4 v,own_set (own_keepN h.otk h.blk (by decide) (by decide) hk) hb (by decide), ?_,own_set (own_keepN h.olt h.blk (by decide) (by decide) hk) hb (by decide),own_set (own_keepN h.orl h.blk (by decide) (by decide) hk) hb (by decide),h.kt,h.tl,by simpa using hn,h.dl⟩,hk.trans (KeepN.set B 4 v)⟩
 have:=own_set (i:=4) (u:=v) ho hb (by decide)
 simpa[cellsN_snoc,cellN] using this
set_option maxHeartbeats 2000000 in
set_option maxRecDepth 100000 in
theorem add_any(B:Nat)(S:RS)(w:World)(h:RdAt w B S)(n:PNode)(hn:S.ns.length+1≤S.k) :
  Calls Tryz.prog 182 #[.pointer (some ⟨B,0,none⟩),nodA n] w fun e w'=>e=.returned (.int .i64 (S.ns.length:Nat))∧(∃ nv,RdAt w' B { S with nv:=nv,ns:=S.ns++[n] })∧KeepN B w w':=by
 obtain ⟨i0,hi,hz0,hz1,hz2⟩:=info_parts Tryz.infoNode
 have HR:=hideP h
 have hB:=h.blk.lt
 have htl:=h.tl
 have hkt:=h.kt
 have c4:=h.blk.cell 4
 have f4:=h.blk.free 4
 simp only[List.getElem?_toArray,List.getElem?_cons_zero,List.getElem?_cons_succ]at c4
 have hOn:=h.ond
 clear h
 unfold nodA
 generalize hkd:kindP n.tok.text=kd
 have HKD:=hideP hkd
 clear hkd
 go_enter Tryz.func182,Tryz.ntmps182
 go_wp2
 have hneB:S.nv.ownBlock≠some B:=by intro e;have:=(hOn.lt B e).1;omega
 have HW:=hideP (((HR.out.alloc (.cells #[.int .i64 kd,.int .i64 n.tok.at',.string (bsOf n.tok.text),.int .i64 n.ops,.int .i64 n.left,.int .i64 n.right] 175)).alloc (.cells #[.int .i64 kd,.int .i64 n.tok.at',.string (bsOf n.tok.text),.int .i64 n.ops,.int .i64 n.left,.int .i64 n.right] 175)).drew)
 have hone:∀ u∈[Value.int .i64 kd,.int .i64 n.tok.at',.string (bsOf n.tok.text),.int .i64 n.ops,.int .i64 n.left,.int .i64 n.right],u.oneCell'=true:=by have:=one_nod n;unfold cellN at this;rw[HKD.out]at this;exact this
 have h63:S.ns.length+1≤maxLen:=by unfold maxLen;omega
 have hnb:=Blk.new (w.alloc (.cells #[.int .i64 kd,.int .i64 n.tok.at',.string (bsOf n.tok.text),.int .i64 n.ops,.int .i64 n.left,.int .i64 n.right] 175)) #[.int .i64 kd,.int .i64 n.tok.at',.string (bsOf n.tok.text),.int .i64 n.ops,.int .i64 n.left,.int .i64 n.right] 175
 rw[show (w.alloc (.cells #[.int .i64 kd,.int .i64 n.tok.at',.string (bsOf n.tok.text),.int .i64 n.ops,.int .i64 n.left,.int .i64 n.right] 175)).heap.size=w.heap.size+1 from by simp]at hnb
 have hnews:∀ j u,[Value.int .i64 kd,.int .i64 n.tok.at',.string (bsOf n.tok.text),.int .i64 n.ops,.int .i64 n.left,.int .i64 n.right][j]?=some u→(((w.alloc (.cells #[.int .i64 kd,.int .i64 n.tok.at',.string (bsOf n.tok.text),.int .i64 n.ops,.int .i64 n.left,.int .i64 n.right] 175)).alloc (.cells #[.int .i64 kd,.int .i64 n.tok.at',.string (bsOf n.tok.text),.int .i64 n.ops,.int .i64 n.left,.int .i64 n.right] 175)).drew).cell? ((⟨w.heap.size+1,0,none⟩:Addr).add j)=some u:=World.news_of_block (cs:=#[.int .i64 kd,.int .i64 n.tok.at',.string (bsOf n.tok.text),.int .i64 n.ops,.int .i64 n.left,.int .i64 n.right]) (t:=175) (fr:=(0,0)) hnb
 go_region_law ((refine step_append_lies _ (by rfl) _ _ _ (by rfl) (B+1) 175 i0 _ 6 56 Tryz.underlying60 hi hz0 hz1 hz2 rfl (by omega) S.nv S.ns.length (cellsN S.ns) (by rfl) HW.out.ond ⟨w.heap.size+1,0,none⟩ 1 1 [.int .i64 kd,.int .i64 n.tok.at',.string (bsOf n.tok.text),.int .i64 n.ops,.int .i64 n.left,.int .i64 n.right] (by rfl) (by rfl) hnews hone (by omega) h63 (by omega) (by simp <;> omega) (w.heap.size+1+1) (by simp) ?_;intro gg cap w3 hown3 hgrow hat hlt4;have f3:w3.frozen? ⟨B,4,none⟩=false:=(hgrow.frozen_far _ (by simp <;> omega) (Ne.symm hneB)).trans (HW.out.blk.free 4);have c3:w3.cell? ⟨B,4,none⟩=some S.nv:=(hgrow.cell_far _ (by simp <;> omega) (Ne.symm hneB)).trans (HW.out.blk.cell 4)))
 all_goals
  have R:=rd_added HW.out hown3 hgrow HKD.out hn
  clear hnews hnb hone hown3 hgrow
  go_wp2
  go_ret
  exact ⟨ret_int (by omega),⟨_,R.1⟩,(KeepN.of (below_drewN (((Below.refl _ w).alloc (Nat.le_refl _) _).alloc (by simp) _) 1)).trans R.2⟩
structure LeftR(S:RS)(l:List RTok):Prop where
  eq:∃ E,S.T.drop S.k=l++[⟨[],E⟩]
  may:∀ t∈l,mayT t.text=true
theorem LeftR.len{S:RS}{l:List RTok}(h:LeftR S l)(hk:S.k<S.T.length):S.k+l.length+1=S.T.length:=by
  obtain ⟨E,e⟩:=h.eq
  have:=congrArg List.length e
  simp at this
  omega
theorem LeftR.head{S:RS}{a:RTok}{r:List RTok}(h:LeftR S (a :: r)):S.T[S.k]?=some a:=by
  obtain ⟨E,e⟩:=h.eq
  have:=congrArg (fun x=>x[0]?) e
  simpa using this
theorem LeftR.nil{S:RS}(h:LeftR S []):∃ E,S.T[S.k]?=some ⟨[],E⟩:=by
  obtain ⟨E,e⟩:=h.eq
  have:=congrArg (fun x=>x[0]?) e
  exact ⟨E,by simpa using this⟩
theorem LeftR.drop{S:RS}{l:List RTok}(h:LeftR S l){j:Nat}(hj:j≤l.length)(S':RS)(hT:S'.T=S.T)(hk:S'.k=S.k+j):LeftR S' (l.drop j):=by
  obtain ⟨E,e⟩:=h.eq
  refine ⟨⟨E, ?_⟩,fun t ht=>h.may t (List.mem_of_mem_drop ht)⟩
  rw[hT,hk,← List.drop_drop,e,List.drop_append_of_le_length hj]
theorem LeftR.next{S:RS}{a:RTok}{r:List RTok}(h:LeftR S (a :: r))(S':RS)(hT:S'.T=S.T)(hk:S'.k=S.k+1):LeftR S' r:=by
  have:=h.drop (j:=1) (by simp) S' hT hk
  simpa using this
theorem LeftR.behind{S:RS}{l rest:List RTok}{t:Tr}{d:Nat}(h:LeftR S l)(g:GotO d l t rest)(S':RS)(hT:S'.T=S.T)(hk:S'.k=S.k+t.toks.length):LeftR S' rest:=by
  have:=h.drop (j:=t.toks.length) (by rw[g.eq];simp) S' hT hk
  rw[g.eq]at this
  simpa using this
theorem kindP_nil:kindP []=0:=by decide
theorem cur_at{S:RS}{t:RTok}(ht:S.T[S.k]?=some t):∃ hk:S.k<S.T.length,S.T[S.k]=t:=by
  rw[List.getElem?_eq_some_iff]at ht;exact ht
theorem current_at{B:Nat}{S:RS}{w:World}(h:RdAt w B S){t:RTok}(ht:S.T[S.k]?=some t) :
    Calls Tryz.prog 55 #[.pointer (some ⟨B,0,none⟩)] w fun e w'=>e=.returned (tokA t)∧Below w.heap.size w w':=by
  obtain ⟨hk,rfl⟩:=cur_at ht
  exact current_any B S w h hk
theorem sees_at{B:Nat}{S:RS}{w:World}(h:RdAt w B S){t:RTok}(ht:S.T[S.k]?=some t)(n:Nat) :
    Calls Tryz.prog 91 #[.pointer (some ⟨B,0,none⟩),.int .i64 n] w fun e w'=>e=.returned (.bool (!S.f&&kindP t.text==n))∧Below w.heap.size w w':=by
  obtain ⟨hk,rfl⟩:=cur_at ht
  exact sees_any B S w h hk n
theorem take_at{B:Nat}{S:RS}{w:World}(h:RdAt w B S){a:RTok}{r:List RTok}(hl:LeftR S (a :: r))(n:Nat)(hs:S.f=false)(hn:kindP a.text=n) :
    Calls Tryz.prog 136 #[.pointer (some ⟨B,0,none⟩),.int .i64 n] w fun e w'=>e=.returned (.tuple #[])∧RdAt w' B { S with k:=S.k+1 }∧KeepN B w w':=by
  obtain ⟨hk,he⟩:=cur_at hl.head
  have hlen:=hl.len hk
  exact take_yes B S w h hk n hs (by rw[he];exact hn) (by simp at hlen;omega)
theorem take_not{B:Nat}{S:RS}{w:World}(h:RdAt w B S){t:RTok}(ht:S.T[S.k]?=some t)(n:Nat)(hs:S.f=true∨kindP t.text≠n) :
    Calls Tryz.prog 136 #[.pointer (some ⟨B,0,none⟩),.int .i64 n] w fun e w'=>e=.returned (.tuple #[])∧RdAt w' B { S with f:=true }∧KeepN B w w':=by
  obtain ⟨hk,rfl⟩:=cur_at ht
  exact take_no B S w h hk n hs
theorem binding_at{B:Nat}{S:RS}{w:World}(h:RdAt w B S){t:RTok}(ht:S.T[S.k]?=some t) :
    Calls Tryz.prog 181 #[.pointer (some ⟨B,0,none⟩)] w fun e w'=>e=.returned (.int .i64 ((if S.f then 0 else bindK (kindP t.text):Nat):Int))∧Below w.heap.size w w':=by
  obtain ⟨hk,rfl⟩:=cur_at ht
  exact currentBinding_any B S w h hk
theorem RdAt.cur{w:World}{B:Nat}{S:RS}(h:RdAt w B S):∃ t,S.T[S.k]?=some t:=⟨_,List.getElem?_eq_getElem h.kt⟩
def OutE(P:Tr→List RTok→Prop)(B:Nat)(S:RS)(l:List RTok)(w w':World)(e:Ending):Prop :=
  KeepN B w w' ∧
  ((∃ t rest nv,GotO S.d l t rest∧P t rest∧RdAt w' B { S with k:=S.k+t.toks.length,nv:=nv,ns:=S.ns++t.flat S.ns.length }∧e=.returned (.int .i64 ((S.ns.length+t.num-1:Nat):Int))) ∨
   (∃ j nv ns x,BadV S.d l j∧ns.length≤S.ns.length+j∧RdAt w' B { S with k:=S.k+j,f:=true,nv:=nv,ns:=ns }∧e=.returned (.int .i64 ((x:Nat):Int))))
structure RdW(w0 w:World)(B:Nat)(S:RS)(nb:Nat)(t:RTok):Prop where
  rd:RdAt w B S
  tk:Blk w nb #[.int .i64 (kindP t.text),.int .i64 t.at',.string (bsOf t.text)] 107
  ne:nb≠B
  kp:KeepN B w0 w
theorem RdW.step{w0 w w':World}{B nb:Nat}{S S':RS}{t:RTok}(h:RdW w0 w B S nb t)(hr:RdAt w' B S')(hk:KeepN B w w'):RdW w0 w' B S' nb t :=
  ⟨hr,h.tk.keepN hk h.ne (by decide),h.ne,h.kp.trans hk⟩
theorem RdW.start{w w1:World}{B:Nat}{S:RS}(h:RdAt w1 B S)(hb:Below w.heap.size w w1)(t:RTok):RdW w (w1.alloc (.cells #[.int .i64 (kindP t.text),.int .i64 t.at',.string (bsOf t.text)] 107)) B S w1.heap.size t :=
  ⟨h.alloc _,Blk.new _ _ _,by have:=h.blk.lt;omega,(KeepN.of hb).trans (KeepN.of (new_below _ _))⟩
theorem RdW.cells{w0 w:World}{B nb:Nat}{S:RS}{t:RTok}(h:RdW w0 w B S nb t):w.cell? ⟨nb,0,none⟩=some (.int .i64 (kindP t.text))∧w.cell? ⟨nb,1,none⟩=some (.int .i64 t.at')∧w.cell? ⟨nb,2,none⟩=some (.string (bsOf t.text))∧w.cell? ⟨B,2,none⟩=some (.int .i64 S.d)∧w.cell? ⟨B,3,none⟩=some (.bool S.f)∧w.frozen? ⟨B,3,none⟩=false :=
  ⟨h.tk.cell 0,h.tk.cell 1,h.tk.cell 2,h.rd.blk.cell 2,h.rd.blk.cell 3,h.rd.blk.free 3⟩
set_option maxHeartbeats 1000000 in
theorem operand_failed{B:Nat}{S:RS}{w:World}(h:RdAt w B S)(hf:S.f=true) :
    Calls Tryz.prog 180 #[.pointer (some ⟨B,0,none⟩)] w fun e w'=>e=.returned (.int .i64 0)∧Below w.heap.size w w':=by
  obtain ⟨t,ht⟩:=h.cur
  have HR:=hideP h
  have HT:=hideP ht
  have hB:=h.blk.lt
  have HF:=hideP hf
  clear h ht hf
  go_enter Tryz.func180,Tryz.ntmps180
  go_wp2_with (go_at_call 55;refine (current_at HR.out HT.out).mono ?_;rintro e w1 ⟨rfl,hb1⟩;unfold tokA;have hB1:=(HR.out.below hb1).blk.lt;have c3:=(HR.out.below hb1).blk.cell 3;simp only[List.getElem?_toArray,List.getElem?_cons_zero,List.getElem?_cons_succ]at c3;rw[HF.out]at c3)
  go_ret
  exact ⟨rfl,hb1.alloc (by have:=hb1.size;omega) _⟩
set_option maxHeartbeats 1000000 in
theorem binding_failed{B:Nat}{S:RS}{w:World}(h:RdAt w B S)(hf:S.f=true)(n:Nat) :
    Calls Tryz.prog 160 #[.pointer (some ⟨B,0,none⟩),.int .i64 n] w fun e w'=>e=.returned (.int .i64 0)∧Below w.heap.size w w':=by
  obtain ⟨t,ht⟩:=h.cur
  have HR:=hideP h
  have HT:=hideP ht
  have hB:=h.blk.lt
  have HF:=hideP hf
  clear h ht hf
  go_enter Tryz.func160,Tryz.ntmps160
  go_wp2_with (first | (go_at_call 180;refine (operand_failed HR.out HF.out).mono ?_;rintro e w1 ⟨rfl,hb1⟩;replace HR:=hideP (HR.out.below hb1)) | (go_at_call 181;refine (binding_at HR.out HT.out).mono ?_;rintro e w2 ⟨rfl,hb2⟩;rw[HF.out];simp only[if_true];replace HR:=hideP (HR.out.below hb2)))
  go_loopw [5,6] (fun vl vb wr=>vl=.int .i64 0∧vb=.int .i64 0∧Below w.heap.size w wr) (fun _ _ _=>0)
  case atStart=>exact ⟨rfl,rfl,hb1.trans (hb2.mono hb1.size)⟩
  case round =>
    obtain ⟨rfl,rfl,hbw⟩:=hrel
    go_wp2
    go_ret
    exact ⟨rfl,hbw⟩
end Go.Proofs.YtgfnkeiigjholaaGreatDoor
