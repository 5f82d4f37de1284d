/-
  For every script, Compiles answers true: each Compile of it, of any text, tells the error and the place that the document says, twice alike; without an error it makes an image which, for the step's item and bin, ends by the document's machine as the document says that the policy does, with at most its plain steps; and the script reads afterwards as it read before. Its condition: the listed package-level variables hold what the program's text lays, which the card ties to that text.
-/
import Derived.Test.YtldfkcpbjooemaaGreatDoorG52
import Derived.Test.YtldfkcpbjooemaaGreatDoorTie
import Derived.Test.YtldfkcpbjooemaaGreatDoorCards
import Derived.SevenTiedAt
set_option linter.unusedVariables false
set_option linter.unusedSimpArgs false
namespace Go.Proofs.YtldfkcpbjooemaaGreatDoor
open Go.RowKit Go.ChangeShapes Go.WideShapes Go.ChangeAt
theorem cellsStr:Tryz.prog.cellsOf 9=1:=by kernel_rfl
theorem cellsOpr:Tryz.prog.cellsOf 30=13:=by kernel_rfl
section
variable {H:Type} {enc:TypeId × Value→H} {W:World} {b:Nat} {sp:Nat→Bool} {hd:Bool}
theorem int_at {n k o:Nat} {cs:List Value} {y:DataW H × List MemPlace} (h:DataW.trod enc Tryz.prog W b sp hd n 3 ((cs.drop o).take k)=some y) (hk:k=1):∃ z,cs[o]?=some (Value.int .i64 z):=by
 subst hk
 obtain ⟨z,e1,_,_⟩:=DataW.trod_int Tryz.underlying3 h
 refine ⟨z, ?_⟩
 have h3:((cs.drop o).take 1)[0]?=some (Value.int .i64 z):=by rw[e1];rfl
 rw[List.getElem?_take,if_pos (by omega),List.getElem?_drop] at h3
 simpa using h3
theorem str_at {n k o:Nat} {cs:List Value} {y:DataW H × List MemPlace} (h:DataW.trod enc Tryz.prog W b sp hd n 9 ((cs.drop o).take k)=some y) (hk:k=1):∃ s:ByteArray,cs[o]?=some (Value.string s)∧s.size≤maxLen:=by
 subst hk
 obtain ⟨s,e1,e2,hs⟩:=DataW.trod_string Tryz.underlying9 h
 refine ⟨s, ?_,hs⟩
 have h3:((cs.drop o).take 1)[0]?=some (Value.string s):=by rw[e1];rfl
 rw[List.getElem?_take,if_pos (by omega),List.getElem?_drop] at h3
 simpa using h3
theorem sub_get {cs:List Value} {o k j:Nat} {v:Value} (h:((cs.drop o).take k)[j]?=some v):cs[o+j]?=some v:=by
 rw[List.getElem?_take] at h
 split at h
 ·rw[List.getElem?_drop] at h;exact h
 ·cases h
theorem item_at {n k o:Nat} {cs:List Value} {y:DataW H × List MemPlace} (h:DataW.trod enc Tryz.prog W b sp hd n 26 ((cs.drop o).take k)=some y) :
  ∃ x:Itm,cs[o]?=some (Value.int .i64 x.size)∧cs[o+1]?=some (Value.int .i64 x.speed)∧cs[o+2]?=some (Value.int .i64 x.need):=by
 obtain ⟨xs,m,rfl,_,hl,hxl,hel⟩:=DataW.trod_struct Tryz.underlying26 h
 have hx:∀ i,i < xs.length→∃ z,xs[i]?=some z:=fun i hi=>⟨_,List.getElem?_eq_getElem hi⟩
 simp only[List.size_toArray,List.length_cons,List.length_nil] at hxl
 have f0:=hel 0 _ rfl
 have f1:=hel 1 _ rfl
 have f2:=hel 2 _ rfl
 obtain ⟨y0,g0⟩:=hx 0 (by omega)
 rw[g0] at f0
 obtain ⟨y1,g1⟩:=hx 1 (by omega)
 rw[g1] at f1
 obtain ⟨y2,g2⟩:=hx 2 (by omega)
 rw[g2] at f2
 obtain ⟨z0,e0⟩:=int_at f0 cellsInt
 obtain ⟨z1,e1⟩:=int_at f1 cellsInt
 obtain ⟨z2,e2⟩:=int_at f2 cellsInt
 exact ⟨⟨z0,z1,z2⟩,sub_get e0,sub_get e1,sub_get e2⟩
theorem bin_at {n k o:Nat} {cs:List Value} {y:DataW H × List MemPlace} (h:DataW.trod enc Tryz.prog W b sp hd n 28 ((cs.drop o).take k)=some y) :
  ∃ x:Bn,cs[o]?=some (Value.int .i64 x.id)∧cs[o+1]?=some (Value.int .i64 x.zone)∧cs[o+2]?=some (Value.int .i64 x.cap)∧cs[o+3]?=some (Value.int .i64 x.used)∧cs[o+4]?=some (Value.int .i64 x.has):=by
 obtain ⟨xs,m,rfl,_,hl,hxl,hel⟩:=DataW.trod_struct Tryz.underlying28 h
 have hx:∀ i,i < xs.length→∃ z,xs[i]?=some z:=fun i hi=>⟨_,List.getElem?_eq_getElem hi⟩
 simp only[List.size_toArray,List.length_cons,List.length_nil] at hxl
 have f0:=hel 0 _ rfl
 have f1:=hel 1 _ rfl
 have f2:=hel 2 _ rfl
 have f3:=hel 3 _ rfl
 have f4:=hel 4 _ rfl
 obtain ⟨y0,g0⟩:=hx 0 (by omega)
 rw[g0] at f0
 obtain ⟨y1,g1⟩:=hx 1 (by omega)
 rw[g1] at f1
 obtain ⟨y2,g2⟩:=hx 2 (by omega)
 rw[g2] at f2
 obtain ⟨y3,g3⟩:=hx 3 (by omega)
 rw[g3] at f3
 obtain ⟨y4,g4⟩:=hx 4 (by omega)
 rw[g4] at f4
 obtain ⟨z0,e0⟩:=int_at f0 cellsInt
 obtain ⟨z1,e1⟩:=int_at f1 cellsInt
 obtain ⟨z2,e2⟩:=int_at f2 cellsInt
 obtain ⟨z3,e3⟩:=int_at f3 cellsInt
 obtain ⟨z4,e4⟩:=int_at f4 cellsInt
 exact ⟨⟨z0,z1,z2,z3,z4⟩,sub_get e0,sub_get e1,sub_get e2,sub_get e3,sub_get e4⟩
set_option maxRecDepth 100000 in
theorem opr_of {n:Nat} {cs:List Value} {y:DataW H × List MemPlace} (h:DataW.trod enc Tryz.prog W b sp hd n 30 cs=some y):∃ o:Opr,o.Fit∧∀ (j:Nat) (u:Value),(oprCells o)[j]?=some u→cs[j]?=some u:=by
 obtain ⟨xs,m,rfl,_,hl,hxl,hel⟩:=DataW.trod_struct Tryz.underlying30 h
 have hx:∀ i,i < xs.length→∃ z,xs[i]?=some z:=fun i hi=>⟨_,List.getElem?_eq_getElem hi⟩
 simp only[List.size_toArray,List.length_cons,List.length_nil] at hxl
 have f0:=hel 0 _ rfl
 have f1:=hel 1 _ rfl
 have f2:=hel 2 _ rfl
 have f3:=hel 3 _ rfl
 have f4:=hel 4 _ rfl
 have f5:=hel 5 _ rfl
 have f6:=hel 6 _ rfl
 obtain ⟨y0,g0⟩:=hx 0 (by omega)
 rw[g0] at f0
 obtain ⟨y1,g1⟩:=hx 1 (by omega)
 rw[g1] at f1
 obtain ⟨y2,g2⟩:=hx 2 (by omega)
 rw[g2] at f2
 obtain ⟨y3,g3⟩:=hx 3 (by omega)
 rw[g3] at f3
 obtain ⟨y4,g4⟩:=hx 4 (by omega)
 rw[g4] at f4
 obtain ⟨y5,g5⟩:=hx 5 (by omega)
 rw[g5] at f5
 obtain ⟨y6,g6⟩:=hx 6 (by omega)
 rw[g6] at f6
 obtain ⟨z0,e0⟩:=int_at f0 cellsInt
 obtain ⟨z1,e1⟩:=int_at f1 cellsInt
 obtain ⟨z2,e2⟩:=int_at f2 cellsInt
 obtain ⟨z3,e3⟩:=int_at f3 cellsInt
 obtain ⟨s,e4,hs⟩:=str_at f4 cellsStr
 obtain ⟨x,e5,e6,e7⟩:=item_at f5
 obtain ⟨q,e8,e9,e10,e11,e12⟩:=bin_at f6
 refine ⟨⟨z0,z1,z2,z3,s,x,q⟩,hs,fun j u hj=>?_⟩
 match j,hj with
 | 0,hj=>cases hj;exact e0
 | 1,hj=>cases hj;exact e1
 | 2,hj=>cases hj;exact e2
 | 3,hj=>cases hj;exact e3
 | 4,hj=>cases hj;exact e4
 | 5,hj=>cases hj;exact e5
 | 6,hj=>cases hj;exact e6
 | 7,hj=>cases hj;exact e7
 | 8,hj=>cases hj;exact e8
 | 9,hj=>cases hj;exact e9
 | 10,hj=>cases hj;exact e10
 | 11,hj=>cases hj;exact e11
 | 12,hj=>cases hj;exact e12
set_option maxRecDepth 100000 in
theorem script_of {r:Reach} {b0:Nat} {v:Value} {d:DataW H} {ps:List MemPlace} (hval:Value.okWide Tryz.prog W r b0 22 v) (h:DataW.Trod enc Tryz.prog W 0 sp hd 22 v d ps):∃ n os,n≤maxLen∧Script W v n os:=by
 obtain ⟨a0,len,cap,rfl⟩:=okWide_slice Tryz.underlying22 hval
 obtain ⟨fuel,hf⟩:=h
 rcases DataW.trod_slice Tryz.underlying22 hf with ⟨hcs,_⟩ | ⟨a,len',cap',elems,rest,n,rfl,hcs,hx,hb,hl,hm,hlen,hel,_,_⟩
 ·simp[Value.cells] at hcs
  obtain ⟨rfl,rfl,rfl⟩:=hcs
  exact ⟨0,fun _=>⟨0,0,0,0,⟨#[]⟩,⟨0,0,0⟩,⟨0,0,0,0,0⟩⟩,Nat.zero_le _,.inl ⟨⟨_,_,rfl⟩,rfl⟩⟩
 simp[Value.cells] at hcs
 obtain ⟨rfl,rfl,rfl⟩:=hcs
 have hex:∀ i,∃ o:Opr,i < len→o.Fit∧∀ (j:Nat) (u:Value),(oprCells o)[j]?=some u→W.cell? ((a.add (i * 13)).add j)=some u:=by
  intro i
  by_cases hi:i < len
  ·have h1:=hel i hi
   rw[cellsOpr,List.getElem?_eq_getElem (by omega:i < elems.length)] at h1
   obtain ⟨cs',h2,h3⟩:=Option.bind_eq_some_iff.1 h1
   obtain ⟨_,hcl,hcc⟩:=World.cells?_some h2
   obtain ⟨o,ho,hoc⟩:=opr_of h3
   refine ⟨o,fun _=>⟨ho,fun j u hj=>?_⟩⟩
   have hj13:j < 13:=by have:=(List.getElem?_eq_some_iff.1 hj).1;simpa[oprCells] using this
   rw[hcc j hj13]
   exact hoc j u hj
  ·exact ⟨⟨0,0,0,0,⟨#[]⟩,⟨0,0,0⟩,⟨0,0,0,0,0⟩⟩,fun h=>absurd h hi⟩
 by_cases h0:len=0
 ·subst h0
  exact ⟨0,fun _=>⟨0,0,0,0,⟨#[]⟩,⟨0,0,0⟩,⟨0,0,0,0,0⟩⟩,Nat.zero_le _,.inl ⟨⟨_,_,rfl⟩,rfl⟩⟩
 have hos:=fun i=>Classical.choose_spec (hex i)
 refine ⟨len,fun i=>Classical.choose (hex i),by omega, ?_⟩
 obtain ⟨bk,off,spot⟩:=a
 have hc0:=(hos 0 (by omega)).2 0 _ rfl
 have hspot:spot=none:=by simpa[Addr.add] using World.cell?_spot hc0
 subst hspot
 have hbk:bk < W.heap.size:=by
  by_cases h:bk < W.heap.size
  ·exact h
  ·simp[World.cell?,Addr.add,Array.getElem?_eq_none (by omega:W.heap.size≤bk)] at hc0
 refine .inr ⟨bk,off,cap,rfl,hbk,fun i hi=>⟨(hos i hi).1,fun j u hj=>?_⟩⟩
 have:=(hos i hi).2 j u hj
 rw[add_plain,add_plain] at this
 exact this
end
end Go.Proofs.YtldfkcpbjooemaaGreatDoor
namespace Go.Proofs.YtldfkcpbjooemaaGreatDoor
open Go.RowKit Go.ChangeShapes Go.WideShapes Go.ChangeAt
structure GlobV (w:World):Prop where
 t:GlobT w
 b:GlobB w
theorem GlobV.below {w w':World} (h:GlobV w) (hb:Below w.heap.size w w'):GlobV w':=⟨h.t.below hb,h.b.below hb⟩
set_option maxHeartbeats 1000000 in
theorem alone_compile (o:Opr) (hf:o.Fit) (hk:o.kind=5) (w:World) (hg:GlobV w) :
  Calls Tryz.prog 5 #[oprV o] w fun e w'=>Below w.heap.size w w'∧e=.returned (.bool true):=by
 have HG:Hid (GlobV w):=hg
 have HF:Hid o.Fit:=hf
 unfold oprV
 rw[hk]
 clear hg hk hf
 have HC:Hid (∀ wx,GlobV wx→Calls Tryz.prog 10 #[.string o.s,.agg #[.int .i64 o.x.size,.int .i64 o.x.speed,.int .i64 o.x.need],.agg #[.int .i64 o.y.id,.int .i64 o.y.zone,.int .i64 o.y.cap,.int .i64 o.y.used,.int .i64 o.y.has]] wx fun e w'=>Below wx.heap.size wx w'∧e=.returned (.bool true)):=fun wx h=>compiled_any o.s HF.out o.x o.y wx h.t h.b
 go_enter Tryz.func5,Tryz.ntmps5
 go_wp2_with (go_at_call 10;refine (HC.out _ (HG.out.below (new_below w _))).mono ?_;rintro e w1 ⟨hb1,rfl⟩)
 go_ret
 exact ⟨(new_below w _).trans (hb1.mono (by simp)),rfl⟩
set_option maxHeartbeats 1000000 in
theorem Compiles_any (n:Nat) (hn:n≤maxLen) (v:Value) (os:Nat→Opr) (w:World) (hs:Script w v n os) (hg:GlobV w) :
  Calls Tryz.prog 3 #[v] w fun e w'=>Below w.heap.size w w'∧e=.returned (.bool true):=by
 go_enter Tryz.func3,Tryz.ntmps3
 go_wp2_with (go_at_call 4;refine (each_any GlobV (fun _ _ h hb=>h.below hb) 5 n hn v os _ hs hg (fun o hf hk w hg=>alone_compile o hf hk w hg)).mono ?_;rintro e w1 ⟨hb1,rfl⟩)
 go_ret
 exact ⟨hb1,rfl⟩
set_option maxRecDepth 100000 in
theorem compiles_lifted (os:Os) (started:os.Started) (H:Type) (enc:TypeId × Value→H) :
  ReturnsInHanded {} Tryz.checked os 3 .any (fun w args=>(Rows.compilesSpec.pre enc Tryz.prog Tryz.f3 [] false w args∧laidMetH Tryz.prog laidAllC w)∧sizedMet enc Tryz.prog Tryz.f3 (OpenSpec.ofChange Rows.compilesSpec) false w args)
   (Rows.compilesSpec.post enc Tryz.prog Tryz.f3 false true false false):=by
 refine returnsInHanded_of_change_and (C:=Tryz.checked) (X:=fun w _=>laidMetH Tryz.prog laidAllC w) (fun _ _ _ hh h=>h.of_heap hh) Tryz.ownC started (by kernel_rfl) Tryz.func3
  (ChangeSpec.witness_shaped (enc:=enc) (C:=Tryz.checked) (os:=os) (X:=fun w _=>laidMetH Tryz.prog laidAllC w) false (World.doorLaid Tryz.prog 87 os) #[.slice none 0 0] 8 rfl (World.shaped_of_RefB (by kernel_rfl) (by kernel_rfl)) (by kernel_rfl) (by kernel_rfl) (by kernel_rfl) (door_metC os _)) ?_
 intro W base args ds gs before hval0 hW _ _ hL _
 have hval:∀ (j:Nat) t v,Tryz.f3.params[j]?=some t→args[j]?=some v→Value.okWide Tryz.prog W .any base t v:=hval0
 have hW':=hW
 have hlt:=hW.lt
 obtain ⟨p,q,hA0,hV,rfl,hfz,hnd⟩:=hW
 have hA:DataW.TrodAll enc Tryz.prog W 0 (fun _=>true) true Tryz.f3.params.toList args.toList ds p:=hA0
 rw[Tryz.params3] at hA hval
 obtain ⟨v0,d0,rfl,rfl,h0⟩:=trodAll_one hA
 obtain ⟨rfl,rfl⟩:=trodVars_none hV
 simp only[List.append_nil] at hW' hlt
 obtain ⟨n,scr,hn,hs⟩:=script_of (hval 0 22 v0 rfl rfl) h0
 refine (Compiles_any n hn v0 scr W hs ⟨(globs_of_laid hL).2,⟨(globs_of_laid hL).1.bytes,(globs_of_laid hL).1.size.1⟩⟩).mono fun e W' ⟨hb,he⟩=>?_
 subst he
 exact ⟨_,rfl,⟨_,_,_,[],p,[],hW',trodAll_mk1 (shut_bool Tryz.underlying4 _),trodAll_mk1 (Below.trod Tryz.laidOutC (by kernel_rfl) (of_decide_eq_true (by kernel_rfl)) h0 hb hlt),rfl,hb.frame _,fun h=>by cases h⟩⟩
theorem compiles_holds:Rows.CompilesSaid :=
 OpenClaim.holds_of_wide 3 Tryz.f3 rfl rfl rfl rfl rfl rfl rfl ⟨rfl,rfl,rfl,rfl,rfl⟩ rfl rfl rfl rfl rfl (by kernel_rfl) Tryz.func3 (by kernel_rfl)
  (of_decide_eq_true (by kernel_rfl)) (by unfold Func.isWrapper;first | (rw[if_pos (by decide +kernel)];kernel_rfl) | (rw[if_neg (by decide +kernel)];exact ⟨rfl,rfl⟩))
  (fun os started H enc _=>compiles_lifted os started H enc)
end Go.Proofs.YtldfkcpbjooemaaGreatDoor
namespace Go.Proofs.YtldfkcpbjooemaaGreatDoor
open Go
theorem compiles_card:Rows.CompilesCardSaid :=
 Claim7.holds_tied_plain_at .later [] Rows.compilesCard.laidKinds true Rows.compilesCard.stood.harness true
  compiles_holds (fun _ h=>by cases h) (by kernel_rfl) (fun _ h=>by cases h) compiles_row_tie rfl ⟨rfl,rfl⟩ (by kernel_rfl) rfl
  (fun f fn hf hfn=>by
   obtain rfl:f=3:=Option.some.inj ((show Tryz.prog.funcNamed Rows.compilesRow.func=some 3 by kernel_rfl).symm.trans hf) |>.symm
   obtain rfl:fn=Tryz.f3:=(Option.some.inj (Tryz.func3.symm.trans hfn)).symm
   exact ⟨by kernel_rfl,fun j t ht=>by
    rw[Tryz.params3] at ht
    have hm:t∈[22]:=by simpa using Array.mem_of_getElem? ht
    have hall:([22].all fun u=>!Tryz.prog.wantsStandIn u)=true:=by kernel_rfl
    exact (show Tryz.prog.wantsStandIn t=false by simpa using List.all_eq_true.1 hall t hm)⟩)
  (by kernel_rfl)
#print axioms compiles_card
end Go.Proofs.YtldfkcpbjooemaaGreatDoor
