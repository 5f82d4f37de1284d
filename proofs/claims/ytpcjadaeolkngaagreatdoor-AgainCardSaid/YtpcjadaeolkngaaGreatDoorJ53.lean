/-
  For all raw bytes for a policy, every three numbers and every bytes for a bin, Again answers true: the plain form of a policy made out of the bytes is printed and checked with no error at place 0, is its own plain form, blanks around it or not, has no two blanks on end and is not empty, and compiled and run it ends as the making says; and the arguments read afterwards as they read before. Its condition: the listed package-level variables hold what the program's text lays, which the card ties to that text.
-/
import Derived.Test.YtpcjadaeolkngaaGreatDoorJ52
import Derived.Test.YtpcjadaeolkngaaGreatDoorTie
import Derived.Test.YtpcjadaeolkngaaGreatDoorCards
import Derived.SevenTiedAt
set_option linter.unusedVariables false
set_option linter.unusedSimpArgs false
namespace Go.Proofs.YtpcjadaeolkngaaGreatDoor
open Go.RowKit Go.ChangeShapes Go.WideShapes Go.ChangeAt
theorem strs_of_trod{H:Type}{enc:TypeId×Value→H}{P:Program}{W:World}{sp:Nat→Bool}{hd:Bool}{t e:TypeId}{m fuel:Nat}{cs:List Value}{zs:List Txt}{q:List MemPlace}(ht:P.underlying t=some (.array m e))(he:P.underlying e=some .string)(hc:P.cellsOf e=1)
  (hd':DataW.trod enc P W 0 sp hd fuel t cs=some (.agg (zs.map fun z=>.lit (.string z)),q)):∀ (i:Nat) (z:Txt),zs[i]?=some z→cs[i]?=some (Value.string (bsOf z)):=by
 obtain ⟨xs,m1,rfl,hx,hlen,hxm,hel⟩:=DataW.trod_array ht hd'
 intro i z hz
 simp only[Prod.mk.injEq,DataW.agg.injEq]at hx
 have hl:zs.length=xs.length:=by have:=congrArg List.length hx.1;simpa using this
 have hi:i<zs.length:=(List.getElem?_eq_some_iff.1 hz).1
 have h1:=hel i (by omega)
 rw[hc,List.getElem?_eq_getElem (by omega:i<xs.length)]at h1
 obtain ⟨k,e1,e2,_⟩:=DataW.trod_string he h1
 have h2:(zs.map fun z=>(DataW.lit (.string z):DataW H))[i]?=(xs.map (·.1))[i]?:=by rw[hx.1]
 rw[List.getElem?_map,List.getElem?_map,hz,List.getElem?_eq_getElem (by omega:i<xs.length),Option.map_some,Option.map_some,e2]at h2
 have hk:z=k.data.toList:=by simpa using h2
 have hkb:bsOf z=k:=by rw[hk];cases k;simp[bsOf]
 rw[hkb]
 have h3:((cs.drop (i*1)).take 1)[0]?=some (.string k):=by rw[e1];rfl
 rw[List.getElem?_take,if_pos (by omega),List.getElem?_drop]at h3
 simpa using h3
theorem dWords:(Rows.laid_slots_token_words:DataW Unit)=.agg (tWords.map fun z=>.lit (.string z)):=rfl
theorem dSigns:(Rows.laid_slots_token_signs:DataW Unit)=.agg (tSign.map fun z=>.lit (.string z)):=rfl
theorem gWords:Tryz.prog.globalNamed (laidName 3)=some 3:=by kernel_rfl
theorem gSigns:Tryz.prog.globalNamed (laidName 4)=some 4:=by kernel_rfl
theorem tyWords:(Tryz.prog.globals[3]?).map (·.type)=some 198:=by kernel_rfl
theorem tySigns:(Tryz.prog.globals[4]?).map (·.type)=some 199:=by kernel_rfl
theorem undWords:Tryz.prog.underlying 198=some (.array 19 9):=by kernel_rfl
theorem undSigns:Tryz.prog.underlying 199=some (.array 12 9):=by kernel_rfl
theorem cellsStr:Tryz.prog.cellsOf 9=1:=by kernel_rfl
theorem table_str{W:World}{nm:String}{g t ty m:Nat}{cs:Array Value}{fuel:Nat}{p:List MemPlace}{zs:List Txt}{d:DataW Unit}(k:Nat)(hgk:Tryz.prog.globalNamed nm=some k)(htk:(Tryz.prog.globals[k]?).map (·.type)=some ty)(hu:Tryz.prog.underlying ty=some (.array m 9))(hd0:d=.agg (zs.map fun z=>.lit (.string z)))
  (hg:Tryz.prog.globalNamed nm=some g) (ht:(Tryz.prog.globals[g]?).map (·.type)=some t) (hv:W.var? Tryz.prog nm=some cs) (hd:DataW.trod (fun _=>()) Tryz.prog W 0 (fun _=>true) false fuel t cs.toList=some (d,p)) :
  ∀ (i:Nat) (z:Txt),zs[i]?=some z→W.cell? ⟨k,i,none⟩=some (.string (bsOf z)):=by
 obtain rfl:=Option.some.inj (hgk.symm.trans hg)
 obtain rfl:=Option.some.inj (htk.symm.trans ht)
 subst hd0
 intro i z hz
 have h1:=strs_of_trod hu Tryz.underlying9 cellsStr hd i z hz
 rw[World.var?_cell hgk hv i]
 simpa using h1
theorem Tryz.own:ownKnob Tryz.prog.godebug=none:=by kernel_rfl
theorem Tryz.laidOut:laidOutB Tryz.prog=true:=by kernel_rfl
def laidAll:List (String×DataW Unit):=Rows.againRow.laid
theorem door_met(os:Os)(args:Array Value):laidMetH Tryz.prog laidAll ((World.doorLaid Tryz.prog 87 os).forCall (fun _ _=>0) ⟨#[],args,[]⟩).memory :=
 laidMetH_of_parts3 (fuel:=8) (laidMet_of_run' 8 (by kernel_rfl) (by kernel_rfl)) (by kernel_rfl) (by kernel_rfl)
theorem glob_of_laid{W:World}(h:laidMetH Tryz.prog laidAll W):GlobP W∧GlobT W:=by
 rw[MakeChecks.laidMetH_plain _ _ _ (by kernel_rfl)]at h
 obtain ⟨ps,⟨g1,t1,cs1,f1,p1,q1,hg1,ht1,hv1,hd1,⟨g2,t2,cs2,f2,p2,q2,hg2,ht2,hv2,hd2,⟨g3,t3,cs3,f3,p3,q3,hg3,ht3,hv3,hd3,⟨g4,t4,cs4,f4,p4,q4,hg4,ht4,hv4,hd4,⟨g5,t5,cs5,f5,p5,q5,hg5,ht5,hv5,hd5,_,_⟩,_⟩,_⟩,_⟩,_⟩,_,_⟩:=h
 have hb:=table_of 0 gBytes tyBytes dBytes hg1 ht1 hv1 hd1
 have hk:=table_of 1 gTakes tyTakes dTakes hg2 ht2 hv2 hd2
 have hl:=table_of 2 gLays tyLays dLays hg3 ht3 hv3 hd3
 have hw:=table_str 3 gWords tyWords undWords dWords hg4 ht4 hv4 hd4
 have ht:=table_str 4 gSigns tySigns undSigns dSigns hg5 ht5 hv5 hd5
 have hlt:∀ (k:Nat) (v:Value),W.cell? ⟨k,0,none⟩=some v→k<W.heap.size:=fun k v hc=>by
  by_cases h:k<W.heap.size
  ·exact h
  ·simp[World.cell?,Array.getElem?_eq_none (by omega:W.heap.size≤k)]at hc
 exact ⟨⟨fun c hc=>hb c _ (tabBytes_eq c hc),fun c hc=>hk c _ (tabTakes_eq c hc),fun c hc=>hl c _ (tabLays_eq c hc),⟨hlt _ _ (hb 0 _ (tabBytes_eq 0 (by omega))),hlt _ _ (hk 0 _ (tabTakes_eq 0 (by omega))),hlt _ _ (hl 0 _ (tabLays_eq 0 (by omega)))⟩⟩,⟨fun i hi=>hw i _ (List.getElem?_eq_getElem hi),fun i hi=>ht i _ (List.getElem?_eq_getElem hi),hlt _ _ (hw 0 _ rfl),hlt _ _ (ht 0 _ rfl)⟩⟩
section
variable {H:Type} {enc:TypeId×Value→H} {P:Program} {w:World} {base:Nat} {spare:Nat→Bool} {held:Bool}
theorem trodAll_five{t1 t2 t3 t4 t5:TypeId}{args:Array Value}{ds:List (DataW H)}{ps:List MemPlace}(h:DataW.TrodAll enc P w base spare held [t1,t2,t3,t4,t5] args.toList ds ps) :
  ∃ v1 v2 v3 v4 v5 d1 d2 d3 d4 d5 p1 p2 p3 p4 p5,args=#[v1,v2,v3,v4,v5]∧ds=[d1,d2,d3,d4,d5]∧ps=p1++(p2++(p3++(p4++p5)))∧DataW.Trod enc P w base spare held t1 v1 d1 p1∧DataW.Trod enc P w base spare held t2 v2 d2 p2∧DataW.Trod enc P w base spare held t3 v3 d3 p3∧DataW.Trod enc P w base spare held t4 v4 d4 p4∧DataW.Trod enc P w base spare held t5 v5 d5 p5:=by
 obtain ⟨v1,vs1,d1,ds1,p1,q1,hargs,rfl,rfl,hd1,h1⟩:=trodAll_cons h
 obtain ⟨v2,vs2,d2,ds2,p2,q2,rfl,rfl,rfl,hd2,h2⟩:=trodAll_cons h1
 obtain ⟨v3,vs3,d3,ds3,p3,q3,rfl,rfl,rfl,hd3,h3⟩:=trodAll_cons h2
 obtain ⟨v4,vs4,d4,ds4,p4,q4,rfl,rfl,rfl,hd4,h4⟩:=trodAll_cons h3
 obtain ⟨v5,vs5,d5,ds5,p5,q5,rfl,rfl,rfl,hd5,h5⟩:=trodAll_cons h4
 obtain ⟨rfl,rfl,rfl⟩:=trodAll_nil h5
 exact ⟨v1,v2,v3,v4,v5,d1,d2,d3,d4,d5,p1,p2,p3,p4,p5,by cases args;simp_all,rfl,by simp,hd1,hd2,hd3,hd4,hd5⟩
theorem in64_of_wf{n:Int}(h:(Lit.int .i64 n).wf=true):In64 n:=by
 simp[Lit.wf,IntKind.min,IntKind.max,IntKind.signed,IntKind.bits]at h
 unfold In64
 omega
theorem int_arg{r:Reach}{b0:Nat}{t:TypeId}{v:Value}{d:DataW H}{ps:List MemPlace}(ht:P.underlying t=some (.int .i64))(hval:Value.okWide P w r b0 t v)(h:DataW.Trod enc P w base spare held t v d ps):∃ n,v=.int .i64 n∧In64 n:=by
 obtain ⟨n,rfl⟩:=okWide_int ht hval
 obtain ⟨fuel,hf⟩:=h
 obtain ⟨m,h1,_,h3⟩:=DataW.trod_int ht hf
 have:n=m:=by simpa[Value.cells] using h1
 subst this
 exact ⟨n,rfl,in64_of_wf h3⟩
theorem str_arg{r:Reach}{b0:Nat}{t:TypeId}{v:Value}{d:DataW H}{ps:List MemPlace}(ht:P.underlying t=some .string)(hval:Value.okWide P w r b0 t v)(h:DataW.Trod enc P w base spare held t v d ps):∃ s:ByteArray,v=.string s∧s.size≤maxLen:=by
 obtain ⟨s,rfl⟩:=okWide_string ht hval
 obtain ⟨fuel,hf⟩:=h
 obtain ⟨m,h1,_,h3⟩:=DataW.trod_string ht hf
 have:s=m:=by simpa[Value.cells] using h1
 subst this
 exact ⟨s,rfl,h3⟩
end
set_option maxRecDepth 100000 in
theorem again_lifted(os:Os)(started:os.Started)(H:Type)(enc:TypeId×Value→H) :
  ReturnsInHanded {} Tryz.checked os 3 .any (fun w args=>(Rows.againSpec.pre enc Tryz.prog Tryz.f3 [] false w args∧laidMetH Tryz.prog laidAll w)∧sizedMet enc Tryz.prog Tryz.f3 (OpenSpec.ofChange Rows.againSpec) false w args)
   (Rows.againSpec.post enc Tryz.prog Tryz.f3 false true false false):=by
 refine returnsInHanded_of_change_and (C:=Tryz.checked) (X:=fun w _=>laidMetH Tryz.prog laidAll w) (fun _ _ _ hh h=>h.of_heap hh) Tryz.own started (by kernel_rfl) Tryz.func3
  (ChangeSpec.witness_shaped (enc:=enc) (C:=Tryz.checked) (os:=os) (X:=fun w _=>laidMetH Tryz.prog laidAll w) false (World.doorLaid Tryz.prog 87 os) #[.string ⟨#[]⟩,.int .i64 0,.int .i64 0,.int .i64 0,.string ⟨#[]⟩] 8 rfl (World.shaped_of_RefB (by kernel_rfl) (by kernel_rfl)) (by kernel_rfl) (by kernel_rfl) (by kernel_rfl) (door_met os _)) ?_
 intro W base args ds gs before hval0 hW _ _ hL _
 have hval:∀ (j:Nat) t v,Tryz.f3.params[j]?=some t→args[j]?=some v→Value.okWide Tryz.prog W .any base t v:=hval0
 have hW':=hW
 have hlt:=hW.lt
 obtain ⟨p,q,hA0,hV,rfl,hfz,hnd⟩:=hW
 have hA:DataW.TrodAll enc Tryz.prog W 0 (fun _=>true) true Tryz.f3.params.toList args.toList ds p:=hA0
 rw[Tryz.params3]at hA hval
 obtain ⟨v1,v2,v3,v4,v5,d1,d2,d3,d4,d5,p1,p2,p3,p4,p5,rfl,rfl,rfl,h1,h2,h3,h4,h5⟩:=trodAll_five hA
 obtain ⟨rfl,rfl⟩:=trodVars_none hV
 simp only[List.append_nil]at hW' hlt
 obtain ⟨s,rfl,hs⟩:=str_arg Tryz.underlying9 (hval 0 9 v1 rfl rfl) h1
 obtain ⟨a,rfl,ha⟩:=int_arg Tryz.underlying3 (hval 1 3 v2 rfl rfl) h2
 obtain ⟨b,rfl,hb⟩:=int_arg Tryz.underlying3 (hval 2 3 v3 rfl rfl) h3
 obtain ⟨c,rfl,hc⟩:=int_arg Tryz.underlying3 (hval 3 3 v4 rfl rfl) h4
 obtain ⟨t,rfl,ht⟩:=str_arg Tryz.underlying9 (hval 4 9 v5 rfl rfl) h5
 refine (Again_any s a b c t ha hb hc hs ht W (glob_of_laid hL).1 (glob_of_laid hL).2).mono fun e W' ⟨hbl,he⟩=>?_
 subst he
 exact ⟨_,rfl,⟨_,_,_,[],_,[],hW',trodAll_mk1 (shut_bool Tryz.underlying4 _),trodAll_cons_mk (Below.trod Tryz.laidOut (by kernel_rfl) (of_decide_eq_true (by kernel_rfl)) h1 hbl (fun x hx=>hlt x (by simp[hx]))) (trodAll_cons_mk (Below.trod Tryz.laidOut (by kernel_rfl) (of_decide_eq_true (by kernel_rfl)) h2 hbl (fun x hx=>hlt x (by simp[hx]))) (trodAll_cons_mk (Below.trod Tryz.laidOut (by kernel_rfl) (of_decide_eq_true (by kernel_rfl)) h3 hbl (fun x hx=>hlt x (by simp[hx]))) (trodAll_cons_mk (Below.trod Tryz.laidOut (by kernel_rfl) (of_decide_eq_true (by kernel_rfl)) h4 hbl (fun x hx=>hlt x (by simp[hx]))) (trodAll_mk1 (Below.trod Tryz.laidOut (by kernel_rfl) (of_decide_eq_true (by kernel_rfl)) h5 hbl (fun x hx=>hlt x (by simp[hx]))))))),rfl,hbl.frame _,fun h=>by cases h⟩⟩
theorem again_holds:Rows.AgainSaid :=
 OpenClaim.holds_of_wide 3 Tryz.f3 rfl rfl rfl rfl rfl rfl rfl ⟨rfl,rfl,rfl,rfl,rfl⟩ rfl rfl rfl rfl rfl (by kernel_rfl) Tryz.func3 (by kernel_rfl)
  (of_decide_eq_true (by kernel_rfl)) (by unfold Func.isWrapper;first | (rw[if_pos (by decide +kernel)];kernel_rfl) | (rw[if_neg (by decide +kernel)];exact ⟨rfl,rfl⟩))
  (fun os started H enc _=>again_lifted os started H enc)
open Go
theorem again_card:Rows.AgainCardSaid :=
 Claim7.holds_tied_plain_at .later [] Rows.againCard.laidKinds true Rows.againCard.stood.harness false
  again_holds (fun _ h=>by cases h) (by kernel_rfl) (fun _ h=>by cases h) again_row_tie rfl ⟨rfl,rfl⟩ (by kernel_rfl) rfl
  (fun f fn hf hfn=>by
   obtain rfl:f=3:=Option.some.inj ((show Tryz.prog.funcNamed Rows.againRow.func=some 3 by kernel_rfl).symm.trans hf) |>.symm
   obtain rfl:fn=Tryz.f3:=(Option.some.inj (Tryz.func3.symm.trans hfn)).symm
   exact ⟨by kernel_rfl,fun j t ht=>by
    rw[Tryz.params3]at ht
    have hm:t∈[9,3,3,3,9]:=by simpa using Array.mem_of_getElem? ht
    have hall:([9,3,3,3,9].all fun u=>!Tryz.prog.wantsStandIn u)=true:=by kernel_rfl
    exact (show Tryz.prog.wantsStandIn t=false by simpa using List.all_eq_true.1 hall t hm)⟩)
  (by kernel_rfl)
#print axioms again_card
end Go.Proofs.YtpcjadaeolkngaaGreatDoor
