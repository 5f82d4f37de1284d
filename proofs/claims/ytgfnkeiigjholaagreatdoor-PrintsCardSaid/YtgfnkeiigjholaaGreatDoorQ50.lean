/-
  What the document's small functions on operations do, called in any world: behindOp, takes, lays, low, index.
-/
import Derived.Test.YtgfnkeiigjholaaGreatDoorProg
import Derived.Test.YtgfnkeiigjholaaGreatDoorQ01
import Derived.Test.YtgfnkeiigjholaaGreatDoorQ13
import Derived.WalkLawsBesides
import Derived.Deep.QuietTactic
import Derived.BigQuiet
import Derived.Deep.Light
import Derived.Test.YtgfnkeiigjholaaGreatDoorQ00
import Derived.Laws.BitsAllLaws
import Derived.Test.YtgfnkeiigjholaaGreatDoorRows
import Derived.ProofKit
import Derived.LaidMore
import Derived.OpenShut
import Derived.Stop.Joined
import Derived.Test.YtgfnkeiigjholaaGreatDoorQ17
set_option linter.unusedVariables false
set_option linter.unusedSimpArgs false
namespace Go.Proofs.YtgfnkeiigjholaaGreatDoor
open Go.RowKit
structure GlobP(w:World):Prop where
 bytes:∀ c,c<18→w.cell? ⟨0,c,none⟩=some (.int .i64 (behindN c))
 takes:∀ c,c<18→w.cell? ⟨1,c,none⟩=some (.int .i64 (takesN c))
 lays:∀ c,c<18→w.cell? ⟨2,c,none⟩=some (.int .i64 (laysN c))
 size:0<w.heap.size∧1<w.heap.size∧2<w.heap.size
open Go.ChangeShapes Go.WideShapes Go.ChangeAt
theorem ints_of_trod{H:Type}{enc:TypeId×Value→H}{P:Program}{W:World}{sp:Nat→Bool}{hd:Bool}{t e:TypeId}{m fuel:Nat}{cs:List Value}{zs:List Int}{q:List MemPlace}(ht:P.underlying t=some (.array m e))(he:P.underlying e=some (.int .i64))(hc:P.cellsOf e=1)
  (hd':DataW.trod enc P W 0 sp hd fuel t cs=some (.agg (zs.map fun z=>.lit (.int .i64 z)),q)):∀ (i:Nat) (z:Int),zs[i]?=some z→cs[i]?=some (Value.int .i64 z):=by
 obtain ⟨xs,m1,rfl,hx,hlen,hxm,hel⟩:=DataW.trod_array ht hd'
 intro i z hz
 simp only[Prod.mk.injEq,DataW.agg.injEq]at hx
 have hl:zs.length=xs.length:=by have:=congrArg List.length hx.1;simpa using this
 have hi:i<zs.length:=(List.getElem?_eq_some_iff.1 hz).1
 have h1:=hel i (by omega)
 rw[hc,List.getElem?_eq_getElem (by omega:i<xs.length)]at h1
 obtain ⟨k,e1,e2,_⟩:=DataW.trod_int he h1
 have h2:(zs.map fun z=>(DataW.lit (.int .i64 z):DataW H))[i]?=(xs.map (·.1))[i]?:=by rw[hx.1]
 rw[List.getElem?_map,List.getElem?_map,hz,List.getElem?_eq_getElem (by omega:i<xs.length),Option.map_some,Option.map_some,e2]at h2
 have hk:k=z:=by simpa using h2.symm
 subst hk
 have h3:((cs.drop (i*1)).take 1)[0]?=some (.int .i64 k):=by rw[e1];rfl
 rw[List.getElem?_take,if_pos (by omega),List.getElem?_drop]at h3
 simpa using h3
def tabBytes:List Int:=[8,1,0,0,0,0,0,0,0,0,0,0,0,2,2,2,0,0]
def tabTakes:List Int:=[0,0,1,1,2,2,2,2,2,2,2,2,2,0,1,1,1,0]
def tabLays:List Int:=[1,1,1,1,1,1,1,1,1,1,1,1,1,0,0,0,0,0]
theorem tabBytes_eq:∀ c,c<18→tabBytes[c]?=some ((behindN c:Nat):Int):=by decide
theorem tabTakes_eq:∀ c,c<18→tabTakes[c]?=some ((takesN c:Nat):Int):=by decide
theorem tabLays_eq:∀ c,c<18→tabLays[c]?=some ((laysN c:Nat):Int):=by decide
theorem dBytes:(Rows.laid_slots_program_bytesBehind:DataW Unit)=.agg (tabBytes.map fun z=>.lit (.int .i64 z)):=rfl
theorem dTakes:(Rows.laid_slots_program_takes:DataW Unit)=.agg (tabTakes.map fun z=>.lit (.int .i64 z)):=rfl
theorem dLays:(Rows.laid_slots_program_lays:DataW Unit)=.agg (tabLays.map fun z=>.lit (.int .i64 z)):=rfl
def laidName(i:Nat):String:=((Rows.printsRow.laid[i]?).map (·.1)).getD default
theorem gBytes:Tryz.prog.globalNamed (laidName 3)=some 0:=by kernel_rfl
theorem gTakes:Tryz.prog.globalNamed (laidName 4)=some 1:=by kernel_rfl
theorem gLays:Tryz.prog.globalNamed (laidName 5)=some 2:=by kernel_rfl
theorem tyBytes:(Tryz.prog.globals[0]?).map (·.type)=some 166:=by kernel_rfl
theorem tyTakes:(Tryz.prog.globals[1]?).map (·.type)=some 166:=by kernel_rfl
theorem tyLays:(Tryz.prog.globals[2]?).map (·.type)=some 166:=by kernel_rfl
theorem cellsInt:Tryz.prog.cellsOf 3=1:=by kernel_rfl
theorem table_of{W:World}{nm:String}{g t:Nat}{cs:Array Value}{fuel:Nat}{p:List MemPlace}{zs:List Int}{d:DataW Unit}(k:Nat)(hgk:Tryz.prog.globalNamed nm=some k)(htk:(Tryz.prog.globals[k]?).map (·.type)=some 166)(hd0:d=.agg (zs.map fun z=>.lit (.int .i64 z)))
  (hg:Tryz.prog.globalNamed nm=some g) (ht:(Tryz.prog.globals[g]?).map (·.type)=some t) (hv:W.var? Tryz.prog nm=some cs) (hd:DataW.trod (fun _=>()) Tryz.prog W 0 (fun _=>true) false fuel t cs.toList=some (d,p)) :
  ∀ (i:Nat) (z:Int),zs[i]?=some z→W.cell? ⟨k,i,none⟩=some (.int .i64 z):=by
 obtain rfl:=Option.some.inj (hgk.symm.trans hg)
 obtain rfl:=Option.some.inj (htk.symm.trans ht)
 subst hd0
 intro i z hz
 have h1:=ints_of_trod Tryz.underlying166 Tryz.underlying3 cellsInt hd i z hz
 rw[World.var?_cell hgk hv i]
 simpa using h1
theorem strs_of_trod{H:Type}{enc:TypeId×Value→H}{P:Program}{W:World}{sp:Nat→Bool}{hd:Bool}{t e:TypeId}{m fuel:Nat}{cs:List Value}{zs:List Txt}{q:List MemPlace}(ht:P.underlying t=some (.array m e))(he:P.underlying e=some .string)(hc:P.cellsOf e=1)
  (hd':DataW.trod enc P W 0 sp hd fuel t cs=some (.agg (zs.map fun z=>.lit (.string z)),q)):∀ (i:Nat) (z:Txt),zs[i]?=some z→cs[i]?=some (Value.string (bsOf z)):=by
 obtain ⟨xs,m1,rfl,hx,hlen,hxm,hel⟩:=DataW.trod_array ht hd'
 intro i z hz
 simp only[Prod.mk.injEq,DataW.agg.injEq]at hx
 have hl:zs.length=xs.length:=by have:=congrArg List.length hx.1;simpa using this
 have hi:i<zs.length:=(List.getElem?_eq_some_iff.1 hz).1
 have h1:=hel i (by omega)
 rw[hc,List.getElem?_eq_getElem (by omega:i<xs.length)]at h1
 obtain ⟨k,e1,e2,_⟩:=DataW.trod_string he h1
 have h2:(zs.map fun z=>(DataW.lit (.string z):DataW H))[i]?=(xs.map (·.1))[i]?:=by rw[hx.1]
 rw[List.getElem?_map,List.getElem?_map,hz,List.getElem?_eq_getElem (by omega:i<xs.length),Option.map_some,Option.map_some,e2]at h2
 have hk:z=k.data.toList:=by simpa using h2
 have hkb:bsOf z=k:=by rw[hk];cases k;simp[bsOf]
 rw[hkb]
 have h3:((cs.drop (i*1)).take 1)[0]?=some (.string k):=by rw[e1];rfl
 rw[List.getElem?_take,if_pos (by omega),List.getElem?_drop]at h3
 simpa using h3
theorem dWords:(Rows.laid_slots_token_words:DataW Unit)=.agg (tWords.map fun z=>.lit (.string z)):=rfl
theorem dSigns:(Rows.laid_slots_token_signs:DataW Unit)=.agg (tSign.map fun z=>.lit (.string z)):=rfl
def laidNameC(i:Nat):String:=((Rows.printsRow.laid[i]?).map (·.1)).getD default
theorem gWords:Tryz.prog.globalNamed (laidNameC 6)=some 3:=by kernel_rfl
theorem gSigns:Tryz.prog.globalNamed (laidNameC 7)=some 4:=by kernel_rfl
theorem tyWords:(Tryz.prog.globals[3]?).map (·.type)=some 210:=by kernel_rfl
theorem tySigns:(Tryz.prog.globals[4]?).map (·.type)=some 211:=by kernel_rfl
theorem undWords:Tryz.prog.underlying 210=some (.array 19 9):=by kernel_rfl
theorem undSigns:Tryz.prog.underlying 211=some (.array 12 9):=by kernel_rfl
theorem cellsStr':Tryz.prog.cellsOf 9=1:=by kernel_rfl
theorem table_str{W:World}{nm:String}{g t ty m:Nat}{cs:Array Value}{fuel:Nat}{p:List MemPlace}{zs:List Txt}{d:DataW Unit}(k:Nat)(hgk:Tryz.prog.globalNamed nm=some k)(htk:(Tryz.prog.globals[k]?).map (·.type)=some ty)(hu:Tryz.prog.underlying ty=some (.array m 9))(hd0:d=.agg (zs.map fun z=>.lit (.string z)))
  (hg:Tryz.prog.globalNamed nm=some g) (ht:(Tryz.prog.globals[g]?).map (·.type)=some t) (hv:W.var? Tryz.prog nm=some cs) (hd:DataW.trod (fun _=>()) Tryz.prog W 0 (fun _=>true) false fuel t cs.toList=some (d,p)) :
  ∀ (i:Nat) (z:Txt),zs[i]?=some z→W.cell? ⟨k,i,none⟩=some (.string (bsOf z)):=by
 obtain rfl:=Option.some.inj (hgk.symm.trans hg)
 obtain rfl:=Option.some.inj (htk.symm.trans ht)
 subst hd0
 intro i z hz
 have h1:=strs_of_trod hu Tryz.underlying9 cellsStr' hd i z hz
 rw[World.var?_cell hgk hv i]
 simpa using h1
def laidAllC:List (String×DataW Unit):=Rows.printsRow.laid
theorem Tryz.ownC:ownKnob Tryz.prog.godebug=none:=by kernel_rfl
theorem Tryz.laidOutC:laidOutB Tryz.prog=true:=by kernel_rfl
theorem door_metC(os:Os)(args:Array Value):laidMetH Tryz.prog laidAllC ((World.doorLaid Tryz.prog 87 os).forCall (fun _ _=>0) ⟨#[],args,[]⟩).memory :=
 laidMetH_of_parts3 (fuel:=8) (laidMet_of_run' 8 (by kernel_rfl) (by kernel_rfl)) (by kernel_rfl) (by kernel_rfl)
theorem globs_of_laid{W:World}(h:laidMetH Tryz.prog laidAllC W):GlobP W∧GlobT W:=by
 rw[MakeChecks.laidMetH_plain _ _ _ (by kernel_rfl)]at h
 obtain ⟨ps,⟨g0,t0,cs0,f0,p0,q0,hg0,ht0,hv0,hd0,⟨g1,t1,cs1,f1,p1,q1,hg1,ht1,hv1,hd1,⟨g2,t2,cs2,f2,p2,q2,hg2,ht2,hv2,hd2,⟨g3,t3,cs3,f3,p3,q3,hg3,ht3,hv3,hd3,⟨g4,t4,cs4,f4,p4,q4,hg4,ht4,hv4,hd4,⟨g5,t5,cs5,f5,p5,q5,hg5,ht5,hv5,hd5,⟨g6,t6,cs6,f6,p6,q6,hg6,ht6,hv6,hd6,⟨g7,t7,cs7,f7,p7,q7,hg7,ht7,hv7,hd7,_,_⟩,_⟩,_⟩,_⟩,_⟩,_⟩,_⟩,_⟩,_,_⟩:=h
 have hb:=table_of 0 gBytes tyBytes dBytes hg3 ht3 hv3 hd3
 have hk:=table_of 1 gTakes tyTakes dTakes hg4 ht4 hv4 hd4
 have hl:=table_of 2 gLays tyLays dLays hg5 ht5 hv5 hd5
 have hw:=table_str 3 gWords tyWords undWords dWords hg6 ht6 hv6 hd6
 have ht:=table_str 4 gSigns tySigns undSigns dSigns hg7 ht7 hv7 hd7
 have hlt:∀ (k:Nat) (v:Value),W.cell? ⟨k,0,none⟩=some v→k<W.heap.size:=fun k v hc=>by
  by_cases h:k<W.heap.size
  ·exact h
  ·simp[World.cell?,Array.getElem?_eq_none (by omega:W.heap.size≤k)]at hc
 exact ⟨⟨fun c hc=>hb c _ (tabBytes_eq c hc),fun c hc=>hk c _ (tabTakes_eq c hc),fun c hc=>hl c _ (tabLays_eq c hc),⟨hlt _ _ (hb 0 _ (tabBytes_eq 0 (by omega))),hlt _ _ (hk 0 _ (tabTakes_eq 0 (by omega))),hlt _ _ (hl 0 _ (tabLays_eq 0 (by omega)))⟩⟩,⟨fun i hi=>hw i _ (List.getElem?_eq_getElem hi),fun i hi=>ht i _ (List.getElem?_eq_getElem hi),hlt _ _ (hw 0 _ rfl),hlt _ _ (ht 0 _ rfl)⟩⟩
end Go.Proofs.YtgfnkeiigjholaaGreatDoor
