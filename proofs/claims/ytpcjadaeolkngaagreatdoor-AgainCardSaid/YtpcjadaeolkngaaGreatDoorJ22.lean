/-
  Compile: node: names, and attributes.
-/
import Derived.Test.YtpcjadaeolkngaaGreatDoorJ21
import Derived.Deep.RegionWith
import Derived.Test.YtpcjadaeolkngaaGreatDoorJ20
set_option linter.unusedVariables false
set_option linter.unusedSimpArgs false
namespace Go.Proofs.YtpcjadaeolkngaaGreatDoor
open Go.RowKit Go.Deep
set_option maxHeartbeats 4000000 in
set_option maxRecDepth 100000 in
theorem node_name{cb:Nat}{na:Option Addr}{nc:Nat}{lv rv fv:Value}{N:List PNode}{ls:List PLet}{rs:List PRule}{fs:List Fact}(j b below h:Nat)(hj:j<b)(hbN:b≤N.length)(hbl:below+b≤1000)(n:PNode)(hnj:N[j]?=some n)(hn:NodeOk n)(hfa:atF fs (j:Int)=none)(h1:n.ops=0)(hc:isChK (kindP n.tok.text)=false)(hk:kindP n.tok.text=2)(hx:∀ p∈ls,1≤p.val.behind∧p.val.behind≤401)(cl:List Nat)(h':Nat)(HI:Hid (∀ wx,CmpAt wx cb (.slice na N.length nc) lv rv fv h N ls rs fs→Calls Tryz.prog 131 #[.pointer (some ⟨cb,0,none⟩),.slice na j nc,.int .i64 (meantI ls n.tok.text),.int .i64 below] wx fun e w'=>e=.returned (.string (bsN cl))∧CmpAt w' cb (.slice na N.length nc) lv rv fv h' N ls rs fs∧But cb wx w'))(w:World)(H:CmpAt w cb (.slice na N.length nc) lv rv fv h N ls rs fs) :
  Calls Tryz.prog 131 #[.pointer (some ⟨cb,0,none⟩),.slice na b nc,.int .i64 j,.int .i64 below] w fun e w'=>e=.returned (.string (bsN cl))∧CmpAt w' cb (.slice na N.length nc) lv rv fv h' N ls rs fs∧But cb w w':=by
 have HM:=mH (NdSt.start H n)
 have hnl:=hn.left
 have hnr:=hn.right
 have hnb:=H.pa.nb
 obtain ⟨g,o,rfl,hg,hcap,d0,d1,d2,d3,d4,d5⟩:=node_cells H hnj
 have hsl:=fun wx=>sliceN g o b nc j (by omega) (by omega) wx
 have hlcb:=H.blk.lt
 have q3:=H.blk.cell 3
 simp only[List.getElem?_toArray,List.getElem?_cons_zero,List.getElem?_cons_succ]at q3
 have e0:decide ((j:Int)<0)=false:=decide_eq_false (by omega)
 have e1:decide ((b:Int)≤(j:Int))=false:=decide_eq_false (by omega)
 have HFA:Hid (atF fs (j:Int)=none):=hfa
 have e2:((n.ops:Int)==1)=false:=by simp;omega
 have e3:((n.ops:Int)==2)=false:=by simp;omega
 have e4:((kindP n.tok.text:Int)==2)=true:=by simp;omega
 have HCH:=mH hc
 have HX:=mH hx
 have HLB:=mH H.pa.lb
 have HBT:Hid ((bsOf n.tok.text).toList=n.tok.text):=bsOf_toList _
 clear h1 hc hk hx
 clear H hnj hfa
 have HN:=mH hn
 clear hn
 go_enter Tryz.func131,Tryz.ntmps131
 go_upto_region 6 with (go_at_call 110;refine (factAt_any fs _ (j:Int) _ HM.out.c.fr HM.out.c.fb ⟨by omega,by omega⟩).mono ?_;rintro e w1 ⟨rfl,hb1⟩;rw[HFA.out];rw[show factA none=.agg #[.bool false,.int .i64 0] from rfl];clear q3;replace HM:=mH ((HM.out.below hb1).al (.cells #[.bool false,.int .i64 0] 151));clear hb1;have n0:=HM.out.nd.cell 0;have n1:=HM.out.nd.cell 1;have n2:=HM.out.nd.cell 2;have n3:=HM.out.nd.cell 3;have n4:=HM.out.nd.cell 4;have n5:=HM.out.nd.cell 5;have k0:=HM.out.c.blk.cell 0;have k1:=HM.out.c.blk.cell 1;have k3:=HM.out.c.blk.cell 3;have hln:=HM.out.nd.lt;have hlc:=HM.out.c.blk.lt;simp only[nodC,List.getElem?_toArray,List.getElem?_cons_zero,List.getElem?_cons_succ]at n0 n1 n2 n3 n4 n5 k0 k1 k3)
 go_upto_region 18 with (go_at_call 113;refine (isChoice_any n _).mono ?_;rintro e w2 ⟨rfl,hb2⟩;rw[HCH.out];clear n0 n1 n2 n3 n4 n5 k0 k1 k3 hln hlc;replace HM:=mH (HM.out.below hb2);clear hb2;have n0:=HM.out.nd.cell 0;have n1:=HM.out.nd.cell 1;have n2:=HM.out.nd.cell 2;have n3:=HM.out.nd.cell 3;have n4:=HM.out.nd.cell 4;have n5:=HM.out.nd.cell 5;have k0:=HM.out.c.blk.cell 0;have k1:=HM.out.c.blk.cell 1;have k3:=HM.out.c.blk.cell 3;have hln:=HM.out.nd.lt;have hlc:=HM.out.c.blk.lt;simp only[nodC,List.getElem?_toArray,List.getElem?_cons_zero,List.getElem?_cons_succ]at n0 n1 n2 n3 n4 n5 k0 k1 k3)
 go_region_with (first
  | (go_at_call 116;refine (meantBy_any ls _ (bsOf n.tok.text) _ (by first | with_reducible exact HM.out.c.pa.l | with_reducible exact HM.out.dr.c.pa.l) HLB.out HX.out).mono ?_;rintro e w3 ⟨rfl,hb3⟩;rw[HBT.out];clear n0 n1 n2 n3 n4 n5 k0 k1 k3 hln hlc;replace HM:=mH (by first | with_reducible exact HM.out.below hb3 | with_reducible exact HM.out.dr.below hb3);clear hb3;have n0:=HM.out.nd.cell 0;have n1:=HM.out.nd.cell 1;have n2:=HM.out.nd.cell 2;have n3:=HM.out.nd.cell 3;have n4:=HM.out.nd.cell 4;have n5:=HM.out.nd.cell 5;have k0:=HM.out.c.blk.cell 0;have k1:=HM.out.c.blk.cell 1;have k3:=HM.out.c.blk.cell 3;have hln:=HM.out.nd.lt;have hlc:=HM.out.c.blk.lt;simp only[nodC,List.getElem?_toArray,List.getElem?_cons_zero,List.getElem?_cons_succ]at n0 n1 n2 n3 n4 n5 k0 k1 k3)
  | (go_at_call 131;refine (HI.out _ HM.out.c).mono ?_;rintro e w4 ⟨rfl,hc4,hb4⟩;clear n0 n1 n2 n3 n4 n5 k0 k1 k3 hln hlc;replace HM:=mH (HM.out.call hc4 hb4);clear hc4 hb4))
 all_goals
  go_wp2
  go_ret
  exact ⟨rfl,HM.out.c,HM.out.bu⟩
set_option maxHeartbeats 4000000 in
set_option maxRecDepth 100000 in
theorem node_attr{cb:Nat}{na:Option Addr}{nc:Nat}{lv rv fv:Value}{N:List PNode}{ls:List PLet}{rs:List PRule}{fs:List Fact}(j b below h:Nat)(hj:j<b)(hbN:b≤N.length)(hbl:below+b≤1000)(n:PNode)(hnj:N[j]?=some n)(hn:NodeOk n)(hfa:atF fs (j:Int)=none)(h1:n.ops=0)(hc:isChK (kindP n.tok.text)=false)(hk:kindP n.tok.text≠2)(hk2:kindP n.tok.text≤100)(w:World)(H:CmpAt w cb (.slice na N.length nc) lv rv fv h N ls rs fs) :
  Calls Tryz.prog 131 #[.pointer (some ⟨cb,0,none⟩),.slice na b nc,.int .i64 j,.int .i64 below] w fun e w'=>e=.returned (.string (bsN (opC 1 ((kindP n.tok.text:Int)-15))))∧CmpAt w' cb (.slice na N.length nc) lv rv fv (layH below h) N ls rs fs∧But cb w w':=by
 have HM:=mH (NdSt.start H n)
 have hnl:=hn.left
 have hnr:=hn.right
 have hnb:=H.pa.nb
 obtain ⟨g,o,rfl,hg,hcap,d0,d1,d2,d3,d4,d5⟩:=node_cells H hnj
 have hsl:=fun wx=>sliceN g o b nc j (by omega) (by omega) wx
 have hlcb:=H.blk.lt
 have q3:=H.blk.cell 3
 simp only[List.getElem?_toArray,List.getElem?_cons_zero,List.getElem?_cons_succ]at q3
 have e0:decide ((j:Int)<0)=false:=decide_eq_false (by omega)
 have e1:decide ((b:Int)≤(j:Int))=false:=decide_eq_false (by omega)
 have HFA:Hid (atF fs (j:Int)=none):=hfa
 have e2:((n.ops:Int)==1)=false:=by simp;omega
 have e3:((n.ops:Int)==2)=false:=by simp;omega
 have e4:((kindP n.tok.text:Int)==2)=false:=by simp;omega
 have HCH:=mH hc
 have hv:In64 ((kindP n.tok.text:Int)-15):=by unfold In64;omega
 have HV:=mH hv
 clear h1 hc hk hv
 clear H hnj hfa
 have HN:=mH hn
 clear hn
 go_enter Tryz.func131,Tryz.ntmps131
 go_upto_region 6 with (go_at_call 110;refine (factAt_any fs _ (j:Int) _ HM.out.c.fr HM.out.c.fb ⟨by omega,by omega⟩).mono ?_;rintro e w1 ⟨rfl,hb1⟩;rw[HFA.out];rw[show factA none=.agg #[.bool false,.int .i64 0] from rfl];clear q3;replace HM:=mH ((HM.out.below hb1).al (.cells #[.bool false,.int .i64 0] 151));clear hb1;have n0:=HM.out.nd.cell 0;have n1:=HM.out.nd.cell 1;have n2:=HM.out.nd.cell 2;have n3:=HM.out.nd.cell 3;have n4:=HM.out.nd.cell 4;have n5:=HM.out.nd.cell 5;have k0:=HM.out.c.blk.cell 0;have k1:=HM.out.c.blk.cell 1;have k3:=HM.out.c.blk.cell 3;have hln:=HM.out.nd.lt;have hlc:=HM.out.c.blk.lt;simp only[nodC,List.getElem?_toArray,List.getElem?_cons_zero,List.getElem?_cons_succ]at n0 n1 n2 n3 n4 n5 k0 k1 k3)
 go_wp2_with (first
  | (go_at_call 113;refine (isChoice_any n _).mono ?_;rintro e w2 ⟨rfl,hb2⟩;rw[HCH.out];clear n0 n1 n2 n3 n4 n5 k0 k1 k3 hln hlc;replace HM:=mH (HM.out.below hb2);clear hb2;have n0:=HM.out.nd.cell 0;have n1:=HM.out.nd.cell 1;have n2:=HM.out.nd.cell 2;have n3:=HM.out.nd.cell 3;have n4:=HM.out.nd.cell 4;have n5:=HM.out.nd.cell 5;have k0:=HM.out.c.blk.cell 0;have k1:=HM.out.c.blk.cell 1;have k3:=HM.out.c.blk.cell 3;have hln:=HM.out.nd.lt;have hlc:=HM.out.c.blk.lt;simp only[nodC,List.getElem?_toArray,List.getElem?_cons_zero,List.getElem?_cons_succ]at n0 n1 n2 n3 n4 n5 k0 k1 k3)
  | (go_at_call 150;refine (lay_any HM.out.c 1 (by omega) ((kindP n.tok.text:Int)-15) HV.out below (by omega)).mono ?_;rintro e w3 ⟨rfl,hc3,hb3⟩;clear n0 n1 n2 n3 n4 n5 k0 k1 k3 hln hlc;replace HM:=mH (HM.out.call hc3 hb3);clear hc3 hb3))
 go_ret
 exact ⟨rfl,HM.out.c,HM.out.bu⟩
structure FsSt(w wr:World)(nv lv rv:Value)(fb:Nat)(gs:List Fact)(N:List PNode)(ls:List PLet)(rs:List PRule):Prop where
 bx:Blk wr w.heap.size #[nv,lv,rv] 73
 row:Blk wr fb (cellsF (padF gs N.length)).toArray 151
 pa:PolAt wr nv lv rv N ls rs
 hf:w.heap.size<fb
 le:gs.length≤N.length
 bl:Below w.heap.size w wr
theorem FsSt.below{w wr w':World}{nv lv rv:Value}{fb:Nat}{gs:List Fact}{N:List PNode}{ls:List PLet}{rs:List PRule}(h:FsSt w wr nv lv rv fb gs N ls rs)(hb:Below wr.heap.size wr w'):FsSt w w' nv lv rv fb gs N ls rs :=
 ⟨h.bx.below hb h.bx.lt,h.row.below hb h.row.lt,h.pa.below hb,h.hf,h.le,h.bl.trans (hb.mono h.bl.size)⟩
theorem FsSt.dr{w wr:World}{nv lv rv:Value}{fb:Nat}{gs:List Fact}{N:List PNode}{ls:List PLet}{rs:List PRule}(h:FsSt w wr nv lv rv fb gs N ls rs):FsSt w wr.drew nv lv rv fb gs N ls rs:=h.below (below_drewN (Below.refl _ wr) 1)
theorem FsSt.reads{w wr:World}{nv lv rv:Value}{fb:Nat}{gs:List Fact}{N:List PNode}{ls:List PLet}{rs:List PRule}(h:FsSt w wr nv lv rv fb gs N ls rs):Reads wr (.slice (some ⟨fb,0,none⟩) N.length N.length) (padF gs N.length).length (cellsF (padF gs N.length)):=by
 refine .inr ⟨fb,0,N.length,by rw[padF_len _ _ h.le],by rw[padF_len _ _ h.le];exact Nat.le_refl _,h.row.lt,fun j u hj=>?_⟩
 rw[Nat.zero_add,h.row.cell]
 simpa using hj
theorem FsSt.rowc{w wr:World}{nv lv rv:Value}{fb:Nat}{gs:List Fact}{N:List PNode}{ls:List PLet}{rs:List PRule}(h:FsSt w wr nv lv rv fb gs N ls rs){i:Nat}(hi:i<N.length):∃ x y,wr.cell? ⟨fb,i*2,none⟩=some x∧wr.cell? ⟨fb,i*2+1,none⟩=some y∧wr.frozen? ⟨fb,i*2,none⟩=false∧wr.frozen? ⟨fb,i*2+1,none⟩=false:=by
 have hl:(cellsF (padF gs N.length)).length=N.length*2:=by rw[cellsF_length,padF_len _ _ h.le]
 refine ⟨(cellsF (padF gs N.length))[i*2]'(by omega),(cellsF (padF gs N.length))[i*2+1]'(by omega), ?_, ?_,h.row.free _,h.row.free _⟩
 ·rw[h.row.cell];simp
 ·rw[h.row.cell];simp
theorem FsSt.put{w wr:World}{nv lv rv:Value}{fb:Nat}{gs:List Fact}{N:List PNode}{ls:List PLet}{rs:List PRule}(h:FsSt w wr nv lv rv fb gs N ls rs)(ha:Apart2 fb fb nv lv rv){i:Nat}(hi:gs.length=i)(hl:i<N.length)(f:Fact) :
  FsSt w ((wr.setCell ⟨fb,i*2,none⟩ (.bool f.isSome)).setCell ⟨fb,i*2+1,none⟩ (.int .i64 (f.getD 0))) nv lv rv fb (gs++[f]) N ls rs:=by
 subst hi
 have hf:=h.hf
 refine ⟨(h.bx.other _ _ (by simp only;omega)).other _ _ (by simp only;omega), ?_,(h.pa.set1 ha _ _).set1 ha _ _,hf,by simp;omega,sets2' h.bl hf⟩
 have:=(h.row.set (gs.length*2) (.bool f.isSome)).set (gs.length*2+1) (.int .i64 (f.getD 0))
 rw[padF_set gs N.length f hl]at this
 exact this
 where sets2' {w wr:World} {fb i j:Nat} {a b:Value} (h:Below w.heap.size w wr) (hf:w.heap.size<fb):Below w.heap.size w ((wr.setCell ⟨fb,i,none⟩ a).setCell ⟨fb,j,none⟩ b) :=
 (h.setCell (p:=⟨fb,i,none⟩) (Nat.le_of_lt hf) a).setCell (p:=⟨fb,j,none⟩) (Nat.le_of_lt hf) b
theorem apart_new{w:World}{nv lv rv:Value}{N:List PNode}{ls:List PLet}{rs:List PRule}(h:PolAt w nv lv rv N ls rs){k:Nat}(hk:w.heap.size≤k):Apart2 k k nv lv rv:=by
 have key:∀ (v:Value) (n:Nat) (xs:List Value),Reads w v n xs→v.ownBlock≠some k:=by
  intro v n xs hr
  rcases hr with ⟨rfl,_⟩ | ⟨b,o,cap,rfl,_,hlt,_⟩
  ·simp[Value.ownBlock]
  ·simp only[Value.ownBlock,ne_eq,Option.some.injEq];omega
 exact ⟨⟨key _ _ _ h.n,key _ _ _ h.n⟩,⟨key _ _ _ h.l,key _ _ _ h.l⟩,⟨key _ _ _ h.r,key _ _ _ h.r⟩⟩
theorem fs_start{w:World}{nv lv rv:Value}{N:List PNode}{ls:List PLet}{rs:List PRule}(h:PolAt w nv lv rv N ls rs):FsSt w ((w.alloc (.cells #[nv,lv,rv] 73)).alloc (.cells (cellsF (padF [] N.length)).toArray 151)) nv lv rv (w.heap.size+1) [] N ls rs:=by
 have hb:=two_below w (.cells #[nv,lv,rv] 73) (.cells (cellsF (padF [] N.length)).toArray 151)
 refine ⟨(Blk.new w _ _).alloc _, ?_,h.below hb,by omega,Nat.zero_le _,hb⟩
 have:=Blk.new (w.alloc (.cells #[nv,lv,rv] 73)) (cellsF (padF [] N.length)).toArray 151
 simpa using this
set_option maxHeartbeats 8000000 in
set_option maxRecDepth 100000 in
theorem factsOf_any(nv lv rv:Value)(N:List PNode)(ls:List PLet)(rs:List PRule)(w:World)(h:PolAt w nv lv rv N ls rs)(hn:∀ n∈N,NodeOk n)(hx:∀ p∈ls,1≤p.val.behind∧p.val.behind≤401) :
  Calls Tryz.prog 47 #[polA nv lv rv] w fun e w'=>Below w.heap.size w w'∧∃ fb,w.heap.size<fb∧e=.returned (.slice (some ⟨fb,0,none⟩) N.length N.length)∧Blk w' fb (cellsF (factsP ls N)).toArray 151:=by
 obtain ⟨na,nc,rfl⟩:=h.n.shape
 obtain ⟨la,lc,rfl⟩:=h.l.shape
 obtain ⟨ra,rc,rfl⟩:=h.r.shape
 obtain ⟨i0,hin,hz0,hz1,hz2⟩:=info_parts Tryz.infoFact
 have hnb:=h.nb
 have hlb:=h.lb
 have hmk:∀ wx:World,(Instr.makeSlice 113 (.int .i64 N.length) (.int .i64 N.length)).run Tryz.prog wx=.ok (.slice (some ⟨wx.heap.size,0,none⟩) N.length N.length) (wx.alloc (.cells (cellsF (padF [] N.length)).toArray 151)):=by
  intro wx
  have:=run_make (P:=Tryz.prog) wx 113 151 i0 _ Tryz.underlying113 hin hz0 .i64 .i64 N.length N.length (by omega) (by omega) (by rw[hz2];omega) (by omega)
  rw[this,hz1,Int.toNat_natCast,made_facts]
 have HK:=mH (fs_start h)
 have HA:=mH (apart_new h (k:=w.heap.size+1) (by omega))
 have HN:=mH hn
 have HX:=mH hx
 clear h hn hx
 unfold polA
 go_enter Tryz.func47,Tryz.ntmps47
 go_wp2
 generalize (w.alloc (.cells #[.slice na N.length nc,.slice la ls.length lc,.slice ra rs.length rc] 73)).alloc (.cells (cellsF (padF [] N.length)).toArray 151)=w1 at HK ⊢
 generalize w.heap.size+1=fb at HK HA ⊢
 go_loopw [4] (fun vi wr=>∃ (i:Nat),i≤N.length∧vi=.int .i64 i∧(∀ j,FactIn (atF (factsP ls (N.take i)) j))∧FsSt w wr (.slice na N.length nc) (.slice la ls.length lc) (.slice ra rs.length rc) fb (factsP ls (N.take i)) N ls rs) (fun i _=>1000-(intOf i).toNat)
 case atStart=>exact ⟨0,Nat.zero_le _,rfl,fun j=>by unfold factsP factsG atF;split <;> exact FactIn.none,HK.out⟩
 case round =>
  obtain ⟨i,hi,rfl,hfi,hk⟩:=hrel
  clear HK
  have HK:=mH hk
  have hB:=hk.bx.lt
  have hfbl:=hk.row.lt
  have p0:=hk.bx.cell 0
  have p1:=hk.bx.cell 1
  simp only[List.getElem?_toArray,List.getElem?_cons_zero,List.getElem?_cons_succ]at p0 p1
  by_cases hlt:i<N.length
  ·obtain ⟨g,o,cap,hcut,hcap,hg,hcl⟩:=hk.pa.n.pos (by omega)
   cases hcut
   have fc:=fun j (hj:j<6) u (hu:(cellN N[i])[j]?=some u)=>hcl (i*6+j) u ((flat_get cellN 6 (fun _=>rfl) N i hlt j hj).trans hu)
   have hstep:=factsG_take ls N i hlt
   have hgl:(factsP ls (N.take i)).length=i:=by rw[factsP_length];simp;omega
   obtain ⟨nd,hnd⟩:∃ nd,nd=N[i]:=⟨_,rfl⟩
   have hok:=HN.out nd (by rw[hnd];exact List.getElem_mem hlt)
   rw[← hnd]at fc hstep
   obtain ⟨gs,hgs⟩:∃ gs,factsP ls (N.take i)=gs:=⟨_,rfl⟩
   rw[hgs]at hstep hgl hfi HK
   have hfn:=factN_in (ls:=ls) hok.num hfi
   have HFI2:Hid (∀ j,FactIn (atF (factsP ls (N.take (i+1))) j)):=by rw[Hid,hstep];exact atF_snoc_in hfi hfn
   have HFP:Hid (∀ j,FactIn (atF (padF gs N.length) j)):=fun j=>by rw[atF_pad];exact hfi j
   have HPD:Hid (factN ls (padF gs N.length) nd=factN ls gs nd):=factN_pad ls gs N.length nd
   have HPL:Hid ((padF gs N.length).length≤401):=by rw[Hid,padF_len _ _ HK.out.le];exact hnb
   have HST:=mH hstep
   have HGL:=mH hgl
   have HOK:=mH hok
   have d0:wr.cell? ⟨g,o+i*6,none⟩=some (.int .i64 (kindP nd.tok.text)):=fc 0 (by omega) _ rfl
   have d1:wr.cell? ⟨g,o+i*6+1,none⟩=some (.int .i64 nd.tok.at'):=by rw[Nat.add_assoc];exact fc 1 (by omega) _ rfl
   have d2:wr.cell? ⟨g,o+i*6+2,none⟩=some (.string (bsOf nd.tok.text)):=by rw[Nat.add_assoc];exact fc 2 (by omega) _ rfl
   have d3:wr.cell? ⟨g,o+i*6+3,none⟩=some (.int .i64 nd.ops):=by rw[Nat.add_assoc];exact fc 3 (by omega) _ rfl
   have d4:wr.cell? ⟨g,o+i*6+4,none⟩=some (.int .i64 nd.left):=by rw[Nat.add_assoc];exact fc 4 (by omega) _ rfl
   have d5:wr.cell? ⟨g,o+i*6+5,none⟩=some (.int .i64 nd.right):=by rw[Nat.add_assoc];exact fc 5 (by omega) _ rfl
   clear hcl fc hk hfi hfn hstep hgl hok hnd hgs
   obtain ⟨f,hf⟩:∃ f,factN ls gs nd=f:=⟨_,rfl⟩
   have HF:=mH hf
   clear hf
   go_upto_region 5 with fail
   go_region_with (go_at_call 74;refine (factOf_any nd HOK.out _ _ ls (padF gs N.length) _ (by first | with_reducible exact HK.out.dr.pa.l | with_reducible exact HK.out.pa.l) hlb HX.out (by first | with_reducible exact HK.out.dr.reads | with_reducible exact HK.out.reads) HPL.out HFP.out).mono ?_;rintro e w5 ⟨rfl,hb5⟩;rw[HPD.out,HF.out];unfold factA;replace HK:=mH (by first | with_reducible exact HK.out.dr.below hb5 | with_reducible exact HK.out.below hb5);clear hb5;have hfb5:=HK.out.row.lt;obtain ⟨x5,y5,z1,z2,z3,z4⟩:=HK.out.rowc hlt)
   all_goals
    go_wp2
    have HP:=mH (HK.out.put HA.out HGL.out hlt f)
    go_roundw
    case rel=>exact ⟨i+1,by omega,by go_num,HFI2.out,by rw[HST.out,HF.out];exact HP.out⟩
    case measure=>simp[intOf];omega
  ·have hiN:i=N.length:=by omega
   subst hiN
   rw[List.take_length]at hk
   have hrow:=hk.row
   rw[show N.length=(factsP ls N).length from (factsP_length ls N).symm,padF_full]at hrow
   have HR:=mH hrow
   have hhf:=hk.hf
   clear hk hrow
   go_wp2
   go_ret
   exact ⟨HK.out.bl,fb,hhf,rfl,HR.out⟩
theorem codeH_out{fs:List Fact}{ls:List PLet}{N:List PNode}{f b:Nat}{i:Int}{below h:Nat}(ho:i<0∨(b:Int)≤i):codeH fs ls N (f+1) b i below h=([],h):=by
 rw[codeH,if_pos ho]
theorem codeH_some{fs:List Fact}{ls:List PLet}{N:List PNode}{f b j below h:Nat}{n:PNode}{v:Int}(hj:j<b)(hn:N[j]?=some n)(hfa:atF fs (j:Int)=some v):codeH fs ls N (f+1) b (j:Int) below h=(opC 0 v,layH below h):=by
 rw[codeH,if_neg (by omega)]
 simp only[Int.toNat_natCast,hn,hfa]
theorem codeH_none{fs:List Fact}{ls:List PLet}{N:List PNode}{f b j below h:Nat}{n:PNode}(hj:j<b)(hn:N[j]?=some n)(hfa:atF fs (j:Int)=none):codeH fs ls N (f+1) b (j:Int) below h =
  if n.ops=1 then ((codeH fs ls N f j n.left below h).1++opC (opK (kindP n.tok.text) n.ops) 0,(codeH fs ls N f j n.left below h).2)
  else if isChK (kindP n.tok.text) then chcH fs ls N f j n below h
  else if n.ops=2 then ((codeH fs ls N f j n.left below h).1++(codeH fs ls N f j n.right (below+1) (codeH fs ls N f j n.left below h).2).1++opC (opK (kindP n.tok.text) n.ops) 0,(codeH fs ls N f j n.right (below+1) (codeH fs ls N f j n.left below h).2).2)
  else if kindP n.tok.text=2 then codeH fs ls N f j (meantI ls n.tok.text) below h
  else (opC 1 ((kindP n.tok.text:Int)-15),layH below h):=by
 rw[codeH,if_neg (by omega)]
 simp only[Int.toNat_natCast,hn,hfa,chcH]
theorem meantI_in{ls:List PLet}(hx:∀ p∈ls,1≤p.val.behind∧p.val.behind≤401)(t:Txt):-2≤meantI ls t∧meantI ls t≤1000:=by
 unfold meantI
 split
 ·omega
 ·rename_i p hp
  have:=hx p (List.mem_of_getElem? hp)
  omega
theorem node_all{cb:Nat}{na:Option Addr}{nc:Nat}{lv rv fv:Value}{N:List PNode}{ls:List PLet}{rs:List PRule}{fs:List Fact}(hfi:∀ i,FactIn (atF fs i))(hN:∀ n∈N,NodeOk n)(hk:∀ n∈N,kindP n.tok.text≤100)(hx:∀ p∈ls,1≤p.val.behind∧p.val.behind≤401) :
  ∀ f,NodeDoes cb na nc lv rv fv N ls rs fs f
 | 0=>by
  intro b i below h w hb hbN hi1 hi2 hbl H hlen
  have hb0:b=0:=by omega
  subst hb0
  refine (node_out (na:=na) (nc:=nc) (cb:=cb) (lv:=lv) (rv:=rv) (fv:=fv) (N:=N) (ls:=ls) (rs:=rs) (fs:=fs) 0 below i (by omega) w).mono ?_
  rintro e w' ⟨rfl,rfl⟩
  exact ⟨rfl,H,But.refl _ _⟩
 | f+1=>by
  have IH:=node_all hfi hN hk hx (cb:=cb) (na:=na) (nc:=nc) (lv:=lv) (rv:=rv) (fv:=fv) (rs:=rs) f
  intro b i below h w hb hbN hi1 hi2 hbl H hlen
  by_cases ho:i<0∨(b:Int)≤i
  ·rw[codeH_out ho]
   refine (node_out (na:=na) (nc:=nc) (cb:=cb) (lv:=lv) (rv:=rv) (fv:=fv) (N:=N) (ls:=ls) (rs:=rs) (fs:=fs) b below i ho w).mono ?_
   rintro e w' ⟨rfl,rfl⟩
   exact ⟨rfl,H,But.refl _ _⟩
  ·obtain ⟨j,rfl⟩:∃ j:Nat,i=(j:Int):=⟨i.toNat,by omega⟩
   have hj:j<b:=by omega
   obtain ⟨n,hnj⟩:∃ n,N[j]?=some n:=⟨N[j]'(by omega),List.getElem?_eq_getElem (by omega)⟩
   have hmem:=List.mem_of_getElem? hnj
   have hok:=hN n hmem
   have hl:=hok.left
   have hr:=hok.right
   cases hfa:atF fs (j:Int) with
   | some v =>
    rw[codeH_some hj hnj hfa]
    exact node_fact j b below h hj hbN hbl n hnj hok v hfa (hfi _ v hfa) w H
   | none =>
    rw[codeH_none hj hnj hfa]at hlen ⊢
    by_cases h1:n.ops=1
    ·rw[if_pos h1]at hlen ⊢
     simp only[List.length_append]at hlen
     exact node_one j b below h hj hbN hbl n hnj hok hfa h1 _ _ (by omega) (mH fun wx Hx=>IH j n.left below h wx (by omega) (by omega) (by omega) (by omega) (by omega) Hx (by omega)) w H
    ·rw[if_neg h1]at hlen ⊢
     cases hc:isChK (kindP n.tok.text) with
     | true =>
      rw[hc,if_pos rfl]at hlen
      rw[if_pos rfl]
      exact node_choice j b below h hj hbN hbl n hnj hok hfa h1 hc _ _ (mH fun wx Hx=>choice_any IH n hok j below h wx (by omega) (by omega) (by omega) Hx hlen) w H
     | false =>
      rw[hc,if_neg (by simp)]at hlen
      rw[if_neg (by simp)]
      by_cases h2:n.ops=2
      ·rw[if_pos h2]at hlen ⊢
       simp only[List.length_append]at hlen
       exact node_two j b below h hj hbN hbl n hnj hok hfa h2 hc _ _ _ _ (by omega) (mH fun wx Hx=>IH j n.left below h wx (by omega) (by omega) (by omega) (by omega) (by omega) Hx (by omega)) (mH fun wx Hx=>IH j n.right (below+1) _ wx (by omega) (by omega) (by omega) (by omega) (by omega) Hx (by omega)) w H
      ·rw[if_neg h2]at hlen ⊢
       have h0:n.ops=0:=by have:=hok.ops;omega
       by_cases hk2:kindP n.tok.text=2
       ·rw[if_pos hk2]at hlen ⊢
        have hm:=meantI_in hx n.tok.text
        exact node_name j b below h hj hbN hbl n hnj hok hfa h0 hc hk2 hx _ _ (mH fun wx Hx=>IH j (meantI ls n.tok.text) below h wx (by omega) (by omega) hm.1 hm.2 (by omega) Hx hlen) w H
       ·rw[if_neg hk2]
        exact node_attr j b below h hj hbN hbl n hnj hok hfa h0 hc hk2 (hk n hmem) w H
structure CmpOk(N:List PNode)(ls:List PLet)(rs:List PRule)(fs:List Fact):Prop where
 fi:∀ i,FactIn (atF fs i)
 nd:∀ n∈N,NodeOk n
 kd:∀ n∈N,kindP n.tok.text≤100
 lt:∀ p∈ls,1≤p.val.behind∧p.val.behind≤401
 wh:∀ r∈rs,r.when.behind≤401
 sc:∀ r∈rs,r.score.behind≤401
set_option maxHeartbeats 1000000 in
set_option maxRecDepth 100000 in
theorem expr_any{w:World}{cb:Nat}{nv lv rv fv:Value}{h:Nat}{N:List PNode}{ls:List PLet}{rs:List PRule}{fs:List Fact}(H:CmpAt w cb nv lv rv fv h N ls rs fs)(hp:CmpOk N ls rs fs)(e:PExp)(he:e.behind≤401)(c:List Nat)(h':Nat)(hc:exprH fs ls N e h=(c,h'))(hlen:c.length≤60000) :
  Calls Tryz.prog 118 #[.pointer (some ⟨cb,0,none⟩),expA e] w fun e w'=>e=.returned (.string (bsN c))∧CmpAt w' cb nv lv rv fv h' N ls rs fs∧But cb w w':=by
 obtain ⟨na,nc,rfl⟩:=H.pa.n.shape
 have hnb:=H.pa.nb
 have HI:Hid (∀ wx,CmpAt wx cb (.slice na N.length nc) lv rv fv h N ls rs fs→Calls Tryz.prog 131 #[.pointer (some ⟨cb,0,none⟩),.slice na N.length nc,.int .i64 ((e.behind:Int)-1),.int .i64 0] wx fun e w'=>e=.returned (.string (bsN c))∧CmpAt w' cb (.slice na N.length nc) lv rv fv h' N ls rs fs∧But cb wx w'):=fun wx Hx=>by
  have:=node_all hp.fi hp.nd hp.kd hp.lt N.length N.length ((e.behind:Int)-1) 0 h wx (Nat.le_refl _) (Nat.le_refl _) (by omega) (by omega) (by omega) Hx (by rw[show codeH fs ls N N.length N.length ((e.behind:Int)-1) 0 h=(c,h') from hc];exact hlen)
  rw[show codeH fs ls N N.length N.length ((e.behind:Int)-1) 0 h=(c,h') from hc,show ((0:Nat):Int)=0 from rfl]at this
  exact this
 obtain ⟨m,hm⟩:∃ m:Int,(e.behind:Int)-1=m:=⟨_,rfl⟩
 have HWR:Hid (IntKind.i64.wrap m=m):=wrap_in (by unfold In64;omega)
 rw[hm]at HI
 have HC:=mH (H.al (.cells #[.int .i64 e.place,.int .i64 e.fr,.int .i64 e.behind] 105))
 have HE:=mH (Blk.new w #[.int .i64 e.place,.int .i64 e.fr,.int .i64 e.behind] 105)
 have HB:=mH (But.of (fb:=cb) (box3 w (.cells #[.int .i64 e.place,.int .i64 e.fr,.int .i64 e.behind] 105)))
 clear H hp hc
 unfold expA
 go_enter Tryz.func118,Tryz.ntmps118
 go_wp2
 generalize w.alloc (.cells #[.int .i64 e.place,.int .i64 e.fr,.int .i64 e.behind] 105)=w1 at HC HE HB ⊢
 have k0:=HC.out.blk.cell 0
 have e2:=HE.out.cell 2
 have hlc:=HC.out.blk.lt
 have hle:=HE.out.lt
 simp only[List.getElem?_toArray,List.getElem?_cons_zero,List.getElem?_cons_succ]at k0 e2
 go_region_with (go_at_call 131;(try rw[HWR.out]);refine (HI.out _ (by first | with_reducible exact HC.out.dr | with_reducible exact HC.out)).mono ?_;rintro e w2 ⟨rfl,hc2,hb2⟩;have HC2:=mH hc2;have HB2:Hid (But cb w1 w2):=(by first | with_reducible exact hb2 | exact (But.of (below_drewN (Below.refl _ w1) 1)).trans hb2);clear hc2 hb2)
 all_goals
  go_wp2
  go_ret
  exact ⟨rfl,HC2.out,HB.out.trans HB2.out⟩
end Go.Proofs.YtpcjadaeolkngaaGreatDoor
