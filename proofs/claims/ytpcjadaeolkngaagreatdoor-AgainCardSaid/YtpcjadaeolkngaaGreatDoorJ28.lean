/-
  What the program's At and the methods of an operation do.
-/
import Derived.Test.YtpcjadaeolkngaaGreatDoorJ27
import Derived.Test.YtpcjadaeolkngaaGreatDoorJ18
import Derived.Test.YtpcjadaeolkngaaGreatDoorJ00
import Derived.Deep.LoopGhost
import Derived.Deep.Light
import Derived.Test.YtpcjadaeolkngaaGreatDoorJ05
import Derived.Test.YtpcjadaeolkngaaGreatDoorJ07
import Derived.Deep.AppendLies
set_option linter.unusedVariables false
set_option linter.unusedSimpArgs false
namespace Go.Proofs.YtpcjadaeolkngaaGreatDoor
open Go.RowKit
def opV(o:Ins):Value:=.agg #[.int .i64 o.op,.int .i64 o.arg,.int .i64 o.next]
def noV:Value:=.agg #[.int .i64 0,.int .i64 0,.int .i64 0]
set_option maxHeartbeats 1000000 in
set_option maxRecDepth 10000 in
theorem At_any(s:ByteArray)(hs:s.size≤4000)(p:Nat)(hp:p≤100000)(w:World)(hg:GlobY w) :
  Calls Tryz.prog 55 #[.string s,.int .i64 p] w fun e w'=>Below w.heap.size w w' ∧
   ((OpOkI s p∧e=.returned (.tuple #[opV (mkIns s p),.bool true]))∨(¬ OpOkI s p∧e=.returned (.tuple #[noV,.bool false]))):=by
 have HG:Hid (GlobY w):=hg
 clear hg
 by_cases hlt:p<s.size
 case neg =>
  go_enter Tryz.func55,Tryz.ntmps55
  go_wp2
  refine bodyPost_ret (v:=.tuple #[noV,.bool false]) (by simp[results,Tryz.results55,go_sem,noV]) rfl ?_
  exact ⟨box3 _ _,.inr ⟨fun h=>hlt h.1,rfl⟩⟩
 have HB:Hid (bt s p=s[p].toNat):=bt_get s p hlt
 obtain ⟨c,hc⟩:∃ c,c=s[p].toNat:=⟨_,rfl⟩
 have hc256:c<256:=by rw[hc];exact UInt8.toNat_lt _
 obtain ⟨n,hn⟩:∃ n,n=behindN c:=⟨_,rfl⟩
 have hn8:n≤8:=by rw[hn];unfold behindN;(repeat' split) <;> omega
 have hm:mkIns s p=⟨p,c,IntKind.i64.wrap (lowU s (p+1) n:Nat),p+1+n⟩:=by simp only[mkIns,HB.out,← hc,← hn]
 obtain ⟨a,ha⟩:∃ a,a=IntKind.i64.wrap (lowU s (p+1) n:Nat):=⟨_,rfl⟩
 have ha1:c=1→a=bt s (p+1):=by
  intro h
  have h1:n=1:=by rw[hn,h];rfl
  rw[ha,h1,lowU_one]
  exact wrap_small _ (by have:=bt_lt s (p+1);omega)
 rw[← ha]at hm
 have hopk:OpOkI s p↔c≤17∧p+1+n≤s.size∧(c=1→a≤6):=by
  unfold OpOkI
  rw[HB.out,← hc,← hn]
  constructor
  ·rintro ⟨_,h1,h2,h3⟩
   exact ⟨h1,h2,fun h=>by rw[ha1 h];have:=h3 h;omega⟩
  ·rintro ⟨h1,h2,h3⟩
   exact ⟨hlt,h1,h2,fun h=>by have:=h3 h;rw[ha1 h]at this;omega⟩
 have HO:Hid (OpOkI s p↔c≤17∧p+1+n≤s.size∧(c=1→a≤6)):=hopk
 have HM:Hid (mkIns s p=⟨p,c,a,p+1+n⟩):=hm
 have HA:Hid (IntKind.i64.wrap (lowU s (p+1) n:Nat)=a):=ha.symm
 have HN:Hid (behindN c=n):=hn.symm
 have hix:=fun wx=>run_index_nat (P:=Tryz.prog) wx 9 s .i64 (p:Int) p Tryz.underlying9 rfl hlt
 rw[← hc]at hix
 clear hopk hm ha hn ha1 HB hc
 by_cases h17:c≤17
 case neg =>
  go_enter Tryz.func55,Tryz.ntmps55
  go_wp2
  refine bodyPost_ret (v:=.tuple #[noV,.bool false]) (by simp[results,Tryz.results55,go_sem,noV]) rfl ?_
  exact ⟨box3 _ _,.inr ⟨fun h=>h17 (HO.out.1 h).1,rfl⟩⟩
 have ct:w.cell? ⟨0,c,none⟩=some (.int .i64 n):=by rw[HG.out.bytes c (by omega),HN.out]
 have hb0:0<w.heap.size:=HG.out.size
 by_cases hfit:p+1+n≤s.size
 case neg =>
  go_enter Tryz.func55,Tryz.ntmps55
  go_wp2
  refine bodyPost_ret (v:=.tuple #[noV,.bool false]) (by simp[results,Tryz.results55,go_sem,noV]) rfl ?_
  exact ⟨box3 _ _,.inr ⟨fun h=>hfit (HO.out.1 h).2.1,rfl⟩⟩
 have hsz:(s.extract (p+1) s.size).size=s.size-(p+1):=by rw[ByteArray.size_extract];omega
 have hszn:((s.extract (p+1) s.size).extract 0 n).size=n:=by rw[ByteArray.size_extract,hsz];omega
 have HL:Hid (IntKind.i64.wrap (lowU ((s.extract (p+1) s.size).extract 0 n) 0 ((s.extract (p+1) s.size).extract 0 n).size:Nat)=a):=(by
  rw[hszn,lowU_ext _ 0 n n 0 (by rw[hszn];omega),lowU_ext s (p+1) s.size n _ (by rw[hsz];omega)]
  exact HA.out:_=a)
 have hz8:Hid (((s.extract (p+1) s.size).extract 0 n).size≤8):=(by rw[hszn];exact hn8:_≤8)
 clear hsz hszn
 by_cases hatt:c=1∧6<a
 ·obtain ⟨h1,h6⟩:=hatt
  have HX:Hid (c=1):=h1
  have hcb:((c:Int)==1)=true:=by simp;omega
  clear h1
  go_enter Tryz.func55,Tryz.ntmps55
  go_wp2_with (go_at_call 86;refine (lowestFirst_any _ hz8.out _).mono ?_;rintro e w' ⟨rfl,rfl⟩;rw[HL.out])
  refine bodyPost_ret (v:=.tuple #[noV,.bool false]) (by simp[results,Tryz.results55,go_sem,noV]) rfl ?_
  exact ⟨box3 _ _,.inr ⟨fun h=>by have:=(HO.out.1 h).2.2 HX.out;omega,rfl⟩⟩
 have HK:Hid (OpOkI s p):=HO.out.2 ⟨h17,hfit,fun h=>by
  by_cases h6:6<a
  ·exact absurd ⟨h,h6⟩ hatt
  ·omega⟩
 have hcase:((c:Int)==1)=false∨(((c:Int)==1)=true∧¬ 6<a):=by
  by_cases h:c=1
  ·exact .inr ⟨by simp;omega,fun h6=>hatt ⟨h,h6⟩⟩
  ·exact .inl (by simp;omega)
 clear hatt
 rcases hcase with hc1 | ⟨hc1,hc6⟩
 all_goals
  go_enter Tryz.func55,Tryz.ntmps55
  go_wp2_with (go_at_call 86;refine (lowestFirst_any _ hz8.out _).mono ?_;rintro e w' ⟨rfl,rfl⟩;rw[HL.out])
  refine bodyPost_ret (v:=.tuple #[.agg #[.int .i64 c,.int .i64 a,.int .i64 ((p:Int)+1+n)],.bool true]) (by simp[results,Tryz.results55,go_sem]) rfl ?_
  exact ⟨box3 _ _,.inl ⟨HK.out,by rw[HM.out];rfl⟩⟩
set_option maxHeartbeats 1000000 in
theorem Takes_any(o:Ins)(ho:o.op≤17)(w:World)(hg:GlobP w) :
  Calls Tryz.prog 80 #[opV o] w fun e w'=>e=.returned (.int .i64 (takesN o.op))∧Below w.heap.size w w':=by
 have ct:=hg.takes o.op (by omega)
 have hb:=hg.size.2.1
 clear hg
 unfold opV
 go_enter Tryz.func80,Tryz.ntmps80
 go_wp2
 go_ret
 exact ⟨rfl,box3 _ _⟩
set_option maxHeartbeats 1000000 in
theorem Lays_any(o:Ins)(ho:o.op≤17)(w:World)(hg:GlobP w) :
  Calls Tryz.prog 83 #[opV o] w fun e w'=>e=.returned (.int .i64 (laysN o.op))∧Below w.heap.size w w':=by
 have ct:=hg.lays o.op (by omega)
 have hb:=hg.size.2.2
 clear hg
 unfold opV
 go_enter Tryz.func83,Tryz.ntmps83
 go_wp2
 go_ret
 exact ⟨rfl,box3 _ _⟩
set_option maxHeartbeats 1000000 in
theorem Ends_any(o:Ins)(w:World) :
  Calls Tryz.prog 82 #[opV o] w fun e w'=>e=.returned (.bool (((o.op:Int)==16)||((o.op:Int)==17)))∧Below w.heap.size w w':=by
 unfold opV
 cases h:((o.op:Int)==16)
 all_goals
  go_enter Tryz.func82,Tryz.ntmps82
  go_wp2
  go_ret
  exact ⟨ret_bool (by simp[h]),box3 _ _⟩
set_option maxHeartbeats 1000000 in
theorem Jumps_any(o:Ins)(w:World) :
  Calls Tryz.prog 84 #[opV o] w fun e w'=>e=.returned (.bool ((((o.op:Int)==13)||((o.op:Int)==14))||((o.op:Int)==15)))∧Below w.heap.size w w':=by
 unfold opV
 cases h:((o.op:Int)==13) <;> cases h2:((o.op:Int)==14)
 all_goals
  go_enter Tryz.func84,Tryz.ntmps84
  go_wp2
  go_ret
  exact ⟨ret_bool (by simp[h,h2]),box3 _ _⟩
set_option maxHeartbeats 1000000 in
theorem Target_any(o:Ins)(h1:0≤o.arg)(h2:o.arg≤65535)(h3:o.next≤100000)(w:World) :
  Calls Tryz.prog 85 #[opV o] w fun e w'=>e=.returned (.int .i64 ((o.next:Int)+o.arg))∧Below w.heap.size w w':=by
 unfold opV
 go_enter Tryz.func85,Tryz.ntmps85
 go_wp2
 go_ret
 exact ⟨rfl,box3 _ _⟩
theorem Tryz.infoInt:(Tryz.prog.info? 3).map (fun i=>(i.zero,i.size,i.bytes))=some (some (.int .i64 0),1,8):=by kernel_rfl
def arrH(hs:Nat→Int)(n:Nat):Array Value:=((List.range n).map fun q=>Value.int .i64 (hs q)).toArray
theorem arrH_get(hs:Nat→Int)(n i:Nat)(h:i<n):(arrH hs n)[i]?=some (.int .i64 (hs i)):=by simp[arrH,h]
theorem arrH_set(hs:Nat→Int)(n k:Nat)(v:Int):(arrH hs n).setIfInBounds k (.int .i64 v)=arrH (upd hs k v) n:=by
 apply Array.ext
 ·simp[arrH]
 ·intro i h1 h2
  have hi:i<n:=by simpa[arrH] using h2
  rw[Array.getElem_setIfInBounds (by simpa[arrH] using hi)]
  simp only[arrH,upd,List.getElem_toArray,List.getElem_map,List.getElem_range]
  by_cases h:k=i
  ·subst h;simp
  ·simp[h,Ne.symm h]
theorem arrH_congr{hs gs:Nat→Int}{n:Nat}(h:∀ i,i<n→hs i=gs i):arrH hs n=arrH gs n:=by
 unfold arrH
 congr 1
 exact List.map_congr_left fun q hq=>by rw[h q (by simpa using hq)]
theorem made_zero(n:Nat):madeCells (Value.int .i64 0).cells (n*1)=arrH (fun _=>0) n:=by
 apply Array.ext
 ·simp[arrH,madeCells]
 ·intro i h1 h2
  have e:(Value.int .i64 0).cells=#[Value.int .i64 0]:=rfl
  simp[e,arrH,madeCells,Nat.mod_one]
theorem run_make_ints{P:Program}(w:World)(t e:TypeId)(i:TypeInfo)(ht:P.underlying t=some (.slice e))(hi:P.info? e=some i)(hz:i.zero=some (.int .i64 0))(hs:i.size=1)(hb:i.bytes=8)(n:Nat)(hn:n≤4000) :
  (Instr.makeSlice t (.int .i64 n) (.int .i64 n)).run P w=.ok (.slice (some ⟨w.heap.size,0,none⟩) n n) (w.alloc (.cells (arrH (fun _=>0) n) e)):=by
 have:=run_make (P:=P) w t e i _ ht hi hz .i64 .i64 n n (by omega) (by omega) (by rw[hb];omega) (by omega)
 rw[this,hs,Int.toNat_natCast,made_zero]
theorem own_setCell{w:World}{base:Nat}{e:TypeId}{size:Nat}{v:Value}{n:Nat}{xs:List Value}(h:w.ownsRow base e size v n xs)(p:Addr)(x:Value)(hp:p.block<base):(w.setCell p x).ownsRow base e size v n xs:=by
 refine ⟨h.1, ?_⟩
 rcases h.2 with hn | ⟨g,cap,cur,rfl,hbg,hg,r⟩
 ·exact .inl hn
 ·exact .inr ⟨g,cap,cur,rfl,hbg,by rw[Below.heap_setCell _ _ _ _ (by omega)];exact hg,r⟩
def verCells(s:ByteArray)(most:Nat)(hb:Nat)(wg:Bool):Array Value:=#[.string s,.int .i64 most,.slice (some ⟨hb,0,none⟩) s.size s.size,.bool wg]
structure VStv(w:World)(vb hb:Nat)(s:ByteArray)(most:Nat)(H:Nat→Int)(wg:Bool):Prop where
 st:Blk w vb (verCells s most hb wg) 122
 ht:Blk w hb (arrH H s.size) 3
 ne:hb≠vb
theorem VStv.below{w w':World}{vb hb:Nat}{s:ByteArray}{most:Nat}{H:Nat→Int}{wg:Bool}(h:VStv w vb hb s most H wg)(hbl:Below w.heap.size w w'):VStv w' vb hb s most H wg :=
 ⟨h.st.below hbl h.st.lt,h.ht.below hbl h.ht.lt,h.ne⟩
theorem VStv.c0{w:World}{vb hb:Nat}{s:ByteArray}{most:Nat}{H:Nat→Int}{wg:Bool}(h:VStv w vb hb s most H wg):w.cell? ⟨vb,0,none⟩=some (.string s):=by rw[h.st.cell];rfl
theorem VStv.c1{w:World}{vb hb:Nat}{s:ByteArray}{most:Nat}{H:Nat→Int}{wg:Bool}(h:VStv w vb hb s most H wg):w.cell? ⟨vb,1,none⟩=some (.int .i64 most):=by rw[h.st.cell];rfl
theorem VStv.c2{w:World}{vb hb:Nat}{s:ByteArray}{most:Nat}{H:Nat→Int}{wg:Bool}(h:VStv w vb hb s most H wg):w.cell? ⟨vb,2,none⟩=some (.slice (some ⟨hb,0,none⟩) s.size s.size):=by rw[h.st.cell];rfl
theorem VStv.c3{w:World}{vb hb:Nat}{s:ByteArray}{most:Nat}{H:Nat→Int}{wg:Bool}(h:VStv w vb hb s most H wg):w.cell? ⟨vb,3,none⟩=some (.bool wg):=by rw[h.st.cell];rfl
theorem VStv.cH{w:World}{vb hb:Nat}{s:ByteArray}{most:Nat}{H:Nat→Int}{wg:Bool}(h:VStv w vb hb s most H wg)(q:Nat)(hq:q<s.size):w.cell? ⟨hb,q,none⟩=some (.int .i64 (H q)):=by rw[h.ht.cell,arrH_get _ _ _ hq]
theorem VStv.wrong{w:World}{vb hb:Nat}{s:ByteArray}{most:Nat}{H:Nat→Int}{wg:Bool}(h:VStv w vb hb s most H wg):VStv (w.setCell ⟨vb,3,none⟩ (.bool true)) vb hb s most H true :=
 ⟨h.st.set 3 (.bool true),h.ht.other _ _ h.ne,h.ne⟩
theorem VStv.put{w:World}{vb hb:Nat}{s:ByteArray}{most:Nat}{H:Nat→Int}{wg:Bool}(h:VStv w vb hb s most H wg)(q:Nat)(a:Int):VStv (w.setCell ⟨hb,q,none⟩ (.int .i64 a)) vb hb s most (upd H q a) wg :=
 ⟨h.st.other _ _ (Ne.symm h.ne),by have:=h.ht.set q (.int .i64 a);rw[arrH_set]at this;exact this,h.ne⟩
set_option maxHeartbeats 1000000 in
theorem heightAt_any{w:World}{vb hb:Nat}{s:ByteArray}{most:Nat}{H:Nat→Int}{wg:Bool}(hs:s.size≤4000)(q:Nat)(hq:q<s.size)(h:VStv w vb hb s most H wg) :
  Calls Tryz.prog 79 #[.pointer (some ⟨vb,0,none⟩),.int .i64 q] w fun e w'=>e=.returned (.int .i64 (H q))∧w'=w:=by
 have c2:=h.c2
 have cH:=h.cH q hq
 clear h
 go_enter Tryz.func79,Tryz.ntmps79
 go_wp2
 go_ret
 exact ⟨rfl,rfl⟩
def reachH(s:ByteArray)(most:Nat)(H:Nat→Int)(q:Nat)(a:Int):Nat→Int:=if s.size≤q∨(most:Int)<a then H else upd H q a
def reachW(s:ByteArray)(most:Nat)(H:Nat→Int)(wg:Bool)(q:Nat)(a:Int):Bool:=wg||decide (s.size≤q∨(most:Int)<a∨(H q≠-1∧H q≠a))
set_option maxHeartbeats 1000000 in
theorem reach_any{w:World}{vb hb:Nat}{s:ByteArray}{most:Nat}{H:Nat→Int}{wg:Bool}(hs:s.size≤4000)(B:Nat)(hB:B≤vb∧B≤hb)(q:Nat)(a:Int)(h:VStv w vb hb s most H wg) :
  Calls Tryz.prog 51 #[.pointer (some ⟨vb,0,none⟩),.int .i64 q,.int .i64 a] w fun e w'=>e=.returned (.tuple #[])∧VStv w' vb hb s most (reachH s most H q a) (reachW s most H wg q a)∧Below B w w'∧w'.heap.size=w.heap.size∧∀ b,b≠vb→b≠hb→w'.heap[b]?=w.heap[b]?:=by
 have c1:=h.c1
 have c2:=h.c2
 have f3:w.frozen? ⟨vb,3,none⟩=false:=h.st.free 3
 have c3:=h.c3
 have HV:Hid (VStv w vb hb s most H wg):=h
 clear h
 by_cases hq:s.size≤q
 ·have HH:Hid (reachH s most H q a=H):=if_pos (.inl hq)
  have HW:Hid (reachW s most H wg q a=true):=(by unfold reachW;simp[hq]:_=true)
  rw[HH.out,HW.out]
  go_enter Tryz.func51,Tryz.ntmps51
  go_wp2
  refine bodyPost_ret (results_none rfl _ _ _) rfl ?_
  exact ⟨rfl,HV.out.wrong,(Below.refl _ _).setCell (p:=⟨vb,3,none⟩) hB.1 _,by simp,fun b h1 h2=>Below.heap_setCell _ _ _ _ h1⟩
 have cH:=HV.out.cH q (by omega)
 have fH:w.frozen? ⟨hb,q,none⟩=false:=HV.out.ht.free q
 have hne:hb≠vb:=HV.out.ne
 have hne':vb≠hb:=Ne.symm hne
 by_cases hm:(most:Int)<a
 ·have HH:Hid (reachH s most H q a=H):=if_pos (.inr hm)
  have HW:Hid (reachW s most H wg q a=true):=(by unfold reachW;simp[hm]:_=true)
  rw[HH.out,HW.out]
  go_enter Tryz.func51,Tryz.ntmps51
  go_wp2
  refine bodyPost_ret (results_none rfl _ _ _) rfl ?_
  exact ⟨rfl,HV.out.wrong,(Below.refl _ _).setCell (p:=⟨vb,3,none⟩) hB.1 _,by simp,fun b h1 h2=>Below.heap_setCell _ _ _ _ h1⟩
 have HH:Hid (reachH s most H q a=upd H q a):=if_neg (by omega)
 rw[HH.out]
 by_cases hc:H q≠-1∧H q≠a
 ·have HW:Hid (reachW s most H wg q a=true):=(by unfold reachW;rw[decide_eq_true (.inr (.inr hc))];simp:_=true)
  rw[HW.out]
  have d1:(H q==-1)=false:=by simpa using hc.1
  have d2:(H q==a)=false:=by simpa using hc.2
  have d1':(H q != -1)=true:=by simp[bne,d1]
  have d2':(H q != a)=true:=by simp[bne,d2]
  clear hc
  go_enter Tryz.func51,Tryz.ntmps51
  go_wp2
  go_end0
  exact ⟨rfl,HV.out.wrong.put q a,((Below.refl _ _).setCell (p:=⟨vb,3,none⟩) hB.1 _).setCell (p:=⟨hb,q,none⟩) hB.2 _,by simp,fun b h1 h2=>(Below.heap_setCell _ _ _ _ h2).trans (Below.heap_setCell _ _ _ _ h1)⟩
 ·have HW:Hid (reachW s most H wg q a=wg):=(by unfold reachW;rw[decide_eq_false (by omega)];simp:_=wg)
  rw[HW.out]
  by_cases e1:H q=-1
  ·have d1:(H q==-1)=true:=by simpa using e1
   have d1':(H q != -1)=false:=by simp[bne,d1]
   clear hc e1
   go_enter Tryz.func51,Tryz.ntmps51
   go_wp2
   go_end0
   exact ⟨rfl,HV.out.put q a,(Below.refl _ _).setCell (p:=⟨hb,q,none⟩) hB.2 _,by simp,fun b h1 h2=>Below.heap_setCell _ _ _ _ h2⟩
  ·have d1:(H q==-1)=false:=by simpa using e1
   have d2:(H q==a)=true:=by simp;omega
   have d1':(H q != -1)=true:=by simp[bne,d1]
   have d2':(H q != a)=false:=by simp[bne,d2]
   clear hc e1
   go_enter Tryz.func51,Tryz.ntmps51
   go_wp2
   go_end0
   exact ⟨rfl,HV.out.put q a,(Below.refl _ _).setCell (p:=⟨hb,q,none⟩) hB.2 _,by simp,fun b h1 h2=>Below.heap_setCell _ _ _ _ h2⟩
def insideW(H:Nat→Int)(wg:Bool)(f b:Nat):Bool:=wg||decide (∃ i,i<b∧f≤i∧H i≠-1)
theorem insideW_nil(H:Nat→Int)(wg:Bool)(f b:Nat)(h:b≤f):insideW H wg f b=wg:=by
 unfold insideW
 rw[decide_eq_false (by rintro ⟨i,h1,h2,_⟩;omega)];simp
theorem insideW_cons(H:Nat→Int)(wg:Bool)(f b:Nat)(h:f<b):insideW H wg f b=insideW H (wg||decide (H f≠-1)) (f+1) b:=by
 unfold insideW
 rw[Bool.eq_iff_iff]
 simp only[Bool.or_eq_true,decide_eq_true_eq]
 constructor
 ·rintro (h1 | ⟨i,h1,h2,h3⟩)
  ·exact .inl (.inl h1)
  ·by_cases he:i=f
   ·subst he;exact .inl (.inr h3)
   ·exact .inr ⟨i,h1,by omega,h3⟩
 ·rintro ((h1 | h1) | ⟨i,h1,h2,h3⟩)
  ·exact .inl h1
  ·exact .inr ⟨f,h,Nat.le_refl _,h1⟩
  ·exact .inr ⟨i,h1,by omega,h3⟩
set_option maxHeartbeats 1000000 in
theorem refuseInside_any{w:World}{vb hb:Nat}{s:ByteArray}{most:Nat}{H:Nat→Int}{wg:Bool}(hs:s.size≤4000)(B:Nat)(hB:B≤vb∧B≤hb)(f b:Nat)(hf:f≤b)(hbs:b≤s.size)(h:VStv w vb hb s most H wg) :
  Calls Tryz.prog 81 #[.pointer (some ⟨vb,0,none⟩),.int .i64 f,.int .i64 b] w fun e w'=>e=.returned (.tuple #[])∧VStv w' vb hb s most H (insideW H wg f b)∧Below B w w'∧w'.heap.size=w.heap.size∧∀ b,b≠vb→b≠hb→w'.heap[b]?=w.heap[b]?:=by
 have HV:Hid (VStv w vb hb s most H wg):=h
 clear h
 go_enter Tryz.func81,Tryz.ntmps81
 go_wp2
 go_loopw [6] (fun vi wx=>∃ (i:Nat) (w2:Bool),i≤b∧vi=.int .i64 i∧VStv wx vb hb s most H w2∧Below B w wx∧wx.heap.size=w.heap.size∧(∀ b,b≠vb→b≠hb→wx.heap[b]?=w.heap[b]?)∧insideW H wg f b=insideW H w2 i b) (fun i _=>b-(intOf i).toNat)
 case atStart=>exact ⟨f,wg,hf,rfl,HV.out,Below.refl _ _,rfl,fun _ _ _=>rfl,rfl⟩
 case round =>
  clear HV
  obtain ⟨i,w2,hib,rfl,hst,hbl,hsz,hot,hin⟩:=hrel
  have HOt:Hid (∀ b,b≠vb→b≠hb→wr.heap[b]?=w.heap[b]?):=hot
  clear hot
  have HV:Hid (VStv wr vb hb s most H w2):=hst
  have HI:Hid (insideW H wg f b=insideW H w2 i b):=hin
  clear hst hin
  by_cases hi:i<b
  case neg =>
   go_wp2
   go_end0
   have:=insideW_nil H w2 i b (by omega)
   rw[HI.out,this]
   exact ⟨rfl,HV.out,hbl,hsz,HOt.out⟩
  have c3:=HV.out.c3
  have f3:wr.frozen? ⟨vb,3,none⟩=false:=HV.out.st.free 3
  have HC:Hid (insideW H wg f b=insideW H (w2||decide (H i≠-1)) (i+1) b):=(by rw[HI.out,insideW_cons H w2 i b hi]:_=_)
  by_cases e1:H i=-1
  ·have d1:(H i==-1)=true:=by simpa using e1
   have d1':(H i != -1)=false:=by simp[bne,d1]
   have HE:Hid (decide (H i≠-1)=false):=(by simp[e1]:_=false)
   clear e1
   go_wp2_with (go_at_call 79;refine (heightAt_any hs i (by omega) HV.out).mono ?_;rintro e w' ⟨rfl,rfl⟩)
   go_roundw
   case rel=>exact ⟨i+1,w2,by omega,by go_num,HV.out,hbl,hsz,HOt.out,by rw[HC.out,HE.out];simp⟩
   case measure=>simp[intOf];omega
  ·have d1:(H i==-1)=false:=by simpa using e1
   have d1':(H i != -1)=true:=by simp[bne,d1]
   have HE:Hid (decide (H i≠-1)=true):=(by simp[e1]:_=true)
   clear e1
   go_wp2_with (go_at_call 79;refine (heightAt_any hs i (by omega) HV.out).mono ?_;rintro e w' ⟨rfl,rfl⟩)
   go_roundw
   case rel=>exact ⟨i+1,true,by omega,by go_num,HV.out.wrong,hbl.setCell (p:=⟨vb,3,none⟩) hB.1 _,by simp[hsz],fun b h1 h2=>(Below.heap_setCell _ _ _ _ h1).trans (HOt.out b h1 h2),by rw[HC.out,HE.out];simp⟩
   case measure=>simp[intOf];omega
def cellsZ(l:List Int):List Value:=l.map fun n=>.int .i64 n
def mCells(x:Itm)(y:Bn)(sv:Value)(p:Nat)(en:Bool)(k v n:Int):Array Value :=
 #[.int .i64 x.size,.int .i64 x.speed,.int .i64 x.need,.int .i64 y.id,.int .i64 y.zone,.int .i64 y.cap,.int .i64 y.used,.int .i64 y.has,sv,.int .i64 p,.bool en,.int .i64 k,.int .i64 v,.int .i64 n]
structure MSt(w:World)(mb:Nat)(x:Itm)(y:Bn)(sv:Value)(st:List Int)(p:Nat)(en:Bool)(k v n:Int):Prop where
 m:Blk w mb (mCells x y sv p en k v n) 129
 row:w.ownsRow (mb+1) 2 1 sv st.length (cellsZ st.reverse)
section
variable {w w':World} {mb:Nat} {x:Itm} {y:Bn} {sv:Value} {st:List Int} {p:Nat} {en:Bool} {k v n:Int}
theorem MSt.c8(h:MSt w mb x y sv st p en k v n):w.cell? ⟨mb,8,none⟩=some sv:=by rw[h.m.cell];rfl
theorem MSt.c9(h:MSt w mb x y sv st p en k v n):w.cell? ⟨mb,9,none⟩=some (.int .i64 p):=by rw[h.m.cell];rfl
theorem MSt.c10(h:MSt w mb x y sv st p en k v n):w.cell? ⟨mb,10,none⟩=some (.bool en):=by rw[h.m.cell];rfl
theorem MSt.c11(h:MSt w mb x y sv st p en k v n):w.cell? ⟨mb,11,none⟩=some (.int .i64 k):=by rw[h.m.cell];rfl
theorem MSt.c12(h:MSt w mb x y sv st p en k v n):w.cell? ⟨mb,12,none⟩=some (.int .i64 v):=by rw[h.m.cell];rfl
theorem MSt.c13(h:MSt w mb x y sv st p en k v n):w.cell? ⟨mb,13,none⟩=some (.int .i64 n):=by rw[h.m.cell];rfl
theorem MSt.lt(h:MSt w mb x y sv st p en k v n):mb<w.heap.size:=h.m.lt
theorem MSt.below(h:MSt w mb x y sv st p en k v n)(hb:Below w.heap.size w w'):MSt w' mb x y sv st p en k v n:=⟨h.m.below hb h.m.lt,own_below h.row hb⟩
theorem MSt.drew(h:MSt w mb x y sv st p en k v n):MSt w.drew mb x y sv st p en k v n:=⟨h.m,h.row.drew⟩
theorem MSt.place(h:MSt w mb x y sv st p en k v n)(q:Nat):MSt (w.setCell ⟨mb,9,none⟩ (.int .i64 q)) mb x y sv st q en k v n:=⟨h.m.set 9 _,own_setCell h.row _ _ (Nat.lt_succ_self mb)⟩
theorem MSt.steps(h:MSt w mb x y sv st p en k v n)(q:Int):MSt (w.setCell ⟨mb,13,none⟩ (.int .i64 q)) mb x y sv st p en k v q:=⟨h.m.set 13 _,own_setCell h.row _ _ (Nat.lt_succ_self mb)⟩
theorem MSt.ended(h:MSt w mb x y sv st p en k v n)(a b:Int):MSt (((w.setCell ⟨mb,10,none⟩ (.bool true)).setCell ⟨mb,11,none⟩ (.int .i64 a)).setCell ⟨mb,12,none⟩ (.int .i64 b)) mb x y sv st p true a b n :=
 ⟨((h.m.set 10 _).set 11 _).set 12 _,own_setCell (own_setCell (own_setCell h.row _ _ (Nat.lt_succ_self mb)) _ _ (Nat.lt_succ_self mb)) _ _ (Nat.lt_succ_self mb)⟩
theorem MSt.form{a:Int}{r:List Int}(h:MSt w mb x y sv (a :: r) p en k v n):∃ g cap,sv=.slice (some ⟨g,0,none⟩) (r.length+1) cap∧mb<g∧r.length+1≤cap∧w.cell? ⟨g,r.length,none⟩=some (.int .i64 a):=by
 rcases h.row.2 with ⟨_,h0⟩ | ⟨g,cap,cur,hv,hg,hh,hn,hm,hs,ht⟩
 ·simp at h0
 ·refine ⟨g,cap,hv,hg,hn, ?_⟩
  have h1:(cur.toList.take ((a :: r).length*1))[r.length]?=some (.int .i64 a):=by
   rw[ht]
   simp[cellsZ]
  rw[List.getElem?_take]at h1
  split at h1
  ·simp[World.cell?,hh]
   simpa using h1
  ·cases h1
theorem MSt.pop{a:Int}{r:List Int}{g cap:Nat}(h:MSt w mb x y (.slice (some ⟨g,0,none⟩) (r.length+1) cap) (a :: r) p en k v n):MSt (w.setCell ⟨mb,8,none⟩ (.slice (some ⟨g,0,none⟩) r.length cap)) mb x y (.slice (some ⟨g,0,none⟩) r.length cap) r p en k v n:=by
 refine ⟨h.m.set 8 _, ?_⟩
 refine own_setCell (base:=mb+1) ?_ _ _ (Nat.lt_succ_self mb)
 refine ⟨by simp[cellsZ],.inr ?_⟩
 rcases h.row.2 with ⟨hv,_⟩ | ⟨g',cap',cur,hv,hg,hh,hn,hm,hs,ht⟩
 ·cases hv
 ·cases hv
  refine ⟨g,cap,cur,rfl,hg,hh,by simp at hn;omega,hm,hs, ?_⟩
  have h2:(cur.toList.take ((a :: r).length*1)).take (r.length*1)=cellsZ r.reverse:=by
   rw[ht]
   simp[cellsZ]
  rw[List.take_take]at h2
  rw[← h2]
  congr 1
  simp
end
theorem Tryz.infoI64:(Tryz.prog.info? 2).map (fun i=>(i.zero,i.size,i.bytes))=some (some (.int .i64 0),1,8):=by kernel_rfl
set_option maxHeartbeats 1000000 in
theorem take_any{w:World}{mb:Nat}{x:Itm}{y:Bn}{sv:Value}{a:Int}{r:List Int}{p:Nat}{en:Bool}{k v n:Int}(hl:r.length≤4000)(h:MSt w mb x y sv (a :: r) p en k v n) :
  Calls Tryz.prog 91 #[.pointer (some ⟨mb,0,none⟩)] w fun e w'=>e=.returned (.int .i64 a)∧Below mb w w'∧(∀ b,b≠mb→w'.heap[b]?=w.heap[b]?)∧∃ sv',MSt w' mb x y sv' r p en k v n:=by
 obtain ⟨g,cap,rfl,hg,hcap,ca⟩:=h.form
 have c8:=h.c8
 have f8:=h.m.free 8
 have HM:Hid (MSt w mb x y (.slice (some ⟨g,0,none⟩) (r.length+1) cap) (a :: r) p en k v n):=h
 clear h
 go_enter Tryz.func91,Tryz.ntmps91
 go_wp2
 go_ret
 exact ⟨rfl,(Below.refl _ _).setCell (p:=⟨mb,8,none⟩) (Nat.le_refl _) _,fun b hb=>Below.heap_setCell _ _ _ _ hb,_,HM.out.pop⟩
theorem MSt.push{w w2:World}{mb:Nat}{x:Itm}{y:Bn}{sv:Value}{st:List Int}{p:Nat}{en:Bool}{k v n z:Int}{g cap:Nat}{o:Obj}(h:MSt w mb x y sv st p en k v n)
  (hown:w2.ownsRow (mb+1) 2 1 (.slice (some ⟨g,0,none⟩) (st.length+1) cap) (st.length+1) (cellsZ st.reverse++[.int .i64 z])) (hg:(w.alloc o).grownBy w2 sv.ownBlock) :
  MSt (w2.setCell ⟨mb,8,none⟩ (.slice (some ⟨g,0,none⟩) (st.length+1) cap)) mb x y (.slice (some ⟨g,0,none⟩) (st.length+1) cap) (z :: st) p en k v n∧Below mb w w2:=by
 have hne:sv.ownBlock≠some mb:=by intro he;have:=(h.row.lt _ he).1;omega
 have hlt:=h.lt
 have hb2:Blk w2 mb (mCells x y sv p en k v n) 129:=by
  unfold Blk
  rw[hg.block mb (by simp;omega) (Ne.symm hne)]
  exact h.m.alloc o
 refine ⟨⟨hb2.set 8 _, ?_⟩, ?_⟩
 ·refine own_setCell (base:=mb+1) ?_ _ _ (Nat.lt_succ_self mb)
  have e:cellsZ (z :: st).reverse=cellsZ st.reverse++[.int .i64 z]:=by simp[cellsZ]
  rw[e]
  exact hown
 ·exact ((Below.refl mb w).alloc (Nat.le_of_lt hlt) o).grown hg (by simp;omega) (fun k hk=>by have:=(h.row.lt k hk).1;omega)
set_option maxHeartbeats 1000000 in
set_option maxRecDepth 100000 in
theorem rlay_any{w:World}{mb:Nat}{x:Itm}{y:Bn}{sv:Value}{st:List Int}{p:Nat}{en:Bool}{k v n:Int}(z:Int)(hl:st.length≤4000)(h:MSt w mb x y sv st p en k v n) :
  Calls Tryz.prog 87 #[.pointer (some ⟨mb,0,none⟩),.int .i64 z] w fun e w'=>e=.returned (.tuple #[])∧Below mb w w'∧∃ sv',MSt w' mb x y sv' (z :: st) p en k v n:=by
 obtain ⟨i0,hin,hz0,hz1,hz2⟩:=info_parts Tryz.infoI64
 have c8:=h.c8
 have HM:Hid (MSt w mb x y sv st p en k v n):=h
 have hlt:=h.lt
 have hne:sv.ownBlock≠some mb:=by intro he;have:=(h.row.lt _ he).1;omega
 have f8:=h.m.free 8
 clear h
 go_enter Tryz.func87,Tryz.ntmps87
 go_wp2_with (at_builtin;refine wpList_append_lies _ rfl _ _ 127 rfl (mb+1) 2 i0 (.int .i64 0) 1 8 Tryz.underlying127 hin hz0 hz1 hz2 rfl (by decide) _ _ _ rfl (HM.out.row.alloc _) ⟨w.heap.size,0,none⟩ 1 1 [.int .i64 z] rfl rfl (cell_one_new _ _ _) one_int1 (by omega) (by unfold maxLen;omega) (by omega) (by simp;omega) (w.heap.size+1) (by simp) ?_;intro g cap w2 hown2 hgrow2 hat2 hlt2;have c8':=(hgrow2.cell_far ⟨mb,8,none⟩ (by simp;omega) (Ne.symm hne)).trans ((HM.out.m.alloc _).cell 8);have f8':=(hgrow2.frozen_far ⟨mb,8,none⟩ (by simp;omega) (Ne.symm hne)).trans ((HM.out.m.alloc _).free 8))
 go_end0
 obtain ⟨r1,r2⟩:=HM.out.push hown2 hgrow2
 exact ⟨rfl,r2.setCell (p:=⟨mb,8,none⟩) (Nat.le_refl _) _,_,r1⟩
set_option maxHeartbeats 1000000 in
theorem end_any{w:World}{mb:Nat}{x:Itm}{y:Bn}{sv:Value}{st:List Int}{p:Nat}{en:Bool}{k v n:Int}(a b:Int)(h:MSt w mb x y sv st p en k v n) :
  Calls Tryz.prog 92 #[.pointer (some ⟨mb,0,none⟩),.int .i64 a,.int .i64 b] w fun e w'=>e=.returned (.tuple #[])∧Below mb w w'∧MSt w' mb x y sv st p true a b n:=by
 have c10:=h.c10
 have c11:=h.c11
 have c12:=h.c12
 have f10:=h.m.free 10
 have f11:=h.m.free 11
 have f12:=h.m.free 12
 have HM:Hid (MSt w mb x y sv st p en k v n):=h
 clear h
 go_enter Tryz.func92,Tryz.ntmps92
 go_wp2
 go_end0
 exact ⟨rfl,(((Below.refl mb w).setCell (p:=⟨mb,10,none⟩) (Nat.le_refl _) _).setCell (p:=⟨mb,11,none⟩) (Nat.le_refl _) _).setCell (p:=⟨mb,12,none⟩) (Nat.le_refl _) _,HM.out.ended a b⟩
end Go.Proofs.YtpcjadaeolkngaaGreatDoor
