/-
  Images of known making: leaves; the whole image; and what is none: plain.
-/
import Derived.Test.YtpcjadaeolkngaaGreatDoorK06
import Derived.WalkKit
import Derived.WalkSpells
import Derived.WalkLawsBesides
import Derived.Deep.QuietTactic
import Derived.BigQuiet
import Derived.Test.YtpcjadaeolkngaaGreatDoorProg
import Derived.Test.YtpcjadaeolkngaaGreatDoorK04
import Derived.Deep.Light
set_option linter.unusedVariables false
set_option linter.unusedSimpArgs false
namespace Go.Proofs.YtpcjadaeolkngaaGreatDoor
open Go.RowKit
def leafA (k:Nat) (x:Itm) (y:Bn):PB:={ code:=[1,k],v:=attrN k x y,flt:=0,steps:=1,high:=1 }
theorem leaf_seg {s:ByteArray} {p c:Nat} {h:Int} (ho:OpOkI s p) (hc:bt s p=c) (hk:c=0∨c=1) (hh:0≤h):∃ l H,Seg s p (mkIns s p).next h (h+1) (h+1) l H:=by
 have hop:(mkIns s p).op=c:=hc
 have ht:takesN c=0∧laysN c=1:=by rcases hk with rfl | rfl <;> exact ⟨rfl,rfl⟩
 have hf:∀ r,Flows (mkIns s p) r ↔ r=(mkIns s p).next:=by
  intro r
  constructor
  ·rintro (⟨_,_,_,h⟩ | ⟨h,_⟩)
   ·exact h
   ·rw[hop] at h;omega
  ·intro h
   exact .inl ⟨by omega,by omega,by omega,h⟩
 have g:=seg_op (h:=h) ho (by rw[hc,ht.1];omega) hf
 rw[hc,ht.1,ht.2] at g
 exact ⟨_,_,g.cast rfl (by omega) (by omega)⟩
theorem leafA_ok {x:Itm} {y:Bn} (hx:x.Ok) (hy:y.Ok) {k:Nat} (hk:k < 7):(leafA k x y).Ok x y:=by
 have hop:∀ s p,Sits s p [1,k]→OpOkI s p∧bt s p=1∧(mkIns s p).next=p+2∧(mkIns s p).arg=k:=by
  intro s p hs
  obtain ⟨h1,h2⟩:=hs.head
  have b1:=hs 1 k rfl
  have hb:behindN 1=1:=rfl
  refine ⟨⟨h1,by omega,by rw[h2,hb];omega,fun _=>by rw[b1.2];omega⟩,h2,by simp only[mkIns,h2,hb], ?_⟩
  show IntKind.i64.wrap (lowU s (p+1) (behindN (bt s p)):Nat)=_
  rw[h2,hb,lowU_one,b1.2]
  exact wrap_small _ (by omega)
 refine ⟨fun s p hs=>?_,fun s p h hs hh=>?_,attr_in _ _ _ hx hy,by simp[leafA],by simp[leafA]⟩
 ·obtain ⟨h1,h2,h3,h4⟩:=hop s p hs
  refine does_one (fun st=>?_)
  have e:p+(leafA k x y).code.length=(mkIns s p).next:=by rw[h3];rfl
  rw[e]
  unfold stepM
  have h5:(mkIns s p).op=1:=h2
  rw[h5]
  show Sum.inr ((mkIns s p).next,attrN (mkIns s p).arg x y :: st)=_
  rw[h4]
  rfl
 ·obtain ⟨h1,h2,h3,h4⟩:=hop s p hs
  obtain ⟨l,H,g⟩:=leaf_seg h1 h2 (.inr rfl) hh
  exact ⟨l,H,g.cast (by rw[h3];rfl) rfl rfl⟩
def bytesN:Nat→Nat→List Nat
 | _,0=>[]
 | u,n+1=>u % 256 :: bytesN (u / 256) n
theorem bytesN_length:∀ (n u:Nat),(bytesN u n).length=n
 | 0,_=>rfl
 | n+1,u=>by simp only[bytesN,List.length_cons];rw[bytesN_length n]
theorem bytes_low {s:ByteArray}:∀ (n u p:Nat),Sits s p (bytesN u n)→lowU s p n=u % 256 ^ n
 | 0,u,p,_=>by simp[lowU,Nat.mod_one]
 | n+1,u,p,hs=>by
  have h1:=hs.head
  have h2:Sits s (p+1) (bytesN (u / 256) n):=Sits.right (c:=[u % 256]) hs
  simp only[lowU]
  rw[h1.2,bytes_low n _ _ h2,Nat.pow_succ,Nat.mul_comm (256 ^ n) 256,Nat.mod_mul]
def eightC (v:Int):List Nat:=bytesN (v % 18446744073709551616).toNat 8
def leafI (v:Int):PB:={ code:=0 :: eightC v,v:=v,flt:=0,steps:=1,high:=1 }
theorem eight_low {s:ByteArray} {p:Nat} {v:Int} (hs:Sits s p (eightC v)):lowU s p 8=(v % 18446744073709551616).toNat:=by
 rw[bytes_low 8 _ _ hs]
 exact Nat.mod_eq_of_lt (by omega)
theorem leafI_ok {x:Itm} {y:Bn} {v:Int} (hv:In64 v):(leafI v).Ok x y:=by
 have hop:∀ s p,Sits s p (0 :: eightC v)→OpOkI s p∧bt s p=0∧(mkIns s p).next=p+9∧(mkIns s p).arg=v:=by
  intro s p hs
  obtain ⟨h1,h2⟩:=hs.head
  have b8:p+8 < s.size:=by
   obtain ⟨c8,h8⟩:∃ c,(0 :: eightC v)[8]?=some c:=⟨_,List.getElem?_eq_getElem (by simp[eightC,bytesN_length])⟩
   exact (hs 8 c8 h8).1
  have hb:behindN 0=8:=rfl
  refine ⟨⟨h1,by omega,by rw[h2,hb];omega,by omega⟩,h2,by simp only[mkIns,h2,hb], ?_⟩
  show IntKind.i64.wrap (lowU s (p+1) (behindN (bt s p)):Nat)=_
  have hs':Sits s (p+1) (eightC v):=Sits.right (c:=[0]) hs
  rw[h2,hb,eight_low hs',IntKind.wrap_i64]
  unfold In64 at hv
  omega
 refine ⟨fun s p hs=>?_,fun s p h hs hh=>?_,hv,by simp[leafI],by simp[leafI]⟩
 ·obtain ⟨h1,h2,h3,h4⟩:=hop s p hs
  refine does_one (fun st=>?_)
  have e:p+(leafI v).code.length=(mkIns s p).next:=by rw[h3];simp[leafI,eightC,bytesN_length]
  rw[e]
  unfold stepM
  have h5:(mkIns s p).op=0:=h2
  rw[h5]
  show Sum.inr ((mkIns s p).next,(mkIns s p).arg :: st)=_
  rw[h4]
  rfl
 ·obtain ⟨h1,h2,h3,h4⟩:=hop s p hs
  obtain ⟨l,H,g⟩:=leaf_seg h1 h2 (.inl rfl) hh
  exact ⟨l,H,g.cast (by rw[h3];simp[leafI,eightC,bytesN_length]) rfl rfl⟩
def imgC (H:Nat) (c:List Nat):List Nat:=83 :: 76 :: H :: c
theorem Sits.img {s:ByteArray} {H:Nat} {c:List Nat} (h:Sits s 0 (imgC H c)):bt s 0=83∧bt s 1=76∧bt s 2=H∧Sits s 3 c:=by
 refine ⟨(h 0 _ rfl).2,(h 1 _ rfl).2,(h 2 _ rfl).2, ?_⟩
 have:=Sits.right (c:=[83,76,H]) (d:=c) h
 simpa using this
end Go.Proofs.YtpcjadaeolkngaaGreatDoor
namespace Go.Proofs.YtpcjadaeolkngaaGreatDoor
open Go.RowKit
def Blk (w:World) (b:Nat) (cs:Array Value) (t:TypeId):Prop:=w.heap[b]?=some (.cells cs t (0,0))
theorem Blk.cell {w:World} {b:Nat} {cs:Array Value} {t:TypeId} (h:Blk w b cs t) (i:Nat):w.cell? ⟨b,i,none⟩=cs[i]?:=by
 unfold Blk at h;simp[World.cell?,h]
theorem Blk.free {w:World} {b:Nat} {cs:Array Value} {t:TypeId} (h:Blk w b cs t) (i:Nat):w.frozen? ⟨b,i,none⟩=false:=by
 unfold Blk at h;simp[World.frozen?,h]
theorem Blk.lt {w:World} {b:Nat} {cs:Array Value} {t:TypeId} (h:Blk w b cs t):b < w.heap.size:=lt_of_block h
theorem Blk.set {w:World} {b:Nat} {cs:Array Value} {t:TypeId} (h:Blk w b cs t) (i:Nat) (v:Value):Blk (w.setCell ⟨b,i,none⟩ v) b (cs.setIfInBounds i v) t:=by
 have hlt:=h.lt
 have h':w.heap[b]=.cells cs t (0,0):=by unfold Blk at h;simpa[Array.getElem?_eq_getElem hlt] using h
 show (w.heap.modify b _)[b]?=_
 rw[Array.getElem?_eq_getElem (by simpa using hlt),Array.getElem_modify_self,h']
 rfl
theorem Blk.other {w:World} {b:Nat} {cs:Array Value} {t:TypeId} (h:Blk w b cs t) (a:Addr) (v:Value) (hne:b≠a.block):Blk (w.setCell a v) b cs t:=by
 unfold Blk;rw[Below.heap_setCell _ _ _ _ hne];exact h
theorem Blk.below {w w':World} {b B:Nat} {cs:Array Value} {t:TypeId} (h:Blk w b cs t) (hb:Below B w w') (hB:b < B):Blk w' b cs t:=by
 unfold Blk;rw[hb.block b hB];exact h
theorem Blk.alloc {w:World} {b:Nat} {cs:Array Value} {t:TypeId} (h:Blk w b cs t) (o:Obj):Blk (w.alloc o) b cs t :=
 h.below ((Below.refl w.heap.size w).alloc (Nat.le_refl _) o) h.lt
theorem Blk.new (w:World) (cs:Array Value) (t:TypeId):Blk (w.alloc (.cells cs t)) w.heap.size cs t:=heap_alloc_new w _
theorem Blk.drew {w:World} {b:Nat} {cs:Array Value} {t:TypeId} (h:Blk w b cs t):Blk w.drew b cs t:=h
theorem ret_bool {a b:Bool} (h:a=b):Ending.returned (.bool a)=.returned (.bool b):=by rw[h]
theorem ret_int {k:IntKind} {a b:Int} (h:a=b):Ending.returned (.int k a)=.returned (.int k b):=by rw[h]
def Reads (w:World) (v:Value) (n:Nat) (xs:List Value):Prop :=
 (v=.slice none 0 0∧n=0∧xs=[])∨∃ b o cap,v=.slice (some ⟨b,o,none⟩) n cap∧n≤cap∧b < w.heap.size∧∀ j u,xs[j]?=some u→w.cell? ⟨b,o+j,none⟩=some u
theorem Reads.below {w w':World} {v:Value} {n:Nat} {xs:List Value} (h:Reads w v n xs) (hb:Below w.heap.size w w'):Reads w' v n xs:=by
 rcases h with h | ⟨b,o,cap,rfl,hn,hlt,hc⟩
 ·exact .inl h
 ·exact .inr ⟨b,o,cap,rfl,hn,Nat.lt_of_lt_of_le hlt hb.size,fun j u hj=>(hb.cell (p:=⟨b,o+j,none⟩) hlt).trans (hc j u hj)⟩
theorem Reads.pos {w:World} {v:Value} {n:Nat} {xs:List Value} (h:Reads w v n xs) (hn:0 < n) :
  ∃ g o cap,v=.slice (some ⟨g,o,none⟩) n cap∧n≤cap∧g < w.heap.size∧∀ j u,xs[j]?=some u→w.cell? ⟨g,o+j,none⟩=some u:=by
 rcases h with ⟨_,h,_⟩ | h
 ·omega
 ·exact h
theorem Reads.alloc {w:World} {v:Value} {n:Nat} {xs:List Value} (h:Reads w v n xs) (o:Obj):Reads (w.alloc o) v n xs:=h.below ((Below.refl _ _).alloc (Nat.le_refl _) o)
theorem Reads.drew {w:World} {v:Value} {n:Nat} {xs:List Value} (h:Reads w v n xs):Reads w.drew v n xs:=h
theorem Reads.shape {w:World} {v:Value} {n:Nat} {xs:List Value} (h:Reads w v n xs):∃ a c,v=.slice a n c:=by
 rcases h with ⟨rfl,h,_⟩ | ⟨g,o,cap,rfl,_⟩
 ·exact ⟨none,0,by rw[h]⟩
 ·exact ⟨_,_,rfl⟩
theorem run_index_nat {P:Program} (w:World) (t:TypeId) (s:ByteArray) (k:IntKind) (i:Int) (n:Nat) (h:P.underlying t=some .string) (hi:i=(n:Int)) (hn:n < s.size) :
  (Instr.index t (.string s) (.int k i)).run P w=.ok (.int .u8 s[n].toNat) w:=by
 subst hi
 rw[run_index_string w t s k _ h,dif_pos ⟨by omega,by omega⟩]
 simp
theorem below_drewN {B:Nat} {a w:World} (h:Below B a w) (n:Nat):Below B a (w.drewN n):=h.trans ⟨rfl,rfl,rfl,Nat.le_refl _,fun _ _=>rfl⟩
theorem own_below {w w':World} {base:Nat} {e:TypeId} {size:Nat} {v:Value} {n:Nat} {xs:List Value} (h:w.ownsRow base e size v n xs) (hb:Below w.heap.size w w'):w'.ownsRow base e size v n xs:=by
 refine ⟨h.1, ?_⟩
 rcases h.2 with hn | ⟨g,cap,cur,rfl,hbg,hg,r⟩
 ·exact .inl hn
 ·exact .inr ⟨g,cap,cur,rfl,hbg,by rw[hb.block g (Array.getElem?_eq_some_iff.1 hg).1];exact hg,r⟩
theorem reads_of_own {w:World} {base:Nat} {e:TypeId} {size:Nat} {v:Value} {n:Nat} {xs:List Value} (h:w.ownsRow base e size v n xs):Reads w v n xs:=by
 rcases h.2 with ⟨rfl,rfl⟩ | ⟨g,cap,cur,rfl,hb,hg,hnc,hcm,hcs,htk⟩
 ·refine .inl ⟨rfl,rfl, ?_⟩
  have:=h.1
  simpa using this
 ·refine .inr ⟨g,0,cap,rfl,hnc,lt_of_block hg,fun j u hj=>?_⟩
  have hlt:j < n * size:=by
   have:=h.1
   rw[List.getElem?_eq_some_iff] at hj
   obtain ⟨h1,_⟩:=hj
   omega
  rw[Nat.zero_add,h.cellAt j hlt]
  exact hj
theorem own_ne {w:World} {b1 b2:Nat} {e1 e2:TypeId} {s1 s2:Nat} {v1 v2:Value} {n1 n2:Nat} {x1 x2:List Value} (h1:w.ownsRow b1 e1 s1 v1 n1 x1) (h2:w.ownsRow b2 e2 s2 v2 n2 x2) (he:e1≠e2):v1.ownBlock=none∨v1.ownBlock≠v2.ownBlock:=by
 rcases h1.2 with ⟨rfl,_⟩ | ⟨g1,c1,cur1,rfl,_,hg1,_⟩
 ·exact .inl rfl
 ·right
  rcases h2.2 with ⟨rfl,_⟩ | ⟨g2,c2,cur2,rfl,_,hg2,_⟩
  ·simp[Value.ownBlock]
  ·intro e
   simp only[Value.ownBlock,Option.some.injEq] at e
   rw[e,hg2] at hg1
   simp only[Option.some.injEq,Obj.cells.injEq] at hg1
   exact he hg1.2.1.symm
theorem one_int1 {k:IntKind} {n:Int}:∀ u∈[Value.int k n],u.oneCell'=true:=by
 intro u hu
 simp at hu
 subst hu
 rfl
theorem cell_one_at (w:World) (x:Value) (e:TypeId) (b:Nat) (hb:b=w.heap.size):∀ j u,[x][j]?=some u→(w.alloc (.cells #[x] e)).cell? ((⟨b,0,none⟩:Addr).add j)=some u:=by
 subst hb
 exact cell_one_new w x e
end Go.Proofs.YtpcjadaeolkngaaGreatDoor
namespace Go.Proofs.YtpcjadaeolkngaaGreatDoor
open Go.RowKit
theorem ret_two {k:IntKind} {a b c d:Int} (h:a=b) (h2:c=d):Ending.returned (.tuple #[.int k a,.int k c])=.returned (.tuple #[.int k b,.int k d]):=by rw[h,h2]
theorem wrap64_eq {n:Int} (h:In64 n):wrap64 n=n:=IntWalk.wrap64_in n h
set_option maxHeartbeats 400000 in
theorem truth_any (b:Bool) (w:World) :
  Calls Tryz.prog 133 #[.bool b] w fun e w'=>e=.returned (.int .i64 (bitN b))∧w'=w:=by
 cases b
 all_goals
  go_enter Tryz.func133,Tryz.ntmps133
  go_wp2
  go_ret
  exact ⟨rfl,rfl⟩
set_option maxHeartbeats 400000 in
theorem psum_any (a b:Int) (ha:In64 a) (hb:In64 b) (w:World) :
  Calls Tryz.prog 134 #[.int .i64 a,.int .i64 b] w fun e w'=>e=.returned (.tuple #[.int .i64 (exact64 (a+b)).1,.int .i64 (exact64 (a+b)).2])∧w'=w:=by
 obtain ⟨ha1,ha2⟩:=ha
 obtain ⟨hb1,hb2⟩:=hb
 by_cases hi:In64 (a+b)
 ·rw[exact_in hi]
  obtain ⟨h1,h2⟩:=hi
  go_enter Tryz.func134,Tryz.ntmps134
  go_wp2
  all_goals go_ret2
  all_goals first | (exfalso;go_light;omega) | exact ⟨ret_two rfl rfl,rfl⟩
 ·rw[exact_out hi]
  have hi':a+b < -9223372036854775808∨9223372036854775807 < a+b:=by unfold In64 at hi;omega
  clear hi
  go_enter Tryz.func134,Tryz.ntmps134
  go_wp2
  all_goals go_ret2
  all_goals first | (exfalso;go_light;omega) | exact ⟨ret_two rfl rfl,rfl⟩
set_option maxHeartbeats 400000 in
theorem pdiff_any (a b:Int) (ha:In64 a) (hb:In64 b) (w:World) :
  Calls Tryz.prog 135 #[.int .i64 a,.int .i64 b] w fun e w'=>e=.returned (.tuple #[.int .i64 (exact64 (a - b)).1,.int .i64 (exact64 (a - b)).2])∧w'=w:=by
 obtain ⟨ha1,ha2⟩:=ha
 obtain ⟨hb1,hb2⟩:=hb
 by_cases hi:In64 (a - b)
 ·rw[exact_in hi]
  obtain ⟨h1,h2⟩:=hi
  go_enter Tryz.func135,Tryz.ntmps135
  go_wp2
  all_goals go_ret2
  all_goals first | (exfalso;go_light;omega) | exact ⟨ret_two rfl rfl,rfl⟩
 ·rw[exact_out hi]
  have hi':a - b < -9223372036854775808∨9223372036854775807 < a - b:=by unfold In64 at hi;omega
  clear hi
  go_enter Tryz.func135,Tryz.ntmps135
  go_wp2
  all_goals go_ret2
  all_goals first | (exfalso;go_light;omega) | exact ⟨ret_two rfl rfl,rfl⟩
set_option maxHeartbeats 400000 in
theorem negated_any (a:Int) (ha:In64 a) (w:World) :
  Calls Tryz.prog 132 #[.int .i64 a] w fun e w'=>e=.returned (.tuple #[.int .i64 (negN a).1,.int .i64 (negN a).2])∧w'=w:=by
 obtain ⟨ha1,ha2⟩:=ha
 by_cases hi:a=-9223372036854775808
 ·have e:negN a=(0,1):=by unfold negN;exact exact_out (by unfold In64;omega)
  rw[e]
  subst hi
  clear e
  go_enter Tryz.func132,Tryz.ntmps132
  go_wp2
  all_goals go_ret2
  all_goals exact ⟨ret_two rfl rfl,rfl⟩
 ·have e:negN a=(-a,0):=by unfold negN;rw[exact_in (by unfold In64;omega)];simp
  rw[e]
  have hb:(a==-9223372036854775808)=false:=by simpa using hi
  have HN:Hid (In64 (-a)):=(by unfold In64;omega:In64 (-a))
  clear e hi
  go_enter Tryz.func132,Tryz.ntmps132
  go_wp2
  all_goals go_ret2
  all_goals exact ⟨ret_two (wrap64_eq HN.out) rfl,rfl⟩
end Go.Proofs.YtpcjadaeolkngaaGreatDoor
namespace Go.Proofs.YtpcjadaeolkngaaGreatDoor
open Go.RowKit
theorem wmul (a b:Int):IntKind.i64.wrap (a * b)=wrap64 (a * b):=IntWalk.i64_left _
set_option maxHeartbeats 1000000 in
theorem pproduct_any (a b:Int) (ha:In64 a) (hb:In64 b) (w:World) :
  Calls Tryz.prog 136 #[.int .i64 a,.int .i64 b] w fun e w'=>e=.returned (.tuple #[.int .i64 (exact64 (a * b)).1,.int .i64 (exact64 (a * b)).2])∧w'=w:=by
 have HA:Hid (In64 a):=ha
 have HB:Hid (In64 b):=hb
 obtain ⟨ha1,ha2⟩:=ha
 obtain ⟨hb1,hb2⟩:=hb
 by_cases h0:b=0
 ·have e:exact64 (a * b)=(0,0):=by rw[h0,Int.mul_zero];exact exact_in (by decide)
  rw[e]
  subst h0
  clear e
  go_enter Tryz.func136,Tryz.ntmps136
  go_wp2
  all_goals go_ret2
  all_goals exact ⟨ret_two rfl rfl,rfl⟩
 have eb:(b==0)=false:=by simpa using h0
 by_cases h1:b=-1
 ·have e:exact64 (a * b)=negN a:=by rw[h1];unfold negN;congr 1;omega
  rw[e]
  subst h1
  clear e
  go_enter Tryz.func136,Tryz.ntmps136
  go_wp2_with (go_at_call 132;refine (negated_any a HA.out _).mono ?_;rintro e w' ⟨rfl,rfl⟩)
  all_goals go_ret2
  all_goals exact ⟨ret_two rfl rfl,rfl⟩
 have eb1:(b==-1)=false:=by simpa using h1
 have hmul:=mul_test a b HA.out HB.out h0
 have hin:In64 ((wrap64 (a * b)).tdiv b):=by rw[← wmul];exact tdiv_in _ b (in_wrap _) HB.out h0 (by omega)
 have HQ:Hid (wrap64 ((wrap64 (a * b)).tdiv b)=(wrap64 (a * b)).tdiv b):=wrap64_eq hin
 rw[wmul] at hmul
 have HM:Hid ((wrap64 (a * b)).tdiv b=a ↔ In64 (a * b)):=hmul
 clear hmul hin
 by_cases hi:In64 (a * b)
 ·rw[exact_in hi]
  have HI:Hid (In64 (a * b)):=hi
  have hd:(wrap64 ((wrap64 (a * b)).tdiv b)==a)=true:=by rw[HQ.out];simpa using HM.out.2 hi
  have hd':(wrap64 ((wrap64 (a * b)).tdiv b) != a)=false:=by simp[bne,hd]
  clear hi
  go_enter Tryz.func136,Tryz.ntmps136
  go_wp2
  all_goals go_ret2
  all_goals exact ⟨ret_two (wrap64_eq HI.out) rfl,rfl⟩
 ·rw[exact_out hi]
  have hd:(wrap64 ((wrap64 (a * b)).tdiv b)==a)=false:=by rw[HQ.out];simpa using fun h=>hi (HM.out.1 h)
  have hd':(wrap64 ((wrap64 (a * b)).tdiv b) != a)=true:=by simp[bne,hd]
  clear hi
  go_enter Tryz.func136,Tryz.ntmps136
  go_wp2
  all_goals go_ret2
  all_goals exact ⟨ret_two rfl rfl,rfl⟩
end Go.Proofs.YtpcjadaeolkngaaGreatDoor
namespace Go.Proofs.YtpcjadaeolkngaaGreatDoor
open Go.RowKit
def divFault (a b:Int):Nat:=if b=0 then 2 else if a=-9223372036854775808∧b=-1 then 1 else 0
theorem tmod_in (a b:Int) (ha:In64 a):In64 (a.tmod b)∧In64 (a - a.tmod b):=by
 have h2:(a.tmod b).natAbs=a.natAbs % b.natAbs:=Int.natAbs_tmod a b
 have h3:=Nat.mod_le a.natAbs b.natAbs
 have h4:=Int.tmod_nonneg (a:=a) b
 unfold In64 at *
 by_cases h:0≤a
 ·have:=h4 h;omega
 ·have h5:=Int.tmod_nonneg (a:=-a) b (by omega)
  rw[Int.neg_tmod] at h5
  omega
theorem join7 (a b:Int) (ha:In64 a) (hb:In64 b):joinN 7 a b=if divFault a b=0 then (a.tdiv b,0) else (0,divFault a b):=by
 unfold divFault
 by_cases h0:b=0
 ·simp[joinN,h0]
 ·rw[join_div a b ha hb h0]
  by_cases h1:a=-9223372036854775808∧b=-1
  ·simp[h0,h1]
  ·rw[if_neg h1,if_neg h0,if_neg h1];rfl
theorem join8 (a b:Int):joinN 8 a b=if divFault a b=0 then (a.tmod b,0) else (0,divFault a b):=by
 unfold divFault
 by_cases h0:b=0
 ·simp[joinN,h0]
 ·by_cases h1:a=-9223372036854775808∧b=-1
  ·simp[joinN,h0,h1]
  ·simp only[joinN]
   rw[if_neg (by omega),if_neg (by omega),if_neg (by omega),if_neg (by omega),if_pos trivial,if_neg h0,if_neg h1,if_neg h0,if_neg h1];rfl
set_option maxHeartbeats 400000 in
theorem fod_any (a b:Int) (w:World) :
  Calls Tryz.prog 152 #[.int .i64 a,.int .i64 b] w fun e w'=>e=.returned (.int .i64 (divFault a b))∧w'=w:=by
 by_cases h0:b=0
 ·have e:divFault a b=2:=by simp[divFault,h0]
  rw[e]
  subst h0
  clear e
  go_enter Tryz.func152,Tryz.ntmps152
  go_wp2
  go_ret
  exact ⟨rfl,rfl⟩
 have eb:(b==0)=false:=by simpa using h0
 by_cases h1:a=-9223372036854775808
 ·by_cases h2:b=-1
  ·have e:divFault a b=1:=by simp[divFault,h1,h2]
   rw[e]
   subst h1;subst h2
   clear e
   go_enter Tryz.func152,Tryz.ntmps152
   go_wp2
   go_ret
   exact ⟨rfl,rfl⟩
  ·have e:divFault a b=0:=by simp[divFault,h0,h2]
   rw[e]
   have eb1:(b==-1)=false:=by simpa using h2
   subst h1
   clear e h2 h0
   go_enter Tryz.func152,Tryz.ntmps152
   go_wp2
   go_ret
   exact ⟨rfl,rfl⟩
 ·have e:divFault a b=0:=by simp[divFault,h0,h1]
  rw[e]
  have ea:(a==-9223372036854775808)=false:=by simpa using h1
  clear e h1 h0
  go_enter Tryz.func152,Tryz.ntmps152
  go_wp2
  go_ret
  exact ⟨rfl,rfl⟩
theorem divFault_cases (a b:Int):divFault a b=0∧b≠0∧¬ (a=-9223372036854775808∧b=-1)∨divFault a b=1∨divFault a b=2:=by
 unfold divFault
 by_cases h0:b=0
 ·simp[h0]
 ·by_cases h1:a=-9223372036854775808∧b=-1
  ·simp[h0,h1]
  ·exact .inl ⟨by rw[if_neg h0,if_neg h1],h0,h1⟩
set_option maxHeartbeats 400000 in
theorem quotient_any (a b:Int) (ha:In64 a) (hb:In64 b) (w:World) :
  Calls Tryz.prog 137 #[.int .i64 a,.int .i64 b] w fun e w'=>e=.returned (.tuple #[.int .i64 (joinN 7 a b).1,.int .i64 (joinN 7 a b).2])∧w'=w:=by
 rw[join7 a b ha hb]
 rcases divFault_cases a b with ⟨h,h0,h1⟩ | h | h
 ·rw[if_pos h]
  have HI:Hid (In64 (a.tdiv b)):=tdiv_in a b ha hb h0 h1
  have eb:(b==0)=false:=by simpa using h0
  have HH:Hid (divFault a b=0):=h
  obtain ⟨ha1,ha2⟩:=ha
  obtain ⟨hb1,hb2⟩:=hb
  clear h h1
  go_enter Tryz.func137,Tryz.ntmps137
  go_wp2_with (go_at_call 152;refine (fod_any a b _).mono ?_;rintro e w' ⟨rfl,rfl⟩;rw[HH.out])
  go_ret2
  exact ⟨ret_two (wrap64_eq HI.out) rfl,rfl⟩
 all_goals
  rw[if_neg (by omega),h]
  have HH:=h
  clear ha hb
  go_enter Tryz.func137,Tryz.ntmps137
  go_wp2_with (go_at_call 152;refine (fod_any a b _).mono ?_;rintro e w' ⟨rfl,rfl⟩;rw[HH])
  go_ret2
  exact ⟨ret_two rfl rfl,rfl⟩
set_option maxHeartbeats 400000 in
theorem remainder_any (a b:Int) (ha:In64 a) (hb:In64 b) (w:World) :
  Calls Tryz.prog 138 #[.int .i64 a,.int .i64 b] w fun e w'=>e=.returned (.tuple #[.int .i64 (joinN 8 a b).1,.int .i64 (joinN 8 a b).2])∧w'=w:=by
 rw[join8 a b]
 rcases divFault_cases a b with ⟨h,h0,h1⟩ | h | h
 ·rw[if_pos h]
  have HI:Hid (In64 (a.tmod b)):=(tmod_in a b ha).1
  have eb:(b==0)=false:=by simpa using h0
  have HH:Hid (divFault a b=0):=h
  obtain ⟨ha1,ha2⟩:=ha
  obtain ⟨hb1,hb2⟩:=hb
  clear h h1
  go_enter Tryz.func138,Tryz.ntmps138
  go_wp2_with (go_at_call 152;refine (fod_any a b _).mono ?_;rintro e w' ⟨rfl,rfl⟩;rw[HH.out])
  go_ret2
  exact ⟨ret_two (by first | rfl | exact wrap64_eq HI.out) rfl,rfl⟩
 all_goals
  rw[if_neg (by omega),h]
  have HH:=h
  clear ha hb
  go_enter Tryz.func138,Tryz.ntmps138
  go_wp2_with (go_at_call 152;refine (fod_any a b _).mono ?_;rintro e w' ⟨rfl,rfl⟩;rw[HH])
  go_ret2
  exact ⟨ret_two rfl rfl,rfl⟩
end Go.Proofs.YtpcjadaeolkngaaGreatDoor
namespace Go.Proofs.YtpcjadaeolkngaaGreatDoor
open Go.RowKit
theorem Hid.mk2 {p:Prop} (h:p):Hid p:=h
theorem bitN_lt (a b:Int):(joinN 9 a b)=(bitN (decide (a < b)),0):=rfl
theorem bitN_le (a b:Int):(joinN 10 a b)=(bitN (decide (a≤b)),0):=rfl
theorem bitN_eq (a b:Int):(joinN 11 a b)=(bitN (decide (a=b)),0):=rfl
theorem bitN_ne (a b:Int):(joinN 12 a b)=(bitN (decide (a≠b)),0):=rfl
theorem beq_dec (a b:Int):(a==b)=decide (a=b):=by by_cases h:a=b <;> simp[h]
theorem bne_dec (a b:Int):(a != b)=decide (a≠b):=by by_cases h:a=b <;> simp[h]
set_option maxHeartbeats 400000 in
theorem compared_any (c:Nat) (hc:c=9∨c=10∨c=11∨c=12) (a b:Int) (w:World) :
  Calls Tryz.prog 139 #[.int .i64 c,.int .i64 a,.int .i64 b] w fun e w'=>e=.returned (.int .i64 (joinN c a b).1)∧w'=w:=by
 rcases hc with rfl | rfl | rfl | rfl
 ·rw[bitN_lt]
  go_enter Tryz.func139,Tryz.ntmps139
  go_wp2_with (go_at_call 133;refine (truth_any _ _).mono ?_;rintro e w' ⟨rfl,rfl⟩)
  go_ret
  exact ⟨rfl,rfl⟩
 ·rw[bitN_le]
  go_enter Tryz.func139,Tryz.ntmps139
  go_wp2_with (go_at_call 133;refine (truth_any _ _).mono ?_;rintro e w' ⟨rfl,rfl⟩)
  go_ret
  exact ⟨rfl,rfl⟩
 ·rw[bitN_eq]
  go_enter Tryz.func139,Tryz.ntmps139
  go_wp2_with (go_at_call 133;refine (truth_any _ _).mono ?_;rintro e w' ⟨rfl,rfl⟩)
  go_ret
  exact ⟨ret_int (by rw[beq_dec]),rfl⟩
 ·rw[bitN_ne]
  go_enter Tryz.func139,Tryz.ntmps139
  go_wp2_with (go_at_call 133;refine (truth_any _ _).mono ?_;rintro e w' ⟨rfl,rfl⟩)
  go_ret
  exact ⟨ret_int (by rw[bne_dec]),rfl⟩
theorem join4 (a b:Int):joinN 4 a b=exact64 (a+b):=rfl
theorem join5 (a b:Int):joinN 5 a b=exact64 (a - b):=rfl
theorem join6 (a b:Int):joinN 6 a b=exact64 (a * b):=rfl
theorem join_cmp (c:Nat) (hc:c=9∨c=10∨c=11∨c=12) (a b:Int):(joinN c a b).2=0:=by rcases hc with rfl | rfl | rfl | rfl <;> rfl
set_option maxHeartbeats 1000000 in
theorem Two_any (c:Nat) (hc:4≤c∧c≤12) (a b:Int) (ha:In64 a) (hb:In64 b) (w:World) :
  Calls Tryz.prog 121 #[.int .i64 c,.int .i64 a,.int .i64 b] w fun e w'=>e=.returned (.tuple #[.int .i64 (joinN c a b).1,.int .i64 (joinN c a b).2])∧w'=w:=by
 have HA:Hid (In64 a):=ha
 have HB:Hid (In64 b):=hb
 clear ha hb
 have hk:c=4∨c=5∨c=6∨c=7∨c=8∨(c=9∨c=10∨c=11∨c=12):=by omega
 clear hc
 rcases hk with rfl | rfl | rfl | rfl | rfl | hk
 ·rw[join4]
  go_enter Tryz.func121,Tryz.ntmps121
  go_wp2_with (go_at_call 134;refine (psum_any a b HA.out HB.out _).mono ?_;rintro e w' ⟨rfl,rfl⟩)
  go_ret2
  exact ⟨ret_two rfl rfl,rfl⟩
 ·rw[join5]
  go_enter Tryz.func121,Tryz.ntmps121
  go_wp2_with (go_at_call 135;refine (pdiff_any a b HA.out HB.out _).mono ?_;rintro e w' ⟨rfl,rfl⟩)
  go_ret2
  exact ⟨ret_two rfl rfl,rfl⟩
 ·rw[join6]
  go_enter Tryz.func121,Tryz.ntmps121
  go_wp2_with (go_at_call 136;refine (pproduct_any a b HA.out HB.out _).mono ?_;rintro e w' ⟨rfl,rfl⟩)
  go_ret2
  exact ⟨ret_two rfl rfl,rfl⟩
 ·go_enter Tryz.func121,Tryz.ntmps121
  go_wp2_with (go_at_call 137;refine (quotient_any a b HA.out HB.out _).mono ?_;rintro e w' ⟨rfl,rfl⟩)
  go_ret2
  exact ⟨ret_two rfl rfl,rfl⟩
 ·go_enter Tryz.func121,Tryz.ntmps121
  go_wp2_with (go_at_call 138;refine (remainder_any a b HA.out HB.out _).mono ?_;rintro e w' ⟨rfl,rfl⟩)
  go_ret2
  exact ⟨ret_two rfl rfl,rfl⟩
 ·have HK:Hid (c=9∨c=10∨c=11∨c=12):=hk
  rw[join_cmp c hk]
  have e4:((c:Int)==4)=false:=by simp;omega
  have e5:((c:Int)==5)=false:=by simp;omega
  have e6:((c:Int)==6)=false:=by simp;omega
  have e7:((c:Int)==7)=false:=by simp;omega
  have e8:((c:Int)==8)=false:=by simp;omega
  obtain ⟨jv,hjv⟩:∃ jv,jv=(joinN c a b).1:=⟨_,rfl⟩
  have HJ:Hid ((joinN c a b).1=jv):=hjv.symm
  rw[← hjv]
  clear hk hjv
  go_enter Tryz.func121,Tryz.ntmps121
  go_wp2_with (go_at_call 139;refine (compared_any c HK.out a b _).mono ?_;rintro e w' ⟨rfl,rfl⟩;rw[HJ.out])
  go_ret2
  exact ⟨ret_two rfl rfl,rfl⟩
def oneN (c:Nat) (a:Int):Int × Nat:=if c=2 then negN a else (bitN (decide (a=0)),0)
set_option maxHeartbeats 400000 in
theorem One_any (c:Nat) (hc:c=2∨c=3) (a:Int) (ha:In64 a) (w:World) :
  Calls Tryz.prog 119 #[.int .i64 c,.int .i64 a] w fun e w'=>e=.returned (.tuple #[.int .i64 (oneN c a).1,.int .i64 (oneN c a).2])∧w'=w:=by
 have HA:Hid (In64 a):=ha
 clear ha
 rcases hc with rfl | rfl
 ·rw[show oneN 2 a=negN a from rfl]
  go_enter Tryz.func119,Tryz.ntmps119
  go_wp2_with (go_at_call 132;refine (negated_any a HA.out _).mono ?_;rintro e w' ⟨rfl,rfl⟩)
  go_ret2
  exact ⟨ret_two rfl rfl,rfl⟩
 ·rw[show oneN 3 a=(bitN (decide (a=0)),0) from rfl]
  go_enter Tryz.func119,Tryz.ntmps119
  go_wp2_with (go_at_call 133;refine (truth_any _ _).mono ?_;rintro e w' ⟨rfl,rfl⟩)
  go_ret2
  exact ⟨ret_two (by rw[beq_dec]) rfl,rfl⟩
end Go.Proofs.YtpcjadaeolkngaaGreatDoor
namespace Go.Proofs.YtpcjadaeolkngaaGreatDoor
open Go.RowKit
def opK (k ops:Nat):Nat :=
 if k=9 then 3 else if k=28 then (if ops=1 then 2 else 5) else if k=27 then 4 else if k=29 then 6 else if k=30 then 7 else if k=31 then 8 else if k=25 then 9 else if k=26 then 10 else if k=23 then 11 else 12
def isChK (k:Nat):Bool:=decide (k=7)||decide (k=8)
def decK (k:Nat):Int:=if k=8 then 1 else 0
def leaK (k:Nat):Nat:=if k=8 then 15 else 14
abbrev Fact:=Option Int
def atF (fs:List Fact) (i:Int):Fact:=if i < 0 then none else fs.getD i.toNat none
def meantI (ls:List PLet) (t:Txt):Int:=match ls[letIx ls t]? with
 | none=>-1
 | some p=>(p.val.behind:Int) - 1
def numT (t:Txt):Int:=t.foldl (fun n c=>n * 10+(c.toNat:Int) - 48) 0
def oneF (c:Nat):Fact→Fact
 | none=>none
 | some a=>if (oneN c a).2=0 then some (oneN c a).1 else none
def twoF (c:Nat):Fact→Fact→Fact
 | some a,some b=>if (joinN c a b).2=0 then some (joinN c a b).1 else none
 | _,_=>none
def choiceF (k:Nat):Fact→Fact→Fact
 | none,_=>none
 | some a,r=>if a=decK k then some a else r
def singleF (t:RTok):Fact :=
 if kindP t.text=1 then some (numT t.text) else if kindP t.text=10 then some 1 else if kindP t.text=11 then some 0 else if kindP t.text=12∨kindP t.text=13∨kindP t.text=14 then some ((kindP t.text:Int) - 12) else none
def factN (ls:List PLet) (fs:List Fact) (n:PNode):Fact :=
 if n.ops=1 then oneF (opK (kindP n.tok.text) n.ops) (atF fs n.left)
 else if isChK (kindP n.tok.text) then choiceF (kindP n.tok.text) (atF fs n.left) (atF fs n.right)
 else if n.ops=2 then twoF (opK (kindP n.tok.text) n.ops) (atF fs n.left) (atF fs n.right)
 else if kindP n.tok.text=2 then atF fs (meantI ls n.tok.text)
 else singleF n.tok
def factsG (ls:List PLet):List Fact→List PNode→List Fact
 | fs,[]=>fs
 | fs,n :: r=>factsG ls (fs++[factN ls fs n]) r
def factsP (ls:List PLet) (N:List PNode):List Fact:=factsG ls [] N
theorem factsG_length (ls:List PLet):∀ (N:List PNode) (fs:List Fact),(factsG ls fs N).length=fs.length+N.length
 | [],fs=>by simp[factsG]
 | n :: r,fs=>by rw[factsG,factsG_length ls r];simp;omega
theorem factsG_append (ls:List PLet):∀ (a b:List PNode) (fs:List Fact),factsG ls fs (a++b)=factsG ls (factsG ls fs a) b
 | [],b,fs=>rfl
 | n :: r,b,fs=>by rw[List.cons_append,factsG,factsG,factsG_append ls r]
def opC (k:Nat) (v:Int):List Nat:=k :: bytesN (v % 18446744073709551616).toNat (behindN k)
theorem opC_length (k:Nat) (v:Int):(opC k v).length=behindN k+1:=by simp[opC,bytesN_length]
def layH (below h:Nat):Nat:=if h < below+1 then below+1 else h
def codeH (fs:List Fact) (ls:List PLet) (N:List PNode):Nat→Nat→Int→Nat→Nat→List Nat × Nat
 | 0,_,_,_,h=>([],h)
 | f+1,b,i,below,h =>
  if i < 0∨(b:Int)≤i then ([],h) else
  match N[i.toNat]? with
  | none=>([],h)
  | some n =>
   match atF fs i with
   | some v=>(opC 0 v,layH below h)
   | none =>
    if n.ops=1 then ((codeH fs ls N f i.toNat n.left below h).1++opC (opK (kindP n.tok.text) n.ops) 0,(codeH fs ls N f i.toNat n.left below h).2)
    else if isChK (kindP n.tok.text) then
     ((codeH fs ls N f i.toNat n.left below h).1++opC (leaK (kindP n.tok.text)) (((codeH fs ls N f i.toNat n.right below (codeH fs ls N f i.toNat n.left below h).2).1.length+3:Nat):Int)++(codeH fs ls N f i.toNat n.right below (codeH fs ls N f i.toNat n.left below h).2).1++opC 13 9++opC 0 (decK (kindP n.tok.text)),
      layH below (codeH fs ls N f i.toNat n.right below (codeH fs ls N f i.toNat n.left below h).2).2)
    else if n.ops=2 then
     ((codeH fs ls N f i.toNat n.left below h).1++(codeH fs ls N f i.toNat n.right (below+1) (codeH fs ls N f i.toNat n.left below h).2).1++opC (opK (kindP n.tok.text) n.ops) 0,(codeH fs ls N f i.toNat n.right (below+1) (codeH fs ls N f i.toNat n.left below h).2).2)
    else if kindP n.tok.text=2 then codeH fs ls N f i.toNat (meantI ls n.tok.text) below h
    else (opC 1 ((kindP n.tok.text:Int) - 15),layH below h)
def exprH (fs:List Fact) (ls:List PLet) (N:List PNode) (e:PExp) (h:Nat):List Nat × Nat:=codeH fs ls N N.length N.length ((e.behind:Int) - 1) 0 h
def appliesF (fs:List Fact) (r:PRule):Nat:=if r.hw then (match atF fs ((r.when.behind:Int) - 1) with
 | none=>1
 | some v=>if v=0 then 0 else 2) else 2
def actH (fs:List Fact) (ls:List PLet) (N:List PNode) (r:PRule) (h:Nat):List Nat × Nat :=
 if r.hs then ((exprH fs ls N r.score h).1++opC 16 0,(exprH fs ls N r.score h).2) else (opC 17 0,h)
def guardH (fs:List Fact) (ls:List PLet) (N:List PNode) (r:PRule) (h:Nat):List Nat × Nat :=
 ((exprH fs ls N r.when h).1++opC 14 ((actH fs ls N r (exprH fs ls N r.when h).2).1.length:Int)++(actH fs ls N r (exprH fs ls N r.when h).2).1,(actH fs ls N r (exprH fs ls N r.when h).2).2)
def rulesH (fs:List Fact) (ls:List PLet) (N:List PNode):List PRule→List Nat→Nat→List Nat × Nat
 | [],c,h=>(c++opC 17 0,h)
 | r :: rs,c,h=>if appliesF fs r=2 then (c++(actH fs ls N r h).1,(actH fs ls N r h).2)
  else if appliesF fs r=1 then rulesH fs ls N rs (c++(guardH fs ls N r h).1) (guardH fs ls N r h).2
  else rulesH fs ls N rs c h
def imageC (N:List PNode) (ls:List PLet) (rs:List PRule):List Nat:=imgC ((rulesH (factsP ls N) ls N rs [] 0).2 % 256) (rulesH (factsP ls N) ls N rs [] 0).1
end Go.Proofs.YtpcjadaeolkngaaGreatDoor
