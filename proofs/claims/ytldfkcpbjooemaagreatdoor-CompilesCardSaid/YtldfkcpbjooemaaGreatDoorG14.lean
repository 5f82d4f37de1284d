/-
  Images of known making: leaves; the whole image; and what is none: plain.
-/
import Derived.Test.YtldfkcpbjooemaaGreatDoorG13
import Derived.Test.YtldfkcpbjooemaaGreatDoorProg
import Derived.Test.YtldfkcpbjooemaaGreatDoorG00
import Derived.Test.YtldfkcpbjooemaaGreatDoorG07
import Derived.Deep.Light
set_option linter.unusedVariables false
set_option linter.unusedSimpArgs false
namespace Go.Proofs.YtldfkcpbjooemaaGreatDoor
open Go.RowKit
def leafA (k:Nat) (x:Itm) (y:Bn):PB:={ code:=[1,k],v:=attrN k x y,flt:=0,steps:=1,high:=1 }
theorem leaf_seg {s:ByteArray} {p c:Nat} {h:Int} (ho:OpOkI s p) (hc:bt s p=c) (hk:c=0∨c=1) (hh:0≤h):∃ l H,Seg s p (mkIns s p).next h (h+1) (h+1) l H:=by
 have hop:(mkIns s p).op=c:=hc
 have ht:takesN c=0∧laysN c=1:=by rcases hk with rfl | rfl <;> exact ⟨rfl,rfl⟩
 have hf:∀ r,Flows (mkIns s p) r ↔ r=(mkIns s p).next:=by
  intro r
  constructor
  ·rintro (⟨_,_,_,h⟩ | ⟨h,_⟩)
   ·exact h
   ·rw[hop] at h;omega
  ·intro h
   exact .inl ⟨by omega,by omega,by omega,h⟩
 have g:=seg_op (h:=h) ho (by rw[hc,ht.1];omega) hf
 rw[hc,ht.1,ht.2] at g
 exact ⟨_,_,g.cast rfl (by omega) (by omega)⟩
theorem leafA_ok {x:Itm} {y:Bn} (hx:x.Ok) (hy:y.Ok) {k:Nat} (hk:k < 7):(leafA k x y).Ok x y:=by
 have hop:∀ s p,Sits s p [1,k]→OpOkI s p∧bt s p=1∧(mkIns s p).next=p+2∧(mkIns s p).arg=k:=by
  intro s p hs
  obtain ⟨h1,h2⟩:=hs.head
  have b1:=hs 1 k rfl
  have hb:behindN 1=1:=rfl
  refine ⟨⟨h1,by omega,by rw[h2,hb];omega,fun _=>by rw[b1.2];omega⟩,h2,by simp only[mkIns,h2,hb], ?_⟩
  show IntKind.i64.wrap (lowU s (p+1) (behindN (bt s p)):Nat)=_
  rw[h2,hb,lowU_one,b1.2]
  exact wrap_small _ (by omega)
 refine ⟨fun s p hs=>?_,fun s p h hs hh=>?_,attr_in _ _ _ hx hy,by simp[leafA],by simp[leafA]⟩
 ·obtain ⟨h1,h2,h3,h4⟩:=hop s p hs
  refine does_one (fun st=>?_)
  have e:p+(leafA k x y).code.length=(mkIns s p).next:=by rw[h3];rfl
  rw[e]
  unfold stepM
  have h5:(mkIns s p).op=1:=h2
  rw[h5]
  show Sum.inr ((mkIns s p).next,attrN (mkIns s p).arg x y :: st)=_
  rw[h4]
  rfl
 ·obtain ⟨h1,h2,h3,h4⟩:=hop s p hs
  obtain ⟨l,H,g⟩:=leaf_seg h1 h2 (.inr rfl) hh
  exact ⟨l,H,g.cast (by rw[h3];rfl) rfl rfl⟩
def bytesN:Nat→Nat→List Nat
 | _,0=>[]
 | u,n+1=>u % 256 :: bytesN (u / 256) n
theorem bytesN_length:∀ (n u:Nat),(bytesN u n).length=n
 | 0,_=>rfl
 | n+1,u=>by simp only[bytesN,List.length_cons];rw[bytesN_length n]
theorem bytes_low {s:ByteArray}:∀ (n u p:Nat),Sits s p (bytesN u n)→lowU s p n=u % 256 ^ n
 | 0,u,p,_=>by simp[lowU,Nat.mod_one]
 | n+1,u,p,hs=>by
  have h1:=hs.head
  have h2:Sits s (p+1) (bytesN (u / 256) n):=Sits.right (c:=[u % 256]) hs
  simp only[lowU]
  rw[h1.2,bytes_low n _ _ h2,Nat.pow_succ,Nat.mul_comm (256 ^ n) 256,Nat.mod_mul]
def eightC (v:Int):List Nat:=bytesN (v % 18446744073709551616).toNat 8
def leafI (v:Int):PB:={ code:=0 :: eightC v,v:=v,flt:=0,steps:=1,high:=1 }
theorem eight_low {s:ByteArray} {p:Nat} {v:Int} (hs:Sits s p (eightC v)):lowU s p 8=(v % 18446744073709551616).toNat:=by
 rw[bytes_low 8 _ _ hs]
 exact Nat.mod_eq_of_lt (by omega)
theorem leafI_ok {x:Itm} {y:Bn} {v:Int} (hv:In64 v):(leafI v).Ok x y:=by
 have hop:∀ s p,Sits s p (0 :: eightC v)→OpOkI s p∧bt s p=0∧(mkIns s p).next=p+9∧(mkIns s p).arg=v:=by
  intro s p hs
  obtain ⟨h1,h2⟩:=hs.head
  have b8:p+8 < s.size:=by
   obtain ⟨c8,h8⟩:∃ c,(0 :: eightC v)[8]?=some c:=⟨_,List.getElem?_eq_getElem (by simp[eightC,bytesN_length])⟩
   exact (hs 8 c8 h8).1
  have hb:behindN 0=8:=rfl
  refine ⟨⟨h1,by omega,by rw[h2,hb];omega,by omega⟩,h2,by simp only[mkIns,h2,hb], ?_⟩
  show IntKind.i64.wrap (lowU s (p+1) (behindN (bt s p)):Nat)=_
  have hs':Sits s (p+1) (eightC v):=Sits.right (c:=[0]) hs
  rw[h2,hb,eight_low hs',IntKind.wrap_i64]
  unfold In64 at hv
  omega
 refine ⟨fun s p hs=>?_,fun s p h hs hh=>?_,hv,by simp[leafI],by simp[leafI]⟩
 ·obtain ⟨h1,h2,h3,h4⟩:=hop s p hs
  refine does_one (fun st=>?_)
  have e:p+(leafI v).code.length=(mkIns s p).next:=by rw[h3];simp[leafI,eightC,bytesN_length]
  rw[e]
  unfold stepM
  have h5:(mkIns s p).op=0:=h2
  rw[h5]
  show Sum.inr ((mkIns s p).next,(mkIns s p).arg :: st)=_
  rw[h4]
  rfl
 ·obtain ⟨h1,h2,h3,h4⟩:=hop s p hs
  obtain ⟨l,H,g⟩:=leaf_seg h1 h2 (.inl rfl) hh
  exact ⟨l,H,g.cast (by rw[h3];simp[leafI,eightC,bytesN_length]) rfl rfl⟩
def imgC (H:Nat) (c:List Nat):List Nat:=83 :: 76 :: H :: c
theorem Sits.img {s:ByteArray} {H:Nat} {c:List Nat} (h:Sits s 0 (imgC H c)):bt s 0=83∧bt s 1=76∧bt s 2=H∧Sits s 3 c:=by
 refine ⟨(h 0 _ rfl).2,(h 1 _ rfl).2,(h 2 _ rfl).2, ?_⟩
 have:=Sits.right (c:=[83,76,H]) (d:=c) h
 simpa using this
end Go.Proofs.YtldfkcpbjooemaaGreatDoor
namespace Go.Proofs.YtldfkcpbjooemaaGreatDoor
open Go.RowKit
theorem ret_two {k:IntKind} {a b c d:Int} (h:a=b) (h2:c=d):Ending.returned (.tuple #[.int k a,.int k c])=.returned (.tuple #[.int k b,.int k d]):=by rw[h,h2]
theorem ret_ib {k:IntKind} {a b:Int} {c d:Bool} (h:a=b) (h2:c=d):Ending.returned (.tuple #[.int k a,.bool c])=.returned (.tuple #[.int k b,.bool d]):=by rw[h,h2]
theorem wrap64_eq {n:Int} (h:In64 n):wrap64 n=n:=IntWalk.wrap64_in n h
set_option maxHeartbeats 400000 in
theorem rsum_any (a b:Int) (ha:In64 a) (hb:In64 b) (w:World) :
  Calls Tryz.prog 84 #[.int .i64 a,.int .i64 b] w fun e w'=>e=.returned (.tuple #[.int .i64 (exact64 (a+b)).1,.bool (decide ((exact64 (a+b)).2=0))])∧w'=w:=by
 obtain ⟨ha1,ha2⟩:=ha
 obtain ⟨hb1,hb2⟩:=hb
 by_cases hi:In64 (a+b)
 ·rw[exact_in hi]
  obtain ⟨h1,h2⟩:=hi
  go_enter Tryz.func84,Tryz.ntmps84
  go_wp2
  all_goals go_ret2
  all_goals first | (exfalso;go_light;omega) | exact ⟨ret_ib rfl rfl,rfl⟩
 ·rw[exact_out hi]
  have hi':a+b < -9223372036854775808∨9223372036854775807 < a+b:=by unfold In64 at hi;omega
  clear hi
  go_enter Tryz.func84,Tryz.ntmps84
  go_wp2
  all_goals go_ret2
  all_goals first | (exfalso;go_light;omega) | exact ⟨ret_ib rfl rfl,rfl⟩
set_option maxHeartbeats 400000 in
theorem rless_any (a b:Int) (ha:In64 a) (hb:In64 b) (w:World) :
  Calls Tryz.prog 85 #[.int .i64 a,.int .i64 b] w fun e w'=>e=.returned (.tuple #[.int .i64 (exact64 (a - b)).1,.bool (decide ((exact64 (a - b)).2=0))])∧w'=w:=by
 obtain ⟨ha1,ha2⟩:=ha
 obtain ⟨hb1,hb2⟩:=hb
 by_cases hi:In64 (a - b)
 ·rw[exact_in hi]
  obtain ⟨h1,h2⟩:=hi
  go_enter Tryz.func85,Tryz.ntmps85
  go_wp2
  all_goals go_ret2
  all_goals first | (exfalso;go_light;omega) | exact ⟨ret_ib rfl rfl,rfl⟩
 ·rw[exact_out hi]
  have hi':a - b < -9223372036854775808∨9223372036854775807 < a - b:=by unfold In64 at hi;omega
  clear hi
  go_enter Tryz.func85,Tryz.ntmps85
  go_wp2
  all_goals go_ret2
  all_goals first | (exfalso;go_light;omega) | exact ⟨ret_ib rfl rfl,rfl⟩
set_option maxHeartbeats 400000 in
theorem bit_any (b:Bool) (w:World) :
  Calls Tryz.prog 47 #[.bool b] w fun e w'=>e=.returned (.int .i64 (bitN b))∧w'=w:=by
 cases b
 all_goals
  go_enter Tryz.func47,Tryz.ntmps47
  go_wp2
  go_ret
  exact ⟨rfl,rfl⟩
set_option maxHeartbeats 400000 in
theorem truth_any (b:Bool) (w:World) :
  Calls Tryz.prog 168 #[.bool b] w fun e w'=>e=.returned (.int .i64 (bitN b))∧w'=w:=by
 cases b
 all_goals
  go_enter Tryz.func168,Tryz.ntmps168
  go_wp2
  go_ret
  exact ⟨rfl,rfl⟩
set_option maxHeartbeats 400000 in
theorem psum_any (a b:Int) (ha:In64 a) (hb:In64 b) (w:World) :
  Calls Tryz.prog 169 #[.int .i64 a,.int .i64 b] w fun e w'=>e=.returned (.tuple #[.int .i64 (exact64 (a+b)).1,.int .i64 (exact64 (a+b)).2])∧w'=w:=by
 obtain ⟨ha1,ha2⟩:=ha
 obtain ⟨hb1,hb2⟩:=hb
 by_cases hi:In64 (a+b)
 ·rw[exact_in hi]
  obtain ⟨h1,h2⟩:=hi
  go_enter Tryz.func169,Tryz.ntmps169
  go_wp2
  all_goals go_ret2
  all_goals first | (exfalso;go_light;omega) | exact ⟨ret_two rfl rfl,rfl⟩
 ·rw[exact_out hi]
  have hi':a+b < -9223372036854775808∨9223372036854775807 < a+b:=by unfold In64 at hi;omega
  clear hi
  go_enter Tryz.func169,Tryz.ntmps169
  go_wp2
  all_goals go_ret2
  all_goals first | (exfalso;go_light;omega) | exact ⟨ret_two rfl rfl,rfl⟩
set_option maxHeartbeats 400000 in
theorem pdiff_any (a b:Int) (ha:In64 a) (hb:In64 b) (w:World) :
  Calls Tryz.prog 170 #[.int .i64 a,.int .i64 b] w fun e w'=>e=.returned (.tuple #[.int .i64 (exact64 (a - b)).1,.int .i64 (exact64 (a - b)).2])∧w'=w:=by
 obtain ⟨ha1,ha2⟩:=ha
 obtain ⟨hb1,hb2⟩:=hb
 by_cases hi:In64 (a - b)
 ·rw[exact_in hi]
  obtain ⟨h1,h2⟩:=hi
  go_enter Tryz.func170,Tryz.ntmps170
  go_wp2
  all_goals go_ret2
  all_goals first | (exfalso;go_light;omega) | exact ⟨ret_two rfl rfl,rfl⟩
 ·rw[exact_out hi]
  have hi':a - b < -9223372036854775808∨9223372036854775807 < a - b:=by unfold In64 at hi;omega
  clear hi
  go_enter Tryz.func170,Tryz.ntmps170
  go_wp2
  all_goals go_ret2
  all_goals first | (exfalso;go_light;omega) | exact ⟨ret_two rfl rfl,rfl⟩
set_option maxHeartbeats 400000 in
theorem negated_any (a:Int) (ha:In64 a) (w:World) :
  Calls Tryz.prog 167 #[.int .i64 a] w fun e w'=>e=.returned (.tuple #[.int .i64 (negN a).1,.int .i64 (negN a).2])∧w'=w:=by
 obtain ⟨ha1,ha2⟩:=ha
 by_cases hi:a=-9223372036854775808
 ·have e:negN a=(0,1):=by unfold negN;exact exact_out (by unfold In64;omega)
  rw[e]
  subst hi
  clear e
  go_enter Tryz.func167,Tryz.ntmps167
  go_wp2
  all_goals go_ret2
  all_goals exact ⟨ret_two rfl rfl,rfl⟩
 ·have e:negN a=(-a,0):=by unfold negN;rw[exact_in (by unfold In64;omega)];simp
  rw[e]
  have hb:(a==-9223372036854775808)=false:=by simpa using hi
  have HN:Hid (In64 (-a)):=(by unfold In64;omega:In64 (-a))
  clear e hi
  go_enter Tryz.func167,Tryz.ntmps167
  go_wp2
  all_goals go_ret2
  all_goals exact ⟨ret_two (wrap64_eq HN.out) rfl,rfl⟩
end Go.Proofs.YtldfkcpbjooemaaGreatDoor
namespace Go.Proofs.YtldfkcpbjooemaaGreatDoor
open Go.RowKit
theorem quo_neg (x:Int) (hx:In64 x) (h:0 < x):wrap64 (-Int.tdiv 9223372036854775808 x)=(-9223372036854775808:Int).tdiv x:=by
 have e:(-9223372036854775808:Int).tdiv x=-Int.tdiv 9223372036854775808 x:=by
  rw[show (-9223372036854775808:Int)=-(9223372036854775808:Int) from rfl,Int.neg_tdiv]
 rw[← e]
 exact wrap64_eq (tdiv_in _ x (by decide) hx (by omega) (by omega))
theorem quo_neg2 (x:Int) (hx:In64 x) (h:x < 0) (hl:-9223372036854775808 < x):wrap64 (-Int.tdiv 9223372036854775807 x)=(9223372036854775807:Int).tdiv (-x):=by
 rw[← Int.tdiv_neg]
 exact wrap64_eq (tdiv_in _ (-x) (by decide) (by unfold In64 at *;omega) (by omega) (by omega))
set_option maxHeartbeats 1000000 in
theorem rproduct_any (a b:Int) (ha:In64 a) (hb:In64 b) (w:World) :
  Calls Tryz.prog 86 #[.int .i64 a,.int .i64 b] w fun e w'=>e=.returned (.tuple #[.int .i64 (exact64 (a * b)).1,.bool (decide ((exact64 (a * b)).2=0))])∧w'=w:=by
 have HA:Hid (In64 a):=ha
 have HB:Hid (In64 b):=hb
 obtain ⟨ha1,ha2⟩:=ha
 obtain ⟨hb1,hb2⟩:=hb
 by_cases h0:a=0∨b=0
 ·have e:exact64 (a * b)=(0,0):=by
   have:a * b=0:=by rcases h0 with h | h <;> simp[h]
   rw[this];exact exact_in (by decide)
  rw[e]
  clear e HA HB
  by_cases h1:a=0
  ·subst h1
   go_enter Tryz.func86,Tryz.ntmps86
   go_wp2
   all_goals go_ret2
   all_goals exact ⟨ret_ib rfl rfl,rfl⟩
  ·have h2:b=0:=by omega
   subst h2
   have hb:(a==0)=false:=by simpa using h1
   clear h0 h1
   go_enter Tryz.func86,Tryz.ntmps86
   go_wp2
   all_goals go_ret2
   all_goals exact ⟨ret_ib rfl rfl,rfl⟩
 have ea:(a==0)=false:=by simp;omega
 have eb:(b==0)=false:=by simp;omega
 have hane:a≠0:=by omega
 have hbne:b≠0:=by omega
 clear h0
 by_cases hp:0 < a
 ·by_cases hq:0 < b
  ·have hmul:=mul_pp a b HA.out HB.out hp hq
   by_cases hi:In64 (a * b)
   ·rw[exact_in hi]
    have HI:Hid (In64 (a * b)):=hi
    have hdec:a≤9223372036854775807 / b:=by have:=hmul.2 hi;rw[Int.tdiv_eq_ediv_of_nonneg (by omega)] at this;omega
    clear hi hmul
    go_enter Tryz.func86,Tryz.ntmps86
    go_wp2
    all_goals go_ret2
    all_goals first | exact ⟨ret_ib (wrap64_eq HI.out) rfl,rfl⟩ | (exfalso;go_light;omega)
   ·rw[exact_out hi]
    have hdec:9223372036854775807 / b < a:=by have h:¬ ¬ ((9223372036854775807:Int).tdiv b < a):=fun x=>hi (hmul.1 x);rw[Int.tdiv_eq_ediv_of_nonneg (by omega)] at h;omega
    clear hi hmul
    go_enter Tryz.func86,Tryz.ntmps86
    go_wp2
    all_goals go_ret2
    all_goals first | exact ⟨ret_ib rfl rfl,rfl⟩ | (exfalso;go_light;omega)
  ·have hq':b < 0:=by omega
   have hmul:=mul_pn a b HA.out HB.out hp hq'
   by_cases hi:In64 (a * b)
   ·rw[exact_in hi]
    have HI:Hid (In64 (a * b)):=hi
    have hdec:wrap64 (-Int.tdiv 9223372036854775808 a)≤b:=by rw[quo_neg a HA.out hp];have:=hmul.2 hi;omega
    clear hi hmul
    go_enter Tryz.func86,Tryz.ntmps86
    go_wp2
    all_goals go_ret2
    all_goals first | exact ⟨ret_ib (wrap64_eq HI.out) rfl,rfl⟩ | (exfalso;go_light;omega)
   ·rw[exact_out hi]
    have hdec:b < wrap64 (-Int.tdiv 9223372036854775808 a):=by rw[quo_neg a HA.out hp];have h:¬ ¬ (b < (-9223372036854775808:Int).tdiv a):=fun x=>hi (hmul.1 x);omega
    clear hi hmul
    go_enter Tryz.func86,Tryz.ntmps86
    go_wp2
    all_goals go_ret2
    all_goals first | exact ⟨ret_ib rfl rfl,rfl⟩ | (exfalso;go_light;omega)
 ·have hp':a < 0:=by omega
  by_cases hq:0 < b
  ·have hmul:=mul_np a b HA.out HB.out hp' hq
   by_cases hi:In64 (a * b)
   ·rw[exact_in hi]
    have HI:Hid (In64 (a * b)):=hi
    have hdec:wrap64 (-Int.tdiv 9223372036854775808 b)≤a:=by rw[quo_neg b HB.out hq];have:=hmul.2 hi;omega
    clear hi hmul
    go_enter Tryz.func86,Tryz.ntmps86
    go_wp2
    all_goals go_ret2
    all_goals first | exact ⟨ret_ib (wrap64_eq HI.out) rfl,rfl⟩ | (exfalso;go_light;omega)
   ·rw[exact_out hi]
    have hdec:a < wrap64 (-Int.tdiv 9223372036854775808 b):=by rw[quo_neg b HB.out hq];have h:¬ ¬ (a < (-9223372036854775808:Int).tdiv b):=fun x=>hi (hmul.1 x);omega
    clear hi hmul
    go_enter Tryz.func86,Tryz.ntmps86
    go_wp2
    all_goals go_ret2
    all_goals first | exact ⟨ret_ib rfl rfl,rfl⟩ | (exfalso;go_light;omega)
  ·have hq':b < 0:=by omega
   by_cases hl:a=-9223372036854775808∨b=-9223372036854775808
   ·rw[exact_out (mul_least a b hp' hq' hl)]
    have hcs:(a==-9223372036854775808)=true∨((a==-9223372036854775808)=false∧(b==-9223372036854775808)=true):=by
     by_cases h:a=-9223372036854775808
     ·exact .inl (by simpa using h)
     ·exact .inr ⟨by simpa using h,by simp;omega⟩
    clear hl
    rcases hcs with h1 | ⟨h1,h2⟩
    all_goals
     go_enter Tryz.func86,Tryz.ntmps86
     go_wp2
     all_goals go_ret2
     all_goals first | exact ⟨ret_ib rfl rfl,rfl⟩ | (exfalso;go_light;omega)
   ·have hl1:(a==-9223372036854775808)=false:=by simp;omega
    have hl2:(b==-9223372036854775808)=false:=by simp;omega
    have hmul:=mul_nn a b HA.out HB.out hp' hq' (by omega) (by omega)
    have hla:-9223372036854775808 < a:=by omega
    have hlb:-9223372036854775808 < b:=by omega
    clear hl
    by_cases hi:In64 (a * b)
    ·rw[exact_in hi]
     have HI:Hid (In64 (a * b)):=hi
     have hdec:-a≤wrap64 (-Int.tdiv 9223372036854775807 b):=by rw[quo_neg2 b HB.out hq' hlb];have:=hmul.2 hi;omega
     clear hi hmul
     go_enter Tryz.func86,Tryz.ntmps86
     go_wp2
     all_goals go_ret2
     all_goals first | exact ⟨ret_ib (wrap64_eq HI.out) rfl,rfl⟩ | (exfalso;go_light;omega)
    ·rw[exact_out hi]
     have hdec:wrap64 (-Int.tdiv 9223372036854775807 b) < -a:=by rw[quo_neg2 b HB.out hq' hlb];have h:¬ ¬ ((9223372036854775807:Int).tdiv (-b) < -a):=fun x=>hi (hmul.1 x);omega
     clear hi hmul
     go_enter Tryz.func86,Tryz.ntmps86
     go_wp2
     all_goals go_ret2
     all_goals first | exact ⟨ret_ib rfl rfl,rfl⟩ | (exfalso;go_light;omega)
theorem wmul (a b:Int):IntKind.i64.wrap (a * b)=wrap64 (a * b):=IntWalk.i64_left _
set_option maxHeartbeats 1000000 in
theorem pproduct_any (a b:Int) (ha:In64 a) (hb:In64 b) (w:World) :
  Calls Tryz.prog 171 #[.int .i64 a,.int .i64 b] w fun e w'=>e=.returned (.tuple #[.int .i64 (exact64 (a * b)).1,.int .i64 (exact64 (a * b)).2])∧w'=w:=by
 have HA:Hid (In64 a):=ha
 have HB:Hid (In64 b):=hb
 obtain ⟨ha1,ha2⟩:=ha
 obtain ⟨hb1,hb2⟩:=hb
 by_cases h0:b=0
 ·have e:exact64 (a * b)=(0,0):=by rw[h0,Int.mul_zero];exact exact_in (by decide)
  rw[e]
  subst h0
  clear e
  go_enter Tryz.func171,Tryz.ntmps171
  go_wp2
  all_goals go_ret2
  all_goals exact ⟨ret_two rfl rfl,rfl⟩
 have eb:(b==0)=false:=by simpa using h0
 by_cases h1:b=-1
 ·have e:exact64 (a * b)=negN a:=by rw[h1];unfold negN;congr 1;omega
  rw[e]
  subst h1
  clear e
  go_enter Tryz.func171,Tryz.ntmps171
  go_wp2_with (go_at_call 167;refine (negated_any a HA.out _).mono ?_;rintro e w' ⟨rfl,rfl⟩)
  all_goals go_ret2
  all_goals exact ⟨ret_two rfl rfl,rfl⟩
 have eb1:(b==-1)=false:=by simpa using h1
 have hmul:=mul_test a b HA.out HB.out h0
 have hin:In64 ((wrap64 (a * b)).tdiv b):=by rw[← wmul];exact tdiv_in _ b (in_wrap _) HB.out h0 (by omega)
 have HQ:Hid (wrap64 ((wrap64 (a * b)).tdiv b)=(wrap64 (a * b)).tdiv b):=wrap64_eq hin
 rw[wmul] at hmul
 have HM:Hid ((wrap64 (a * b)).tdiv b=a ↔ In64 (a * b)):=hmul
 clear hmul hin
 by_cases hi:In64 (a * b)
 ·rw[exact_in hi]
  have HI:Hid (In64 (a * b)):=hi
  have hd:(wrap64 ((wrap64 (a * b)).tdiv b)==a)=true:=by rw[HQ.out];simpa using HM.out.2 hi
  have hd':(wrap64 ((wrap64 (a * b)).tdiv b) != a)=false:=by simp[bne,hd]
  clear hi
  go_enter Tryz.func171,Tryz.ntmps171
  go_wp2
  all_goals go_ret2
  all_goals exact ⟨ret_two (wrap64_eq HI.out) rfl,rfl⟩
 ·rw[exact_out hi]
  have hd:(wrap64 ((wrap64 (a * b)).tdiv b)==a)=false:=by rw[HQ.out];simpa using fun h=>hi (HM.out.1 h)
  have hd':(wrap64 ((wrap64 (a * b)).tdiv b) != a)=true:=by simp[bne,hd]
  clear hi
  go_enter Tryz.func171,Tryz.ntmps171
  go_wp2
  all_goals go_ret2
  all_goals exact ⟨ret_two rfl rfl,rfl⟩
end Go.Proofs.YtldfkcpbjooemaaGreatDoor
namespace Go.Proofs.YtldfkcpbjooemaaGreatDoor
open Go.RowKit
def divFault (a b:Int):Nat:=if b=0 then 2 else if a=-9223372036854775808∧b=-1 then 1 else 0
theorem tmod_in (a b:Int) (ha:In64 a):In64 (a.tmod b)∧In64 (a - a.tmod b):=by
 have h2:(a.tmod b).natAbs=a.natAbs % b.natAbs:=Int.natAbs_tmod a b
 have h3:=Nat.mod_le a.natAbs b.natAbs
 have h4:=Int.tmod_nonneg (a:=a) b
 unfold In64 at *
 by_cases h:0≤a
 ·have:=h4 h;omega
 ·have h5:=Int.tmod_nonneg (a:=-a) b (by omega)
  rw[Int.neg_tmod] at h5
  omega
theorem join7 (a b:Int) (ha:In64 a) (hb:In64 b):joinN 7 a b=if divFault a b=0 then (a.tdiv b,0) else (0,divFault a b):=by
 unfold divFault
 by_cases h0:b=0
 ·simp[joinN,h0]
 ·rw[join_div a b ha hb h0]
  by_cases h1:a=-9223372036854775808∧b=-1
  ·simp[h0,h1]
  ·rw[if_neg h1,if_neg h0,if_neg h1];rfl
theorem join8 (a b:Int):joinN 8 a b=if divFault a b=0 then (a.tmod b,0) else (0,divFault a b):=by
 unfold divFault
 by_cases h0:b=0
 ·simp[joinN,h0]
 ·by_cases h1:a=-9223372036854775808∧b=-1
  ·simp[joinN,h0,h1]
  ·simp only[joinN]
   rw[if_neg (by omega),if_neg (by omega),if_neg (by omega),if_neg (by omega),if_pos trivial,if_neg h0,if_neg h1,if_neg h0,if_neg h1];rfl
set_option maxHeartbeats 400000 in
theorem fod_any (a b:Int) (w:World) :
  Calls Tryz.prog 190 #[.int .i64 a,.int .i64 b] w fun e w'=>e=.returned (.int .i64 (divFault a b))∧w'=w:=by
 by_cases h0:b=0
 ·have e:divFault a b=2:=by simp[divFault,h0]
  rw[e]
  subst h0
  clear e
  go_enter Tryz.func190,Tryz.ntmps190
  go_wp2
  go_ret
  exact ⟨rfl,rfl⟩
 have eb:(b==0)=false:=by simpa using h0
 by_cases h1:a=-9223372036854775808
 ·by_cases h2:b=-1
  ·have e:divFault a b=1:=by simp[divFault,h1,h2]
   rw[e]
   subst h1;subst h2
   clear e
   go_enter Tryz.func190,Tryz.ntmps190
   go_wp2
   go_ret
   exact ⟨rfl,rfl⟩
  ·have e:divFault a b=0:=by simp[divFault,h0,h2]
   rw[e]
   have eb1:(b==-1)=false:=by simpa using h2
   subst h1
   clear e h2 h0
   go_enter Tryz.func190,Tryz.ntmps190
   go_wp2
   go_ret
   exact ⟨rfl,rfl⟩
 ·have e:divFault a b=0:=by simp[divFault,h0,h1]
  rw[e]
  have ea:(a==-9223372036854775808)=false:=by simpa using h1
  clear e h1 h0
  go_enter Tryz.func190,Tryz.ntmps190
  go_wp2
  go_ret
  exact ⟨rfl,rfl⟩
theorem divFault_cases (a b:Int):divFault a b=0∧b≠0∧¬ (a=-9223372036854775808∧b=-1)∨divFault a b=1∨divFault a b=2:=by
 unfold divFault
 by_cases h0:b=0
 ·simp[h0]
 ·by_cases h1:a=-9223372036854775808∧b=-1
  ·simp[h0,h1]
  ·exact .inl ⟨by rw[if_neg h0,if_neg h1],h0,h1⟩
set_option maxHeartbeats 400000 in
theorem quotient_any (a b:Int) (ha:In64 a) (hb:In64 b) (w:World) :
  Calls Tryz.prog 172 #[.int .i64 a,.int .i64 b] w fun e w'=>e=.returned (.tuple #[.int .i64 (joinN 7 a b).1,.int .i64 (joinN 7 a b).2])∧w'=w:=by
 rw[join7 a b ha hb]
 rcases divFault_cases a b with ⟨h,h0,h1⟩ | h | h
 ·rw[if_pos h]
  have HI:Hid (In64 (a.tdiv b)):=tdiv_in a b ha hb h0 h1
  have eb:(b==0)=false:=by simpa using h0
  have HH:Hid (divFault a b=0):=h
  obtain ⟨ha1,ha2⟩:=ha
  obtain ⟨hb1,hb2⟩:=hb
  clear h h1
  go_enter Tryz.func172,Tryz.ntmps172
  go_wp2_with (go_at_call 190;refine (fod_any a b _).mono ?_;rintro e w' ⟨rfl,rfl⟩;rw[HH.out])
  go_ret2
  exact ⟨ret_two (wrap64_eq HI.out) rfl,rfl⟩
 all_goals
  rw[if_neg (by omega),h]
  have HH:=h
  clear ha hb
  go_enter Tryz.func172,Tryz.ntmps172
  go_wp2_with (go_at_call 190;refine (fod_any a b _).mono ?_;rintro e w' ⟨rfl,rfl⟩;rw[HH])
  go_ret2
  exact ⟨ret_two rfl rfl,rfl⟩
set_option maxHeartbeats 400000 in
theorem remainder_any (a b:Int) (ha:In64 a) (hb:In64 b) (w:World) :
  Calls Tryz.prog 173 #[.int .i64 a,.int .i64 b] w fun e w'=>e=.returned (.tuple #[.int .i64 (joinN 8 a b).1,.int .i64 (joinN 8 a b).2])∧w'=w:=by
 rw[join8 a b]
 rcases divFault_cases a b with ⟨h,h0,h1⟩ | h | h
 ·rw[if_pos h]
  have HI:Hid (In64 (a.tmod b)):=(tmod_in a b ha).1
  have eb:(b==0)=false:=by simpa using h0
  have HH:Hid (divFault a b=0):=h
  obtain ⟨ha1,ha2⟩:=ha
  obtain ⟨hb1,hb2⟩:=hb
  clear h h1
  go_enter Tryz.func173,Tryz.ntmps173
  go_wp2_with (go_at_call 190;refine (fod_any a b _).mono ?_;rintro e w' ⟨rfl,rfl⟩;rw[HH.out])
  go_ret2
  exact ⟨ret_two (by first | rfl | exact wrap64_eq HI.out) rfl,rfl⟩
 all_goals
  rw[if_neg (by omega),h]
  have HH:=h
  clear ha hb
  go_enter Tryz.func173,Tryz.ntmps173
  go_wp2_with (go_at_call 190;refine (fod_any a b _).mono ?_;rintro e w' ⟨rfl,rfl⟩;rw[HH])
  go_ret2
  exact ⟨ret_two rfl rfl,rfl⟩
end Go.Proofs.YtldfkcpbjooemaaGreatDoor
