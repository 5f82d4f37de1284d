/-
  Images, in the document's words: the operations that stand in some bytes, their heights, and what makes them an image.
-/
import Derived.WalkKit
import Derived.WalkSpells
import Derived.Test.YtldfkcpbjooemaaGreatDoorG00
import Derived.Test.YtldfkcpbjooemaaGreatDoorProg
import Derived.Deep.Light
set_option linter.unusedVariables false
set_option linter.unusedSimpArgs false
namespace Go.Proofs.YtldfkcpbjooemaaGreatDoor
open Go.RowKit
def bt (s:ByteArray) (i:Nat):Nat:=if h:i < s.size then (s[i]).toNat else 0
theorem bt_get (s:ByteArray) (i:Nat) (h:i < s.size):bt s i=(s[i]).toNat:=by simp[bt,h]
theorem bt_lt (s:ByteArray) (i:Nat):bt s i < 256:=by
 unfold bt
 split
 ·exact UInt8.toNat_lt _
 ·omega
def lowU (s:ByteArray):Nat→Nat→Nat
 | _,0=>0
 | p,n+1=>bt s p+256 * lowU s (p+1) n
theorem lowU_two (s:ByteArray) (p:Nat):lowU s p 2 < 65536:=by
 have h1:=bt_lt s p
 have h2:=bt_lt s (p+1)
 simp only[lowU];omega
theorem lowU_one (s:ByteArray) (p:Nat):lowU s p 1=bt s p:=by simp[lowU]
def behindN (c:Nat):Nat:=if c=0 then 8 else if c=1 then 1 else if c=13∨c=14∨c=15 then 2 else 0
def takesN (c:Nat):Nat:=if c=0∨c=1∨c=13∨c=17 then 0 else if c=2∨c=3∨c=14∨c=15∨c=16 then 1 else 2
def laysN (c:Nat):Nat:=if 13≤c then 0 else 1
structure Ins where
 pos:Nat
 op:Nat
 arg:Int
 next:Nat
def mkIns (s:ByteArray) (p:Nat):Ins:=⟨p,bt s p,IntKind.i64.wrap (lowU s (p+1) (behindN (bt s p)):Nat),p+1+behindN (bt s p)⟩
def OpOkI (s:ByteArray) (p:Nat):Prop:=p < s.size∧bt s p≤17∧p+1+behindN (bt s p)≤s.size∧(bt s p=1→bt s (p+1)≤6)
def Chain (s:ByteArray):Nat→List Ins→Nat→Prop
 | p,[],q=>p=q
 | p,o :: r,q=>OpOkI s p∧o=mkIns s p∧Chain s o.next r q
def Flows (o:Ins) (q:Nat):Prop:=(o.op≠13∧o.op≠16∧o.op≠17∧q=o.next)∨((o.op=13∨o.op=14∨o.op=15)∧(q:Int)=o.next+o.arg)
def Lawful (l:List Ins) (most:Nat) (H:Nat→Int):Prop :=
 H 3=0∧∀ o∈l,(takesN o.op:Int)≤H o.pos∧H o.pos≤most∧(∀ q,Flows o q→(∃ o'∈l,o'.pos=q)∧H q=H o.pos - takesN o.op+laysN o.op)∧(o.pos=3∨∃ o'∈l,Flows o' o.pos)
def HeadOk (s:ByteArray):Prop:=4≤s.size∧s.size≤4000∧bt s 0=83∧bt s 1=76
def IsImg (s:ByteArray):Prop:=HeadOk s∧∃ l,Chain s 3 l s.size∧∃ H,Lawful l (bt s 2) H
theorem Chain.le {s:ByteArray}:∀ {l:List Ins} {p q:Nat},Chain s p l q→p≤q
 | [],_,_,h=>Nat.le_of_eq h
 | o :: r,p,q,h=>by
  obtain ⟨_,rfl,h3⟩:=h
  have:=Chain.le h3
  simp only[mkIns] at this
  omega
theorem Chain.snoc {s:ByteArray}:∀ {l:List Ins} {p q:Nat},Chain s p l q→OpOkI s q→Chain s p (l++[mkIns s q]) (mkIns s q).next
 | [],_,_,h,ho=>by subst h;exact ⟨ho,rfl,rfl⟩
 | o :: r,p,q,h,ho=>⟨h.1,h.2.1,h.2.2.snoc ho⟩
theorem Chain.pre {s:ByteArray}:∀ {l0 l:List Ins} {p q:Nat},Chain s p l0 q→Chain s p l s.size→∃ r,l=l0++r∧Chain s q r s.size
 | [],l,p,q,h0,h=>by subst h0;exact ⟨l,rfl,h⟩
 | o :: r0,[],p,q,h0,h=>by
  have h1:p < s.size:=h0.1.1
  have h2:p=s.size:=h
  omega
 | o :: r0,o' :: r',p,q,h0,h=>by
  obtain ⟨_,rfl,h0'⟩:=h0
  obtain ⟨_,rfl,h'⟩:=h
  obtain ⟨r,rfl,hr⟩:=Chain.pre h0' h'
  exact ⟨r,rfl,hr⟩
theorem Chain.mem {s:ByteArray}:∀ {l:List Ins} {p q:Nat},Chain s p l q→∀ o∈l,p≤o.pos∧o.next≤q∧OpOkI s o.pos∧o=mkIns s o.pos
 | [],_,_,_,o,ho=>by simp at ho
 | a :: r,p,q,h,o,ho=>by
  obtain ⟨h1,rfl,h3⟩:=h
  rcases List.mem_cons.1 ho with rfl | ho
  ·exact ⟨Nat.le_refl _,h3.le,h1,rfl⟩
  ·obtain ⟨h4,h5⟩:=Chain.mem h3 o ho
   exact ⟨by simp only[mkIns] at h4;omega,h5⟩
theorem next_pos (s:ByteArray) (p:Nat):p < (mkIns s p).next:=by simp only[mkIns];omega
theorem Chain.cover {s:ByteArray}:∀ {l:List Ins} {p q:Nat},Chain s p l q→∀ i,p≤i→i < q→∃ o∈l,o.pos≤i∧i < o.next
 | [],p,q,h,i,h1,h2=>by have:p=q:=h;omega
 | a :: r,p,q,h,i,h1,h2=>by
  obtain ⟨_,rfl,h3⟩:=h
  by_cases hi:i < (mkIns s p).next
  ·exact ⟨_,List.mem_cons_self,h1,hi⟩
  ·obtain ⟨o,ho,h4⟩:=Chain.cover h3 i (by omega) h2
   exact ⟨o,List.mem_cons_of_mem _ ho,h4⟩
theorem Chain.append {s:ByteArray}:∀ {l r:List Ins} {p q e:Nat},Chain s p l q→Chain s q r e→Chain s p (l++r) e
 | [],_,_,_,_,h,h2=>by have:_=_:=h;subst this;exact h2
 | a :: l,r,p,q,e,h,h2=>⟨h.1,h.2.1,h.2.2.append h2⟩
theorem wrap_small (n:Nat) (h:n < 65536):IntKind.i64.wrap (n:Nat)=n:=IntWalk.i64_in _ ⟨by omega,by omega⟩
theorem jump_arg (s:ByteArray) (p:Nat) (h:(mkIns s p).op=13∨(mkIns s p).op=14∨(mkIns s p).op=15):(mkIns s p).arg=lowU s (p+1) 2:=by
 have hb:behindN (bt s p)=2:=by
  simp only[mkIns] at h
  unfold behindN;rcases h with h | h | h <;> simp[h]
 simp only[mkIns,hb]
 exact wrap_small _ (lowU_two s _)
theorem Flows.lt {s:ByteArray} {p q:Nat} (h:Flows (mkIns s p) q):p < q:=by
 rcases h with ⟨_,_,_,rfl⟩ | ⟨hj,hq⟩
 ·exact next_pos s p
 ·rw[jump_arg s p hj] at hq
  have:=next_pos s p
  omega
end Go.Proofs.YtldfkcpbjooemaaGreatDoor
namespace Go.Proofs.YtldfkcpbjooemaaGreatDoor
open Go.RowKit
abbrev In64 (n:Int):Prop:=-9223372036854775808≤n∧n≤9223372036854775807
theorem wrap_in {n:Int} (h:In64 n):IntKind.i64.wrap n=n:=IntWalk.i64_in n h
theorem in_wrap (n:Int):In64 (IntKind.i64.wrap n):=by rw[IntKind.wrap_i64];unfold In64;omega
theorem wrap_off (n:Int):∃ k:Int,IntKind.i64.wrap n=n+18446744073709551616 * k:=by
 rw[IntKind.wrap_i64]
 exact ⟨-((n+9223372036854775808) / 18446744073709551616),by omega⟩
def exact64 (v:Int):Int × Nat:=if In64 v then (v,0) else (0,1)
def bitN (b:Bool):Int:=if b then 1 else 0
def joinN (c:Nat) (a b:Int):Int × Nat :=
 if c=4 then exact64 (a+b)
 else if c=5 then exact64 (a - b)
 else if c=6 then exact64 (a * b)
 else if c=7 then (if b=0 then (0,2) else exact64 (a.tdiv b))
 else if c=8 then (if b=0 then (0,2) else if a=-9223372036854775808∧b=-1 then (0,1) else (a.tmod b,0))
 else if c=9 then (bitN (decide (a < b)),0)
 else if c=10 then (bitN (decide (a≤b)),0)
 else if c=11 then (bitN (decide (a=b)),0)
 else (bitN (decide (a≠b)),0)
def negN (a:Int):Int × Nat:=exact64 (0 - a)
theorem exact_in {v:Int} (h:In64 v):exact64 v=(v,0):=if_pos h
theorem exact_out {v:Int} (h:¬ In64 v):exact64 v=(0,1):=if_neg h
theorem tdiv_bound (a b:Int) (hb:b≠0):(a - b * a.tdiv b).natAbs < b.natAbs:=by
 have h1:=Int.tmod_add_mul_tdiv a b
 have h2:a - b * a.tdiv b=a.tmod b:=by omega
 rw[h2,Int.natAbs_tmod]
 exact Nat.mod_lt _ (by omega)
theorem tdiv_in (a b:Int) (ha:In64 a) (hb:In64 b) (h0:b≠0) (hne:¬ (a=-9223372036854775808∧b=-1)):In64 (a.tdiv b):=by
 have hab:(a.tdiv b).natAbs=a.natAbs / b.natAbs:=Int.natAbs_tdiv a b
 have hle:(a.tdiv b).natAbs≤a.natAbs:=by rw[hab];exact Nat.div_le_self _ _
 unfold In64 at *
 by_cases h1:a=-9223372036854775808
 ·have hb1:b≠-1:=fun h=>hne ⟨h1,h⟩
  by_cases hb2:b=1
  ·subst hb2;rw[Int.tdiv_one];exact ha
  ·have h2:2≤b.natAbs:=by omega
   have:a.natAbs / b.natAbs≤a.natAbs / 2:=Nat.div_le_div_left h2 (by omega)
   omega
 ·omega
theorem tdiv_out:¬ In64 ((-9223372036854775808:Int).tdiv (-1)):=by decide
theorem join_div (a b:Int) (ha:In64 a) (hb:In64 b) (h0:b≠0):joinN 7 a b=if a=-9223372036854775808∧b=-1 then (0,1) else (a.tdiv b,0):=by
 simp only[joinN]
 rw[if_neg (by omega),if_neg (by omega),if_neg (by omega),if_pos trivial,if_neg h0]
 split
 ·rename_i h;rw[h.1,h.2];exact exact_out tdiv_out
 ·rename_i h;exact exact_in (tdiv_in a b ha hb h0 h)
theorem mul_test (a b:Int) (ha:In64 a) (hb:In64 b) (h0:b≠0):(IntKind.i64.wrap (a * b)).tdiv b=a ↔ In64 (a * b):=by
 constructor
 ·intro h
  obtain ⟨k,hk⟩:=wrap_off (a * b)
  have hi:=in_wrap (a * b)
  have h1:=tdiv_bound (IntKind.i64.wrap (a * b)) b h0
  rw[h,Int.mul_comm b a] at h1
  by_cases hk0:k=0
  ·rw[hk,hk0] at hi;simpa using hi
  ·unfold In64 at *
   omega
 ·intro h
  rw[wrap_in h]
  exact Int.mul_tdiv_cancel a h0
theorem mul_pp (a b:Int) (ha:In64 a) (hb:In64 b) (h1:0 < a) (h2:0 < b):¬ ((9223372036854775807:Int).tdiv b < a) ↔ In64 (a * b):=by
 have hpos:=Int.mul_pos h1 h2
 rw[Int.tdiv_eq_ediv_of_nonneg (by omega)]
 unfold In64
 constructor
 ·intro h
  have:=Int.mul_le_of_le_ediv h2 (Int.not_lt.1 h)
  omega
 ·rintro ⟨_,h⟩
  exact Int.not_lt.2 ((Int.le_ediv_iff_mul_le h2).2 h)
theorem mul_pn (a b:Int) (ha:In64 a) (hb:In64 b) (h1:0 < a) (h2:b < 0):¬ (b < (-9223372036854775808:Int).tdiv a) ↔ In64 (a * b):=by
 have hneg:a * b < 0:=Int.mul_neg_of_pos_of_neg h1 h2
 have e:(-9223372036854775808:Int).tdiv a=-((9223372036854775808:Int) / a):=by
  rw[show (-9223372036854775808:Int)=-(9223372036854775808:Int) from rfl,Int.neg_tdiv,Int.tdiv_eq_ediv_of_nonneg (by omega)]
 have h3:(9223372036854775808:Int) / a < -b ↔ 9223372036854775808 < -b * a:=Int.ediv_lt_iff_lt_mul h1
 have h4:-b * a=-(a * b):=by rw[Int.neg_mul,Int.mul_comm]
 rw[e]
 rw[h4] at h3
 unfold In64
 constructor
 ·intro h
  have:¬ ((9223372036854775808:Int) / a < -b):=by omega
  rw[h3] at this
  omega
 ·intro h hh
  have:(9223372036854775808:Int) / a < -b:=by omega
  rw[h3] at this
  omega
theorem mul_np (a b:Int) (ha:In64 a) (hb:In64 b) (h1:a < 0) (h2:0 < b):¬ (a < (-9223372036854775808:Int).tdiv b) ↔ In64 (a * b):=by
 rw[Int.mul_comm a b];exact mul_pn b a hb ha h2 h1
theorem mul_nn (a b:Int) (ha:In64 a) (hb:In64 b) (h1:a < 0) (h2:b < 0) (h3:a≠-9223372036854775808) (h4:b≠-9223372036854775808):¬ ((9223372036854775807:Int).tdiv (-b) < -a) ↔ In64 (a * b):=by
 have:=mul_pp (-a) (-b) (by unfold In64 at *;omega) (by unfold In64 at *;omega) (by omega) (by omega)
 rw[Int.neg_mul_neg] at this
 exact this
theorem mul_least (a b:Int) (h1:a < 0) (h2:b < 0) (h:a=-9223372036854775808∨b=-9223372036854775808):¬ In64 (a * b):=by
 unfold In64
 rcases h with rfl | rfl <;> omega
theorem rem_eq (a b:Int):a - b * a.tdiv b=a.tmod b:=by have:=Int.tmod_add_mul_tdiv a b;omega
theorem join_in (c:Nat) (a b:Int) (ha:In64 a) (hb:In64 b):In64 (joinN c a b).1:=by
 have e:∀ v,In64 (exact64 v).1:=fun v=>by unfold exact64;split <;> simp_all [In64]
 have e0:In64 (0:Int):=by decide
 have e1:∀ x,In64 (bitN x):=fun x=>by cases x <;> decide
 have em:In64 (a.tmod b):=by
  have h2:(a.tmod b).natAbs=a.natAbs % b.natAbs:=Int.natAbs_tmod a b
  have h3:=Nat.mod_le a.natAbs b.natAbs
  have h4:=Int.tmod_nonneg (a:=a) b
  unfold In64 at *
  by_cases h:0≤a
  ·have:=h4 h;omega
  ·have h5:=Int.tmod_nonneg (a:=-a) b (by omega)
   rw[Int.neg_tmod] at h5
   omega
 unfold joinN
 repeat' split
 all_goals first | exact e _ | exact e0 | exact e1 _ | exact em
theorem neg_in (a:Int):In64 (negN a).1:=by unfold negN exact64;split <;> simp_all [In64]
end Go.Proofs.YtldfkcpbjooemaaGreatDoor
namespace Go.Proofs.YtldfkcpbjooemaaGreatDoor
open Go.RowKit
def afterH (o:Ins) (h:Int):Int:=h - takesN o.op+laysN o.op
def nth (l:List Ins) (i:Nat):Ins:=l[i]?.getD ⟨0,0,0,0⟩
theorem nth_get (l:List Ins) (i:Nat) (h:i < l.length):nth l i=l[i]:=by simp[nth,h]
theorem nth_mem (l:List Ins) (i:Nat) (h:i < l.length):nth l i∈l:=by rw[nth_get l i h];exact List.getElem_mem h
theorem Chain.sorted {s:ByteArray}:∀ {l:List Ins} {p q:Nat},Chain s p l q→∀ i j,i < j→j < l.length→(nth l i).pos < (nth l j).pos
 | [],_,_,_,i,j,_,h=>by simp at h
 | a :: r,p,q,h,i,j,hij,hj=>by
  obtain ⟨h1,rfl,h3⟩:=h
  cases j with
  | zero=>omega
  | succ j =>
   have hj':j < r.length:=by simpa using hj
   have hn:nth (mkIns s p :: r) (j+1)=nth r j:=by simp[nth]
   rw[hn]
   cases i with
   | zero =>
    have:=(Chain.mem h3 (nth r j) (nth_mem r j hj')).1
    have h4:=next_pos s p
    have h5:(nth (mkIns s p :: r) 0).pos=p:=by simp[nth,mkIns]
    omega
   | succ i =>
    have hi:nth (mkIns s p :: r) (i+1)=nth r i:=by simp[nth]
    rw[hi]
    exact Chain.sorted h3 i j (by omega) hj'
theorem Chain.inj {s:ByteArray} {l:List Ins} {p q:Nat} (h:Chain s p l q) (i j:Nat) (hi:i < l.length) (hj:j < l.length) (he:(nth l i).pos=(nth l j).pos):i=j:=by
 rcases Nat.lt_trichotomy i j with h1 | h1 | h1
 ·have:=h.sorted i j h1 hj;omega
 ·exact h1
 ·have:=h.sorted j i h1 hi;omega
theorem mem_nth (l:List Ins) (o:Ins) (h:o∈l):∃ i,i < l.length∧nth l i=o:=by
 obtain ⟨i,hi,he⟩:=List.getElem_of_mem h
 exact ⟨i,hi,by rw[nth_get l i hi,he]⟩
theorem Chain.zero {s:ByteArray} {l:List Ins} {p q:Nat} (h:Chain s p l q) (h0:0 < l.length):(nth l 0).pos=p:=by
 cases l with
 | nil=>simp at h0
 | cons a r=>obtain ⟨_,rfl,_⟩:=h;simp[nth,mkIns]
structure Known (s:ByteArray) (l:List Ins) (most:Nat) (hs:Nat→Int):Prop where
 chain:Chain s 3 l s.size
 pos:0 < l.length
 first:hs 0=0
 low:∀ j,-1≤hs j
 high:∀ j,hs j≤most+1
 src:∀ j,j < l.length→0≤hs j→j=0∨∃ i,i < j∧0≤hs i∧Flows (nth l i) (nth l j).pos∧hs j=afterH (nth l i) (hs i)
def Settled (l:List Ins) (most:Nat) (hs:Nat→Int) (i:Nat):Prop :=
 ∀ j,j < i→0≤hs j→(takesN (nth l j).op:Int)≤hs j∧hs j≤most∧∀ q,Flows (nth l j) q→∃ k,k < l.length∧(nth l k).pos=q∧hs k=afterH (nth l j) (hs j)
structure WaysOk (l:List Ins) (i:Nat) (ks:List Nat):Prop where
 all:∀ q,Flows (nth l i) q→∃ k∈ks,(nth l k).pos=q
 only:∀ k∈ks,k < l.length∧Flows (nth l i) (nth l k).pos
 short:ks.length≤2
theorem Known.agree {s:ByteArray} {l:List Ins} {most:Nat} {hs G:Nat→Int} (h:Known s l most hs) (hl:Lawful l most G) :
  ∀ n j,j < n→j < l.length→0≤hs j→hs j=G (nth l j).pos:=by
 intro n
 induction n with
 | zero=>intro j hj;omega
 | succ n ih =>
  intro j hj hjl h0
  rcases h.src j hjl h0 with rfl | ⟨i,hij,hi0,hf,he⟩
  ·rw[h.first,h.chain.zero h.pos,hl.1]
  ·have h1:=ih i (by omega) (by omega) hi0
   have h2:=((hl.2 _ (nth_mem l i (by omega))).2.2.1 _ hf).2
   rw[he,h2,← h1];rfl
theorem Known.bad_way {s:ByteArray} {l:List Ins} {most:Nat} {hs:Nat→Int} {i q:Nat} (h:Known s l most hs) (hi:i < l.length) (hf:Flows (nth l i) q) (hb:∀ k,k < l.length→(nth l k).pos≠q):∀ G,¬ Lawful l most G:=by
 intro G hl
 obtain ⟨o,ho,he⟩:=((hl.2 _ (nth_mem l i hi)).2.2.1 _ hf).1
 obtain ⟨k,hk,rfl⟩:=mem_nth l o ho
 exact hb k hk he
theorem Known.bad_high {s:ByteArray} {l:List Ins} {most:Nat} {hs:Nat→Int} {i:Nat} (h:Known s l most hs) (hi:i < l.length) (h0:0≤hs i) (hb:hs i < takesN (nth l i).op∨(most:Int) < hs i):∀ G,¬ Lawful l most G:=by
 intro G hl
 have h1:=h.agree hl (i+1) i (by omega) hi h0
 obtain ⟨h2,h3,_⟩:=hl.2 _ (nth_mem l i hi)
 omega
theorem Known.bad_two {s:ByteArray} {l:List Ins} {most:Nat} {hs:Nat→Int} {i k:Nat} (h:Known s l most hs) (hi:i < l.length) (h0:0≤hs i) (hk:k < l.length) (hf:Flows (nth l i) (nth l k).pos) (hk0:0≤hs k) (hb:hs k≠afterH (nth l i) (hs i)):∀ G,¬ Lawful l most G:=by
 intro G hl
 have h1:=h.agree hl (i+1) i (by omega) hi h0
 have h2:=h.agree hl (k+1) k (by omega) hk hk0
 have h3:=((hl.2 _ (nth_mem l i hi)).2.2.1 _ hf).2
 rw[← h1,← h2] at h3
 exact hb h3
theorem Known.bad_none {s:ByteArray} {l:List Ins} {most:Nat} {hs:Nat→Int} (h:Known s l most hs) (hse:Settled l most hs l.length) {i:Nat} (hi:i < l.length) (hb:hs i < 0):∀ G,¬ Lawful l most G:=by
 intro G hl
 have:∀ n j,j < n→j < l.length→0≤hs j:=by
  intro n
  induction n with
  | zero=>intro j hj;omega
  | succ n ih =>
   intro j hj hjl
   rcases (hl.2 _ (nth_mem l j hjl)).2.2.2 with h1 | ⟨o,ho,hf⟩
   ·have:j=0:=h.chain.inj j 0 hjl h.pos (by rw[h1,h.chain.zero h.pos])
    subst this
    rw[h.first];omega
   ·obtain ⟨k,hk,rfl⟩:=mem_nth l o ho
    have hkj:k < j:=by
     have hm:=(h.chain.mem _ (nth_mem l k hk)).2.2.2
     have hf':=hf
     rw[hm] at hf'
     have hlt:=hf'.lt
     rcases Nat.lt_trichotomy k j with h1 | h1 | h1
     ·exact h1
     ·subst h1;omega
     ·have:=h.chain.sorted j k h1 hk;omega
    have hk0:=ih k (by omega) hk
    obtain ⟨h2,h3,h4⟩:=hse k hk hk0
    obtain ⟨k2,hk2,he,hh⟩:=h4 _ hf
    have:=h.chain.inj k2 j hk2 hjl he
    subst this
    rw[hh];unfold afterH;omega
 have:=this (i+1) i (by omega) hi
 omega
theorem Known.lawful {s:ByteArray} {l:List Ins} {most:Nat} {hs:Nat→Int} (h:Known s l most hs) (hse:Settled l most hs l.length) (hall:∀ i,i < l.length→0≤hs i):∃ G,Lawful l most G:=by
 let idx:Nat→Nat:=fun q=>(List.range l.length).find? (fun i=>(nth l i).pos==q) |>.getD 0
 have hidx:∀ i,i < l.length→idx (nth l i).pos=i:=by
  intro i hi
  show ((List.range l.length).find? _).getD 0=i
  cases hf:(List.range l.length).find? (fun j=>(nth l j).pos==(nth l i).pos) with
  | none =>
   have:=List.find?_eq_none.1 hf i (by simpa using hi)
   simp at this
  | some j =>
   have h1:=List.find?_some hf
   have h2:=List.mem_of_find?_eq_some hf
   simp at h1 h2
   simpa using h.chain.inj j i h2 hi h1
 refine ⟨fun q=>hs (idx q), ?_, ?_⟩
 ·have:=hidx 0 h.pos
  rw[h.chain.zero h.pos] at this
  show hs (idx 3)=0
  rw[this,h.first]
 ·intro o ho
  obtain ⟨i,hi,rfl⟩:=mem_nth l o ho
  obtain ⟨h1,h2,h3⟩:=hse i hi (hall i hi)
  show _≤hs (idx _)∧hs (idx _)≤_∧(∀ q,_→_∧hs (idx q)=hs (idx _) - _+_)∧_
  rw[hidx i hi]
  refine ⟨h1,h2,fun q hq=>?_, ?_⟩
  ·obtain ⟨k,hk,rfl,hh⟩:=h3 q hq
   exact ⟨⟨_,nth_mem l k hk,rfl⟩,by rw[hidx k hk,hh];rfl⟩
  ·rcases h.src i hi (hall i hi) with rfl | ⟨j,hj,_,hf,_⟩
   ·exact .inl (h.chain.zero h.pos)
   ·exact .inr ⟨_,nth_mem l j (by omega),hf⟩
def upd (hs:Nat→Int) (k:Nat) (v:Int):Nat→Int:=fun j=>if j=k then v else hs j
theorem Known.put {s:ByteArray} {l:List Ins} {most:Nat} {hs:Nat→Int} {i k:Nat} (h:Known s l most hs) (hi:i < l.length) (h0:0≤hs i) (ht:(takesN (nth l i).op:Int)≤hs i) (hm:hs i≤most) (hk:k < l.length) (hf:Flows (nth l i) (nth l k).pos) (hk0:hs k < 0) :
  Known s l most (upd hs k (afterH (nth l i) (hs i)))∧(Settled l most hs i→Settled l most (upd hs k (afterH (nth l i) (hs i))) i)∧i < k:=by
 have hik:i < k:=by
  have hmm:=(h.chain.mem _ (nth_mem l i hi)).2.2.2
  have hf':=hf
  rw[hmm] at hf'
  have hlt:=hf'.lt
  rcases Nat.lt_trichotomy i k with h1 | h1 | h1
  ·exact h1
  ·subst h1;omega
  ·have:=h.chain.sorted k i h1 hi;omega
 have ha:0≤afterH (nth l i) (hs i):=by unfold afterH;omega
 have ha2:afterH (nth l i) (hs i)≤most+1:=by unfold afterH laysN;split <;> omega
 have hne:∀ j,0≤hs j→upd hs k (afterH (nth l i) (hs i)) j=hs j:=by
  intro j hj
  unfold upd
  split
  ·rename_i e;subst e;omega
  ·rfl
 refine ⟨⟨h.chain,h.pos, ?_, ?_, ?_, ?_⟩, ?_,hik⟩
 ·rw[hne 0 (by rw[h.first];omega),h.first]
 ·intro j;unfold upd;split
  ·omega
  ·exact h.low j
 ·intro j;unfold upd;split
  ·omega
  ·exact h.high j
 ·intro j hj hj0
  by_cases he:j=k
  ·subst he
   refine .inr ⟨i,hik,by rw[hne i h0];exact h0,hf, ?_⟩
   rw[hne i h0];simp[upd]
  ·have e:upd hs k (afterH (nth l i) (hs i)) j=hs j:=by simp[upd,he]
   rw[e] at hj0 ⊢
   rcases h.src j hj hj0 with h1 | ⟨i',h1,h2,h3,h4⟩
   ·exact .inl h1
   ·exact .inr ⟨i',h1,by rw[hne i' h2];exact h2,h3,by rw[hne i' h2,h4]⟩
 ·intro hse j hj hj0
  have e:upd hs k (afterH (nth l i) (hs i)) j=hs j:=by simp[upd,show j≠k by omega]
  rw[e] at hj0 ⊢
  obtain ⟨h1,h2,h3⟩:=hse j hj hj0
  refine ⟨h1,h2,fun q hq=>?_⟩
  obtain ⟨k',hk',he,hh⟩:=h3 q hq
  exact ⟨k',hk',he,by rw[hne k' (by rw[hh];unfold afterH;omega),hh]⟩
theorem Settled.more {l:List Ins} {most:Nat} {hs:Nat→Int} {i:Nat} {ks:List Nat} (h:Settled l most hs i) (ht:(takesN (nth l i).op:Int)≤hs i) (hm:hs i≤most) (hw:WaysOk l i ks) (hd:∀ k∈ks,hs k=afterH (nth l i) (hs i)):Settled l most hs (i+1):=by
 intro j hj hj0
 by_cases he:j=i
 ·subst he
  refine ⟨ht,hm,fun q hq=>?_⟩
  obtain ⟨k,hk,hp⟩:=hw.all q hq
  exact ⟨k,(hw.only k hk).1,hp,hd k hk⟩
 ·exact h j (by omega) hj0
theorem Settled.skip {l:List Ins} {most:Nat} {hs:Nat→Int} {i:Nat} (h:Settled l most hs i) (hn:hs i < 0):Settled l most hs (i+1):=by
 intro j hj hj0
 by_cases he:j=i
 ·subst he;omega
 ·exact h j (by omega) hj0
theorem Settled.same {s:ByteArray} {l:List Ins} {most:Nat} {hs:Nat→Int} {i k:Nat} (hc:Chain s 3 l s.size) (h:Settled l most hs l.length) (hi:i < l.length) (h0:0≤hs i) (hk:k < l.length) (hf:Flows (nth l i) (nth l k).pos):hs k=afterH (nth l i) (hs i)∧0≤hs k:=by
 obtain ⟨h1,_,h3⟩:=h i hi h0
 obtain ⟨k',hk',he,hh⟩:=h3 _ hf
 have:=hc.inj k' k hk' hk he
 subst this
 exact ⟨hh,by rw[hh];unfold afterH;omega⟩
theorem known_start {s:ByteArray} {l:List Ins} {most:Nat} (hc:Chain s 3 l s.size) (h0:0 < l.length):Known s l most (fun j=>if j=0 then 0 else -1):=by
 refine ⟨hc,h0,rfl, ?_, ?_, ?_⟩
 ·intro j;by_cases h:j=0 <;> simp[h]
 ·intro j;by_cases h:j=0 <;> simp[h] <;> omega
 ·intro j _ hj
  by_cases h:j=0
  ·exact .inl h
  ·simp[h] at hj
end Go.Proofs.YtldfkcpbjooemaaGreatDoor
namespace Go.Proofs.YtldfkcpbjooemaaGreatDoor
open Go.RowKit
structure Itm where
 size:Int
 speed:Int
 need:Int
structure Bn where
 id:Int
 zone:Int
 cap:Int
 used:Int
 has:Int
def attrN (k:Int) (x:Itm) (b:Bn):Int :=
 if k=0 then x.size else if k=1 then x.speed else if k=2 then x.need else if k=3 then b.zone else if k=4 then b.cap else if k=5 then b.used else if k=6 then b.has else 0
def Itm.Ok (x:Itm):Prop:=(1≤x.size∧x.size≤1000)∧(0≤x.speed∧x.speed≤1000)∧(0≤x.need∧x.need≤2)
def Bn.Ok (b:Bn):Prop:=(0≤b.id∧b.id≤1000)∧(0≤b.zone∧b.zone≤9)∧(1≤b.cap∧b.cap≤1000)∧(0≤b.used∧b.used≤b.cap)∧(0≤b.has∧b.has≤2)
def fst (st:List Int):Int:=st.headD 0
def snd (st:List Int):Int:=(st.drop 1).headD 0
def Ins.to (o:Ins):Nat:=(o.next+o.arg).toNat
def layM (r:Int × Nat) (p:Nat) (st:List Int):(Nat × Int) ⊕ (Nat × List Int):=if r.2=0 then .inr (p,r.1 :: st) else .inl (2,r.2)
def stepM (x:Itm) (b:Bn) (o:Ins) (st:List Int):(Nat × Int) ⊕ (Nat × List Int) :=
 if o.op=16 then .inl (1,fst st)
 else if o.op=17 then .inl (0,0)
 else if o.op=0 then .inr (o.next,o.arg :: st)
 else if o.op=1 then .inr (o.next,attrN o.arg x b :: st)
 else if o.op=2 then layM (negN (fst st)) o.next (st.drop 1)
 else if o.op=3 then .inr (o.next,bitN (decide (fst st=0)) :: st.drop 1)
 else if o.op=13 then .inr (o.to,st)
 else if o.op=14 then .inr (if fst st=0 then o.to else o.next,st.drop 1)
 else if o.op=15 then .inr (if fst st=0 then o.next else o.to,st.drop 1)
 else layM (joinN o.op (snd st) (fst st)) o.next (st.drop 2)
def runM (s:ByteArray) (x:Itm) (b:Bn):Nat→Nat→List Int→Nat→Nat × Int × Nat
 | 0,_,_,n=>(0,0,n)
 | f+1,p,st,n=>match stepM x b (mkIns s p) st with
  | .inl (k,v)=>(k,v,n+1)
  | .inr (p',st')=>runM s x b f p' st' (n+1)
theorem runM_end {s:ByteArray} {x:Itm} {b:Bn} {f p:Nat} {st:List Int} {n k:Nat} {v:Int} (h:stepM x b (mkIns s p) st=.inl (k,v)):runM s x b (f+1) p st n=(k,v,n+1):=by
 simp[runM,h]
theorem runM_go {s:ByteArray} {x:Itm} {b:Bn} {f p:Nat} {st:List Int} {n p':Nat} {st':List Int} (h:stepM x b (mkIns s p) st=.inr (p',st')):runM s x b (f+1) p st n=runM s x b f p' st' (n+1):=by
 simp[runM,h]
structure AtStep (s:ByteArray) (l:List Ins) (most:Nat) (G:Nat→Int) (p:Nat) (st:List Int):Prop where
 chain:Chain s 3 l s.size
 law:Lawful l most G
 here:mkIns s p∈l
 high:G p=st.length
 nums:∀ v∈st,In64 v
theorem AtStep.ok {s:ByteArray} {l:List Ins} {most:Nat} {G:Nat→Int} {p:Nat} {st:List Int} (h:AtStep s l most G p st):OpOkI s p:=(h.chain.mem _ h.here).2.2.1
theorem AtStep.tall {s:ByteArray} {l:List Ins} {most:Nat} {G:Nat→Int} {p:Nat} {st:List Int} (h:AtStep s l most G p st):takesN (bt s p)≤st.length:=by
 have:=(h.law.2 _ h.here).1
 simp only[mkIns] at this
 rw[h.high] at this
 omega
theorem AtStep.most_le {s:ByteArray} {l:List Ins} {most:Nat} {G:Nat→Int} {p:Nat} {st:List Int} (h:AtStep s l most G p st):st.length≤most:=by
 have:=(h.law.2 _ h.here).2.1
 simp only[mkIns] at this
 rw[h.high] at this
 omega
theorem AtStep.start {s:ByteArray} {l:List Ins} {most:Nat} {G:Nat→Int} (hc:Chain s 3 l s.size) (hl:Lawful l most G) (h4:3 < s.size):AtStep s l most G 3 []:=by
 refine ⟨hc,hl, ?_,by rw[hl.1];rfl,by simp⟩
 obtain ⟨o,ho,h1,h2⟩:=hc.cover 3 (Nat.le_refl _) h4
 have hm:=hc.mem o ho
 have:o.pos=3:=by omega
 rw[← this,← hm.2.2.2];exact ho
theorem AtStep.next {s:ByteArray} {l:List Ins} {most:Nat} {G:Nat→Int} {p:Nat} {st st':List Int} {q:Nat} (h:AtStep s l most G p st) (hf:Flows (mkIns s p) q) (hn:(st'.length:Int)=st.length - takesN (bt s p)+laysN (bt s p)) (hi:∀ v∈st',In64 v):AtStep s l most G q st'∧p < q:=by
 obtain ⟨⟨o,ho,rfl⟩,h2⟩:=(h.law.2 _ h.here).2.2.1 q hf
 have hm:=h.chain.mem o ho
 refine ⟨⟨h.chain,h.law,by rw[← hm.2.2.2];exact ho, ?_,hi⟩,hf.lt⟩
 rw[h2,hn]
 show G p - takesN (bt s p)+laysN (bt s p)=_
 rw[h.high]
theorem jump_to (s:ByteArray) (p:Nat) (h:(mkIns s p).op=13∨(mkIns s p).op=14∨(mkIns s p).op=15):((mkIns s p).to:Int)=(mkIns s p).next+(mkIns s p).arg:=by
 have:=jump_arg s p h
 unfold Ins.to
 omega
theorem attr_in (k:Int) (x:Itm) (b:Bn) (hx:x.Ok) (hb:b.Ok):In64 (attrN k x b):=by
 unfold Itm.Ok at hx
 unfold Bn.Ok at hb
 unfold attrN In64
 repeat' split
 all_goals omega
theorem AtStep.go {s:ByteArray} {l:List Ins} {most:Nat} {G:Nat→Int} {p:Nat} {st st':List Int} {q:Nat} {x:Itm} {b:Bn} (h:AtStep s l most G p st) (hx:x.Ok) (hb:b.Ok) (hs:stepM x b (mkIns s p) st=.inr (q,st')):AtStep s l most G q st'∧p < q:=by
 have ht:=h.tall
 have hok:=h.ok
 have hop:(mkIns s p).op=bt s p:=rfl
 have hd:∀ k,∀ v∈st.drop k,In64 v:=fun k v hv=>h.nums v (List.mem_of_mem_drop hv)
 have hfst:In64 (fst st):=by
  unfold fst
  cases st with
  | nil=>decide
  | cons a r=>exact h.nums a (by simp)
 have hsnd:In64 (snd st):=by
  unfold snd
  cases hdd:st.drop 1 with
  | nil=>decide
  | cons a r=>exact hd 1 a (by rw[hdd];simp)
 have hnx:(bt s p≠13∧bt s p≠16∧bt s p≠17)→Flows (mkIns s p) (mkIns s p).next:=fun hh=>.inl ⟨hh.1,hh.2.1,hh.2.2,rfl⟩
 have hto:(bt s p=13∨bt s p=14∨bt s p=15)→Flows (mkIns s p) (mkIns s p).to:=fun hh=>.inr ⟨hh,jump_to s p hh⟩
 have hc17:bt s p≤17:=hok.2.1
 unfold stepM at hs
 simp only[hop] at hs
 split at hs
 ·simp at hs
 split at hs
 ·simp at hs
 split at hs
 ·rename_i h0
  simp at hs
  obtain ⟨rfl,rfl⟩:=hs
  refine h.next (hnx (by omega)) (by simp[takesN,laysN,h0]) ?_
  intro v hv
  rcases List.mem_cons.1 hv with rfl | hv
  ·exact in_wrap _
  ·exact h.nums v hv
 split at hs
 ·rename_i h0
  simp at hs
  obtain ⟨rfl,rfl⟩:=hs
  refine h.next (hnx (by omega)) (by simp[takesN,laysN,h0]) ?_
  intro v hv
  rcases List.mem_cons.1 hv with rfl | hv
  ·exact attr_in _ x b hx hb
  ·exact h.nums v hv
 split at hs
 ·rename_i h0
  unfold layM at hs
  split at hs
  ·simp at hs
   obtain ⟨rfl,rfl⟩:=hs
   rw[h0] at ht
   simp[takesN] at ht
   refine h.next (hnx (by omega)) (by simp[takesN,laysN,h0];omega) ?_
   intro v hv
   rcases List.mem_cons.1 hv with rfl | hv
   ·exact neg_in _
   ·exact hd 1 v (by simpa using hv)
  ·simp at hs
 split at hs
 ·rename_i h0
  simp at hs
  obtain ⟨rfl,rfl⟩:=hs
  rw[h0] at ht
  simp[takesN] at ht
  refine h.next (hnx (by omega)) (by simp[takesN,laysN,h0];omega) ?_
  intro v hv
  rcases List.mem_cons.1 hv with rfl | hv
  ·unfold bitN;split <;> decide
  ·exact hd 1 v (by simpa using hv)
 split at hs
 ·rename_i h0
  simp at hs
  obtain ⟨rfl,rfl⟩:=hs
  exact h.next (hto (by omega)) (by simp[takesN,laysN,h0]) h.nums
 split at hs
 ·rename_i h0
  simp at hs
  obtain ⟨rfl,rfl⟩:=hs
  rw[h0] at ht
  simp[takesN] at ht
  refine h.next ?_ (by simp[takesN,laysN,h0];omega) (fun v hv=>hd 1 v (by simpa using hv))
  split
  ·exact hto (by omega)
  ·exact hnx (by omega)
 split at hs
 ·rename_i h0
  simp at hs
  obtain ⟨rfl,rfl⟩:=hs
  rw[h0] at ht
  simp[takesN] at ht
  refine h.next ?_ (by simp[takesN,laysN,h0];omega) (fun v hv=>hd 1 v (by simpa using hv))
  split
  ·exact hnx (by omega)
  ·exact hto (by omega)
 ·unfold layM at hs
  split at hs
  ·simp at hs
   obtain ⟨rfl,rfl⟩:=hs
   have h2:takesN (bt s p)=2:=by unfold takesN;rw[if_neg (by omega),if_neg (by omega)]
   have h3:laysN (bt s p)=1:=by unfold laysN;rw[if_neg (by omega)]
   rw[h2] at ht
   refine h.next (hnx (by omega)) (by rw[h2,h3];simp;omega) ?_
   intro v hv
   rcases List.mem_cons.1 hv with rfl | hv
   ·exact join_in _ _ _ hsnd hfst
   ·exact hd 2 v (by simpa using hv)
  ·simp at hs
end Go.Proofs.YtldfkcpbjooemaaGreatDoor
namespace Go.Proofs.YtldfkcpbjooemaaGreatDoor
open Go.RowKit
theorem Hid.mk2 {p:Prop} (h:p):Hid p:=h
theorem box3 (w:World) (o:Obj):Below w.heap.size w (w.alloc o):=(Below.refl _ _).alloc (Nat.le_refl _) _
def itmA (x:Itm):Value:=.agg #[.int .i64 x.size,.int .i64 x.speed,.int .i64 x.need]
def bnA (y:Bn):Value:=.agg #[.int .i64 y.id,.int .i64 y.zone,.int .i64 y.cap,.int .i64 y.used,.int .i64 y.has]
end Go.Proofs.YtldfkcpbjooemaaGreatDoor
