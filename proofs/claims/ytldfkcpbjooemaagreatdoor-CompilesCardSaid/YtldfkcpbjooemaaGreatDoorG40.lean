/-
  The document's ways: which operations may come behind an operation.
-/
import Derived.Test.YtldfkcpbjooemaaGreatDoorG39
import Derived.Test.YtldfkcpbjooemaaGreatDoorG16
set_option linter.unusedVariables false
set_option linter.unusedSimpArgs false
namespace Go.Proofs.YtldfkcpbjooemaaGreatDoor
open Go.RowKit
def cellsKv (l:List Nat):List Value:=l.map fun (n:Nat)=>.int .i64 n
def WaysAre (l:List Ins) (i:Nat) (e:Ending) (w w':World):Prop :=
 (∃ ks v,WaysOk l i ks∧e=.returned (.tuple #[v,.bool true])∧w'.ownsRow w.heap.size 3 1 v ks.length (cellsKv ks)) ∨
 ((∃ q,Flows (nth l i) q∧∀ k,k < l.length→(nth l k).pos≠q)∧e=.returned (.tuple #[.slice none 0 0,.bool false]))
theorem Chain.follow {s:ByteArray}:∀ {l:List Ins} {p q:Nat},Chain s p l q→∀ i,i < l.length→(i+1 < l.length→(nth l (i+1)).pos=(nth l i).next)∧(¬ i+1 < l.length→(nth l i).next=q)
 | [],_,_,_,i,hi=>by simp at hi
 | a :: r,p,q,h,i,hi=>by
  obtain ⟨h1,rfl,h3⟩:=h
  cases i with
  | zero =>
   refine ⟨fun h=>?_,fun h=>?_⟩
   ·have hz:=Chain.zero h3 (by simpa using h)
    have e1:nth (mkIns s p :: r) (0+1)=nth r 0:=by simp[nth]
    have e2:nth (mkIns s p :: r) 0=mkIns s p:=by simp[nth]
    rw[e1,e2,hz]
   ·have:r=[]:=by cases r with
     | nil=>rfl
     | cons b r=>simp at h
    subst this
    have e2:nth [mkIns s p] 0=mkIns s p:=by simp[nth]
    rw[e2];exact h3
  | succ i =>
   have e1:nth (mkIns s p :: r) (i+1+1)=nth r (i+1):=by simp[nth]
   have e2:nth (mkIns s p :: r) (i+1)=nth r i:=by simp[nth]
   rw[e1,e2]
   have:=Chain.follow h3 i (by simpa using hi)
   simpa using this
theorem first_grown {w wa w2:World} {X Y:Obj} {row:Option Nat} (hX:wa=w.alloc X) (hg:(wa.alloc Y).grownBy w2 row) (hrow:∀ k,row=some k→wa.heap.size≤k):Below wa.heap.size wa w2:=by
 subst hX
 exact ((Below.refl _ _).alloc (Nat.le_refl _) Y).grown hg (by simp) hrow
theorem nth_lt_size {s:ByteArray} {l:List Ins} {p q:Nat} (h:Chain s p l q) (k:Nat) (hk:k < l.length):(nth l k).pos < (nth l k).next∧(nth l k).next≤q:=by
 have hm:=h.mem _ (nth_mem l k hk)
 refine ⟨?_,hm.2.1⟩
 have:=next_pos s (nth l k).pos
 rw[← hm.2.2.2] at this
 exact this
set_option maxHeartbeats 1600000 in
set_option maxRecDepth 100000 in
theorem ways_any (s:ByteArray) (hs:s.size≤4000) (l:List Ins) (hc:Chain s 3 l s.size) (i:Nat) (hi:i < l.length) (hl4:l.length≤4000) (v:Value) (w:World) (hv:Reads w v l.length (cellsV l)) :
  Calls Tryz.prog 76 #[v,.int .i64 i] w fun e w'=>Below w.heap.size w w'∧WaysAre l i e w w':=by
 obtain ⟨i0,hin,hz0,hz1,hz2⟩:=info_parts Tryz.infoInt
 obtain ⟨g,o,cap,rfl,_,hlt,hcc⟩:=hv.pos (by omega)
 have hget:=cellsN_get l i hi
 have c0:w.cell? ⟨g,o+i * 4,none⟩=some (.int .i64 (nth l i).pos):=hcc _ _ hget.1
 have c1:w.cell? ⟨g,o+i * 4+1,none⟩=some (.int .i64 (nth l i).op):=by have:=hcc _ _ hget.2.1;rw[← Nat.add_assoc] at this;exact this
 have c2:w.cell? ⟨g,o+i * 4+2,none⟩=some (.int .i64 (nth l i).arg):=by have:=hcc _ _ hget.2.2.1;rw[← Nat.add_assoc] at this;exact this
 have c3:w.cell? ⟨g,o+i * 4+3,none⟩=some (.int .i64 (nth l i).next):=by have:=hcc _ _ hget.2.2.2;rw[← Nat.add_assoc] at this;exact this
 have HC:Hid (Chain s 3 l s.size):=hc
 have hnx:=nth_lt_size hc i hi
 obtain ⟨c,hcd⟩:∃ c,c=(nth l i).op:=⟨_,rfl⟩
 obtain ⟨a,had⟩:∃ a,a=(nth l i).arg:=⟨_,rfl⟩
 obtain ⟨nx,hnd⟩:∃ nx,nx=(nth l i).next:=⟨_,rfl⟩
 obtain ⟨ps,hpd⟩:∃ ps,ps=(nth l i).pos:=⟨_,rfl⟩
 have hm:=(hc.mem _ (nth_mem l i hi)).2.2.2
 have hja:c=13∨c=14∨c=15→0≤a∧a≤65535:=by
  intro h
  have h1:=jump_arg s (nth l i).pos (by rw[← hm,← hcd];exact h)
  rw[← hm,← had] at h1
  have:=lowU_two s ((nth l i).pos+1)
  omega
 have hfl:∀ q,Flows (nth l i) q ↔ (c≠13∧c≠16∧c≠17∧q=nx)∨((c=13∨c=14∨c=15)∧(q:Int)=nx+a):=fun q=>by unfold Flows;rw[hcd,had,hnd]
 have HF:Hid (∀ q,Flows (nth l i) q ↔ (c≠13∧c≠16∧c≠17∧q=nx)∨((c=13∨c=14∨c=15)∧(q:Int)=nx+a)):=hfl
 have hfo:=hc.follow i hi
 rw[← hnd] at hfo hnx c3
 rw[← hcd] at c1
 rw[← had] at c2
 rw[← hpd] at c0
 have HW:Hid ((i+1 < l.length→(nth l (i+1)).pos=nx)∧(¬ i+1 < l.length→nx=s.size)):=hfo
 have hnx4:nx≤4000:=by omega
 have HS:Hid (∀ k,k < l.length→(nth l k).pos < s.size):=fun k hk=>by have:=nth_lt_size HC.out k hk;omega
 clear hget hcc hc hfo hfl hm hcd had hnd hpd hnx
 have hk:c=16∨c=17∨c=13∨(c=14∨c=15)∨(c≠16∧c≠17∧c≠13∧c≠14∧c≠15):=by omega
 rcases hk with h | h | h | hk | ⟨h16,h17,h13,h14,h15⟩
 ·clear hja
  have HK:Hid (c=16):=h
  rw[h] at c1
  clear h
  go_enter Tryz.func76,Tryz.ntmps76
  go_wp2
  go_ret2
  exact ⟨(Below.refl _ _).alloc (Nat.le_refl _) _,.inl ⟨[],_,⟨fun q hq=>by rw[HF.out] at hq;have:=HK.out;omega,by simp,by simp⟩,rfl,World.ownsRow_nil _ _ _ _⟩⟩
 ·clear hja
  have HK:Hid (c=17):=h
  rw[h] at c1
  clear h
  go_enter Tryz.func76,Tryz.ntmps76
  go_wp2
  go_ret2
  exact ⟨(Below.refl _ _).alloc (Nat.le_refl _) _,.inl ⟨[],_,⟨fun q hq=>by rw[HF.out] at hq;have:=HK.out;omega,by simp,by simp⟩,rfl,World.ownsRow_nil _ _ _ _⟩⟩
 ·obtain ⟨ha0,ha6⟩:=hja (.inl h)
  have HK:Hid (c=13):=h
  rw[h] at c1
  clear hja h
  go_enter Tryz.func76,Tryz.ntmps76
  go_wp2_with (first | (go_at_call 48;refine (index_any l hl4 ((nx:Int)+a) _ _ (hv.alloc _)).mono ?_;rintro e w' ⟨r,rfl,hix,rfl⟩) | (at_builtin;(refine wpList_append_own _ rfl _ _ 40 rfl w.heap.size 3 i0 (.int .i64 0) 1 8 Tryz.underlying40 hin hz0 hz1 hz2 rfl (by decide) _ _ _ rfl (World.ownsRow_nil _ _ _ _) ⟨_,0,none⟩ 1 1 [.int .i64 r] rfl rfl (cell_one_at _ _ _ _ (by simp)) one_int1 (by unfold maxLen;first | omega | (simp;done) | (simp;omega)) (by first | omega | (simp;done)) (by first | omega | (simp;done) | (simp;omega)) ?_);intro v' w2 hown2 hgrow2 _))
  ·go_ret2
   rcases hix with ⟨rfl,hno⟩ | ⟨k,hk,rfl,hp⟩
   ·exact ⟨(Below.refl _ _).alloc (Nat.le_refl _) _,.inr ⟨⟨((nx:Int)+a).toNat,by rw[HF.out];have:=HK.out;omega,fun k hk he=>hno k hk (by omega)⟩,rfl⟩⟩
   ·omega
  ·go_ret2
   rcases hix with ⟨rfl,hno⟩ | ⟨k,hk,rfl,hp⟩
   ·omega
   ·exact ⟨(((Below.refl _ _).alloc (Nat.le_refl _) _).alloc (by simp) _).grown hgrow2 (by simp;omega) (fun k hk=>((World.ownsRow_nil w w.heap.size 3 1).lt k hk).1),.inl ⟨[k],_,⟨fun q hq=>by rw[HF.out] at hq;have:=HK.out;exact ⟨k,by simp,by omega⟩,fun k' hk'=>by simp at hk';subst hk';exact ⟨hk,by rw[HF.out];have:=HK.out;omega⟩,by simp⟩,rfl,hown2⟩⟩
 ·have ⟨ha0,ha6⟩:=hja (.inr hk)
  clear hja
  have hkk:((c:Int)==16)=false∧((c:Int)==17)=false∧((c:Int)==13)=false∧(((c:Int)==14)=true∨(((c:Int)==14)=false∧((c:Int)==15)=true)):=by
   rcases hk with rfl | rfl <;> simp
  obtain ⟨h16,h17,h13,h145⟩:=hkk
  have h13':((c:Int) != 13)=true:=by simp[bne,h13]
  have HK:Hid (c=14∨c=15):=hk
  clear hk
  by_cases hlast:i+1 < l.length
  case neg =>
   have HL:Hid (¬ i+1 < l.length):=hlast
   go_enter Tryz.func76,Tryz.ntmps76
   go_wp2
   go_ret2
   exact ⟨(Below.refl _ _).alloc (Nat.le_refl _) _,.inr ⟨⟨nx,by rw[HF.out];have:=HK.out;omega,fun k hk he=>by have:=HS.out k hk;have:=HW.out.2 HL.out;omega⟩,rfl⟩⟩
  rcases h145 with h14 | ⟨h14,h15⟩
  all_goals
   go_enter Tryz.func76,Tryz.ntmps76
   go_wp2_with (first | (go_at_call 48;refine (index_any l hl4 ((nx:Int)+a) _ _ (hv.below hb2)).mono ?_;rintro e w' ⟨r,rfl,hix,rfl⟩) | (at_builtin;refine wpList_append_own _ rfl _ _ 40 rfl w.heap.size 3 i0 (.int .i64 0) 1 8 Tryz.underlying40 hin hz0 hz1 hz2 rfl (by decide) _ _ _ rfl (World.ownsRow_nil _ _ _ _) ⟨_,0,none⟩ 1 1 [.int .i64 ((i:Int)+1)] rfl rfl (cell_one_at _ _ _ _ (by simp)) one_int1 (by unfold maxLen;first | omega | (simp;done) | (simp;omega)) (by first | omega | (simp;done)) (by first | omega | (simp;done) | (simp;omega)) ?_;intro v' w2 hown2 hgrow2 _;have hbx:=first_grown (X:=.cells #[.int .i64 ps,.int .i64 c,.int .i64 a,.int .i64 nx] 88) rfl hgrow2 (fun k hk=>((World.ownsRow_nil w _ 3 1).lt k hk).1);have hb2:=((Below.refl w.heap.size w).alloc (Nat.le_refl _) _).trans (hbx.mono (by simp));have hsz2:=hb2.size;have d1:w2.cell? ⟨w.heap.size,1,none⟩=some (.int .i64 c):=(hbx.cell (p:=⟨w.heap.size,1,none⟩) (by simp)).trans (by simp);have d2:w2.cell? ⟨w.heap.size,2,none⟩=some (.int .i64 a):=(hbx.cell (p:=⟨w.heap.size,2,none⟩) (by simp)).trans (by simp);have d3:w2.cell? ⟨w.heap.size,3,none⟩=some (.int .i64 nx):=(hbx.cell (p:=⟨w.heap.size,3,none⟩) (by simp)).trans (by simp)) | (at_builtin;(refine wpList_append_own _ rfl _ _ 40 rfl w.heap.size 3 i0 (.int .i64 0) 1 8 Tryz.underlying40 hin hz0 hz1 hz2 rfl (by decide) _ _ _ rfl (hown2.alloc _) ⟨_,0,none⟩ 1 1 [.int .i64 r] rfl rfl (cell_one_at _ _ _ _ (by simp)) one_int1 (by unfold maxLen;first | omega | (simp;done) | (simp;omega)) (by first | omega | (simp;done)) (by first | omega | (simp;done) | (simp;omega)) ?_;intro v3 w3 hown3 hgrow3 _;have hb3:=(hb2.alloc hb2.size _).grown hgrow3 (by simp;have:=hb2.size;omega) (fun k hk=>(hown2.lt k hk).1))))
   ·go_ret2
    rcases hix with ⟨rfl,hno⟩ | ⟨k,hk,rfl,hp⟩
    ·exact ⟨hb2,.inr ⟨⟨((nx:Int)+a).toNat,by rw[HF.out];have:=HK.out;omega,fun k hk he=>hno k hk (by omega)⟩,rfl⟩⟩
    ·omega
   ·go_ret2
    rcases hix with ⟨rfl,hno⟩ | ⟨k,hk,rfl,hp⟩
    ·omega
    ·have hw1:=HW.out.1 hlast
     exact ⟨hb3,.inl ⟨[i+1,k],_,⟨fun q hq=>by
      rw[HF.out] at hq
      have:=HK.out
      rcases hq with hq | hq
      ·exact ⟨i+1,by simp,by omega⟩
      ·exact ⟨k,by simp,by omega⟩,fun k' hk'=>by
      have:=HK.out
      simp at hk'
      rcases hk' with rfl | rfl
      ·exact ⟨hlast,by rw[HF.out];omega⟩
      ·exact ⟨hk,by rw[HF.out];omega⟩,by simp⟩,rfl,hown3⟩⟩
 ·have e16:((c:Int)==16)=false:=by simp;omega
  have e17:((c:Int)==17)=false:=by simp;omega
  have e13:((c:Int)==13)=false:=by simp;omega
  have e14:((c:Int)==14)=false:=by simp;omega
  have e15:((c:Int)==15)=false:=by simp;omega
  have e13':((c:Int) != 13)=true:=by simp[bne,e13]
  have HK:Hid (c≠16∧c≠17∧c≠13∧c≠14∧c≠15):=⟨h16,h17,h13,h14,h15⟩
  clear hja h16 h17 h13 h14 h15
  by_cases hlast:i+1 < l.length
  case neg =>
   have HL:Hid (¬ i+1 < l.length):=hlast
   go_enter Tryz.func76,Tryz.ntmps76
   go_wp2
   go_ret2
   exact ⟨(Below.refl _ _).alloc (Nat.le_refl _) _,.inr ⟨⟨nx,by rw[HF.out];have:=HK.out;omega,fun k hk he=>by have:=HS.out k hk;have:=HW.out.2 HL.out;omega⟩,rfl⟩⟩
  go_enter Tryz.func76,Tryz.ntmps76
  go_wp2_with (at_builtin;(refine wpList_append_own _ rfl _ _ 40 rfl w.heap.size 3 i0 (.int .i64 0) 1 8 Tryz.underlying40 hin hz0 hz1 hz2 rfl (by decide) _ _ _ rfl (World.ownsRow_nil _ _ _ _) ⟨_,0,none⟩ 1 1 [.int .i64 ((i:Int)+1)] rfl rfl (cell_one_at _ _ _ _ (by simp)) one_int1 (by unfold maxLen;first | omega | (simp;done) | (simp;omega)) (by first | omega | (simp;done)) (by first | omega | (simp;done) | (simp;omega)) ?_;intro v' w2 hown2 hgrow2 _;have hbx:=first_grown (X:=.cells #[.int .i64 ps,.int .i64 c,.int .i64 a,.int .i64 nx] 88) rfl hgrow2 (fun k hk=>((World.ownsRow_nil w _ 3 1).lt k hk).1);have hb2:=((Below.refl w.heap.size w).alloc (Nat.le_refl _) _).trans (hbx.mono (by simp));have hsz2:=hb2.size;have d1:w2.cell? ⟨w.heap.size,1,none⟩=some (.int .i64 c):=(hbx.cell (p:=⟨w.heap.size,1,none⟩) (by simp)).trans (by simp);have d2:w2.cell? ⟨w.heap.size,2,none⟩=some (.int .i64 a):=(hbx.cell (p:=⟨w.heap.size,2,none⟩) (by simp)).trans (by simp);have d3:w2.cell? ⟨w.heap.size,3,none⟩=some (.int .i64 nx):=(hbx.cell (p:=⟨w.heap.size,3,none⟩) (by simp)).trans (by simp)))
  go_ret2
  have hw1:=HW.out.1 hlast
  exact ⟨hb2,.inl ⟨[i+1],_,⟨fun q hq=>by
   rw[HF.out] at hq
   have:=HK.out
   exact ⟨i+1,by simp,by omega⟩,fun k' hk'=>by
   have:=HK.out
   simp at hk'
   subst hk'
   exact ⟨hlast,by rw[HF.out];omega⟩,by simp⟩,rfl,hown2⟩⟩
end Go.Proofs.YtldfkcpbjooemaaGreatDoor
