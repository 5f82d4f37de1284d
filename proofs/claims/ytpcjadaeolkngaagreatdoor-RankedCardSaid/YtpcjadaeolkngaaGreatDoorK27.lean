/-
  What the program's verifier does with its heights: heightAt, refuseInside, reach.
-/
import Derived.Test.YtpcjadaeolkngaaGreatDoorK26
import Derived.Test.YtpcjadaeolkngaaGreatDoorK05
import Derived.Test.YtpcjadaeolkngaaGreatDoorK07
import Derived.Deep.AppendLies
import Derived.Deep.RegionHeld3
set_option linter.unusedVariables false
set_option linter.unusedSimpArgs false
namespace Go.Proofs.YtpcjadaeolkngaaGreatDoor
open Go.RowKit
def verCells (s:ByteArray) (most:Nat) (hb:Nat) (wg:Bool):Array Value:=#[.string s,.int .i64 most,.slice (some ⟨hb,0,none⟩) s.size s.size,.bool wg]
structure VStv (w:World) (vb hb:Nat) (s:ByteArray) (most:Nat) (H:Nat→Int) (wg:Bool):Prop where
 st:Blk w vb (verCells s most hb wg) 122
 ht:Blk w hb (arrH H s.size) 3
 ne:hb≠vb
theorem VStv.below {w w':World} {vb hb:Nat} {s:ByteArray} {most:Nat} {H:Nat→Int} {wg:Bool} (h:VStv w vb hb s most H wg) (hbl:Below w.heap.size w w'):VStv w' vb hb s most H wg :=
 ⟨h.st.below hbl h.st.lt,h.ht.below hbl h.ht.lt,h.ne⟩
theorem VStv.c0 {w:World} {vb hb:Nat} {s:ByteArray} {most:Nat} {H:Nat→Int} {wg:Bool} (h:VStv w vb hb s most H wg):w.cell? ⟨vb,0,none⟩=some (.string s):=by rw[h.st.cell];rfl
theorem VStv.c1 {w:World} {vb hb:Nat} {s:ByteArray} {most:Nat} {H:Nat→Int} {wg:Bool} (h:VStv w vb hb s most H wg):w.cell? ⟨vb,1,none⟩=some (.int .i64 most):=by rw[h.st.cell];rfl
theorem VStv.c2 {w:World} {vb hb:Nat} {s:ByteArray} {most:Nat} {H:Nat→Int} {wg:Bool} (h:VStv w vb hb s most H wg):w.cell? ⟨vb,2,none⟩=some (.slice (some ⟨hb,0,none⟩) s.size s.size):=by rw[h.st.cell];rfl
theorem VStv.c3 {w:World} {vb hb:Nat} {s:ByteArray} {most:Nat} {H:Nat→Int} {wg:Bool} (h:VStv w vb hb s most H wg):w.cell? ⟨vb,3,none⟩=some (.bool wg):=by rw[h.st.cell];rfl
theorem VStv.cH {w:World} {vb hb:Nat} {s:ByteArray} {most:Nat} {H:Nat→Int} {wg:Bool} (h:VStv w vb hb s most H wg) (q:Nat) (hq:q < s.size):w.cell? ⟨hb,q,none⟩=some (.int .i64 (H q)):=by rw[h.ht.cell,arrH_get _ _ _ hq]
theorem VStv.wrong {w:World} {vb hb:Nat} {s:ByteArray} {most:Nat} {H:Nat→Int} {wg:Bool} (h:VStv w vb hb s most H wg):VStv (w.setCell ⟨vb,3,none⟩ (.bool true)) vb hb s most H true :=
 ⟨h.st.set 3 (.bool true),h.ht.other _ _ h.ne,h.ne⟩
theorem VStv.put {w:World} {vb hb:Nat} {s:ByteArray} {most:Nat} {H:Nat→Int} {wg:Bool} (h:VStv w vb hb s most H wg) (q:Nat) (a:Int):VStv (w.setCell ⟨hb,q,none⟩ (.int .i64 a)) vb hb s most (upd H q a) wg :=
 ⟨h.st.other _ _ (Ne.symm h.ne),by have:=h.ht.set q (.int .i64 a);rw[arrH_set] at this;exact this,h.ne⟩
set_option maxHeartbeats 1000000 in
theorem heightAt_any {w:World} {vb hb:Nat} {s:ByteArray} {most:Nat} {H:Nat→Int} {wg:Bool} (hs:s.size≤4000) (q:Nat) (hq:q < s.size) (h:VStv w vb hb s most H wg) :
  Calls Tryz.prog 79 #[.pointer (some ⟨vb,0,none⟩),.int .i64 q] w fun e w'=>e=.returned (.int .i64 (H q))∧w'=w:=by
 have c2:=h.c2
 have cH:=h.cH q hq
 clear h
 go_enter Tryz.func79,Tryz.ntmps79
 go_wp2
 go_ret
 exact ⟨rfl,rfl⟩
def reachH (s:ByteArray) (most:Nat) (H:Nat→Int) (q:Nat) (a:Int):Nat→Int:=if s.size≤q∨(most:Int) < a then H else upd H q a
def reachW (s:ByteArray) (most:Nat) (H:Nat→Int) (wg:Bool) (q:Nat) (a:Int):Bool:=wg||decide (s.size≤q∨(most:Int) < a∨(H q≠-1∧H q≠a))
set_option maxHeartbeats 1000000 in
theorem reach_any {w:World} {vb hb:Nat} {s:ByteArray} {most:Nat} {H:Nat→Int} {wg:Bool} (hs:s.size≤4000) (B:Nat) (hB:B≤vb∧B≤hb) (q:Nat) (a:Int) (h:VStv w vb hb s most H wg) :
  Calls Tryz.prog 51 #[.pointer (some ⟨vb,0,none⟩),.int .i64 q,.int .i64 a] w fun e w'=>e=.returned (.tuple #[])∧VStv w' vb hb s most (reachH s most H q a) (reachW s most H wg q a)∧Below B w w'∧w'.heap.size=w.heap.size∧∀ b,b≠vb→b≠hb→w'.heap[b]?=w.heap[b]?:=by
 have c1:=h.c1
 have c2:=h.c2
 have f3:w.frozen? ⟨vb,3,none⟩=false:=h.st.free 3
 have c3:=h.c3
 have HV:Hid (VStv w vb hb s most H wg):=h
 clear h
 by_cases hq:s.size≤q
 ·have HH:Hid (reachH s most H q a=H):=if_pos (.inl hq)
  have HW:Hid (reachW s most H wg q a=true):=(by unfold reachW;simp[hq]:_=true)
  rw[HH.out,HW.out]
  go_enter Tryz.func51,Tryz.ntmps51
  go_wp2
  refine bodyPost_ret (results_none rfl _ _ _) rfl ?_
  exact ⟨rfl,HV.out.wrong,(Below.refl _ _).setCell (p:=⟨vb,3,none⟩) hB.1 _,by simp,fun b h1 h2=>Below.heap_setCell _ _ _ _ h1⟩
 have cH:=HV.out.cH q (by omega)
 have fH:w.frozen? ⟨hb,q,none⟩=false:=HV.out.ht.free q
 have hne:hb≠vb:=HV.out.ne
 have hne':vb≠hb:=Ne.symm hne
 by_cases hm:(most:Int) < a
 ·have HH:Hid (reachH s most H q a=H):=if_pos (.inr hm)
  have HW:Hid (reachW s most H wg q a=true):=(by unfold reachW;simp[hm]:_=true)
  rw[HH.out,HW.out]
  go_enter Tryz.func51,Tryz.ntmps51
  go_wp2
  refine bodyPost_ret (results_none rfl _ _ _) rfl ?_
  exact ⟨rfl,HV.out.wrong,(Below.refl _ _).setCell (p:=⟨vb,3,none⟩) hB.1 _,by simp,fun b h1 h2=>Below.heap_setCell _ _ _ _ h1⟩
 have HH:Hid (reachH s most H q a=upd H q a):=if_neg (by omega)
 rw[HH.out]
 by_cases hc:H q≠-1∧H q≠a
 ·have HW:Hid (reachW s most H wg q a=true):=(by unfold reachW;rw[decide_eq_true (.inr (.inr hc))];simp:_=true)
  rw[HW.out]
  have d1:(H q==-1)=false:=by simpa using hc.1
  have d2:(H q==a)=false:=by simpa using hc.2
  have d1':(H q != -1)=true:=by simp[bne,d1]
  have d2':(H q != a)=true:=by simp[bne,d2]
  clear hc
  go_enter Tryz.func51,Tryz.ntmps51
  go_wp2
  go_end0
  exact ⟨rfl,HV.out.wrong.put q a,((Below.refl _ _).setCell (p:=⟨vb,3,none⟩) hB.1 _).setCell (p:=⟨hb,q,none⟩) hB.2 _,by simp,fun b h1 h2=>(Below.heap_setCell _ _ _ _ h2).trans (Below.heap_setCell _ _ _ _ h1)⟩
 ·have HW:Hid (reachW s most H wg q a=wg):=(by unfold reachW;rw[decide_eq_false (by omega)];simp:_=wg)
  rw[HW.out]
  by_cases e1:H q=-1
  ·have d1:(H q==-1)=true:=by simpa using e1
   have d1':(H q != -1)=false:=by simp[bne,d1]
   clear hc e1
   go_enter Tryz.func51,Tryz.ntmps51
   go_wp2
   go_end0
   exact ⟨rfl,HV.out.put q a,(Below.refl _ _).setCell (p:=⟨hb,q,none⟩) hB.2 _,by simp,fun b h1 h2=>Below.heap_setCell _ _ _ _ h2⟩
  ·have d1:(H q==-1)=false:=by simpa using e1
   have d2:(H q==a)=true:=by simp;omega
   have d1':(H q != -1)=true:=by simp[bne,d1]
   have d2':(H q != a)=false:=by simp[bne,d2]
   clear hc e1
   go_enter Tryz.func51,Tryz.ntmps51
   go_wp2
   go_end0
   exact ⟨rfl,HV.out.put q a,(Below.refl _ _).setCell (p:=⟨hb,q,none⟩) hB.2 _,by simp,fun b h1 h2=>Below.heap_setCell _ _ _ _ h2⟩
def insideW (H:Nat→Int) (wg:Bool) (f b:Nat):Bool:=wg||decide (∃ i,i < b∧f≤i∧H i≠-1)
theorem insideW_nil (H:Nat→Int) (wg:Bool) (f b:Nat) (h:b≤f):insideW H wg f b=wg:=by
 unfold insideW
 rw[decide_eq_false (by rintro ⟨i,h1,h2,_⟩;omega)];simp
theorem insideW_cons (H:Nat→Int) (wg:Bool) (f b:Nat) (h:f < b):insideW H wg f b=insideW H (wg||decide (H f≠-1)) (f+1) b:=by
 unfold insideW
 rw[Bool.eq_iff_iff]
 simp only[Bool.or_eq_true,decide_eq_true_eq]
 constructor
 ·rintro (h1 | ⟨i,h1,h2,h3⟩)
  ·exact .inl (.inl h1)
  ·by_cases he:i=f
   ·subst he;exact .inl (.inr h3)
   ·exact .inr ⟨i,h1,by omega,h3⟩
 ·rintro ((h1 | h1) | ⟨i,h1,h2,h3⟩)
  ·exact .inl h1
  ·exact .inr ⟨f,h,Nat.le_refl _,h1⟩
  ·exact .inr ⟨i,h1,by omega,h3⟩
set_option maxHeartbeats 1000000 in
theorem refuseInside_any {w:World} {vb hb:Nat} {s:ByteArray} {most:Nat} {H:Nat→Int} {wg:Bool} (hs:s.size≤4000) (B:Nat) (hB:B≤vb∧B≤hb) (f b:Nat) (hf:f≤b) (hbs:b≤s.size) (h:VStv w vb hb s most H wg) :
  Calls Tryz.prog 81 #[.pointer (some ⟨vb,0,none⟩),.int .i64 f,.int .i64 b] w fun e w'=>e=.returned (.tuple #[])∧VStv w' vb hb s most H (insideW H wg f b)∧Below B w w'∧w'.heap.size=w.heap.size∧∀ b,b≠vb→b≠hb→w'.heap[b]?=w.heap[b]?:=by
 have HV:Hid (VStv w vb hb s most H wg):=h
 clear h
 go_enter Tryz.func81,Tryz.ntmps81
 go_wp2
 go_loopw [6] (fun vi wx=>∃ (i:Nat) (w2:Bool),i≤b∧vi=.int .i64 i∧VStv wx vb hb s most H w2∧Below B w wx∧wx.heap.size=w.heap.size∧(∀ b,b≠vb→b≠hb→wx.heap[b]?=w.heap[b]?)∧insideW H wg f b=insideW H w2 i b) (fun i _=>b - (intOf i).toNat)
 case atStart=>exact ⟨f,wg,hf,rfl,HV.out,Below.refl _ _,rfl,fun _ _ _=>rfl,rfl⟩
 case round =>
  clear HV
  obtain ⟨i,w2,hib,rfl,hst,hbl,hsz,hot,hin⟩:=hrel
  have HOt:Hid (∀ b,b≠vb→b≠hb→wr.heap[b]?=w.heap[b]?):=hot
  clear hot
  have HV:Hid (VStv wr vb hb s most H w2):=hst
  have HI:Hid (insideW H wg f b=insideW H w2 i b):=hin
  clear hst hin
  by_cases hi:i < b
  case neg =>
   go_wp2
   go_end0
   have:=insideW_nil H w2 i b (by omega)
   rw[HI.out,this]
   exact ⟨rfl,HV.out,hbl,hsz,HOt.out⟩
  have c3:=HV.out.c3
  have f3:wr.frozen? ⟨vb,3,none⟩=false:=HV.out.st.free 3
  have HC:Hid (insideW H wg f b=insideW H (w2||decide (H i≠-1)) (i+1) b):=(by rw[HI.out,insideW_cons H w2 i b hi]:_=_)
  by_cases e1:H i=-1
  ·have d1:(H i==-1)=true:=by simpa using e1
   have d1':(H i != -1)=false:=by simp[bne,d1]
   have HE:Hid (decide (H i≠-1)=false):=(by simp[e1]:_=false)
   clear e1
   go_wp2_with (go_at_call 79;refine (heightAt_any hs i (by omega) HV.out).mono ?_;rintro e w' ⟨rfl,rfl⟩)
   go_roundw
   case rel=>exact ⟨i+1,w2,by omega,by go_num,HV.out,hbl,hsz,HOt.out,by rw[HC.out,HE.out];simp⟩
   case measure=>simp[intOf];omega
  ·have d1:(H i==-1)=false:=by simpa using e1
   have d1':(H i != -1)=true:=by simp[bne,d1]
   have HE:Hid (decide (H i≠-1)=true):=(by simp[e1]:_=true)
   clear e1
   go_wp2_with (go_at_call 79;refine (heightAt_any hs i (by omega) HV.out).mono ?_;rintro e w' ⟨rfl,rfl⟩)
   go_roundw
   case rel=>exact ⟨i+1,true,by omega,by go_num,HV.out.wrong,hbl.setCell (p:=⟨vb,3,none⟩) hB.1 _,by simp[hsz],fun b h1 h2=>(Below.heap_setCell _ _ _ _ h1).trans (HOt.out b h1 h2),by rw[HC.out,HE.out];simp⟩
   case measure=>simp[intOf];omega
end Go.Proofs.YtpcjadaeolkngaaGreatDoor
namespace Go.Proofs.YtpcjadaeolkngaaGreatDoor
open Go.RowKit
def cellsZ (l:List Int):List Value:=l.map fun n=>.int .i64 n
def mCells (x:Itm) (y:Bn) (sv:Value) (p:Nat) (en:Bool) (k v n:Int):Array Value :=
 #[.int .i64 x.size,.int .i64 x.speed,.int .i64 x.need,.int .i64 y.id,.int .i64 y.zone,.int .i64 y.cap,.int .i64 y.used,.int .i64 y.has,sv,.int .i64 p,.bool en,.int .i64 k,.int .i64 v,.int .i64 n]
structure MSt (w:World) (mb:Nat) (x:Itm) (y:Bn) (sv:Value) (st:List Int) (p:Nat) (en:Bool) (k v n:Int):Prop where
 m:Blk w mb (mCells x y sv p en k v n) 129
 row:w.ownsRow (mb+1) 2 1 sv st.length (cellsZ st.reverse)
section
variable {w w':World} {mb:Nat} {x:Itm} {y:Bn} {sv:Value} {st:List Int} {p:Nat} {en:Bool} {k v n:Int}
theorem MSt.c8 (h:MSt w mb x y sv st p en k v n):w.cell? ⟨mb,8,none⟩=some sv:=by rw[h.m.cell];rfl
theorem MSt.c9 (h:MSt w mb x y sv st p en k v n):w.cell? ⟨mb,9,none⟩=some (.int .i64 p):=by rw[h.m.cell];rfl
theorem MSt.c10 (h:MSt w mb x y sv st p en k v n):w.cell? ⟨mb,10,none⟩=some (.bool en):=by rw[h.m.cell];rfl
theorem MSt.c11 (h:MSt w mb x y sv st p en k v n):w.cell? ⟨mb,11,none⟩=some (.int .i64 k):=by rw[h.m.cell];rfl
theorem MSt.c12 (h:MSt w mb x y sv st p en k v n):w.cell? ⟨mb,12,none⟩=some (.int .i64 v):=by rw[h.m.cell];rfl
theorem MSt.c13 (h:MSt w mb x y sv st p en k v n):w.cell? ⟨mb,13,none⟩=some (.int .i64 n):=by rw[h.m.cell];rfl
theorem MSt.lt (h:MSt w mb x y sv st p en k v n):mb < w.heap.size:=h.m.lt
theorem MSt.below (h:MSt w mb x y sv st p en k v n) (hb:Below w.heap.size w w'):MSt w' mb x y sv st p en k v n:=⟨h.m.below hb h.m.lt,own_below h.row hb⟩
theorem MSt.drew (h:MSt w mb x y sv st p en k v n):MSt w.drew mb x y sv st p en k v n:=⟨h.m,h.row.drew⟩
theorem MSt.place (h:MSt w mb x y sv st p en k v n) (q:Nat):MSt (w.setCell ⟨mb,9,none⟩ (.int .i64 q)) mb x y sv st q en k v n:=⟨h.m.set 9 _,own_setCell h.row _ _ (Nat.lt_succ_self mb)⟩
theorem MSt.steps (h:MSt w mb x y sv st p en k v n) (q:Int):MSt (w.setCell ⟨mb,13,none⟩ (.int .i64 q)) mb x y sv st p en k v q:=⟨h.m.set 13 _,own_setCell h.row _ _ (Nat.lt_succ_self mb)⟩
theorem MSt.ended (h:MSt w mb x y sv st p en k v n) (a b:Int):MSt (((w.setCell ⟨mb,10,none⟩ (.bool true)).setCell ⟨mb,11,none⟩ (.int .i64 a)).setCell ⟨mb,12,none⟩ (.int .i64 b)) mb x y sv st p true a b n :=
 ⟨((h.m.set 10 _).set 11 _).set 12 _,own_setCell (own_setCell (own_setCell h.row _ _ (Nat.lt_succ_self mb)) _ _ (Nat.lt_succ_self mb)) _ _ (Nat.lt_succ_self mb)⟩
theorem MSt.form {a:Int} {r:List Int} (h:MSt w mb x y sv (a :: r) p en k v n):∃ g cap,sv=.slice (some ⟨g,0,none⟩) (r.length+1) cap∧mb < g∧r.length+1≤cap∧w.cell? ⟨g,r.length,none⟩=some (.int .i64 a):=by
 rcases h.row.2 with ⟨_,h0⟩ | ⟨g,cap,cur,hv,hg,hh,hn,hm,hs,ht⟩
 ·simp at h0
 ·refine ⟨g,cap,hv,hg,hn, ?_⟩
  have h1:(cur.toList.take ((a :: r).length * 1))[r.length]?=some (.int .i64 a):=by
   rw[ht]
   simp[cellsZ]
  rw[List.getElem?_take] at h1
  split at h1
  ·simp[World.cell?,hh]
   simpa using h1
  ·cases h1
theorem MSt.pop {a:Int} {r:List Int} {g cap:Nat} (h:MSt w mb x y (.slice (some ⟨g,0,none⟩) (r.length+1) cap) (a :: r) p en k v n):MSt (w.setCell ⟨mb,8,none⟩ (.slice (some ⟨g,0,none⟩) r.length cap)) mb x y (.slice (some ⟨g,0,none⟩) r.length cap) r p en k v n:=by
 refine ⟨h.m.set 8 _, ?_⟩
 refine own_setCell (base:=mb+1) ?_ _ _ (Nat.lt_succ_self mb)
 refine ⟨by simp[cellsZ],.inr ?_⟩
 rcases h.row.2 with ⟨hv,_⟩ | ⟨g',cap',cur,hv,hg,hh,hn,hm,hs,ht⟩
 ·cases hv
 ·cases hv
  refine ⟨g,cap,cur,rfl,hg,hh,by simp at hn;omega,hm,hs, ?_⟩
  have h2:(cur.toList.take ((a :: r).length * 1)).take (r.length * 1)=cellsZ r.reverse:=by
   rw[ht]
   simp[cellsZ]
  rw[List.take_take] at h2
  rw[← h2]
  congr 1
  simp
end
theorem Tryz.infoI64:(Tryz.prog.info? 2).map (fun i=>(i.zero,i.size,i.bytes))=some (some (.int .i64 0),1,8):=by kernel_rfl
set_option maxHeartbeats 1000000 in
theorem take_any {w:World} {mb:Nat} {x:Itm} {y:Bn} {sv:Value} {a:Int} {r:List Int} {p:Nat} {en:Bool} {k v n:Int} (hl:r.length≤4000) (h:MSt w mb x y sv (a :: r) p en k v n) :
  Calls Tryz.prog 91 #[.pointer (some ⟨mb,0,none⟩)] w fun e w'=>e=.returned (.int .i64 a)∧Below mb w w'∧(∀ b,b≠mb→w'.heap[b]?=w.heap[b]?)∧∃ sv',MSt w' mb x y sv' r p en k v n:=by
 obtain ⟨g,cap,rfl,hg,hcap,ca⟩:=h.form
 have c8:=h.c8
 have f8:=h.m.free 8
 have HM:Hid (MSt w mb x y (.slice (some ⟨g,0,none⟩) (r.length+1) cap) (a :: r) p en k v n):=h
 clear h
 go_enter Tryz.func91,Tryz.ntmps91
 go_wp2
 go_ret
 exact ⟨rfl,(Below.refl _ _).setCell (p:=⟨mb,8,none⟩) (Nat.le_refl _) _,fun b hb=>Below.heap_setCell _ _ _ _ hb,_,HM.out.pop⟩
theorem MSt.push {w w2:World} {mb:Nat} {x:Itm} {y:Bn} {sv:Value} {st:List Int} {p:Nat} {en:Bool} {k v n z:Int} {g cap:Nat} {o:Obj} (h:MSt w mb x y sv st p en k v n)
  (hown:w2.ownsRow (mb+1) 2 1 (.slice (some ⟨g,0,none⟩) (st.length+1) cap) (st.length+1) (cellsZ st.reverse++[.int .i64 z])) (hg:(w.alloc o).grownBy w2 sv.ownBlock) :
  MSt (w2.setCell ⟨mb,8,none⟩ (.slice (some ⟨g,0,none⟩) (st.length+1) cap)) mb x y (.slice (some ⟨g,0,none⟩) (st.length+1) cap) (z :: st) p en k v n∧Below mb w w2:=by
 have hne:sv.ownBlock≠some mb:=by intro he;have:=(h.row.lt _ he).1;omega
 have hlt:=h.lt
 have hb2:Blk w2 mb (mCells x y sv p en k v n) 129:=by
  unfold Blk
  rw[hg.block mb (by simp;omega) (Ne.symm hne)]
  exact h.m.alloc o
 refine ⟨⟨hb2.set 8 _, ?_⟩, ?_⟩
 ·refine own_setCell (base:=mb+1) ?_ _ _ (Nat.lt_succ_self mb)
  have e:cellsZ (z :: st).reverse=cellsZ st.reverse++[.int .i64 z]:=by simp[cellsZ]
  rw[e]
  exact hown
 ·exact ((Below.refl mb w).alloc (Nat.le_of_lt hlt) o).grown hg (by simp;omega) (fun k hk=>by have:=(h.row.lt k hk).1;omega)
set_option maxHeartbeats 1000000 in
set_option maxRecDepth 100000 in
theorem rlay_any {w:World} {mb:Nat} {x:Itm} {y:Bn} {sv:Value} {st:List Int} {p:Nat} {en:Bool} {k v n:Int} (z:Int) (hl:st.length≤4000) (h:MSt w mb x y sv st p en k v n) :
  Calls Tryz.prog 87 #[.pointer (some ⟨mb,0,none⟩),.int .i64 z] w fun e w'=>e=.returned (.tuple #[])∧Below mb w w'∧∃ sv',MSt w' mb x y sv' (z :: st) p en k v n:=by
 obtain ⟨i0,hin,hz0,hz1,hz2⟩:=info_parts Tryz.infoI64
 have c8:=h.c8
 have HM:Hid (MSt w mb x y sv st p en k v n):=h
 have hlt:=h.lt
 have hne:sv.ownBlock≠some mb:=by intro he;have:=(h.row.lt _ he).1;omega
 have f8:=h.m.free 8
 clear h
 go_enter Tryz.func87,Tryz.ntmps87
 go_wp2_with (at_builtin;refine wpList_append_lies _ rfl _ _ 127 rfl (mb+1) 2 i0 (.int .i64 0) 1 8 Tryz.underlying127 hin hz0 hz1 hz2 rfl (by decide) _ _ _ rfl (HM.out.row.alloc _) ⟨w.heap.size,0,none⟩ 1 1 [.int .i64 z] rfl rfl (cell_one_new _ _ _) one_int1 (by omega) (by unfold maxLen;omega) (by omega) (by simp;omega) (w.heap.size+1) (by simp) ?_;intro g cap w2 hown2 hgrow2 hat2 hlt2;have c8':=(hgrow2.cell_far ⟨mb,8,none⟩ (by simp;omega) (Ne.symm hne)).trans ((HM.out.m.alloc _).cell 8);have f8':=(hgrow2.frozen_far ⟨mb,8,none⟩ (by simp;omega) (Ne.symm hne)).trans ((HM.out.m.alloc _).free 8))
 go_end0
 obtain ⟨r1,r2⟩:=HM.out.push hown2 hgrow2
 exact ⟨rfl,r2.setCell (p:=⟨mb,8,none⟩) (Nat.le_refl _) _,_,r1⟩
set_option maxHeartbeats 1000000 in
theorem end_any {w:World} {mb:Nat} {x:Itm} {y:Bn} {sv:Value} {st:List Int} {p:Nat} {en:Bool} {k v n:Int} (a b:Int) (h:MSt w mb x y sv st p en k v n) :
  Calls Tryz.prog 92 #[.pointer (some ⟨mb,0,none⟩),.int .i64 a,.int .i64 b] w fun e w'=>e=.returned (.tuple #[])∧Below mb w w'∧MSt w' mb x y sv st p true a b n:=by
 have c10:=h.c10
 have c11:=h.c11
 have c12:=h.c12
 have f10:=h.m.free 10
 have f11:=h.m.free 11
 have f12:=h.m.free 12
 have HM:Hid (MSt w mb x y sv st p en k v n):=h
 clear h
 go_enter Tryz.func92,Tryz.ntmps92
 go_wp2
 go_end0
 exact ⟨rfl,(((Below.refl mb w).setCell (p:=⟨mb,10,none⟩) (Nat.le_refl _) _).setCell (p:=⟨mb,11,none⟩) (Nat.le_refl _) _).setCell (p:=⟨mb,12,none⟩) (Nat.le_refl _) _,HM.out.ended a b⟩
end Go.Proofs.YtpcjadaeolkngaaGreatDoor
namespace Go.Proofs.YtpcjadaeolkngaaGreatDoor
open Go.RowKit
def LookedV (s:ByteArray) (nx:Nat) (H:Nat→Int) (wg:Bool):Prop:=(wg=true∧¬ IsImg s)∨(wg=false∧∃ l,Found s (bt s 2) H nx l)
def wrong1 (s:ByteArray) (H:Nat→Int) (p:Nat):Bool:=decide (H p=-1∨H p < takesN (bt s p))
def wrong2 (s:ByteArray) (H:Nat→Int) (p:Nat):Bool:=insideW H (wrong1 s H p) (p+1) (mkIns s p).next
def aft (s:ByteArray) (H:Nat→Int) (p:Nat):Int:=H p - takesN (bt s p)+laysN (bt s p)
theorem wrong2_true {s:ByteArray} {H:Nat→Int} {p:Nat} {l0:List Ins} (h:Found s (bt s 2) H p l0) (hp:p < s.size) (hw:wrong2 s H p=true):¬ IsImg s:=by
 unfold wrong2 insideW wrong1 at hw
 simp only[Bool.or_eq_true,decide_eq_true_eq] at hw
 rcases hw with (h1 | h1) | ⟨i,h1,h2,h3⟩
 ·exact h.bad_none hp h1
 ·by_cases hn:H p=-1
  ·exact h.bad_none hp hn
  ·exact h.bad_low hp hn h1
 ·exact h.bad_inside hp (by omega) h1 h3
theorem wrong2_false {s:ByteArray} {H:Nat→Int} {p:Nat} (hw:wrong2 s H p=false):H p≠-1∧(takesN (bt s p):Int)≤H p∧∀ i,p < i→i < (mkIns s p).next→H i=-1:=by
 unfold wrong2 insideW wrong1 at hw
 simp only[Bool.or_eq_false_iff,decide_eq_false_iff_not,not_or] at hw
 obtain ⟨⟨h1,h2⟩,h3⟩:=hw
 refine ⟨h1,by omega,fun i h4 h5=>?_⟩
 exact Classical.byContradiction fun h6=>h3 ⟨i,h5,h4,h6⟩
theorem looked_ends {s:ByteArray} {H:Nat→Int} {p:Nat} {l0:List Ins} (h:Found s (bt s 2) H p l0) (hp:p < s.size) (ho:OpOkI s p) (hk:bt s p=16∨bt s p=17):LookedV s (mkIns s p).next H (wrong2 s H p):=by
 cases hw:wrong2 s H p
 ·obtain ⟨_,h2,h3⟩:=wrong2_false hw
  refine .inr ⟨rfl,_,h.step ho h2 h3 (fun q hq=>?_) (fun _ _=>rfl)⟩
  rcases hq with ⟨_,h4,h5,_⟩ | ⟨h4,_⟩
  ·simp only[mkIns] at h4 h5;omega
  ·simp only[mkIns] at h4;omega
 ·exact .inl ⟨rfl,wrong2_true h hp hw⟩
theorem looked_one {s:ByteArray} {H:Nat→Int} {p q:Nat} {l0:List Ins} (h:Found s (bt s 2) H p l0) (hp:p < s.size) (ho:OpOkI s p) (hq:∀ r,Flows (mkIns s p) r ↔ r=q) :
  LookedV s (mkIns s p).next (reachH s (bt s 2) H q (aft s H p)) (reachW s (bt s 2) H (wrong2 s H p) q (aft s H p)):=by
 have hfl:Flows (mkIns s p) q:=(hq q).2 rfl
 cases hw:wrong2 s H p
 ·obtain ⟨h1,h2,h3⟩:=wrong2_false hw
  by_cases hb:s.size≤q∨(bt s 2:Int) < aft s H p∨(H q≠-1∧H q≠aft s H p)
  ·exact .inl ⟨by unfold reachW;rw[decide_eq_true hb];rfl,h.bad_flow hp h1 hfl hb⟩
  ·refine .inr ⟨by unfold reachW;rw[decide_eq_false hb];rfl,_,h.step ho h2 h3 (fun r hr=>?_) (fun r hr=>?_)⟩
   ·obtain rfl:=(hq r).1 hr
    refine ⟨by omega,by unfold aft at hb;omega,by unfold aft at hb;omega, ?_⟩
    unfold reachH
    rw[if_neg (by omega)]
    simp[upd,aft]
   ·unfold reachH
    rw[if_neg (by omega)]
    have:r≠q:=fun e=>hr ((hq r).2 e)
    simp[upd,this]
 ·exact .inl ⟨by unfold reachW;rfl,wrong2_true h hp hw⟩
theorem looked_two {s:ByteArray} {H:Nat→Int} {p q r:Nat} {l0:List Ins} (h:Found s (bt s 2) H p l0) (hp:p < s.size) (ho:OpOkI s p) (hq:∀ t,Flows (mkIns s p) t ↔ t=q∨t=r) :
  LookedV s (mkIns s p).next (reachH s (bt s 2) (reachH s (bt s 2) H q (aft s H p)) r (aft s H p)) (reachW s (bt s 2) (reachH s (bt s 2) H q (aft s H p)) (reachW s (bt s 2) H (wrong2 s H p) q (aft s H p)) r (aft s H p)):=by
 have hfq:Flows (mkIns s p) q:=(hq q).2 (.inl rfl)
 have hfr:Flows (mkIns s p) r:=(hq r).2 (.inr rfl)
 cases hw:wrong2 s H p
 ·obtain ⟨h1,h2,h3⟩:=wrong2_false hw
  by_cases hb:s.size≤q∨(bt s 2:Int) < aft s H p∨(H q≠-1∧H q≠aft s H p)
  ·refine .inl ⟨?_,h.bad_flow hp h1 hfq hb⟩
   have:reachW s (bt s 2) H false q (aft s H p)=true:=by unfold reachW;rw[decide_eq_true hb];rfl
   rw[this];rfl
  ·have e1:reachW s (bt s 2) H false q (aft s H p)=false:=by unfold reachW;rw[decide_eq_false hb];rfl
   have e2:reachH s (bt s 2) H q (aft s H p)=upd H q (aft s H p):=by unfold reachH;rw[if_neg (by omega)]
   rw[e1,e2]
   by_cases hb2:s.size≤r∨(bt s 2:Int) < aft s H p∨(H r≠-1∧H r≠aft s H p)
   ·by_cases hrq:r=q
    ·subst hrq;exact absurd hb2 hb
    ·refine .inl ⟨?_,h.bad_flow hp h1 hfr hb2⟩
     unfold reachW
     rw[show upd H q (aft s H p) r=H r by simp[upd,hrq],decide_eq_true hb2];rfl
   ·refine .inr ⟨?_,_,h.step ho h2 h3 (fun t ht=>?_) (fun t ht=>?_)⟩
    ·unfold reachW
     rw[decide_eq_false];· rfl
     by_cases hrq:r=q
     ·subst hrq;simp[upd];omega
     ·rw[show upd H q (aft s H p) r=H r by simp[upd,hrq]];exact hb2
    ·have e3:reachH s (bt s 2) (upd H q (aft s H p)) r (aft s H p)=upd (upd H q (aft s H p)) r (aft s H p):=by unfold reachH;rw[if_neg (by omega)]
     rw[e3]
     rcases (hq t).1 ht with rfl | rfl
     ·refine ⟨by omega,by unfold aft at hb;omega,by unfold aft at hb;omega, ?_⟩
      unfold upd aft
      by_cases e:t=r <;> simp[e]
     ·refine ⟨by omega,by unfold aft at hb2;omega,by unfold aft at hb2;omega, ?_⟩
      simp[upd,aft]
    ·have e3:reachH s (bt s 2) (upd H q (aft s H p)) r (aft s H p)=upd (upd H q (aft s H p)) r (aft s H p):=by unfold reachH;rw[if_neg (by omega)]
     rw[e3]
     have h5:t≠q:=fun e=>ht ((hq t).2 (.inl e))
     have h6:t≠r:=fun e=>ht ((hq t).2 (.inr e))
     simp[upd,h5,h6]
 ·exact .inl ⟨by unfold reachW;rfl,wrong2_true h hp hw⟩
theorem LookedV.next_op {s:ByteArray} {p:Nat} (h:bt s p≠13∧bt s p≠14∧bt s p≠15∧bt s p≠16∧bt s p≠17):∀ r,Flows (mkIns s p) r ↔ r=(mkIns s p).next:=by
 intro r
 constructor
 ·rintro (⟨_,_,_,h4⟩ | ⟨h4,_⟩)
  ·exact h4
  ·simp only[mkIns] at h4;omega
 ·intro h4
  exact .inl ⟨by simp only[mkIns];omega,by simp only[mkIns];omega,by simp only[mkIns];omega,h4⟩
theorem LookedV.jump_op {s:ByteArray} {p:Nat} (h:bt s p=13):∀ r,Flows (mkIns s p) r ↔ r=(mkIns s p).to:=by
 intro r
 have ht:=jump_to s p (.inl h)
 constructor
 ·rintro (⟨h4,_⟩ | ⟨_,h4⟩)
  ·exact absurd h h4
  ·omega
 ·intro h4
  exact .inr ⟨.inl h,by omega⟩
theorem LookedV.if_op {s:ByteArray} {p:Nat} (h:bt s p=14∨bt s p=15):∀ r,Flows (mkIns s p) r ↔ r=(mkIns s p).next∨r=(mkIns s p).to:=by
 intro r
 have ht:=jump_to s p (.inr h)
 constructor
 ·rintro (⟨_,_,_,h4⟩ | ⟨_,h4⟩)
  ·exact .inl h4
  ·exact .inr (by omega)
 ·rintro (h4 | h4)
  ·exact .inl ⟨by simp only[mkIns];omega,by simp only[mkIns];omega,by simp only[mkIns];omega,h4⟩
  ·exact .inr ⟨.inr h,by omega⟩
theorem GlobP.drew {w:World} (h:GlobP w):GlobP w.drew:=⟨h.bytes,h.takes,h.lays,h.size⟩
theorem GlobP.belowB {w w':World} {B:Nat} (h:GlobP w) (hb:Below B w w') (h0:0 < B) (h1:1 < B) (h2:2 < B):GlobP w' :=
 ⟨fun c hc=>(hb.cell (p:=⟨0,c,none⟩) h0).trans (h.bytes c hc),fun c hc=>(hb.cell (p:=⟨1,c,none⟩) h1).trans (h.takes c hc),fun c hc=>(hb.cell (p:=⟨2,c,none⟩) h2).trans (h.lays c hc),⟨Nat.lt_of_lt_of_le h.size.1 hb.size,Nat.lt_of_lt_of_le h.size.2.1 hb.size,Nat.lt_of_lt_of_le h.size.2.2 hb.size⟩⟩
theorem VStv.drew {w:World} {vb hb:Nat} {s:ByteArray} {most:Nat} {H:Nat→Int} {wg:Bool} (h:VStv w vb hb s most H wg):VStv w.drew vb hb s most H wg:=⟨h.st,h.ht,h.ne⟩
end Go.Proofs.YtpcjadaeolkngaaGreatDoor
namespace Go.Proofs.YtpcjadaeolkngaaGreatDoor
open Go.RowKit
def MRes (w:World) (mb:Nat) (x:Itm) (y:Bn) (res:(Nat × Int) ⊕ (Nat × List Int)) (n:Int):Prop :=
 match res with
 | .inl (k,v)=>∃ sv st p,MSt w mb x y sv st p true k v n
 | .inr (p,st)=>∃ sv,MSt w mb x y sv st p false 0 0 n
theorem MRes.lay0 {w:World} {mb:Nat} {x:Itm} {y:Bn} {a:Int} {f p:Nat} {st:List Int} {n:Int} (hf:f=0) (h:∃ sv,MSt w mb x y sv (a :: st) p false 0 0 n):MRes w mb x y (layM (a,f) p st) n:=by
 subst hf;exact h
theorem MRes.lay1 {w:World} {mb:Nat} {x:Itm} {y:Bn} {a:Int} {f p:Nat} {st:List Int} {n:Int} (hf:f≠0) (h:∃ sv st p,MSt w mb x y sv st p true 2 f n):MRes w mb x y (layM (a,f) p st) n:=by
 unfold layM;simp only[hf,if_false];exact h
set_option maxHeartbeats 1000000 in
theorem layOrFault_any {w:World} {mb:Nat} {x:Itm} {y:Bn} {sv:Value} {st:List Int} {p:Nat} {n:Int} (z:Int) (f:Nat) (hf:f≤2) (hl:st.length≤4000) (h:MSt w mb x y sv st p false 0 0 n) :
  Calls Tryz.prog 120 #[.pointer (some ⟨mb,0,none⟩),.int .i64 z,.int .i64 f] w fun e w'=>e=.returned (.tuple #[])∧Below mb w w'∧MRes w' mb x y (layM (z,f) p st) n:=by
 have HM:Hid (MSt w mb x y sv st p false 0 0 n):=h
 clear h
 by_cases h0:f=0
 ·subst h0
  go_enter Tryz.func120,Tryz.ntmps120
  go_wp2_with (go_at_call 87;refine (rlay_any z hl HM.out).mono ?_;rintro e w1 ⟨rfl,hb1,hm1⟩)
  go_end0
  exact ⟨rfl,hb1,.lay0 rfl hm1⟩
 ·have e0:((f:Int)==0)=false:=by simp;omega
  have e0':((f:Int) != 0)=true:=by simp;omega
  have H0:Hid (f≠0):=h0
  clear h0
  go_enter Tryz.func120,Tryz.ntmps120
  go_wp2_with (go_at_call 92;refine (end_any 2 f HM.out).mono ?_;rintro e w1 ⟨rfl,hb1,hm1⟩)
  refine bodyPost_ret (results_none rfl _ _ _) rfl ?_
  exact ⟨rfl,hb1,.lay1 H0.out ⟨_,_,_,hm1⟩⟩
theorem neg_le2 (a:Int):(negN a).2≤2:=by unfold negN exact64;split <;> simp
theorem one_le2 (c:Nat) (a:Int):(oneN c a).2≤2:=by
 unfold oneN;split
 ·exact neg_le2 a
 ·simp
theorem join_le2 (c:Nat) (a b:Int):(joinN c a b).2≤2:=by
 have e:∀ v,(exact64 v).2≤2:=fun v=>by unfold exact64;split <;> simp
 unfold joinN
 (repeat' split) <;> first | exact e _ | simp
set_option maxHeartbeats 1000000 in
theorem one_any' {w:World} {mb:Nat} {x:Itm} {y:Bn} {sv:Value} {a:Int} {r:List Int} {p:Nat} {n:Int} (c:Nat) (hc:c=2∨c=3) (ha:In64 a) (hl:r.length≤4000) (h:MSt w mb x y sv (a :: r) p false 0 0 n) :
  Calls Tryz.prog 89 #[.pointer (some ⟨mb,0,none⟩),.int .i64 c] w fun e w'=>e=.returned (.tuple #[])∧Below mb w w'∧MRes w' mb x y (layM (oneN c a) p r) n:=by
 have HM:Hid (MSt w mb x y sv (a :: r) p false 0 0 n):=h
 have HA:Hid (In64 a):=ha
 have HC:Hid (c=2∨c=3):=hc
 obtain ⟨z,hz⟩:∃ z,z=(oneN c a).1:=⟨_,rfl⟩
 obtain ⟨f,hf⟩:∃ f,f=(oneN c a).2:=⟨_,rfl⟩
 have HZ:Hid ((oneN c a).1=z):=hz.symm
 have HF:Hid ((oneN c a).2=f):=hf.symm
 have hf2:f≤2:=by rw[hf];exact one_le2 c a
 have e:layM (oneN c a) p r=layM (z,f) p r:=by rw[hz,hf]
 rw[e]
 clear h ha hc hz hf e
 go_enter Tryz.func89,Tryz.ntmps89
 go_wp2_with (first | (go_at_call 91;refine (take_any hl HM.out).mono ?_;rintro e w1 ⟨rfl,hb1,_,sv1,hm1⟩;have HM1:=Hid.mk2 hm1;clear hm1) | (go_at_call 119;refine (One_any c HC.out a HA.out _).mono ?_;rintro e w2 ⟨rfl,rfl⟩;rw[HZ.out,HF.out]) | (go_at_call 120;refine (layOrFault_any z f hf2 hl HM1.out).mono ?_;rintro e w3 ⟨rfl,hb3,hm3⟩))
 go_end0
 exact ⟨rfl,hb1.trans hb3,hm3⟩
set_option maxHeartbeats 1000000 in
theorem two_any' {w:World} {mb:Nat} {x:Itm} {y:Bn} {sv:Value} {a b:Int} {r:List Int} {p:Nat} {n:Int} (c:Nat) (hc:4≤c∧c≤12) (ha:In64 a) (hb:In64 b) (hl:r.length≤3000) (h:MSt w mb x y sv (b :: a :: r) p false 0 0 n) :
  Calls Tryz.prog 93 #[.pointer (some ⟨mb,0,none⟩),.int .i64 c] w fun e w'=>e=.returned (.tuple #[])∧Below mb w w'∧MRes w' mb x y (layM (joinN c a b) p r) n:=by
 have HM:Hid (MSt w mb x y sv (b :: a :: r) p false 0 0 n):=h
 have HA:Hid (In64 a):=ha
 have HB:Hid (In64 b):=hb
 obtain ⟨z,hz⟩:∃ z,z=(joinN c a b).1:=⟨_,rfl⟩
 obtain ⟨f,hf⟩:∃ f,f=(joinN c a b).2:=⟨_,rfl⟩
 have HZ:Hid ((joinN c a b).1=z):=hz.symm
 have HF:Hid ((joinN c a b).2=f):=hf.symm
 have hf2:f≤2:=by rw[hf];exact join_le2 c a b
 have e:layM (joinN c a b) p r=layM (z,f) p r:=by rw[hz,hf]
 rw[e]
 clear h ha hb hz hf e
 go_enter Tryz.func93,Tryz.ntmps93
 go_wp2_with fail
 refine (take_any (by simp;omega) HM.out).mono ?_
 rintro e w1 ⟨rfl,hb1,_,sv1,hm1⟩
 have HM1:=Hid.mk2 hm1
 clear hm1
 go_wp2_with fail
 refine (take_any (by omega) HM1.out).mono ?_
 rintro e w2 ⟨rfl,hb2,_,sv2,hm2⟩
 have HM2:=Hid.mk2 hm2
 clear hm2
 go_wp2_with (first | (go_at_call 121;refine (Two_any c hc a b HA.out HB.out _).mono ?_;rintro e w2 ⟨rfl,rfl⟩;rw[HZ.out,HF.out]) | (go_at_call 120;refine (layOrFault_any z f hf2 (by omega) HM2.out).mono ?_;rintro e w3 ⟨rfl,hb3,hm3⟩))
 go_end0
 exact ⟨rfl,(hb1.trans hb2).trans hb3,hm3⟩
end Go.Proofs.YtpcjadaeolkngaaGreatDoor
