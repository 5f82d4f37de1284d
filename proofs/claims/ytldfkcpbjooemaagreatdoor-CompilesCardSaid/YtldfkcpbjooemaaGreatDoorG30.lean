/-
  Compile: the operators' numbers; facts in memory; factAt, meantBy, numberOf.
-/
import Derived.Test.YtldfkcpbjooemaaGreatDoorG15
import Derived.Test.YtldfkcpbjooemaaGreatDoorG26
import Derived.Test.YtldfkcpbjooemaaGreatDoorG29
import Derived.Test.YtldfkcpbjooemaaGreatDoorG28
import Derived.BigQuiet
import Derived.Deep.RegionWith
set_option linter.unusedVariables false
set_option linter.unusedSimpArgs false
namespace Go.Proofs.YtldfkcpbjooemaaGreatDoor
open Go.RowKit Go.Deep
set_option maxHeartbeats 1000000 in
theorem isChoice_any (n:PNode) (w:World) :
  Calls Tryz.prog 153 #[nodA n] w fun e w'=>e=.returned (.bool (isChK (kindP n.tok.text)))∧Below w.heap.size w w':=by
 unfold nodA
 generalize kindP n.tok.text=k
 by_cases h7:k=7
 ·subst h7
  go_enter Tryz.func153,Tryz.ntmps153
  go_wp2
  go_ret
  exact ⟨rfl,box3 w _⟩
 ·by_cases h8:k=8
  ·subst h8
   go_enter Tryz.func153,Tryz.ntmps153
   go_wp2
   go_ret
   exact ⟨rfl,box3 w _⟩
  ·have e7:((k:Int)==7)=false:=by simp;omega
   have e8:((k:Int)==8)=false:=by simp;omega
   have HK:Hid (isChK k=false):=by simp[Hid,isChK,h7,h8]
   go_enter Tryz.func153,Tryz.ntmps153
   go_wp2
   go_ret
   exact ⟨by rw[HK.out];rfl,box3 w _⟩
set_option maxHeartbeats 1000000 in
theorem decides_any (k:Nat) (w:World) :
  Calls Tryz.prog 175 #[.int .i64 k] w fun e w'=>e=.returned (.int .i64 (decK k))∧w'=w:=by
 by_cases h8:k=8
 ·subst h8
  go_enter Tryz.func175,Tryz.ntmps175
  go_wp2
  go_ret
  exact ⟨rfl,rfl⟩
 ·have e8:((k:Int)==8)=false:=by simp;omega
  have HK:Hid (decK k=0):=by simp[Hid,decK,h8]
  go_enter Tryz.func175,Tryz.ntmps175
  go_wp2
  go_ret
  exact ⟨by rw[HK.out];rfl,rfl⟩
set_option maxHeartbeats 1000000 in
theorem leaves_any (k:Nat) (w:World) :
  Calls Tryz.prog 201 #[.int .i64 k] w fun e w'=>e=.returned (.int .i64 (leaK k:Nat))∧w'=w:=by
 by_cases h8:k=8
 ·subst h8
  go_enter Tryz.func201,Tryz.ntmps201
  go_wp2
  go_ret
  exact ⟨rfl,rfl⟩
 ·have e8:((k:Int)==8)=false:=by simp;omega
  have HK:Hid (leaK k=14):=by simp[Hid,leaK,h8]
  go_enter Tryz.func201,Tryz.ntmps201
  go_wp2
  go_ret
  exact ⟨by rw[HK.out];rfl,rfl⟩
set_option maxHeartbeats 4000000 in
set_option maxRecDepth 100000 in
theorem operationOf_any (n:PNode) (w:World) :
  Calls Tryz.prog 152 #[nodA n] w fun e w'=>e=.returned (.int .i64 (opK (kindP n.tok.text) n.ops:Nat))∧Below w.heap.size w w':=by
 unfold nodA
 generalize kindP n.tok.text=k
 generalize n.ops=o
 have hd:(k=9∨k=28∨k=27∨k=29∨k=30∨k=31∨k=25∨k=26∨k=23)∨(k≠9∧k≠28∧k≠27∧k≠29∧k≠30∧k≠31∧k≠25∧k≠26∧k≠23):=by omega
 rcases hd with (rfl | rfl | rfl | rfl | rfl | rfl | rfl | rfl | rfl) | ⟨h1,h2,h3,h4,h5,h6,h7,h8,h9⟩
 case inl.inr.inl =>
  by_cases ho:o=1
  ·subst ho
   go_enter Tryz.func152,Tryz.ntmps152
   go_wp2
   go_ret
   exact ⟨rfl,box3 w _⟩
  ·have e1:((o:Int)==1)=false:=by simp;omega
   have HK:Hid (opK 28 o=5):=by simp[Hid,opK,ho]
   go_enter Tryz.func152,Tryz.ntmps152
   go_wp2
   go_ret
   exact ⟨by rw[HK.out];rfl,box3 w _⟩
 case inr =>
  have e1:((k:Int)==9)=false:=by simp;omega
  have e2:((k:Int)==28)=false:=by simp;omega
  have e3:((k:Int)==27)=false:=by simp;omega
  have e4:((k:Int)==29)=false:=by simp;omega
  have e5:((k:Int)==30)=false:=by simp;omega
  have e6:((k:Int)==31)=false:=by simp;omega
  have e7:((k:Int)==25)=false:=by simp;omega
  have e8:((k:Int)==26)=false:=by simp;omega
  have e9:((k:Int)==23)=false:=by simp;omega
  have HK:Hid (opK k o=12):=by simp[Hid,opK,h1,h2,h3,h4,h5,h6,h7,h8,h9]
  go_enter Tryz.func152,Tryz.ntmps152
  go_wp2
  go_ret
  exact ⟨by rw[HK.out];rfl,box3 w _⟩
 all_goals
  go_enter Tryz.func152,Tryz.ntmps152
  go_wp2
  go_ret
  exact ⟨rfl,box3 w _⟩
def cellF (f:Fact):List Value:=[.bool f.isSome,.int .i64 (f.getD 0)]
def cellsF (l:List Fact):List Value:=l.flatMap cellF
def factA (f:Fact):Value:=.agg #[.bool f.isSome,.int .i64 (f.getD 0)]
theorem cellF_length (f:Fact):(cellF f).length=2:=rfl
theorem atF_neg {fs:List Fact} {i:Int} (h:i < 0):atF fs i=none:=if_pos h
theorem atF_nat (fs:List Fact) (n:Nat):atF fs (n:Int)=fs.getD n none:=by
 rw[atF,if_neg (by omega),Int.toNat_natCast]
end Go.Proofs.YtldfkcpbjooemaaGreatDoor
namespace Go.Proofs.YtldfkcpbjooemaaGreatDoor
open Go.RowKit Go.Deep
theorem two_below (w:World) (o o':Obj):Below w.heap.size w ((w.alloc o).alloc o'):=(box3 w o).trans ((box3 _ o').mono (by simp))
theorem three_below (w:World) (o o' o'':Obj):Below w.heap.size w (((w.alloc o).alloc o').alloc o''):=(two_below w o o').trans ((box3 _ o'').mono (by simp;omega))
set_option maxHeartbeats 1000000 in
theorem factAt_any (fs:List Fact) (fv:Value) (i:Int) (w:World) (h:Reads w fv fs.length (cellsF fs)) (hb:fs.length≤401) (hi:-2≤i∧i≤1000) :
  Calls Tryz.prog 150 #[fv,.int .i64 i] w fun e w'=>e=.returned (factA (atF fs i))∧Below w.heap.size w w':=by
 obtain ⟨a,c,rfl⟩:=h.shape
 have HH:=hideP h
 clear h
 by_cases h0:i < 0
 ·have hd:decide (i < 0)=true:=by simpa using h0
  have HN:=hideP (atF_neg (fs:=fs) h0)
  go_enter Tryz.func150,Tryz.ntmps150
  go_wp2
  refine bodyPost_ret (v:=.agg #[.bool false,.int .i64 0]) (by simp[results,Tryz.results150,go_sem]) rfl ⟨by rw[HN.out];rfl,box3 w _⟩
 ·obtain ⟨n,rfl⟩:∃ n:Nat,i=n:=⟨i.toNat,by omega⟩
  by_cases hn:n < fs.length
  ·obtain ⟨g,o,cap,hcut,hcap,hg,hc⟩:=HH.out.pos (by omega)
   cases hcut
   have e0:=hc (n * 2+0) _ (flat_get cellF 2 (fun _=>rfl) fs n hn 0 (by omega))
   have e1:=hc (n * 2+1) _ (flat_get cellF 2 (fun _=>rfl) fs n hn 1 (by omega))
   have HN:Hid (atF fs (n:Int)=fs[n]):=by rw[Hid,atF_nat,List.getD_eq_getElem?_getD,List.getElem?_eq_getElem hn];rfl
   generalize fs[n]=f at *
   have e0':w.cell? ⟨g,o+n * 2,none⟩=some (.bool f.isSome):=by rw[Nat.add_zero] at e0;exact e0
   have e1':w.cell? ⟨g,o+n * 2+1,none⟩=some (.int .i64 (f.getD 0)):=by rw[Nat.add_assoc];exact e1
   clear e0 e1 hc
   go_enter Tryz.func150,Tryz.ntmps150
   go_wp2
   refine bodyPost_ret (v:=.agg #[.bool f.isSome,.int .i64 (f.getD 0)]) (by simp[results,Tryz.results150,go_sem]) rfl ⟨by rw[HN.out];rfl,box3 w _⟩
  ·have HN:Hid (atF fs (n:Int)=none):=by rw[Hid,atF_nat,List.getD_eq_getElem?_getD,List.getElem?_eq_none (by omega)];rfl
   go_enter Tryz.func150,Tryz.ntmps150
   go_wp2
   refine bodyPost_ret (v:=.agg #[.bool false,.int .i64 0]) (by simp[results,Tryz.results150,go_sem]) rfl ⟨by rw[HN.out];rfl,box3 w _⟩
set_option maxHeartbeats 1000000 in
theorem meantBy_any (ls:List PLet) (lv:Value) (d:ByteArray) (w:World) (h:Reads w lv ls.length (cellsLt ls)) (hb:ls.length≤401) (hx:∀ p∈ls,1≤p.val.behind∧p.val.behind≤401) :
  Calls Tryz.prog 156 #[.string d,lv] w fun e w'=>e=.returned (.int .i64 (meantI ls d.toList))∧Below w.heap.size w w':=by
 obtain ⟨a,c,rfl⟩:=h.shape
 have HH:=hideP h
 have hle:=letIx_le ls d.toList
 by_cases hlt:letIx ls d.toList < ls.length
 ·obtain ⟨g,o,cap,hcut,hcap,hg,hc⟩:=h.pos (by omega)
  cases hcut
  have fc:=hc (letIx ls d.toList * 6+5) _ (flat_get cellL 6 (fun _=>rfl) ls _ hlt 5 (by omega))
  obtain ⟨pl,hpl⟩:∃ pl,pl=ls[letIx ls d.toList]:=⟨_,rfl⟩
  have hbe:=hx pl (by rw[hpl];exact List.getElem_mem hlt)
  have HNK:Hid (meantI ls d.toList=(pl.val.behind:Int) - 1):=by rw[Hid,meantI,List.getElem?_eq_getElem hlt,hpl]
  rw[← hpl] at fc
  obtain ⟨ix,hix⟩:∃ ix,letIx ls d.toList=ix:=⟨_,rfl⟩
  have HIX:=hideP hix
  rw[hix] at fc hlt
  have d5:w.cell? ⟨g,o+ix * 6+5,none⟩=some (.int .i64 pl.val.behind):=by rw[Nat.add_assoc];exact fc
  clear fc hpl hc h hx hle hix
  rw[HNK.out]
  go_enter Tryz.func156,Tryz.ntmps156
  go_wp2_with (go_at_call 142;refine (LetOf_any ls _ d _ HH.out hb).mono ?_;rintro e' w4 ⟨rfl,rfl⟩;rw[HIX.out])
  go_ret
  exact ⟨rfl,Below.refl _ _⟩
 ·have hix:letIx ls d.toList=ls.length:=by omega
  have HIX:=hideP hix
  have HNK:Hid (meantI ls d.toList=-1):=by rw[Hid,meantI,List.getElem?_eq_none (by omega)]
  clear hx hle hix h
  rw[HNK.out]
  go_enter Tryz.func156,Tryz.ntmps156
  go_wp2_with (go_at_call 142;refine (LetOf_any ls _ d _ HH.out hb).mono ?_;rintro e' w4 ⟨rfl,rfl⟩;rw[HIX.out])
  go_ret
  exact ⟨rfl,Below.refl _ _⟩
theorem numT_step (t:Txt) (i:Nat) (h:i < t.length):numT (t.take (i+1))=numT (t.take i) * 10+(t[i].toNat:Int) - 48:=by
 rw[numT,numT,List.take_succ_eq_append_getElem h,List.foldl_append]
 rfl
theorem numT_bound (t:Txt) (hd:∀ c∈t,isDig c=true):0≤numT t∧numT t < 10 ^ t.length:=by
 have:∀ k,k≤t.length→0≤numT (t.take k)∧numT (t.take k) < 10 ^ k:=by
  intro k
  induction k with
  | zero=>intro _;simp[numT]
  | succ k ih =>
   intro hk
   have:=ih (by omega)
   rw[numT_step t k (by omega),Int.pow_succ]
   have hc:=hd t[k] (List.getElem_mem _)
   rw[isDig_int] at hc
   simp only[Bool.and_eq_true,decide_eq_true_eq] at hc
   omega
 have h1:=this t.length (Nat.le_refl _)
 rw[List.take_length] at h1
 exact h1
theorem pow_le17 (k:Nat) (h:k≤17):(10:Int) ^ k≤100000000000000000:=by
 have:(10:Nat) ^ k≤10 ^ 17:=Nat.pow_le_pow_right (by omega) h
 have h2:((10 ^ k:Nat):Int)≤((10 ^ 17:Nat):Int):=Int.ofNat_le.2 this
 simpa using h2
set_option maxHeartbeats 1000000 in
theorem numberOf_any (d:ByteArray) (w:World) (hl:d.size≤18) (hd:∀ c∈d.toList,isDig c=true) :
  Calls Tryz.prog 176 #[.string d] w fun e w'=>e=.returned (.int .i64 (numT d.toList))∧w'=w:=by
 have HD:=hideP hd
 clear hd
 go_enter Tryz.func176,Tryz.ntmps176
 go_wp2
 go_loop [3,4] (fun vn vi=>∃ i:Nat,i≤d.size∧vi=.int .i64 i∧vn=.int .i64 (numT (d.toList.take i))) (fun _ i=>d.size - (intOf i).toNat)
 case atStart=>exact ⟨0,Nat.zero_le _,rfl,rfl⟩
 case round =>
  obtain ⟨i,hi,rfl,rfl⟩:=hrel
  by_cases hlt:i < d.size
  ·have hs:=numT_step d.toList i (by rw[toList_length];exact hlt)
   have hge:d.toList[i]'(by rw[toList_length];exact hlt)=d[i]:=by
    have:=getElem_toList d i hlt
    rw[List.getElem?_eq_getElem (by rw[toList_length];exact hlt)] at this
    exact Option.some.inj this
   have hb:=numT_bound (d.toList.take i) (fun c hc=>HD.out c (List.mem_of_mem_take hc))
   rw[List.length_take,toList_length] at hb
   have hp:=pow_le17 (min i d.size) (by omega)
   rw[hge] at hs
   have hc8:=(d[i]).toNat_lt
   generalize numT (d.toList.take i)=z at *
   have HS:=hideP hs
   clear hs hge
   go_wp2
   go_round
   case rel =>
    refine ⟨i+1,by omega,by go_num, ?_⟩
    rw[HS.out]
   case measure=>simp[intOf];omega
  ·go_wp2
   go_ret
   exact ⟨ret_int (by rw[show i=d.size by omega,← toList_length,List.take_length]),rfl⟩
end Go.Proofs.YtldfkcpbjooemaaGreatDoor
namespace Go.Proofs.YtldfkcpbjooemaaGreatDoor
open Go.RowKit Go.Deep
def FactIn (f:Fact):Prop:=∀ v,f=some v→In64 v
theorem FactIn.none:FactIn none:=by intro v h;cases h
theorem oneF_in {c:Nat} {f:Fact}:FactIn (oneF c f):=by
 intro v h
 cases f with
 | none=>cases h
 | some a =>
  simp only[oneF] at h
  split at h
  ·cases h
   unfold oneN
   split
   ·exact neg_in _
   ·show In64 (bitN _);unfold bitN;split <;> decide
  ·cases h
theorem twoF_in {c:Nat} {f g:Fact} (hf:FactIn f) (hg:FactIn g):FactIn (twoF c f g):=by
 intro v h
 cases f with
 | none=>cases h
 | some a =>
  cases g with
  | none=>cases h
  | some b =>
   simp only[twoF] at h
   split at h
   ·cases h
    exact join_in _ _ _ (hf a rfl) (hg b rfl)
   ·cases h
theorem choiceF_in {k:Nat} {f g:Fact} (hf:FactIn f) (hg:FactIn g):FactIn (choiceF k f g):=by
 intro v h
 cases f with
 | none=>cases h
 | some a =>
  simp only[choiceF] at h
  split at h
  ·cases h;exact hf _ rfl
  ·exact hg v h
theorem join_flt0 {c:Nat} {a b:Int} (h:(joinN c a b).2≠0):(joinN c a b).1=0:=by
 have e2:∀ v,(exact64 v).2≠0→(exact64 v).1=0:=fun v=>by unfold exact64;split <;> simp
 revert h
 unfold joinN
 (repeat' split) <;> first | exact e2 _ | simp
theorem one_flt0 {c:Nat} {a:Int} (h:(oneN c a).2≠0):(oneN c a).1=0:=by
 revert h
 unfold oneN negN exact64
 (repeat' split) <;> simp
set_option maxHeartbeats 1000000 in
theorem factOfOne_any (c:Nat) (hc:c=2∨c=3) (f:Fact) (hf:FactIn f) (w:World) :
  Calls Tryz.prog 151 #[.int .i64 c,factA f] w fun e w'=>e=.returned (factA (oneF c f))∧Below w.heap.size w w':=by
 unfold factA
 cases f with
 | none =>
  simp only[Option.isSome_none,Option.getD_none,oneF]
  go_enter Tryz.func151,Tryz.ntmps151
  go_wp2
  refine bodyPost_ret (v:=.agg #[.bool false,.int .i64 0]) (by simp[results,Tryz.results151,go_sem]) rfl ⟨rfl,two_below w _ _⟩
 | some a =>
  simp only[Option.isSome_some,Option.getD_some]
  have ha:=hf a rfl
  have HO:Hid (oneF c (some a)=if (oneN c a).2=0 then some (oneN c a).1 else none):=rfl
  have HF:Hid ((oneN c a).2≠0→(oneN c a).1=0):=one_flt0
  obtain ⟨u,hu⟩:∃ u,oneN c a=u:=⟨_,rfl⟩
  obtain ⟨v,q⟩:=u
  have HU:=hideP hu
  clear hu hf
  by_cases hq:q=0
  ·subst hq
   have HE:Hid (oneF c (some a)=some v):=by rw[Hid,HO.out,HU.out];rfl
   clear HO
   go_enter Tryz.func151,Tryz.ntmps151
   go_wp2_with (go_at_call 147;refine (One_any c hc a ha _).mono ?_;rintro e' w4 ⟨rfl,rfl⟩;rw[HU.out];dsimp only)
   refine bodyPost_ret (v:=.agg #[.bool true,.int .i64 v]) (by simp[results,Tryz.results151,go_sem]) rfl ⟨by rw[HE.out];rfl,two_below w _ _⟩
  ·have HE:Hid (oneF c (some a)=none):=by rw[Hid,HO.out,HU.out];exact if_neg hq
   have hv:v=0:=by have:=HF.out;rw[HU.out] at this;exact this hq
   subst hv
   have e0:((q:Int)==0)=false:=by simp;omega
   clear HO
   go_enter Tryz.func151,Tryz.ntmps151
   go_wp2_with (go_at_call 147;refine (One_any c hc a ha _).mono ?_;rintro e' w4 ⟨rfl,rfl⟩;rw[HU.out];dsimp only)
   refine bodyPost_ret (v:=.agg #[.bool false,.int .i64 0]) (by simp[results,Tryz.results151,go_sem]) rfl ⟨by rw[HE.out];rfl,two_below w _ _⟩
set_option maxHeartbeats 1000000 in
theorem factOfTwo_any (c:Nat) (hc:4≤c∧c≤12) (f g:Fact) (hf:FactIn f) (hg:FactIn g) (w:World) :
  Calls Tryz.prog 155 #[.int .i64 c,factA f,factA g] w fun e w'=>e=.returned (factA (twoF c f g))∧Below w.heap.size w w':=by
 unfold factA
 cases f with
 | none =>
  have HE:Hid (twoF c none g=none):=rfl
  simp only[Option.isSome_none,Option.getD_none]
  generalize g.isSome=gs
  generalize g.getD 0=gv
  go_enter Tryz.func155,Tryz.ntmps155
  go_wp2
  refine bodyPost_ret (v:=.agg #[.bool false,.int .i64 0]) (by simp[results,Tryz.results155,go_sem]) rfl ⟨by rw[HE.out];rfl,three_below w _ _ _⟩
 | some a =>
  cases g with
  | none =>
   simp only[Option.isSome_none,Option.getD_none,Option.isSome_some,Option.getD_some,twoF]
   go_enter Tryz.func155,Tryz.ntmps155
   go_wp2
   refine bodyPost_ret (v:=.agg #[.bool false,.int .i64 0]) (by simp[results,Tryz.results155,go_sem]) rfl ⟨rfl,three_below w _ _ _⟩
  | some b =>
   simp only[Option.isSome_some,Option.getD_some]
   have ha:=hf a rfl
   have hb:=hg b rfl
   have HO:Hid (twoF c (some a) (some b)=if (joinN c a b).2=0 then some (joinN c a b).1 else none):=rfl
   have HF:Hid ((joinN c a b).2≠0→(joinN c a b).1=0):=join_flt0
   obtain ⟨u,hu⟩:∃ u,joinN c a b=u:=⟨_,rfl⟩
   obtain ⟨v,q⟩:=u
   have HU:=hideP hu
   clear hu hf hg
   by_cases hq:q=0
   ·subst hq
    have HE:Hid (twoF c (some a) (some b)=some v):=by rw[Hid,HO.out,HU.out];rfl
    clear HO
    go_enter Tryz.func155,Tryz.ntmps155
    go_wp2_with (go_at_call 149;refine (Two_any c hc a b ha hb _).mono ?_;rintro e' w4 ⟨rfl,rfl⟩;rw[HU.out];dsimp only)
    refine bodyPost_ret (v:=.agg #[.bool true,.int .i64 v]) (by simp[results,Tryz.results155,go_sem]) rfl ⟨by rw[HE.out];rfl,three_below w _ _ _⟩
   ·have HE:Hid (twoF c (some a) (some b)=none):=by rw[Hid,HO.out,HU.out];exact if_neg hq
    have hv:v=0:=by have:=HF.out;rw[HU.out] at this;exact this hq
    subst hv
    have e0:((q:Int)==0)=false:=by simp;omega
    clear HO
    go_enter Tryz.func155,Tryz.ntmps155
    go_wp2_with (go_at_call 149;refine (Two_any c hc a b ha hb _).mono ?_;rintro e' w4 ⟨rfl,rfl⟩;rw[HU.out];dsimp only)
    refine bodyPost_ret (v:=.agg #[.bool false,.int .i64 0]) (by simp[results,Tryz.results155,go_sem]) rfl ⟨by rw[HE.out];rfl,three_below w _ _ _⟩
end Go.Proofs.YtldfkcpbjooemaaGreatDoor
namespace Go.Proofs.YtldfkcpbjooemaaGreatDoor
open Go.RowKit Go.Deep
theorem sets2 {B rb:Nat} {w w1:World} (h:Below B w w1) (hB:B≤rb) (a b:Value):Below B w ((w1.setCell ⟨rb,0,none⟩ a).setCell ⟨rb,1,none⟩ b):=(h.setCell (p:=⟨rb,0,none⟩) hB a).setCell (p:=⟨rb,1,none⟩) hB b
set_option maxHeartbeats 2000000 in
theorem factOfChoice_any (k:Nat) (f g:Fact) (w:World) :
  Calls Tryz.prog 154 #[.int .i64 k,factA f,factA g] w fun e w'=>e=.returned (factA (choiceF k f g))∧Below w.heap.size w w':=by
 unfold factA
 cases f with
 | none =>
  have HE:Hid (choiceF k none g=none):=rfl
  simp only[Option.isSome_none,Option.getD_none]
  generalize g.isSome=gs
  generalize g.getD 0=gv
  go_enter Tryz.func154,Tryz.ntmps154
  go_wp2
  go_quiet (fail)
  go_wp2
  refine bodyPost_ret (v:=.agg #[.bool false,.int .i64 0]) (by simp[results,Tryz.results154,go_sem]) rfl ⟨by rw[HE.out];rfl,sets2 (below_drewN (three_below w _ _ _) _) (by omega) _ _⟩
 | some a =>
  simp only[Option.isSome_some,Option.getD_some]
  have HO:Hid (choiceF k (some a) g=if a=decK k then some a else g):=rfl
  obtain ⟨dk,hdk⟩:∃ dk,decK k=dk:=⟨_,rfl⟩
  have HD:=hideP hdk
  rw[hdk] at HO
  have HX:Hid (∀ wx:World,Calls Tryz.prog 175 #[.int .i64 k] wx fun e w'=>e=.returned (.int .i64 dk)∧w'=wx):=by intro wx;rw[← hdk];exact decides_any k wx
  clear hdk
  by_cases hq:a=dk
  ·have HE:Hid (choiceF k (some a) g=some a):=by rw[Hid,HO.out];exact if_pos hq
   clear HO
   have HQ:=hideP hq
   have e0:(a==dk)=true:=by simpa using hq
   clear hq
   generalize g.isSome=gs
   generalize g.getD 0=gv
   go_enter Tryz.func154,Tryz.ntmps154
   go_wp2
   go_quiet ((go_at_call 175;exact Calls.quiet_of_same (HX.out _)))
   go_wp2
   all_goals refine bodyPost_ret (v:=.agg #[.bool true,.int .i64 a]) (by simp[results,Tryz.results154,go_sem]) rfl ⟨by rw[HE.out];rfl,sets2 (below_drewN (three_below w _ _ _) _) (by omega) _ _⟩
  ·have HE:Hid (choiceF k (some a) g=g):=by rw[Hid,HO.out];exact if_neg hq
   clear HO
   have e0:(a==dk)=false:=by simpa using hq
   have HQ:=hideP hq
   clear hq
   rw[HE.out]
   generalize g.isSome=gs
   generalize g.getD 0=gv
   go_enter Tryz.func154,Tryz.ntmps154
   go_wp2
   go_quiet ((go_at_call 175;exact Calls.quiet_of_same (HX.out _)))
   go_wp2
   all_goals refine bodyPost_ret (v:=.agg #[.bool gs,.int .i64 gv]) (by simp[results,Tryz.results154,go_sem]) rfl ⟨rfl,sets2 (below_drewN (three_below w _ _ _) _) (by omega) _ _⟩
def NumOk (t:RTok):Prop:=kindP t.text=1→t.text.length≤18∧∀ c∈t.text,isDig c=true
theorem singleF_in {t:RTok} (h:NumOk t):FactIn (singleF t):=by
 intro v hv
 unfold singleF at hv
 split at hv
 ·rename_i h1
  cases hv
  obtain ⟨h2,h3⟩:=h h1
  have h4:=numT_bound t.text h3
  have:(10:Int) ^ t.text.length≤1000000000000000000:=by
   have:(10:Nat) ^ t.text.length≤10 ^ 18:=Nat.pow_le_pow_right (by omega) h2
   have h2:((10 ^ t.text.length:Nat):Int)≤((10 ^ 18:Nat):Int):=Int.ofNat_le.2 this
   simpa using h2
  unfold In64
  omega
 ·split at hv
  ·cases hv;decide
  ·split at hv
   ·cases hv;decide
   ·split at hv
    ·cases hv;unfold In64;omega
    ·cases hv
set_option maxHeartbeats 4000000 in
set_option maxRecDepth 100000 in
theorem factOfSingle_any (t:RTok) (h:NumOk t) (w:World) :
  Calls Tryz.prog 157 #[tokV t] w fun e w'=>e=.returned (factA (singleF t))∧Below w.heap.size w w':=by
 unfold tokV
 by_cases h1:kindP t.text=1
 ·have HE:Hid (singleF t=some (numT t.text)):=by rw[Hid,singleF,if_pos h1]
  have hn:=h h1
  have hz:(bsOf t.text).size≤18:=by rw[bsOf_size];exact hn.1
  have HD:Hid (∀ c∈(bsOf t.text).toList,isDig c=true):=by rw[Hid,bsOf_toList];exact hn.2
  have HT:Hid ((bsOf t.text).toList=t.text):=bsOf_toList _
  rw[h1]
  clear h hn h1
  generalize bsOf t.text=d at *
  go_enter Tryz.func157,Tryz.ntmps157
  go_wp2_with (go_at_call 176;refine (numberOf_any d _ hz HD.out).mono ?_;rintro e' w4 ⟨rfl,rfl⟩)
  all_goals refine bodyPost_ret (v:=.agg #[.bool true,.int .i64 (numT d.toList)]) (by simp[results,Tryz.results157,go_sem]) rfl ⟨by rw[HE.out,HT.out];rfl,two_below w _ _⟩
 ·clear h
  have hs:singleF t=if kindP t.text=10 then some 1 else if kindP t.text=11 then some 0 else if kindP t.text=12∨kindP t.text=13∨kindP t.text=14 then some ((kindP t.text:Int) - 12) else none:=by rw[singleF,if_neg h1]
  rw[hs]
  clear hs
  generalize kindP t.text=k at *
  have hd:(k=10∨k=11∨k=12∨k=13∨k=14)∨(k≠10∧k≠11∧k≠12∧k≠13∧k≠14):=by omega
  rcases hd with (rfl | rfl | rfl | rfl | rfl) | ⟨h2,h3,h4,h5,h6⟩
  ·go_enter Tryz.func157,Tryz.ntmps157
   go_wp2
   refine bodyPost_ret (v:=.agg #[.bool true,.int .i64 1]) (by simp[results,Tryz.results157,go_sem]) rfl ⟨rfl,two_below w _ _⟩
  ·go_enter Tryz.func157,Tryz.ntmps157
   go_wp2
   refine bodyPost_ret (v:=.agg #[.bool true,.int .i64 0]) (by simp[results,Tryz.results157,go_sem]) rfl ⟨rfl,two_below w _ _⟩
  ·go_enter Tryz.func157,Tryz.ntmps157
   go_wp2
   refine bodyPost_ret (v:=.agg #[.bool true,.int .i64 0]) (by simp[results,Tryz.results157,go_sem]) rfl ⟨rfl,two_below w _ _⟩
  ·go_enter Tryz.func157,Tryz.ntmps157
   go_wp2
   refine bodyPost_ret (v:=.agg #[.bool true,.int .i64 1]) (by simp[results,Tryz.results157,go_sem]) rfl ⟨rfl,two_below w _ _⟩
  ·go_enter Tryz.func157,Tryz.ntmps157
   go_wp2
   refine bodyPost_ret (v:=.agg #[.bool true,.int .i64 2]) (by simp[results,Tryz.results157,go_sem]) rfl ⟨rfl,two_below w _ _⟩
  ·have e1:((k:Int)==1)=false:=by simp;omega
   have e2:((k:Int)==10)=false:=by simp;omega
   have e3:((k:Int)==11)=false:=by simp;omega
   have e4:((k:Int)==12)=false:=by simp;omega
   have e5:((k:Int)==13)=false:=by simp;omega
   have e6:((k:Int)==14)=false:=by simp;omega
   rw[if_neg h2,if_neg h3,if_neg (by omega)]
   go_enter Tryz.func157,Tryz.ntmps157
   go_wp2
   refine bodyPost_ret (v:=.agg #[.bool false,.int .i64 0]) (by simp[results,Tryz.results157,go_sem]) rfl ⟨rfl,two_below w _ _⟩
end Go.Proofs.YtldfkcpbjooemaaGreatDoor
namespace Go.Proofs.YtldfkcpbjooemaaGreatDoor
open Go.RowKit Go.Deep
def nodC (n:PNode):Array Value:=#[.int .i64 (kindP n.tok.text),.int .i64 n.tok.at',.string (bsOf n.tok.text),.int .i64 n.ops,.int .i64 n.left,.int .i64 n.right]
structure NodeOk (n:PNode):Prop where
 one:n.ops=1→opK (kindP n.tok.text) n.ops=2∨opK (kindP n.tok.text) n.ops=3
 two:isChK (kindP n.tok.text)=false→n.ops=2→4≤opK (kindP n.tok.text) n.ops∧opK (kindP n.tok.text) n.ops≤12
 num:NumOk n.tok
 left:n.left≤1000
 right:n.right≤1000
 ops:n.ops≤2
structure FoSt (w wx:World) (n:PNode) (lv fv:Value) (ls:List PLet) (gs:List Fact):Prop where
 nd:Blk wx w.heap.size (nodC n) 175
 rs:Blk wx (w.heap.size+1) #[.bool false,.int .i64 0] 172
 l:Reads wx lv ls.length (cellsLt ls)
 f:Reads wx fv gs.length (cellsF gs)
 bl:Below w.heap.size w wx
theorem FoSt.below {w wx w':World} {n:PNode} {lv fv:Value} {ls:List PLet} {gs:List Fact} (h:FoSt w wx n lv fv ls gs) (hb:Below wx.heap.size wx w'):FoSt w w' n lv fv ls gs :=
 ⟨h.nd.below hb h.nd.lt,h.rs.below hb h.rs.lt,h.l.below hb,h.f.below hb,h.bl.trans (hb.mono h.bl.size)⟩
theorem FoSt.al {w wx:World} {n:PNode} {lv fv:Value} {ls:List PLet} {gs:List Fact} (h:FoSt w wx n lv fv ls gs) (o:Obj):FoSt w (wx.alloc o) n lv fv ls gs:=h.below (box3 wx o)
theorem FoSt.dr {w wx:World} {n:PNode} {lv fv:Value} {ls:List PLet} {gs:List Fact} (h:FoSt w wx n lv fv ls gs):FoSt w wx.drew n lv fv ls gs:=h.below (below_drewN (Below.refl _ wx) 1)
theorem FoSt.start {w:World} {n:PNode} {lv fv:Value} {ls:List PLet} {gs:List Fact} (hl:Reads w lv ls.length (cellsLt ls)) (hf:Reads w fv gs.length (cellsF gs)) :
  FoSt w ((w.alloc (.cells (nodC n) 175)).alloc (.cells #[.bool false,.int .i64 0] 172)) n lv fv ls gs:=by
 have h1:=Blk.new w (nodC n) 175
 have h2:=Blk.new (w.alloc (.cells (nodC n) 175)) #[.bool false,.int .i64 0] 172
 have hb:=two_below w (.cells (nodC n) 175) (.cells #[.bool false,.int .i64 0] 172)
 refine ⟨h1.below (box3 _ _) h1.lt, ?_,hl.below hb,hf.below hb,hb⟩
 simpa using h2
set_option maxHeartbeats 4000000 in
set_option maxRecDepth 100000 in
theorem factOf_one (n:PNode) (hn:NodeOk n) (h1:n.ops=1) (lv fv:Value) (ls:List PLet) (gs:List Fact) (w:World) (hl:Reads w lv ls.length (cellsLt ls)) (hf:Reads w fv gs.length (cellsF gs)) (hgb:gs.length≤401) (hgi:∀ i,FactIn (atF gs i)) :
  Calls Tryz.prog 125 #[nodA n,lv,fv] w fun e w'=>e=.returned (factA (factN ls gs n))∧Below w.heap.size w w':=by
 have HM:=Hid.mk2 (FoSt.start (n:=n) hl hf)
 have HON:=Hid.mk2 (hn.one h1)
 have hnl:=hn.left
 have hnr:=hn.right
 have HE:Hid (factN ls gs n=oneF (opK (kindP n.tok.text) n.ops) (atF gs n.left)):=by rw[Hid,factN,if_pos h1]
 rw[HE.out]
 have e1:((n.ops:Int)==1)=true:=by simp;omega
 have HGI:=Hid.mk2 hgi
 have hfi:=hgi n.left
 obtain ⟨f1,hf1⟩:∃ f,atF gs n.left=f:=⟨_,rfl⟩
 obtain ⟨f2,hf2⟩:∃ f,atF gs n.right=f:=⟨_,rfl⟩
 rw[hf1] at hfi ⊢
 have HI1:=Hid.mk2 hfi
 have HF1:=Hid.mk2 hf1
 have HF2:=Hid.mk2 hf2
 clear hl hf hn hgi h1 hf1 hf2 hfi HE
 obtain ⟨op,hop⟩:∃ op,opK (kindP n.tok.text) n.ops=op:=⟨_,rfl⟩
 rw[hop] at HON ⊢
 have HOP:=Hid.mk2 hop
 clear hop
 unfold nodA
 go_enter Tryz.func125,Tryz.ntmps125
 go_upto_region 4 with (first
  | (go_at_call_of 150 (Value.int IntKind.i64 (n.left:Int));refine (factAt_any gs _ (n.left:Int) _ HM.out.f hgb ⟨by omega,by omega⟩).mono ?_;rintro e w1 ⟨rfl,hb1⟩;rw[HF1.out];unfold factA;replace HM:=Hid.mk2 (HM.out.below hb1);clear hb1;have n0:=HM.out.nd.cell 0;have n1:=HM.out.nd.cell 1;have n2:=HM.out.nd.cell 2;have n3:=HM.out.nd.cell 3;have n4:=HM.out.nd.cell 4;have n5:=HM.out.nd.cell 5;have r0:=HM.out.rs.cell 0;have r1:=HM.out.rs.cell 1;have fr0:=HM.out.rs.free 0;have fr1:=HM.out.rs.free 1;have hlw:=HM.out.bl.size;have hlr:=HM.out.rs.lt;have hln:=HM.out.nd.lt;simp only[nodC,List.getElem?_toArray,List.getElem?_cons_zero,List.getElem?_cons_succ] at n0 n1 n2 n3 n4 n5 r0 r1)
  | (go_at_call_of 150 (Value.int IntKind.i64 (n.right:Int));refine (factAt_any gs _ (n.right:Int) _ (HM.out.al _).f hgb ⟨by omega,by omega⟩).mono ?_;rintro e w2 ⟨rfl,hb2⟩;rw[HF2.out];unfold factA;clear n0 n1 n2 n3 n4 n5 r0 r1 fr0 fr1 hlw hlr hln;have H7:=Hid.mk2 ((Blk.new w1 #[.bool f1.isSome,.int .i64 (f1.getD 0)] 172).below hb2 (Blk.new w1 #[.bool f1.isSome,.int .i64 (f1.getD 0)] 172).lt);replace HM:=Hid.mk2 ((HM.out.al _).below hb2);clear hb2;have n0:=HM.out.nd.cell 0;have n1:=HM.out.nd.cell 1;have n2:=HM.out.nd.cell 2;have n3:=HM.out.nd.cell 3;have n4:=HM.out.nd.cell 4;have n5:=HM.out.nd.cell 5;have r0:=HM.out.rs.cell 0;have r1:=HM.out.rs.cell 1;have fr0:=HM.out.rs.free 0;have fr1:=HM.out.rs.free 1;have hlw:=HM.out.bl.size;have hlr:=HM.out.rs.lt;have hln:=HM.out.nd.lt;simp only[nodC,List.getElem?_toArray,List.getElem?_cons_zero,List.getElem?_cons_succ] at n0 n1 n2 n3 n4 n5 r0 r1;have t70:=H7.out.cell 0;have t71:=H7.out.cell 1;simp only[List.getElem?_toArray,List.getElem?_cons_zero,List.getElem?_cons_succ] at t70 t71;have hl7:=H7.out.lt))
 replace H7:=Hid.mk2 (H7.out.alloc (.cells #[.bool f2.isSome,.int .i64 (f2.getD 0)] 172))
 replace HM:=Hid.mk2 (HM.out.al (.cells #[.bool f2.isSome,.int .i64 (f2.getD 0)] 172))
 clear n0 n1 n2 n3 n4 n5 r0 r1 fr0 fr1 hlw hlr hln t70 t71 hl7
 generalize w2.alloc (.cells #[.bool f2.isSome,.int .i64 (f2.getD 0)] 172)=w3 at *
 have n0:=HM.out.nd.cell 0;have n1:=HM.out.nd.cell 1;have n2:=HM.out.nd.cell 2;have n3:=HM.out.nd.cell 3;have n4:=HM.out.nd.cell 4;have n5:=HM.out.nd.cell 5
 have t70:=H7.out.cell 0;have t71:=H7.out.cell 1
 simp only[nodC,List.getElem?_toArray,List.getElem?_cons_zero,List.getElem?_cons_succ] at n0 n1 n2 n3 n4 n5 t70 t71
 go_region_with (first
  | (go_at_call 152;refine (operationOf_any n _).mono ?_;rintro e w4 ⟨rfl,hb4⟩;rw[HOP.out];replace HM:=Hid.mk2 (HM.out.dr.below hb4);replace H7:=Hid.mk2 (H7.out.drew.below hb4 H7.out.lt);have u0:=H7.out.cell 0;have u1:=H7.out.cell 1;simp only[List.getElem?_toArray,List.getElem?_cons_zero,List.getElem?_cons_succ] at u0 u1;clear hb4)
  | (go_at_call 151;refine (factOfOne_any op HON.out f1 HI1.out _).mono ?_;rintro e w5 ⟨rfl,hb5⟩;unfold factA;replace HM:=Hid.mk2 (HM.out.below hb5);have r0:=HM.out.rs.cell 0;have r1:=HM.out.rs.cell 1;have fr0:=HM.out.rs.free 0;have fr1:=HM.out.rs.free 1;clear hb5))
 all_goals
  go_wp2
  have hfb:=(HM.out.rs.set 0 (.bool (oneF op f1).isSome)).set 1 (.int .i64 ((oneF op f1).getD 0))
  have g0:=hfb.cell 0
  have g1:=hfb.cell 1
  refine bodyPost_ret (v:=.agg #[.bool (oneF op f1).isSome,.int .i64 ((oneF op f1).getD 0)]) (by simp[results,Tryz.results125,go_sem,g0,g1]) rfl ⟨rfl,sets2 HM.out.bl (by omega) _ _⟩
end Go.Proofs.YtldfkcpbjooemaaGreatDoor
