/-
  All operators of one and of two numbers, by both sides.
-/
import Derived.Test.YtpcjadaeolkngaaGreatDoorJ06
import Derived.Test.YtpcjadaeolkngaaGreatDoorJ04
import Derived.Test.YtpcjadaeolkngaaGreatDoorProg
import Derived.Test.YtpcjadaeolkngaaGreatDoorJ01
set_option linter.unusedVariables false
set_option linter.unusedSimpArgs false
namespace Go.Proofs.YtpcjadaeolkngaaGreatDoor
open Go.RowKit
def divFault(a b:Int):Nat:=if b=0 then 2 else if a=-9223372036854775808∧b=-1 then 1 else 0
theorem tmod_in(a b:Int)(ha:In64 a):In64 (a.tmod b)∧In64 (a-a.tmod b):=by
 have h2:(a.tmod b).natAbs=a.natAbs % b.natAbs:=Int.natAbs_tmod a b
 have h3:=Nat.mod_le a.natAbs b.natAbs
 have h4:=Int.tmod_nonneg (a:=a) b
 unfold In64 at *
 by_cases h:0≤a
 ·have:=h4 h;omega
 ·have h5:=Int.tmod_nonneg (a:=-a) b (by omega)
  rw[Int.neg_tmod]at h5
  omega
theorem join7(a b:Int)(ha:In64 a)(hb:In64 b):joinN 7 a b=if divFault a b=0 then (a.tdiv b,0) else (0,divFault a b):=by
 unfold divFault
 by_cases h0:b=0
 ·simp[joinN,h0]
 ·rw[join_div a b ha hb h0]
  by_cases h1:a=-9223372036854775808∧b=-1
  ·simp[h0,h1]
  ·rw[if_neg h1,if_neg h0,if_neg h1];rfl
theorem join8(a b:Int):joinN 8 a b=if divFault a b=0 then (a.tmod b,0) else (0,divFault a b):=by
 unfold divFault
 by_cases h0:b=0
 ·simp[joinN,h0]
 ·by_cases h1:a=-9223372036854775808∧b=-1
  ·simp[joinN,h0,h1]
  ·simp only[joinN]
   rw[if_neg (by omega),if_neg (by omega),if_neg (by omega),if_neg (by omega),if_pos trivial,if_neg h0,if_neg h1,if_neg h0,if_neg h1];rfl
set_option maxHeartbeats 400000 in
theorem fod_any(a b:Int)(w:World) :
  Calls Tryz.prog 152 #[.int .i64 a,.int .i64 b] w fun e w'=>e=.returned (.int .i64 (divFault a b))∧w'=w:=by
 by_cases h0:b=0
 ·have e:divFault a b=2:=by simp[divFault,h0]
  rw[e]
  subst h0
  clear e
  go_enter Tryz.func152,Tryz.ntmps152
  go_wp2
  go_ret
  exact ⟨rfl,rfl⟩
 have eb:(b==0)=false:=by simpa using h0
 by_cases h1:a=-9223372036854775808
 ·by_cases h2:b=-1
  ·have e:divFault a b=1:=by simp[divFault,h1,h2]
   rw[e]
   subst h1;subst h2
   clear e
   go_enter Tryz.func152,Tryz.ntmps152
   go_wp2
   go_ret
   exact ⟨rfl,rfl⟩
  ·have e:divFault a b=0:=by simp[divFault,h0,h2]
   rw[e]
   have eb1:(b==-1)=false:=by simpa using h2
   subst h1
   clear e h2 h0
   go_enter Tryz.func152,Tryz.ntmps152
   go_wp2
   go_ret
   exact ⟨rfl,rfl⟩
 ·have e:divFault a b=0:=by simp[divFault,h0,h1]
  rw[e]
  have ea:(a==-9223372036854775808)=false:=by simpa using h1
  clear e h1 h0
  go_enter Tryz.func152,Tryz.ntmps152
  go_wp2
  go_ret
  exact ⟨rfl,rfl⟩
theorem divFault_cases(a b:Int):divFault a b=0∧b≠0∧¬ (a=-9223372036854775808∧b=-1)∨divFault a b=1∨divFault a b=2:=by
 unfold divFault
 by_cases h0:b=0
 ·simp[h0]
 ·by_cases h1:a=-9223372036854775808∧b=-1
  ·simp[h0,h1]
  ·exact .inl ⟨by rw[if_neg h0,if_neg h1],h0,h1⟩
set_option maxHeartbeats 400000 in
theorem quotient_any(a b:Int)(ha:In64 a)(hb:In64 b)(w:World) :
  Calls Tryz.prog 137 #[.int .i64 a,.int .i64 b] w fun e w'=>e=.returned (.tuple #[.int .i64 (joinN 7 a b).1,.int .i64 (joinN 7 a b).2])∧w'=w:=by
 rw[join7 a b ha hb]
 rcases divFault_cases a b with ⟨h,h0,h1⟩ | h | h
 ·rw[if_pos h]
  have HI:Hid (In64 (a.tdiv b)):=tdiv_in a b ha hb h0 h1
  have eb:(b==0)=false:=by simpa using h0
  have HH:Hid (divFault a b=0):=h
  obtain ⟨ha1,ha2⟩:=ha
  obtain ⟨hb1,hb2⟩:=hb
  clear h h1
  go_enter Tryz.func137,Tryz.ntmps137
  go_wp2_with (go_at_call 152;refine (fod_any a b _).mono ?_;rintro e w' ⟨rfl,rfl⟩;rw[HH.out])
  go_ret2
  exact ⟨ret_two (wrap64_eq HI.out) rfl,rfl⟩
 all_goals
  rw[if_neg (by omega),h]
  have HH:=h
  clear ha hb
  go_enter Tryz.func137,Tryz.ntmps137
  go_wp2_with (go_at_call 152;refine (fod_any a b _).mono ?_;rintro e w' ⟨rfl,rfl⟩;rw[HH])
  go_ret2
  exact ⟨ret_two rfl rfl,rfl⟩
set_option maxHeartbeats 400000 in
theorem remainder_any(a b:Int)(ha:In64 a)(hb:In64 b)(w:World) :
  Calls Tryz.prog 138 #[.int .i64 a,.int .i64 b] w fun e w'=>e=.returned (.tuple #[.int .i64 (joinN 8 a b).1,.int .i64 (joinN 8 a b).2])∧w'=w:=by
 rw[join8 a b]
 rcases divFault_cases a b with ⟨h,h0,h1⟩ | h | h
 ·rw[if_pos h]
  have HI:Hid (In64 (a.tmod b)):=(tmod_in a b ha).1
  have eb:(b==0)=false:=by simpa using h0
  have HH:Hid (divFault a b=0):=h
  obtain ⟨ha1,ha2⟩:=ha
  obtain ⟨hb1,hb2⟩:=hb
  clear h h1
  go_enter Tryz.func138,Tryz.ntmps138
  go_wp2_with (go_at_call 152;refine (fod_any a b _).mono ?_;rintro e w' ⟨rfl,rfl⟩;rw[HH.out])
  go_ret2
  exact ⟨ret_two (by first | rfl | exact wrap64_eq HI.out) rfl,rfl⟩
 all_goals
  rw[if_neg (by omega),h]
  have HH:=h
  clear ha hb
  go_enter Tryz.func138,Tryz.ntmps138
  go_wp2_with (go_at_call 152;refine (fod_any a b _).mono ?_;rintro e w' ⟨rfl,rfl⟩;rw[HH])
  go_ret2
  exact ⟨ret_two rfl rfl,rfl⟩
theorem mH{p:Prop}(h:p):Hid p:=h
theorem bitN_lt(a b:Int):(joinN 9 a b)=(bitN (decide (a<b)),0):=rfl
theorem bitN_le(a b:Int):(joinN 10 a b)=(bitN (decide (a≤b)),0):=rfl
theorem bitN_eq(a b:Int):(joinN 11 a b)=(bitN (decide (a=b)),0):=rfl
theorem bitN_ne(a b:Int):(joinN 12 a b)=(bitN (decide (a≠b)),0):=rfl
theorem beq_dec(a b:Int):(a==b)=decide (a=b):=by by_cases h:a=b <;> simp[h]
theorem bne_dec(a b:Int):(a != b)=decide (a≠b):=by by_cases h:a=b <;> simp[h]
set_option maxHeartbeats 400000 in
theorem compared_any(c:Nat)(hc:c=9∨c=10∨c=11∨c=12)(a b:Int)(w:World) :
  Calls Tryz.prog 139 #[.int .i64 c,.int .i64 a,.int .i64 b] w fun e w'=>e=.returned (.int .i64 (joinN c a b).1)∧w'=w:=by
 rcases hc with rfl | rfl | rfl | rfl
 ·rw[bitN_lt]
  go_enter Tryz.func139,Tryz.ntmps139
  go_wp2_with (go_at_call 133;refine (truth_any _ _).mono ?_;rintro e w' ⟨rfl,rfl⟩)
  go_ret
  exact ⟨rfl,rfl⟩
 ·rw[bitN_le]
  go_enter Tryz.func139,Tryz.ntmps139
  go_wp2_with (go_at_call 133;refine (truth_any _ _).mono ?_;rintro e w' ⟨rfl,rfl⟩)
  go_ret
  exact ⟨rfl,rfl⟩
 ·rw[bitN_eq]
  go_enter Tryz.func139,Tryz.ntmps139
  go_wp2_with (go_at_call 133;refine (truth_any _ _).mono ?_;rintro e w' ⟨rfl,rfl⟩)
  go_ret
  exact ⟨ret_int (by rw[beq_dec]),rfl⟩
 ·rw[bitN_ne]
  go_enter Tryz.func139,Tryz.ntmps139
  go_wp2_with (go_at_call 133;refine (truth_any _ _).mono ?_;rintro e w' ⟨rfl,rfl⟩)
  go_ret
  exact ⟨ret_int (by rw[bne_dec]),rfl⟩
theorem join4(a b:Int):joinN 4 a b=exact64 (a+b):=rfl
theorem join5(a b:Int):joinN 5 a b=exact64 (a-b):=rfl
theorem join6(a b:Int):joinN 6 a b=exact64 (a*b):=rfl
theorem join_cmp(c:Nat)(hc:c=9∨c=10∨c=11∨c=12)(a b:Int):(joinN c a b).2=0:=by rcases hc with rfl | rfl | rfl | rfl <;> rfl
set_option maxHeartbeats 1000000 in
theorem Two_any(c:Nat)(hc:4≤c∧c≤12)(a b:Int)(ha:In64 a)(hb:In64 b)(w:World) :
  Calls Tryz.prog 121 #[.int .i64 c,.int .i64 a,.int .i64 b] w fun e w'=>e=.returned (.tuple #[.int .i64 (joinN c a b).1,.int .i64 (joinN c a b).2])∧w'=w:=by
 have HA:Hid (In64 a):=ha
 have HB:Hid (In64 b):=hb
 clear ha hb
 have hk:c=4∨c=5∨c=6∨c=7∨c=8∨(c=9∨c=10∨c=11∨c=12):=by omega
 clear hc
 rcases hk with rfl | rfl | rfl | rfl | rfl | hk
 ·rw[join4]
  go_enter Tryz.func121,Tryz.ntmps121
  go_wp2_with (go_at_call 134;refine (psum_any a b HA.out HB.out _).mono ?_;rintro e w' ⟨rfl,rfl⟩)
  go_ret2
  exact ⟨ret_two rfl rfl,rfl⟩
 ·rw[join5]
  go_enter Tryz.func121,Tryz.ntmps121
  go_wp2_with (go_at_call 135;refine (pdiff_any a b HA.out HB.out _).mono ?_;rintro e w' ⟨rfl,rfl⟩)
  go_ret2
  exact ⟨ret_two rfl rfl,rfl⟩
 ·rw[join6]
  go_enter Tryz.func121,Tryz.ntmps121
  go_wp2_with (go_at_call 136;refine (pproduct_any a b HA.out HB.out _).mono ?_;rintro e w' ⟨rfl,rfl⟩)
  go_ret2
  exact ⟨ret_two rfl rfl,rfl⟩
 ·go_enter Tryz.func121,Tryz.ntmps121
  go_wp2_with (go_at_call 137;refine (quotient_any a b HA.out HB.out _).mono ?_;rintro e w' ⟨rfl,rfl⟩)
  go_ret2
  exact ⟨ret_two rfl rfl,rfl⟩
 ·go_enter Tryz.func121,Tryz.ntmps121
  go_wp2_with (go_at_call 138;refine (remainder_any a b HA.out HB.out _).mono ?_;rintro e w' ⟨rfl,rfl⟩)
  go_ret2
  exact ⟨ret_two rfl rfl,rfl⟩
 ·have HK:Hid (c=9∨c=10∨c=11∨c=12):=hk
  rw[join_cmp c hk]
  have e4:((c:Int)==4)=false:=by simp;omega
  have e5:((c:Int)==5)=false:=by simp;omega
  have e6:((c:Int)==6)=false:=by simp;omega
  have e7:((c:Int)==7)=false:=by simp;omega
  have e8:((c:Int)==8)=false:=by simp;omega
  obtain ⟨jv,hjv⟩:∃ jv,jv=(joinN c a b).1:=⟨_,rfl⟩
  have HJ:Hid ((joinN c a b).1=jv):=hjv.symm
  rw[← hjv]
  clear hk hjv
  go_enter Tryz.func121,Tryz.ntmps121
  go_wp2_with (go_at_call 139;refine (compared_any c HK.out a b _).mono ?_;rintro e w' ⟨rfl,rfl⟩;rw[HJ.out])
  go_ret2
  exact ⟨ret_two rfl rfl,rfl⟩
def oneN(c:Nat)(a:Int):Int×Nat:=if c=2 then negN a else (bitN (decide (a=0)),0)
set_option maxHeartbeats 400000 in
theorem One_any(c:Nat)(hc:c=2∨c=3)(a:Int)(ha:In64 a)(w:World) :
  Calls Tryz.prog 119 #[.int .i64 c,.int .i64 a] w fun e w'=>e=.returned (.tuple #[.int .i64 (oneN c a).1,.int .i64 (oneN c a).2])∧w'=w:=by
 have HA:Hid (In64 a):=ha
 clear ha
 rcases hc with rfl | rfl
 ·rw[show oneN 2 a=negN a from rfl]
  go_enter Tryz.func119,Tryz.ntmps119
  go_wp2_with (go_at_call 132;refine (negated_any a HA.out _).mono ?_;rintro e w' ⟨rfl,rfl⟩)
  go_ret2
  exact ⟨ret_two rfl rfl,rfl⟩
 ·rw[show oneN 3 a=(bitN (decide (a=0)),0) from rfl]
  go_enter Tryz.func119,Tryz.ntmps119
  go_wp2_with (go_at_call 133;refine (truth_any _ _).mono ?_;rintro e w' ⟨rfl,rfl⟩)
  go_ret2
  exact ⟨ret_two (by rw[beq_dec]) rfl,rfl⟩
def opK(k ops:Nat):Nat :=
 if k=9 then 3 else if k=28 then (if ops=1 then 2 else 5) else if k=27 then 4 else if k=29 then 6 else if k=30 then 7 else if k=31 then 8 else if k=25 then 9 else if k=26 then 10 else if k=23 then 11 else 12
def isChK(k:Nat):Bool:=decide (k=7)||decide (k=8)
def decK(k:Nat):Int:=if k=8 then 1 else 0
def leaK(k:Nat):Nat:=if k=8 then 15 else 14
abbrev Fact:=Option Int
def atF(fs:List Fact)(i:Int):Fact:=if i<0 then none else fs.getD i.toNat none
def meantI(ls:List PLet)(t:Txt):Int:=match ls[letIx ls t]? with
 | none=>-1
 | some p=>(p.val.behind:Int)-1
def numT(t:Txt):Int:=t.foldl (fun n c=>n*10+(c.toNat:Int)-48) 0
def oneF(c:Nat):Fact→Fact
 | none=>none
 | some a=>if (oneN c a).2=0 then some (oneN c a).1 else none
def twoF(c:Nat):Fact→Fact→Fact
 | some a,some b=>if (joinN c a b).2=0 then some (joinN c a b).1 else none
 | _,_=>none
def choiceF(k:Nat):Fact→Fact→Fact
 | none,_=>none
 | some a,r=>if a=decK k then some a else r
def singleF(t:RTok):Fact :=
 if kindP t.text=1 then some (numT t.text) else if kindP t.text=10 then some 1 else if kindP t.text=11 then some 0 else if kindP t.text=12∨kindP t.text=13∨kindP t.text=14 then some ((kindP t.text:Int)-12) else none
def factN(ls:List PLet)(fs:List Fact)(n:PNode):Fact :=
 if n.ops=1 then oneF (opK (kindP n.tok.text) n.ops) (atF fs n.left)
 else if isChK (kindP n.tok.text) then choiceF (kindP n.tok.text) (atF fs n.left) (atF fs n.right)
 else if n.ops=2 then twoF (opK (kindP n.tok.text) n.ops) (atF fs n.left) (atF fs n.right)
 else if kindP n.tok.text=2 then atF fs (meantI ls n.tok.text)
 else singleF n.tok
def factsG(ls:List PLet):List Fact→List PNode→List Fact
 | fs,[]=>fs
 | fs,n :: r=>factsG ls (fs++[factN ls fs n]) r
def factsP(ls:List PLet)(N:List PNode):List Fact:=factsG ls [] N
theorem factsG_length(ls:List PLet):∀ (N:List PNode) (fs:List Fact),(factsG ls fs N).length=fs.length+N.length
 | [],fs=>by simp[factsG]
 | n :: r,fs=>by rw[factsG,factsG_length ls r];simp;omega
theorem factsG_append(ls:List PLet):∀ (a b:List PNode) (fs:List Fact),factsG ls fs (a++b)=factsG ls (factsG ls fs a) b
 | [],b,fs=>rfl
 | n :: r,b,fs=>by rw[List.cons_append,factsG,factsG,factsG_append ls r]
def opC(k:Nat)(v:Int):List Nat:=k :: bytesN (v % 18446744073709551616).toNat (behindN k)
theorem opC_length(k:Nat)(v:Int):(opC k v).length=behindN k+1:=by simp[opC,bytesN_length]
def layH(below h:Nat):Nat:=if h<below+1 then below+1 else h
def codeH(fs:List Fact)(ls:List PLet)(N:List PNode):Nat→Nat→Int→Nat→Nat→List Nat×Nat
 | 0,_,_,_,h=>([],h)
 | f+1,b,i,below,h =>
  if i<0∨(b:Int)≤i then ([],h) else
  match N[i.toNat]? with
  | none=>([],h)
  | some n =>
   match atF fs i with
   | some v=>(opC 0 v,layH below h)
   | none =>
    if n.ops=1 then ((codeH fs ls N f i.toNat n.left below h).1++opC (opK (kindP n.tok.text) n.ops) 0,(codeH fs ls N f i.toNat n.left below h).2)
    else if isChK (kindP n.tok.text) then
     ((codeH fs ls N f i.toNat n.left below h).1++opC (leaK (kindP n.tok.text)) (((codeH fs ls N f i.toNat n.right below (codeH fs ls N f i.toNat n.left below h).2).1.length+3:Nat):Int)++(codeH fs ls N f i.toNat n.right below (codeH fs ls N f i.toNat n.left below h).2).1++opC 13 9++opC 0 (decK (kindP n.tok.text)),
      layH below (codeH fs ls N f i.toNat n.right below (codeH fs ls N f i.toNat n.left below h).2).2)
    else if n.ops=2 then
     ((codeH fs ls N f i.toNat n.left below h).1++(codeH fs ls N f i.toNat n.right (below+1) (codeH fs ls N f i.toNat n.left below h).2).1++opC (opK (kindP n.tok.text) n.ops) 0,(codeH fs ls N f i.toNat n.right (below+1) (codeH fs ls N f i.toNat n.left below h).2).2)
    else if kindP n.tok.text=2 then codeH fs ls N f i.toNat (meantI ls n.tok.text) below h
    else (opC 1 ((kindP n.tok.text:Int)-15),layH below h)
def exprH(fs:List Fact)(ls:List PLet)(N:List PNode)(e:PExp)(h:Nat):List Nat×Nat:=codeH fs ls N N.length N.length ((e.behind:Int)-1) 0 h
def appliesF(fs:List Fact)(r:PRule):Nat:=if r.hw then (match atF fs ((r.when.behind:Int)-1) with
 | none=>1
 | some v=>if v=0 then 0 else 2) else 2
def actH(fs:List Fact)(ls:List PLet)(N:List PNode)(r:PRule)(h:Nat):List Nat×Nat :=
 if r.hs then ((exprH fs ls N r.score h).1++opC 16 0,(exprH fs ls N r.score h).2) else (opC 17 0,h)
def guardH(fs:List Fact)(ls:List PLet)(N:List PNode)(r:PRule)(h:Nat):List Nat×Nat :=
 ((exprH fs ls N r.when h).1++opC 14 ((actH fs ls N r (exprH fs ls N r.when h).2).1.length:Int)++(actH fs ls N r (exprH fs ls N r.when h).2).1,(actH fs ls N r (exprH fs ls N r.when h).2).2)
def rulesH(fs:List Fact)(ls:List PLet)(N:List PNode):List PRule→List Nat→Nat→List Nat×Nat
 | [],c,h=>(c++opC 17 0,h)
 | r :: rs,c,h=>if appliesF fs r=2 then (c++(actH fs ls N r h).1,(actH fs ls N r h).2)
  else if appliesF fs r=1 then rulesH fs ls N rs (c++(guardH fs ls N r h).1) (guardH fs ls N r h).2
  else rulesH fs ls N rs c h
def imageC(N:List PNode)(ls:List PLet)(rs:List PRule):List Nat:=imgC ((rulesH (factsP ls N) ls N rs [] 0).2 % 256) (rulesH (factsP ls N) ls N rs [] 0).1
structure GlobT(w:World):Prop where
 words:∀ i (h:i<19),w.cell? ⟨3,i,none⟩=some (.string (bsOf (tWords[i]'h)))
 signs:∀ i (h:i<12),w.cell? ⟨4,i,none⟩=some (.string (bsOf (tSign[i]'h)))
 two:3<w.heap.size∧4<w.heap.size
theorem GlobT.below{w w':World}(h:GlobT w)(hb:Below w.heap.size w w'):GlobT w' :=
 ⟨fun i hi=>(hb.cell (p:=⟨3,i,none⟩) h.two.1).trans (h.words i hi),fun i hi=>(hb.cell (p:=⟨4,i,none⟩) h.two.2).trans (h.signs i hi),Nat.lt_of_lt_of_le h.two.1 hb.size,Nat.lt_of_lt_of_le h.two.2 hb.size⟩
set_option maxHeartbeats 400000 in
theorem isBlank_any(c:UInt8)(w:World) :
  Calls Tryz.prog 65 #[.int .u8 c.toNat] w fun e w'=>e=.returned (.bool (blankC c))∧w'=w:=by
 rw[blankC_int]
 go_enter Tryz.func65,Tryz.ntmps65
 go_wp2
 all_goals go_ret
 all_goals exact ⟨ret_bool (by simp_all),rfl⟩
theorem tw_snoc(p:UInt8→Bool):∀ (l:Txt) (k:Nat) (h:k<l.length),(∀ j (hj:j<k),p (l[j]'(by omega))=true)→(p l[k]=false→(l.takeWhile p).length=k)
 | a :: r,0,h,_,hk=>by have hk':p a=false:=hk;simp[List.takeWhile,hk']
 | a :: r,k+1,h,hall,hk=>by
  have ha:p a=true:=hall 0 (by omega)
  have:=tw_snoc p r k (by simpa using h) (fun j hj=>by have:=hall (j+1) (by omega);simpa using this) (by simpa using hk)
  simp[List.takeWhile,ha,this]
theorem tw_all(p:UInt8→Bool):∀ (l:Txt),(∀ j (hj:j<l.length),p l[j]=true)→(l.takeWhile p).length=l.length
 | [],_=>rfl
 | a :: r,hall=>by
  have ha:p a=true:=hall 0 (by simp)
  have:=tw_all p r (fun j hj=>by have:=hall (j+1) (by simpa using hj);simpa using this)
  simp[List.takeWhile,ha,this]
theorem get_toList(s:ByteArray)(k:Nat)(h:k<s.size)(h':k<s.toList.length):s.toList[k]=s[k]:=by
 have:=getElem_toList s k h
 rw[List.getElem?_eq_getElem h']at this
 exact Option.some.inj this
theorem upto_succ{s:ByteArray}{k:Nat}{p:UInt8→Bool}{hlt:k<s.size}(h:∀ j (hj:j<k) (h2:j<s.size),p s[j]=true)(hk:p s[k]=true):∀ j (hj:j<k+1) (h2:j<s.size),p s[j]=true:=by
 intro j hj h2
 rcases Nat.lt_or_ge j k with h' | h'
 ·exact h j h' h2
 ·obtain rfl:j=k:=by omega
  exact hk
set_option maxHeartbeats 1000000 in
theorem digitRow_any(s:ByteArray)(hs:s.size≤400)(w:World) :
  Calls Tryz.prog 98 #[.string s] w fun e w'=>e=.returned (.int .i64 (digitRowT s.toList))∧w'=w:=by
 go_enter Tryz.func98,Tryz.ntmps98
 go_wp2
 go_loop [3] (fun i=>∃ k:Nat,k≤s.size∧i=.int .i64 k∧∀ j (hj:j<k) (h2:j<s.size),isDig s[j]=true) (fun i=>s.size-(intOf i).toNat)
 case atStart=>exact ⟨0,Nat.zero_le _,rfl,fun j hj=>by omega⟩
 case round =>
  obtain ⟨k,hk,rfl,hall⟩:=hrel
  have HA:Hid (∀ j (hj:j<k) (h2:j<s.size),isDig s[j]=true):=hall
  clear hall
  by_cases hlt:k<s.size
  ·cases hd:isDig s[k]
   ·have HD:Hid (isDig s[k]=false):=hd
    rw[isDig_int]at hd
    have hd2:((s[k].toNat:Int)<48)∨((48:Int)≤s[k].toNat∧(57:Int)<s[k].toNat):=by simp at hd;omega
    clear hd
    have fin:Ending.returned (.int .i64 (k:Int))=.returned (.int .i64 (digitRowT s.toList)):=ret_int (by
     have:=tw_snoc isDig s.toList k (by rw[toList_length];exact hlt) (fun j hj=>by rw[get_toList s j (by omega)];exact HA.out j hj (by omega)) (by rw[get_toList s k hlt];exact HD.out)
     unfold digitRowT;rw[this])
    rcases hd2 with hd2 | ⟨hd2,hd3⟩
    ·go_wp2
     go_ret
     exact ⟨fin,rfl⟩
    ·go_wp2
     go_ret
     exact ⟨fin,rfl⟩
   ·have HD:Hid (isDig s[k]=true):=hd
    rw[isDig_int]at hd
    have hd2:(48:Int)≤s[k].toNat∧(s[k].toNat:Int)≤57:=by simpa using hd
    obtain ⟨hd2,hd3⟩:=hd2
    clear hd
    go_wp2
    go_round
    case rel=>exact ⟨k+1,by omega,by go_num,fun j hj h2=>upto_succ HA.out HD.out j hj h2⟩
    case measure=>simp[intOf];omega
  ·go_wp2
   go_ret
   exact ⟨ret_int (by unfold digitRowT;rw[tw_all isDig s.toList (fun j hj=>by rw[toList_length]at hj;rw[get_toList s j hj];exact HA.out j (by omega) hj),toList_length];omega),rfl⟩
set_option maxHeartbeats 1000000 in
theorem letterRow_any(s:ByteArray)(hs:s.size≤400)(w:World) :
  Calls Tryz.prog 99 #[.string s] w fun e w'=>e=.returned (.int .i64 (letterRowT s.toList))∧w'=w:=by
 go_enter Tryz.func99,Tryz.ntmps99
 go_wp2
 go_loop [3] (fun i=>∃ k:Nat,k≤s.size∧i=.int .i64 k∧∀ j (hj:j<k) (h2:j<s.size),isLet s[j]=true) (fun i=>s.size-(intOf i).toNat)
 case atStart=>exact ⟨0,Nat.zero_le _,rfl,fun j hj=>by omega⟩
 case round =>
  obtain ⟨k,hk,rfl,hall⟩:=hrel
  have HA:Hid (∀ j (hj:j<k) (h2:j<s.size),isLet s[j]=true):=hall
  clear hall
  by_cases hlt:k<s.size
  ·cases hd:isLet s[k]
   ·have HD:Hid (isLet s[k]=false):=hd
    rw[isLet_int]at hd
    have hd2:((s[k].toNat:Int)<97)∨((97:Int)≤s[k].toNat∧(122:Int)<s[k].toNat):=by simp at hd;omega
    clear hd
    have fin:Ending.returned (.int .i64 (k:Int))=.returned (.int .i64 (letterRowT s.toList)):=ret_int (by
     have:=tw_snoc isLet s.toList k (by rw[toList_length];exact hlt) (fun j hj=>by rw[get_toList s j (by omega)];exact HA.out j hj (by omega)) (by rw[get_toList s k hlt];exact HD.out)
     unfold letterRowT;rw[this])
    rcases hd2 with hd2 | ⟨hd2,hd3⟩
    ·go_wp2
     go_ret
     exact ⟨fin,rfl⟩
    ·go_wp2
     go_ret
     exact ⟨fin,rfl⟩
   ·have HD:Hid (isLet s[k]=true):=hd
    rw[isLet_int]at hd
    have hd2:(97:Int)≤s[k].toNat∧(s[k].toNat:Int)≤122:=by simpa using hd
    obtain ⟨hd2,hd3⟩:=hd2
    clear hd
    go_wp2
    go_round
    case rel=>exact ⟨k+1,by omega,by go_num,fun j hj h2=>upto_succ HA.out HD.out j hj h2⟩
    case measure=>simp[intOf];omega
  ·go_wp2
   go_ret
   exact ⟨ret_int (by unfold letterRowT;rw[tw_all isLet s.toList (fun j hj=>by rw[toList_length]at hj;rw[get_toList s j hj];exact HA.out j (by omega) hj),toList_length];omega),rfl⟩
theorem wordGo_drop(t:Txt)(k:Nat)(h:k<tWords.length):wordGo (tWords.drop k) k t=if tWords[k]==t then 3+k else wordGo (tWords.drop (k+1)) (k+1) t:=by
 rw[List.drop_eq_getElem_cons h];rfl
set_option maxHeartbeats 1000000 in
theorem wordKind_any(s:ByteArray)(w:World)(hg:GlobT w) :
  Calls Tryz.prog 100 #[.string s] w fun e w'=>e=.returned (.int .i64 (wordKindT s.toList))∧w'=w:=by
 have HG:Hid (GlobT w):=hg
 clear hg
 go_enter Tryz.func100,Tryz.ntmps100
 go_wp2
 go_loop [3] (fun i=>∃ k:Nat,k≤19∧i=.int .i64 k∧wordKindT s.toList=wordGo (tWords.drop k) k s.toList) (fun i=>19-(intOf i).toNat)
 case atStart=>exact ⟨0,Nat.zero_le _,rfl,rfl⟩
 case round =>
  obtain ⟨k,hk,rfl,hgo⟩:=hrel
  have HGO:Hid (wordKindT s.toList=wordGo (tWords.drop k) k s.toList):=hgo
  clear hgo
  by_cases hlt:k<19
  ·have hc:=HG.out.words k hlt
   have HD:Hid (wordKindT s.toList=if tWords[k]'hlt==s.toList then 3+k else wordGo (tWords.drop (k+1)) (k+1) s.toList):=(by rw[HGO.out,wordGo_drop _ k hlt]:_=_)
   obtain ⟨d,hd⟩:∃ d,d=bsOf (tWords[k]'hlt):=⟨_,rfl⟩
   rw[← hd]at hc
   have HDT:Hid (tWords[k]'hlt=d.toList):=(by rw[hd,bsOf_toList]:tWords[k]'hlt=d.toList)
   clear hd
   cases heq:(d.toList==s.toList)
   ·go_wp2
    go_round
    case rel=>exact ⟨k+1,by omega,by go_num,by rw[HD.out,HDT.out,heq];simp⟩
    case measure=>simp[intOf];omega
   ·go_wp2
    go_ret
    exact ⟨ret_int (by rw[HD.out,HDT.out,heq];simp),rfl⟩
  ·go_wp2
   go_ret
   exact ⟨ret_int (by rw[HGO.out,List.drop_eq_nil_of_le (by show 19≤k;omega)];rfl),rfl⟩
theorem signGo_drop(t:Txt)(i k n:Nat)(h:i<tSign.length):signGo (tSign.drop i) i k n t=if n<(tSign[i]).length∧(tSign[i]).length≤t.length∧(t.take (tSign[i]).length==tSign[i])=true then signGo (tSign.drop (i+1)) (i+1) (22+i) (tSign[i]).length t else signGo (tSign.drop (i+1)) (i+1) k n t:=by
 rw[List.drop_eq_getElem_cons h];rfl
theorem tSign_len:∀ i (h:i<12),(tSign[i]'h).length≤2∧1≤(tSign[i]'h).length:=by decide
set_option maxHeartbeats 1000000 in
theorem firstSign_any(s:ByteArray)(hs:s.size≤400)(w:World)(hg:GlobT w) :
  Calls Tryz.prog 101 #[.string s] w fun e w'=>e=.returned (.tuple #[.int .i64 (firstSignT s.toList).1,.int .i64 (firstSignT s.toList).2])∧Below w.heap.size w w':=by
 have HG:Hid (GlobT w):=hg
 clear hg
 go_enter Tryz.func101,Tryz.ntmps101
 go_wp2
 go_loopw [4,5,6] (fun vk vn vi wr=>∃ i k n:Nat,i≤12∧vi=.int .i64 i∧vk=.int .i64 k∧vn=.int .i64 n∧n≤2∧Below w.heap.size w wr∧firstSignT s.toList=signGo (tSign.drop i) i k n s.toList) (fun _ _ i _=>12-(intOf i).toNat)
 case atStart=>exact ⟨0,0,0,Nat.zero_le _,rfl,rfl,rfl,by omega,Below.refl _ _,rfl⟩
 case round =>
  obtain ⟨i,k,n,hi,rfl,rfl,rfl,hn,hbel,hgo⟩:=hrel
  have HGO:Hid (firstSignT s.toList=signGo (tSign.drop i) i k n s.toList):=hgo
  clear hgo
  by_cases hlt:i<12
  ·have hc:=(HG.out.below hbel).signs i hlt
   have hl:=tSign_len i hlt
   have HD:Hid (firstSignT s.toList=if n<(tSign[i]'hlt).length∧(tSign[i]'hlt).length≤s.toList.length∧(s.toList.take (tSign[i]'hlt).length==tSign[i]'hlt)=true then signGo (tSign.drop (i+1)) (i+1) (22+i) (tSign[i]'hlt).length s.toList else signGo (tSign.drop (i+1)) (i+1) k n s.toList):=(by rw[HGO.out,signGo_drop _ i k n hlt]:_=_)
   obtain ⟨d,hd⟩:∃ d,d=bsOf (tSign[i]'hlt):=⟨_,rfl⟩
   have hdl:(tSign[i]'hlt).length=d.size:=by rw[hd,bsOf_size]
   rw[← hd]at hc
   rw[hdl]at hl
   have HDT:Hid (tSign[i]'hlt=d.toList):=(by rw[hd,bsOf_toList]:tSign[i]'hlt=d.toList)
   have HDL:Hid ((tSign[i]'hlt).length=d.size):=hdl
   obtain ⟨hl1,hl2⟩:=hl
   clear hd hdl
   by_cases h1:n<d.size
   ·by_cases h2:d.size≤s.size
    ·have h1':decide ((n:Int)<(d.size:Int))=true:=by simp;omega
     have h2':decide ((d.size:Int)≤(s.size:Int))=true:=by simp;omega
     have hex:=extract_bsOf s 0 d.size
     have HX:Hid ((s.extract 0 d.size).toList=s.toList.take d.size):=(by rw[hex,bsOf_toList];simp:(s.extract 0 d.size).toList=s.toList.take d.size)
     clear hex
     cases heq:((s.extract 0 d.size).toList==d.toList)
     ·have h_HNO:firstSignT s.toList=signGo (tSign.drop (i+1)) (i+1) k n s.toList:=by rw[HD.out,if_neg];rintro ⟨_,_,h3⟩;rw[HDL.out,HDT.out,← HX.out,heq]at h3;cases h3
      have HNO:Hid (firstSignT s.toList=signGo (tSign.drop (i+1)) (i+1) k n s.toList):=h_HNO
      clear h_HNO
      go_wp2
      go_quiet (fail)
      go_wp2
      go_roundw
      case rel=>exact ⟨i+1,k,n,by omega,by go_num,rfl,rfl,hn,below_drewN hbel _,HNO.out⟩
      case measure=>simp[intOf];omega
     ·have h_HYES:firstSignT s.toList=signGo (tSign.drop (i+1)) (i+1) (22+i) d.size s.toList:=by rw[HD.out,if_pos ⟨by rw[HDL.out];exact h1,by rw[HDL.out,toList_length];exact h2,by rw[HDL.out,HDT.out,← HX.out];exact heq⟩,HDL.out]
      have HYES:Hid (firstSignT s.toList=signGo (tSign.drop (i+1)) (i+1) (22+i) d.size s.toList):=h_HYES
      clear h_HYES
      go_wp2
      go_quiet (fail)
      go_wp2
      go_roundw
      case rel=>exact ⟨i+1,22+i,d.size,by omega,by go_num,by go_num,rfl,by omega,below_drewN hbel _,HYES.out⟩
      case measure=>simp[intOf];omega
    ·have h_HNO:firstSignT s.toList=signGo (tSign.drop (i+1)) (i+1) k n s.toList:=by rw[HD.out,if_neg];rintro ⟨_,h3,_⟩;rw[HDL.out,toList_length]at h3;exact h2 h3
     have HNO:Hid (firstSignT s.toList=signGo (tSign.drop (i+1)) (i+1) k n s.toList):=h_HNO
     clear h_HNO
     have h1':decide ((n:Int)<(d.size:Int))=true:=by simp;omega
     have h2':decide ((d.size:Int)≤(s.size:Int))=false:=by simp;omega
     go_wp2
     go_quiet (fail)
     go_wp2
     go_roundw
     case rel=>exact ⟨i+1,k,n,by omega,by go_num,rfl,rfl,hn,below_drewN hbel _,HNO.out⟩
     case measure=>simp[intOf];omega
   ·have h_HNO:firstSignT s.toList=signGo (tSign.drop (i+1)) (i+1) k n s.toList:=by rw[HD.out,if_neg];rintro ⟨h3,_,_⟩;rw[HDL.out]at h3;exact h1 h3
    have HNO:Hid (firstSignT s.toList=signGo (tSign.drop (i+1)) (i+1) k n s.toList):=h_HNO
    clear h_HNO
    have h1':decide ((n:Int)<(d.size:Int))=false:=by simp;omega
    go_wp2
    go_quiet (fail)
    go_wp2
    go_roundw
    case rel=>exact ⟨i+1,k,n,by omega,by go_num,rfl,rfl,hn,below_drewN hbel _,HNO.out⟩
    case measure=>simp[intOf];omega
  ·have HE:Hid (firstSignT s.toList=(k,n)):=(by rw[HGO.out,List.drop_eq_nil_of_le (by show 12≤i;omega)];rfl:_=_)
   go_wp2
   go_ret2
   exact ⟨by rw[HE.out];rfl,hbel⟩
end Go.Proofs.YtpcjadaeolkngaaGreatDoor
