/-
  Two and One of the program, Joined and sign of the document: each operator by its number.
-/
import Derived.Test.YtldfkcpbjooemaaGreatDoorG14
import Derived.Test.YtldfkcpbjooemaaGreatDoorG07
import Derived.Test.YtldfkcpbjooemaaGreatDoorG12
import Derived.Test.YtldfkcpbjooemaaGreatDoorG08
import Derived.Lib.ConvBytes
import Derived.Lib.Atoi
import Derived.Lib.Strings
import Derived.Lib.AtoiErrMem
import Derived.Lib.Hide
import Derived.Lib.Walk
import Derived.Lib.ItoaWalk
import Derived.Laws.Strings3
import Derived.BigGuard
set_option linter.unusedVariables false
set_option linter.unusedSimpArgs false
namespace Go.Proofs.YtldfkcpbjooemaaGreatDoor
open Go.RowKit
theorem bitN_lt (a b:Int):(joinN 9 a b)=(bitN (decide (a < b)),0):=rfl
theorem bitN_le (a b:Int):(joinN 10 a b)=(bitN (decide (a≤b)),0):=rfl
theorem bitN_eq (a b:Int):(joinN 11 a b)=(bitN (decide (a=b)),0):=rfl
theorem bitN_ne (a b:Int):(joinN 12 a b)=(bitN (decide (a≠b)),0):=rfl
theorem beq_dec (a b:Int):(a==b)=decide (a=b):=by by_cases h:a=b <;> simp[h]
theorem bne_dec (a b:Int):(a != b)=decide (a≠b):=by by_cases h:a=b <;> simp[h]
set_option maxHeartbeats 400000 in
theorem compared_any (c:Nat) (hc:c=9∨c=10∨c=11∨c=12) (a b:Int) (w:World) :
  Calls Tryz.prog 174 #[.int .i64 c,.int .i64 a,.int .i64 b] w fun e w'=>e=.returned (.int .i64 (joinN c a b).1)∧w'=w:=by
 rcases hc with rfl | rfl | rfl | rfl
 ·rw[bitN_lt]
  go_enter Tryz.func174,Tryz.ntmps174
  go_wp2_with (go_at_call 168;refine (truth_any _ _).mono ?_;rintro e w' ⟨rfl,rfl⟩)
  go_ret
  exact ⟨rfl,rfl⟩
 ·rw[bitN_le]
  go_enter Tryz.func174,Tryz.ntmps174
  go_wp2_with (go_at_call 168;refine (truth_any _ _).mono ?_;rintro e w' ⟨rfl,rfl⟩)
  go_ret
  exact ⟨rfl,rfl⟩
 ·rw[bitN_eq]
  go_enter Tryz.func174,Tryz.ntmps174
  go_wp2_with (go_at_call 168;refine (truth_any _ _).mono ?_;rintro e w' ⟨rfl,rfl⟩)
  go_ret
  exact ⟨ret_int (by rw[beq_dec]),rfl⟩
 ·rw[bitN_ne]
  go_enter Tryz.func174,Tryz.ntmps174
  go_wp2_with (go_at_call 168;refine (truth_any _ _).mono ?_;rintro e w' ⟨rfl,rfl⟩)
  go_ret
  exact ⟨ret_int (by rw[bne_dec]),rfl⟩
theorem join4 (a b:Int):joinN 4 a b=exact64 (a+b):=rfl
theorem join5 (a b:Int):joinN 5 a b=exact64 (a - b):=rfl
theorem join6 (a b:Int):joinN 6 a b=exact64 (a * b):=rfl
theorem join_cmp (c:Nat) (hc:c=9∨c=10∨c=11∨c=12) (a b:Int):(joinN c a b).2=0:=by rcases hc with rfl | rfl | rfl | rfl <;> rfl
set_option maxHeartbeats 1000000 in
theorem Two_any (c:Nat) (hc:4≤c∧c≤12) (a b:Int) (ha:In64 a) (hb:In64 b) (w:World) :
  Calls Tryz.prog 149 #[.int .i64 c,.int .i64 a,.int .i64 b] w fun e w'=>e=.returned (.tuple #[.int .i64 (joinN c a b).1,.int .i64 (joinN c a b).2])∧w'=w:=by
 have HA:Hid (In64 a):=ha
 have HB:Hid (In64 b):=hb
 clear ha hb
 have hk:c=4∨c=5∨c=6∨c=7∨c=8∨(c=9∨c=10∨c=11∨c=12):=by omega
 clear hc
 rcases hk with rfl | rfl | rfl | rfl | rfl | hk
 ·rw[join4]
  go_enter Tryz.func149,Tryz.ntmps149
  go_wp2_with (go_at_call 169;refine (psum_any a b HA.out HB.out _).mono ?_;rintro e w' ⟨rfl,rfl⟩)
  go_ret2
  exact ⟨ret_two rfl rfl,rfl⟩
 ·rw[join5]
  go_enter Tryz.func149,Tryz.ntmps149
  go_wp2_with (go_at_call 170;refine (pdiff_any a b HA.out HB.out _).mono ?_;rintro e w' ⟨rfl,rfl⟩)
  go_ret2
  exact ⟨ret_two rfl rfl,rfl⟩
 ·rw[join6]
  go_enter Tryz.func149,Tryz.ntmps149
  go_wp2_with (go_at_call 171;refine (pproduct_any a b HA.out HB.out _).mono ?_;rintro e w' ⟨rfl,rfl⟩)
  go_ret2
  exact ⟨ret_two rfl rfl,rfl⟩
 ·go_enter Tryz.func149,Tryz.ntmps149
  go_wp2_with (go_at_call 172;refine (quotient_any a b HA.out HB.out _).mono ?_;rintro e w' ⟨rfl,rfl⟩)
  go_ret2
  exact ⟨ret_two rfl rfl,rfl⟩
 ·go_enter Tryz.func149,Tryz.ntmps149
  go_wp2_with (go_at_call 173;refine (remainder_any a b HA.out HB.out _).mono ?_;rintro e w' ⟨rfl,rfl⟩)
  go_ret2
  exact ⟨ret_two rfl rfl,rfl⟩
 ·have HK:Hid (c=9∨c=10∨c=11∨c=12):=hk
  rw[join_cmp c hk]
  have e4:((c:Int)==4)=false:=by simp;omega
  have e5:((c:Int)==5)=false:=by simp;omega
  have e6:((c:Int)==6)=false:=by simp;omega
  have e7:((c:Int)==7)=false:=by simp;omega
  have e8:((c:Int)==8)=false:=by simp;omega
  obtain ⟨jv,hjv⟩:∃ jv,jv=(joinN c a b).1:=⟨_,rfl⟩
  have HJ:Hid ((joinN c a b).1=jv):=hjv.symm
  rw[← hjv]
  clear hk hjv
  go_enter Tryz.func149,Tryz.ntmps149
  go_wp2_with (go_at_call 174;refine (compared_any c HK.out a b _).mono ?_;rintro e w' ⟨rfl,rfl⟩;rw[HJ.out])
  go_ret2
  exact ⟨ret_two rfl rfl,rfl⟩
def oneN (c:Nat) (a:Int):Int × Nat:=if c=2 then negN a else (bitN (decide (a=0)),0)
set_option maxHeartbeats 400000 in
theorem One_any (c:Nat) (hc:c=2∨c=3) (a:Int) (ha:In64 a) (w:World) :
  Calls Tryz.prog 147 #[.int .i64 c,.int .i64 a] w fun e w'=>e=.returned (.tuple #[.int .i64 (oneN c a).1,.int .i64 (oneN c a).2])∧w'=w:=by
 have HA:Hid (In64 a):=ha
 clear ha
 rcases hc with rfl | rfl
 ·rw[show oneN 2 a=negN a from rfl]
  go_enter Tryz.func147,Tryz.ntmps147
  go_wp2_with (go_at_call 167;refine (negated_any a HA.out _).mono ?_;rintro e w' ⟨rfl,rfl⟩)
  go_ret2
  exact ⟨ret_two rfl rfl,rfl⟩
 ·rw[show oneN 3 a=(bitN (decide (a=0)),0) from rfl]
  go_enter Tryz.func147,Tryz.ntmps147
  go_wp2_with (go_at_call 168;refine (truth_any _ _).mono ?_;rintro e w' ⟨rfl,rfl⟩)
  go_ret2
  exact ⟨ret_two (by rw[beq_dec]) rfl,rfl⟩
def signS (c:Nat):ByteArray:=if c=4 then ⟨#[43]⟩ else if c=5 then ⟨#[45]⟩ else if c=6 then ⟨#[42]⟩ else if c=7 then ⟨#[47]⟩ else if c=8 then ⟨#[37]⟩ else if c=9 then ⟨#[60]⟩ else if c=10 then ⟨#[60,61]⟩ else if c=11 then ⟨#[61]⟩ else ⟨#[33,61]⟩
theorem rem_val (a b:Int) (ha:In64 a) (hb:In64 b) (h0:b≠0) (h1:¬ (a=-9223372036854775808∧b=-1)):wrap64 (a - wrap64 (b * wrap64 (a.tdiv b)))=a.tmod b:=by
 have h2:=tmod_in a b ha
 rw[wrap64_eq (tdiv_in a b ha hb h0 h1)]
 have e:b * a.tdiv b=a - a.tmod b:=by have:=rem_eq a b;omega
 rw[e,wrap64_eq h2.2]
 have e2:a - (a - a.tmod b)=a.tmod b:=by omega
 rw[e2]
 exact wrap64_eq h2.1
set_option maxHeartbeats 1000000 in
theorem Joined_any (c:Nat) (hc:4≤c∧c≤12) (a b:Int) (ha:In64 a) (hb:In64 b) (w:World) :
  Calls Tryz.prog 46 #[.string (signS c),.int .i64 a,.int .i64 b] w fun e w'=>e=.returned (.tuple #[.int .i64 (joinN c a b).1,.int .i64 (joinN c a b).2])∧w'=w:=by
 have HA:Hid (In64 a):=ha
 have HB:Hid (In64 b):=hb
 obtain ⟨ha1,ha2⟩:=ha
 obtain ⟨hb1,hb2⟩:=hb
 have hk:c=4∨c=5∨c=6∨c=7∨c=8∨c=9∨c=10∨c=11∨c=12:=by omega
 clear hc
 rcases hk with rfl | rfl | rfl | rfl | rfl | rfl | rfl | rfl | rfl
 ·rw[join4,show signS 4=⟨#[43]⟩ from rfl]
  by_cases hi:In64 (a+b)
  ·have HI:=hi
   rw[exact_in hi]
   have HE:Hid (exact64 (a+b)=(a+b,0)):=exact_in hi
   clear hi HI
   go_enter Tryz.func46,Tryz.ntmps46
   go_wp2_with (go_at_call 84;refine (rsum_any a b HA.out HB.out _).mono ?_;rintro e w' ⟨rfl,rfl⟩;rw[HE.out])
   go_ret2
   exact ⟨ret_two rfl rfl,rfl⟩
  ·rw[exact_out hi]
   have HE:Hid (exact64 (a+b)=(0,1)):=exact_out hi
   clear hi
   go_enter Tryz.func46,Tryz.ntmps46
   go_wp2_with (go_at_call 84;refine (rsum_any a b HA.out HB.out _).mono ?_;rintro e w' ⟨rfl,rfl⟩;rw[HE.out])
   go_ret2
   exact ⟨ret_two rfl rfl,rfl⟩
 ·rw[join5,show signS 5=⟨#[45]⟩ from rfl]
  by_cases hi:In64 (a - b)
  ·rw[exact_in hi]
   have HE:Hid (exact64 (a - b)=(a - b,0)):=exact_in hi
   clear hi
   go_enter Tryz.func46,Tryz.ntmps46
   go_wp2_with (go_at_call 85;refine (rless_any a b HA.out HB.out _).mono ?_;rintro e w' ⟨rfl,rfl⟩;rw[HE.out])
   go_ret2
   exact ⟨ret_two rfl rfl,rfl⟩
  ·rw[exact_out hi]
   have HE:Hid (exact64 (a - b)=(0,1)):=exact_out hi
   clear hi
   go_enter Tryz.func46,Tryz.ntmps46
   go_wp2_with (go_at_call 85;refine (rless_any a b HA.out HB.out _).mono ?_;rintro e w' ⟨rfl,rfl⟩;rw[HE.out])
   go_ret2
   exact ⟨ret_two rfl rfl,rfl⟩
 ·rw[join6,show signS 6=⟨#[42]⟩ from rfl]
  by_cases hi:In64 (a * b)
  ·rw[exact_in hi]
   have HE:Hid (exact64 (a * b)=(a * b,0)):=exact_in hi
   clear hi
   go_enter Tryz.func46,Tryz.ntmps46
   go_wp2_with (go_at_call 86;refine (rproduct_any a b HA.out HB.out _).mono ?_;rintro e w' ⟨rfl,rfl⟩;rw[HE.out])
   go_ret2
   exact ⟨ret_two rfl rfl,rfl⟩
  ·rw[exact_out hi]
   have HE:Hid (exact64 (a * b)=(0,1)):=exact_out hi
   clear hi
   go_enter Tryz.func46,Tryz.ntmps46
   go_wp2_with (go_at_call 86;refine (rproduct_any a b HA.out HB.out _).mono ?_;rintro e w' ⟨rfl,rfl⟩;rw[HE.out])
   go_ret2
   exact ⟨ret_two rfl rfl,rfl⟩
 ·rw[join7 a b HA.out HB.out,show signS 7=⟨#[47]⟩ from rfl]
  have hdf:divFault a b=if b=0 then 2 else if a=-9223372036854775808∧b=-1 then 1 else 0:=rfl
  by_cases h0:b=0
  ·rw[if_pos h0] at hdf
   rw[if_neg (by omega),hdf]
   subst h0
   clear hdf
   go_enter Tryz.func46,Tryz.ntmps46
   go_wp2
   go_ret2
   exact ⟨ret_two rfl rfl,rfl⟩
  have eb:(b==0)=false:=by simpa using h0
  by_cases h1:a=-9223372036854775808∧b=-1
  ·rw[if_neg h0,if_pos h1] at hdf
   rw[if_neg (by omega),hdf]
   obtain ⟨rfl,rfl⟩:=h1
   clear hdf
   go_enter Tryz.func46,Tryz.ntmps46
   go_wp2
   go_ret2
   exact ⟨ret_two rfl rfl,rfl⟩
  ·rw[if_neg h0,if_neg h1] at hdf
   rw[if_pos hdf]
   have HV:=Hid.mk2 (wrap64_eq (tdiv_in a b HA.out HB.out h0 h1))
   have hcs:(a==-9223372036854775808)=false∨((a==-9223372036854775808)=true∧(b==-1)=false):=by
    by_cases h2:a=-9223372036854775808
    ·exact .inr ⟨by simpa using h2,by simp;exact fun h3=>h1 ⟨h2,h3⟩⟩
    ·exact .inl (by simpa using h2)
   clear hdf h1
   rcases hcs with h2 | ⟨h2,h3⟩
   all_goals
    go_enter Tryz.func46,Tryz.ntmps46
    go_wp2
    go_ret2
    exact ⟨ret_two HV.out rfl,rfl⟩
 ·rw[join8 a b,show signS 8=⟨#[37]⟩ from rfl]
  have hdf:divFault a b=if b=0 then 2 else if a=-9223372036854775808∧b=-1 then 1 else 0:=rfl
  by_cases h0:b=0
  ·rw[if_pos h0] at hdf
   rw[if_neg (by omega),hdf]
   subst h0
   clear hdf
   go_enter Tryz.func46,Tryz.ntmps46
   go_wp2
   go_ret2
   exact ⟨ret_two rfl rfl,rfl⟩
  have eb:(b==0)=false:=by simpa using h0
  by_cases h1:a=-9223372036854775808∧b=-1
  ·rw[if_neg h0,if_pos h1] at hdf
   rw[if_neg (by omega),hdf]
   obtain ⟨rfl,rfl⟩:=h1
   clear hdf
   go_enter Tryz.func46,Tryz.ntmps46
   go_wp2
   go_ret2
   exact ⟨ret_two rfl rfl,rfl⟩
  ·rw[if_neg h0,if_neg h1] at hdf
   rw[if_pos hdf]
   have HV:=Hid.mk2 (rem_val a b HA.out HB.out h0 h1)
   have hcs:(a==-9223372036854775808)=false∨((a==-9223372036854775808)=true∧(b==-1)=false):=by
    by_cases h2:a=-9223372036854775808
    ·exact .inr ⟨by simpa using h2,by simp;exact fun h3=>h1 ⟨h2,h3⟩⟩
    ·exact .inl (by simpa using h2)
   clear hdf h1
   rcases hcs with h2 | ⟨h2,h3⟩
   all_goals
    go_enter Tryz.func46,Tryz.ntmps46
    go_wp2
    go_ret2
    exact ⟨ret_two HV.out rfl,rfl⟩
 ·rw[bitN_lt,show signS 9=⟨#[60]⟩ from rfl]
  go_enter Tryz.func46,Tryz.ntmps46
  go_wp2_with (go_at_call 47;refine (bit_any _ _).mono ?_;rintro e w' ⟨rfl,rfl⟩)
  go_ret2
  exact ⟨ret_two rfl rfl,rfl⟩
 ·rw[bitN_le,show signS 10=⟨#[60,61]⟩ from rfl]
  go_enter Tryz.func46,Tryz.ntmps46
  go_wp2_with (go_at_call 47;refine (bit_any _ _).mono ?_;rintro e w' ⟨rfl,rfl⟩)
  go_ret2
  exact ⟨ret_two rfl rfl,rfl⟩
 ·rw[bitN_eq,show signS 11=⟨#[61]⟩ from rfl]
  go_enter Tryz.func46,Tryz.ntmps46
  go_wp2_with (go_at_call 47;refine (bit_any _ _).mono ?_;rintro e w' ⟨rfl,rfl⟩)
  go_ret2
  exact ⟨ret_two (by rw[beq_dec]) rfl,rfl⟩
 ·rw[bitN_ne,show signS 12=⟨#[33,61]⟩ from rfl]
  go_enter Tryz.func46,Tryz.ntmps46
  go_wp2_with (go_at_call 47;refine (bit_any _ _).mono ?_;rintro e w' ⟨rfl,rfl⟩)
  go_ret2
  exact ⟨ret_two (by rw[bne_dec]) rfl,rfl⟩
end Go.Proofs.YtldfkcpbjooemaaGreatDoor
namespace Go.Proofs.YtldfkcpbjooemaaGreatDoor
open Go.RowKit
def opK (k ops:Nat):Nat :=
 if k=9 then 3 else if k=28 then (if ops=1 then 2 else 5) else if k=27 then 4 else if k=29 then 6 else if k=30 then 7 else if k=31 then 8 else if k=25 then 9 else if k=26 then 10 else if k=23 then 11 else 12
def isChK (k:Nat):Bool:=decide (k=7)||decide (k=8)
def decK (k:Nat):Int:=if k=8 then 1 else 0
def leaK (k:Nat):Nat:=if k=8 then 15 else 14
abbrev Fact:=Option Int
def atF (fs:List Fact) (i:Int):Fact:=if i < 0 then none else fs.getD i.toNat none
def meantI (ls:List PLet) (t:Txt):Int:=match ls[letIx ls t]? with
 | none=>-1
 | some p=>(p.val.behind:Int) - 1
def numT (t:Txt):Int:=t.foldl (fun n c=>n * 10+(c.toNat:Int) - 48) 0
def oneF (c:Nat):Fact→Fact
 | none=>none
 | some a=>if (oneN c a).2=0 then some (oneN c a).1 else none
def twoF (c:Nat):Fact→Fact→Fact
 | some a,some b=>if (joinN c a b).2=0 then some (joinN c a b).1 else none
 | _,_=>none
def choiceF (k:Nat):Fact→Fact→Fact
 | none,_=>none
 | some a,r=>if a=decK k then some a else r
def singleF (t:RTok):Fact :=
 if kindP t.text=1 then some (numT t.text) else if kindP t.text=10 then some 1 else if kindP t.text=11 then some 0 else if kindP t.text=12∨kindP t.text=13∨kindP t.text=14 then some ((kindP t.text:Int) - 12) else none
def factN (ls:List PLet) (fs:List Fact) (n:PNode):Fact :=
 if n.ops=1 then oneF (opK (kindP n.tok.text) n.ops) (atF fs n.left)
 else if isChK (kindP n.tok.text) then choiceF (kindP n.tok.text) (atF fs n.left) (atF fs n.right)
 else if n.ops=2 then twoF (opK (kindP n.tok.text) n.ops) (atF fs n.left) (atF fs n.right)
 else if kindP n.tok.text=2 then atF fs (meantI ls n.tok.text)
 else singleF n.tok
def factsG (ls:List PLet):List Fact→List PNode→List Fact
 | fs,[]=>fs
 | fs,n :: r=>factsG ls (fs++[factN ls fs n]) r
def factsP (ls:List PLet) (N:List PNode):List Fact:=factsG ls [] N
theorem factsG_length (ls:List PLet):∀ (N:List PNode) (fs:List Fact),(factsG ls fs N).length=fs.length+N.length
 | [],fs=>by simp[factsG]
 | n :: r,fs=>by rw[factsG,factsG_length ls r];simp;omega
theorem factsG_append (ls:List PLet):∀ (a b:List PNode) (fs:List Fact),factsG ls fs (a++b)=factsG ls (factsG ls fs a) b
 | [],b,fs=>rfl
 | n :: r,b,fs=>by rw[List.cons_append,factsG,factsG,factsG_append ls r]
def opC (k:Nat) (v:Int):List Nat:=k :: bytesN (v % 18446744073709551616).toNat (behindN k)
theorem opC_length (k:Nat) (v:Int):(opC k v).length=behindN k+1:=by simp[opC,bytesN_length]
def layH (below h:Nat):Nat:=if h < below+1 then below+1 else h
def codeH (fs:List Fact) (ls:List PLet) (N:List PNode):Nat→Nat→Int→Nat→Nat→List Nat × Nat
 | 0,_,_,_,h=>([],h)
 | f+1,b,i,below,h =>
  if i < 0∨(b:Int)≤i then ([],h) else
  match N[i.toNat]? with
  | none=>([],h)
  | some n =>
   match atF fs i with
   | some v=>(opC 0 v,layH below h)
   | none =>
    if n.ops=1 then ((codeH fs ls N f i.toNat n.left below h).1++opC (opK (kindP n.tok.text) n.ops) 0,(codeH fs ls N f i.toNat n.left below h).2)
    else if isChK (kindP n.tok.text) then
     ((codeH fs ls N f i.toNat n.left below h).1++opC (leaK (kindP n.tok.text)) (((codeH fs ls N f i.toNat n.right below (codeH fs ls N f i.toNat n.left below h).2).1.length+3:Nat):Int)++(codeH fs ls N f i.toNat n.right below (codeH fs ls N f i.toNat n.left below h).2).1++opC 13 9++opC 0 (decK (kindP n.tok.text)),
      layH below (codeH fs ls N f i.toNat n.right below (codeH fs ls N f i.toNat n.left below h).2).2)
    else if n.ops=2 then
     ((codeH fs ls N f i.toNat n.left below h).1++(codeH fs ls N f i.toNat n.right (below+1) (codeH fs ls N f i.toNat n.left below h).2).1++opC (opK (kindP n.tok.text) n.ops) 0,(codeH fs ls N f i.toNat n.right (below+1) (codeH fs ls N f i.toNat n.left below h).2).2)
    else if kindP n.tok.text=2 then codeH fs ls N f i.toNat (meantI ls n.tok.text) below h
    else (opC 1 ((kindP n.tok.text:Int) - 15),layH below h)
def exprH (fs:List Fact) (ls:List PLet) (N:List PNode) (e:PExp) (h:Nat):List Nat × Nat:=codeH fs ls N N.length N.length ((e.behind:Int) - 1) 0 h
def appliesF (fs:List Fact) (r:PRule):Nat:=if r.hw then (match atF fs ((r.when.behind:Int) - 1) with
 | none=>1
 | some v=>if v=0 then 0 else 2) else 2
def actH (fs:List Fact) (ls:List PLet) (N:List PNode) (r:PRule) (h:Nat):List Nat × Nat :=
 if r.hs then ((exprH fs ls N r.score h).1++opC 16 0,(exprH fs ls N r.score h).2) else (opC 17 0,h)
def guardH (fs:List Fact) (ls:List PLet) (N:List PNode) (r:PRule) (h:Nat):List Nat × Nat :=
 ((exprH fs ls N r.when h).1++opC 14 ((actH fs ls N r (exprH fs ls N r.when h).2).1.length:Int)++(actH fs ls N r (exprH fs ls N r.when h).2).1,(actH fs ls N r (exprH fs ls N r.when h).2).2)
def rulesH (fs:List Fact) (ls:List PLet) (N:List PNode):List PRule→List Nat→Nat→List Nat × Nat
 | [],c,h=>(c++opC 17 0,h)
 | r :: rs,c,h=>if appliesF fs r=2 then (c++(actH fs ls N r h).1,(actH fs ls N r h).2)
  else if appliesF fs r=1 then rulesH fs ls N rs (c++(guardH fs ls N r h).1) (guardH fs ls N r h).2
  else rulesH fs ls N rs c h
def imageC (N:List PNode) (ls:List PLet) (rs:List PRule):List Nat:=imgC ((rulesH (factsP ls N) ls N rs [] 0).2 % 256) (rulesH (factsP ls N) ls N rs [] 0).1
end Go.Proofs.YtldfkcpbjooemaaGreatDoor
namespace Go.Proofs.YtldfkcpbjooemaaGreatDoor
open Go.RowKit Go.Deep
def AtoiOk:Prop:=∀ (s:ByteArray) (w:World),1≤s.size→s.size≤18→(∀ c∈s.toList,isDig c=true)→Calls Tryz.prog 159 #[.string s] w fun e w'=>(∃ v2,e=.returned (.tuple #[.int .i64 (numT s.toList),v2]))∧Below w.heap.size w w'
def leafV (x:Itm) (y:Bn) (a:RTok):Int:=match singleF a with
 | some v=>v
 | none=>attrN (kindP a.text - 15:Nat) x y
theorem leaf2 (w:World) (x:Itm) (y:Bn):Below w.heap.size w ((w.alloc (.cells #[.int .i64 x.size,.int .i64 x.speed,.int .i64 x.need] 26)).alloc (.cells #[.int .i64 y.id,.int .i64 y.zone,.int .i64 y.cap,.int .i64 y.used,.int .i64 y.has] 28)) :=
 ((Below.refl _ w).alloc (Nat.le_refl _) _).alloc (by simp) _
set_option maxHeartbeats 1000000 in
set_option maxRecDepth 100000 in
theorem leaf_w0 (x:Itm) (y:Bn) (w:World):Calls Tryz.prog 131 #[.string { data:=#[116,114,117,101] },itmA x,bnA y] w fun e w'=>e=.returned (.int .i64 (1))∧Below w.heap.size w w':=by
 have HB:=Hid.mk2 (leaf2 w x y)
 unfold itmA bnA
 go_enter Tryz.func131,Tryz.ntmps131
 go_wp2_with (go_at_call 66;refine (isDigit_any 116 _).mono ?_;rintro e _ ⟨rfl,rfl⟩;rw[show isDig 116=false by decide])
 go_ret
 exact ⟨rfl,HB.out⟩
set_option maxHeartbeats 1000000 in
set_option maxRecDepth 100000 in
theorem leaf_w1 (x:Itm) (y:Bn) (w:World):Calls Tryz.prog 131 #[.string { data:=#[102,97,108,115,101] },itmA x,bnA y] w fun e w'=>e=.returned (.int .i64 (0))∧Below w.heap.size w w':=by
 have HB:=Hid.mk2 (leaf2 w x y)
 unfold itmA bnA
 go_enter Tryz.func131,Tryz.ntmps131
 go_wp2_with (go_at_call 66;refine (isDigit_any 102 _).mono ?_;rintro e _ ⟨rfl,rfl⟩;rw[show isDig 102=false by decide])
 go_ret
 exact ⟨rfl,HB.out⟩
set_option maxHeartbeats 1000000 in
set_option maxRecDepth 100000 in
theorem leaf_w2 (x:Itm) (y:Bn) (w:World):Calls Tryz.prog 131 #[.string { data:=#[100,114,121] },itmA x,bnA y] w fun e w'=>e=.returned (.int .i64 (0))∧Below w.heap.size w w':=by
 have HB:=Hid.mk2 (leaf2 w x y)
 unfold itmA bnA
 go_enter Tryz.func131,Tryz.ntmps131
 go_wp2_with (go_at_call 66;refine (isDigit_any 100 _).mono ?_;rintro e _ ⟨rfl,rfl⟩;rw[show isDig 100=false by decide])
 go_ret
 exact ⟨rfl,HB.out⟩
set_option maxHeartbeats 1000000 in
set_option maxRecDepth 100000 in
theorem leaf_w3 (x:Itm) (y:Bn) (w:World):Calls Tryz.prog 131 #[.string { data:=#[99,111,108,100] },itmA x,bnA y] w fun e w'=>e=.returned (.int .i64 (1))∧Below w.heap.size w w':=by
 have HB:=Hid.mk2 (leaf2 w x y)
 unfold itmA bnA
 go_enter Tryz.func131,Tryz.ntmps131
 go_wp2_with (go_at_call 66;refine (isDigit_any 99 _).mono ?_;rintro e _ ⟨rfl,rfl⟩;rw[show isDig 99=false by decide])
 go_ret
 exact ⟨rfl,HB.out⟩
set_option maxHeartbeats 1000000 in
set_option maxRecDepth 100000 in
theorem leaf_w4 (x:Itm) (y:Bn) (w:World):Calls Tryz.prog 131 #[.string { data:=#[115,97,102,101] },itmA x,bnA y] w fun e w'=>e=.returned (.int .i64 (2))∧Below w.heap.size w w':=by
 have HB:=Hid.mk2 (leaf2 w x y)
 unfold itmA bnA
 go_enter Tryz.func131,Tryz.ntmps131
 go_wp2_with (go_at_call 66;refine (isDigit_any 115 _).mono ?_;rintro e _ ⟨rfl,rfl⟩;rw[show isDig 115=false by decide])
 go_ret
 exact ⟨rfl,HB.out⟩
set_option maxHeartbeats 1000000 in
set_option maxRecDepth 100000 in
theorem leaf_w5 (x:Itm) (y:Bn) (w:World):Calls Tryz.prog 131 #[.string { data:=#[115,105,122,101] },itmA x,bnA y] w fun e w'=>e=.returned (.int .i64 (x.size))∧Below w.heap.size w w':=by
 have HB:=Hid.mk2 (leaf2 w x y)
 unfold itmA bnA
 go_enter Tryz.func131,Tryz.ntmps131
 go_wp2_with (go_at_call 66;refine (isDigit_any 115 _).mono ?_;rintro e _ ⟨rfl,rfl⟩;rw[show isDig 115=false by decide])
 go_ret
 exact ⟨rfl,HB.out⟩
set_option maxHeartbeats 1000000 in
set_option maxRecDepth 100000 in
theorem leaf_w6 (x:Itm) (y:Bn) (w:World):Calls Tryz.prog 131 #[.string { data:=#[115,112,101,101,100] },itmA x,bnA y] w fun e w'=>e=.returned (.int .i64 (x.speed))∧Below w.heap.size w w':=by
 have HB:=Hid.mk2 (leaf2 w x y)
 unfold itmA bnA
 go_enter Tryz.func131,Tryz.ntmps131
 go_wp2_with (go_at_call 66;refine (isDigit_any 115 _).mono ?_;rintro e _ ⟨rfl,rfl⟩;rw[show isDig 115=false by decide])
 go_ret
 exact ⟨rfl,HB.out⟩
set_option maxHeartbeats 1000000 in
set_option maxRecDepth 100000 in
theorem leaf_w7 (x:Itm) (y:Bn) (w:World):Calls Tryz.prog 131 #[.string { data:=#[110,101,101,100] },itmA x,bnA y] w fun e w'=>e=.returned (.int .i64 (x.need))∧Below w.heap.size w w':=by
 have HB:=Hid.mk2 (leaf2 w x y)
 unfold itmA bnA
 go_enter Tryz.func131,Tryz.ntmps131
 go_wp2_with (go_at_call 66;refine (isDigit_any 110 _).mono ?_;rintro e _ ⟨rfl,rfl⟩;rw[show isDig 110=false by decide])
 go_ret
 exact ⟨rfl,HB.out⟩
set_option maxHeartbeats 1000000 in
set_option maxRecDepth 100000 in
theorem leaf_w8 (x:Itm) (y:Bn) (w:World):Calls Tryz.prog 131 #[.string { data:=#[122,111,110,101] },itmA x,bnA y] w fun e w'=>e=.returned (.int .i64 (y.zone))∧Below w.heap.size w w':=by
 have HB:=Hid.mk2 (leaf2 w x y)
 unfold itmA bnA
 go_enter Tryz.func131,Tryz.ntmps131
 go_wp2_with (go_at_call 66;refine (isDigit_any 122 _).mono ?_;rintro e _ ⟨rfl,rfl⟩;rw[show isDig 122=false by decide])
 go_ret
 exact ⟨rfl,HB.out⟩
set_option maxHeartbeats 1000000 in
set_option maxRecDepth 100000 in
theorem leaf_w9 (x:Itm) (y:Bn) (w:World):Calls Tryz.prog 131 #[.string { data:=#[99,97,112] },itmA x,bnA y] w fun e w'=>e=.returned (.int .i64 (y.cap))∧Below w.heap.size w w':=by
 have HB:=Hid.mk2 (leaf2 w x y)
 unfold itmA bnA
 go_enter Tryz.func131,Tryz.ntmps131
 go_wp2_with (go_at_call 66;refine (isDigit_any 99 _).mono ?_;rintro e _ ⟨rfl,rfl⟩;rw[show isDig 99=false by decide])
 go_ret
 exact ⟨rfl,HB.out⟩
set_option maxHeartbeats 1000000 in
set_option maxRecDepth 100000 in
theorem leaf_w10 (x:Itm) (y:Bn) (w:World):Calls Tryz.prog 131 #[.string { data:=#[117,115,101,100] },itmA x,bnA y] w fun e w'=>e=.returned (.int .i64 (y.used))∧Below w.heap.size w w':=by
 have HB:=Hid.mk2 (leaf2 w x y)
 unfold itmA bnA
 go_enter Tryz.func131,Tryz.ntmps131
 go_wp2_with (go_at_call 66;refine (isDigit_any 117 _).mono ?_;rintro e _ ⟨rfl,rfl⟩;rw[show isDig 117=false by decide])
 go_ret
 exact ⟨rfl,HB.out⟩
set_option maxHeartbeats 1000000 in
set_option maxRecDepth 100000 in
theorem leaf_w11 (x:Itm) (y:Bn) (w:World):Calls Tryz.prog 131 #[.string { data:=#[104,97,115] },itmA x,bnA y] w fun e w'=>e=.returned (.int .i64 (y.has))∧Below w.heap.size w w':=by
 have HB:=Hid.mk2 (leaf2 w x y)
 unfold itmA bnA
 go_enter Tryz.func131,Tryz.ntmps131
 go_wp2_with (go_at_call 66;refine (isDigit_any 104 _).mono ?_;rintro e _ ⟨rfl,rfl⟩;rw[show isDig 104=false by decide])
 go_ret
 exact ⟨rfl,HB.out⟩
theorem dig_ne {s:ByteArray} (h1:1≤s.size) (hd:∀ c∈s.toList,isDig c=true) {u:Txt} (hu:isDig (headC u)=false):(s.toList==u)=false:=by
 cases hb:(s.toList==u) with
 | false=>rfl
 | true =>
  have e:=beq_iff_eq.1 hb
  have hl:0 < s.toList.length:=by rw[toList_length];omega
  cases u with
  | nil=>rw[e] at hl;simp at hl
  | cons c r =>
   have:isDig c=true:=hd c (by rw[e];simp)
   rw[show headC (c :: r)=c from rfl,this] at hu
   cases hu
set_option maxHeartbeats 1000000 in
set_option maxRecDepth 100000 in
theorem leaf_dig (hAt:AtoiOk) (s:ByteArray) (h1:1≤s.size) (h18:s.size≤18) (hd:∀ c∈s.toList,isDig c=true) (x:Itm) (y:Bn) (w:World):Calls Tryz.prog 131 #[.string s,itmA x,bnA y] w fun e w'=>e=.returned (.int .i64 (numT s.toList))∧Below w.heap.size w w':=by
 have HB:=Hid.mk2 (leaf2 w x y)
 have HAT:=Hid.mk2 hAt
 have HD:=Hid.mk2 hd
 have HDG:Hid (isDig s[0]=true):=HD.out _ (by rw[List.mem_iff_getElem?];exact ⟨0,getElem_toList s 0 (by omega)⟩)
 have q0:(s.toList==[116,114,117,101])=false:=dig_ne h1 hd (by decide)
 have q1:(s.toList==[99,111,108,100])=false:=dig_ne h1 hd (by decide)
 have q2:(s.toList==[115,97,102,101])=false:=dig_ne h1 hd (by decide)
 have q3:(s.toList==[115,105,122,101])=false:=dig_ne h1 hd (by decide)
 have q4:(s.toList==[115,112,101,101,100])=false:=dig_ne h1 hd (by decide)
 have q5:(s.toList==[110,101,101,100])=false:=dig_ne h1 hd (by decide)
 have q6:(s.toList==[122,111,110,101])=false:=dig_ne h1 hd (by decide)
 have q7:(s.toList==[99,97,112])=false:=dig_ne h1 hd (by decide)
 have q8:(s.toList==[117,115,101,100])=false:=dig_ne h1 hd (by decide)
 have q9:(s.toList==[104,97,115])=false:=dig_ne h1 hd (by decide)
 clear hAt hd
 unfold itmA bnA
 go_enter Tryz.func131,Tryz.ntmps131
 go_wp2_with (first
  | (go_at_call 66;refine (isDigit_any s[0] _).mono ?_;rintro e _ ⟨rfl,rfl⟩;rw[HDG.out])
  | (go_at_call 159;refine (HAT.out s _ h1 h18 HD.out).mono ?_;rintro e w1 ⟨⟨v2,rfl⟩,hb1⟩;have HB1:=Hid.mk2 (im_step2 HB.out hb1);clear hb1))
 go_ret
 exact ⟨rfl,HB1.out⟩
end Go.Proofs.YtldfkcpbjooemaaGreatDoor
namespace Go.Proofs.YtldfkcpbjooemaaGreatDoor
open Go.RowKit Go.Deep
theorem dig_val {c:UInt8} (h:isDig c=true):Lib.digitVal c=some (c.toNat - 48)∧48≤c.toNat∧c.toNat≤57:=by
 unfold isDig at h
 simp only[Bool.and_eq_true,decide_eq_true_eq] at h
 have h1:48≤c.toNat:=UInt8.le_iff_toNat_le.1 h.1
 have h2:c.toNat≤57:=UInt8.le_iff_toNat_le.1 h.2
 exact ⟨by unfold Lib.digitVal;rw[if_pos ⟨h1,h2⟩],h1,h2⟩
theorem dec_num:∀ (l:List UInt8) (acc:Nat),(∀ c∈l,isDig c=true)→∃ m:Nat,Lib.decFrom acc l=some m∧l.foldl (fun (n:Int) c=>n * 10+(c.toNat:Int) - 48) (acc:Int)=(m:Int)
 | [],acc,_=>⟨acc,rfl,rfl⟩
 | c :: r,acc,h=>by
  obtain ⟨d1,d2,d3⟩:=dig_val (h c (by simp))
  obtain ⟨m,h1,h2⟩:=dec_num r (acc * 10+(c.toNat - 48)) (fun a ha=>h a (by simp[ha]))
  refine ⟨m,by simp only[Lib.decFrom,d1];exact h1, ?_⟩
  rw[List.foldl_cons,← h2]
  congr 1
  omega
set_option maxHeartbeats 6400000 in
set_option maxRecDepth 100000 in
theorem atoi_in (s:ByteArray) (h1:1≤s.size) (h18:s.size≤18) (hd:∀ c∈s.toList,isDig c=true) (w:World) :
  Calls Tryz.prog 178 #[.string s] w fun e w'=>e=.returned (.tuple #[.int .i64 (numT s.toList),.nilIface])∧Below w.heap.size w w':=by
 obtain ⟨m,hm,hnum⟩:=dec_num s.toList 0 hd
 have hnum':numT s.toList=(m:Int):=hnum
 rw[hnum']
 have hpos:0 < s.size:=by omega
 have hmem:isDig (s[0]'hpos)=true:=hd _ (by rw[List.mem_iff_getElem?];exact ⟨0,getElem_toList s 0 hpos⟩)
 obtain ⟨b0,hs0⟩:∃ b0,s[0]'hpos=b0:=⟨_,rfl⟩
 rw[hs0] at hmem
 obtain ⟨_,g1,g2⟩:=dig_val hmem
 have h45:((b0.toNat:Int)==45)=false:=beq_eq_false_iff_ne.2 (by omega)
 have h43:((b0.toNat:Int)==43)=false:=beq_eq_false_iff_ne.2 (by omega)
 have hcv:=Lib.run_convert_string_bytes (P:=Tryz.prog) w 9 179 5 s (u:=.string) Tryz.underlying9 Tryz.underlying179 Tryz.underlying5
 have hdl:s.data.toList=s.toList:=(ByteArray.toList_eq s).symm
 have hB:∀ j,j < s.size→(Lib.bytesWorld w 5 s).cell? ⟨w.heap.size,j,none⟩=some (.int .u8 (s.data.toList.getD j 0).toNat):=fun j hj=>Lib.bytesWorld_cell w 5 s j hj
 have HW:Hid (Below w.heap.size w (Lib.bytesWorld w 5 s)):=Lib.bytesWorld_below _ _ _
 generalize Lib.bytesWorld w 5 s=W1 at hcv hB HW
 rw[← hdl] at hm
 have HB:=Hid.mk2 hB
 have hm18:=Lib.decFrom_lt18 hm (by rw[← Lib.size_eq];omega)
 have HM:=Hid.mk2 hm
 clear hB hm hd hnum hnum' hmem g1 g2 hdl
 go_enter Tryz.func178,Tryz.ntmps178
 go_wp2
 go_loop [49,6] (fun vi vn=>∃ (k acc:Nat),k≤s.size∧vi=.int .i64 k∧vn=.int .i64 acc∧Hid (Lib.decFrom 0 (s.data.toList.take k)=some acc)) (fun vi _=>s.size - (RowKit.intOf vi).toNat)
 case atStart=>exact ⟨0,0,Nat.zero_le _,rfl,rfl,rfl⟩
 case round =>
  obtain ⟨k,acc,hk,rfl,rfl,hacc⟩:=hrel
  by_cases hkn:k < s.size
  ·obtain ⟨x,hx⟩:∃ x,x=s.data.toList.getD k 0:=⟨_,rfl⟩
   have hxk:s.data.toList[k]?=some x:=by
    rw[hx,List.getD,List.getElem?_eq_getElem (by rw[← Lib.size_eq];exact hkn)]
    rfl
   have hc1:W1.cell? ⟨w.heap.size,k,none⟩=some (.int .u8 x.toNat):=by rw[hx];exact HB.out k hkn
   obtain ⟨dv,hdv⟩:=Lib.digit_of_decFrom _ 0 m HM.out k x hxk
   obtain ⟨h48,h57,hde⟩:=Lib.digitVal_eq hdv
   have hlt:=Lib.decFrom_take_lt hacc.out (by omega)
   have Hxk:=Lib.hid hxk
   have Hdv:=Lib.hid hdv
   clear hx hxk hdv
   go_wp2
   go_round
   case rel=>exact ⟨k+1,acc * 10+dv,by omega,by go_num,by first | go_num | (congr 1;omega),Lib.decFrom_take _ k 0 acc x dv hacc.out Hxk.out Hdv.out⟩
   case measure=>simp[RowKit.intOf];omega
  ·have hke:k=s.size:=by omega
   subst hke
   have hfin:acc=m:=by
    have h1:=hacc.out
    rw[List.take_of_length_le (by rw[← Lib.size_eq];exact Nat.le_refl _),HM.out] at h1
    exact (Option.some.inj h1).symm
   subst hfin
   go_wp2
   go_ret2
   exact ⟨rfl,HW.out⟩
set_option maxHeartbeats 1000000 in
set_option maxRecDepth 100000 in
theorem atoi_ok:AtoiOk:=by
 intro s w h1 h18 hd
 have HD:=Hid.mk2 hd
 clear hd
 generalize hn:numT s.toList=n
 have HA:Hid (∀ wx,Calls Tryz.prog 178 #[.string s] wx fun e w'=>e=.returned (.tuple #[.int .i64 n,.nilIface])∧Below wx.heap.size wx w'):=fun wx=>by
  rw[← hn]
  exact atoi_in s h1 h18 HD.out wx
 clear hn
 go_enter Tryz.func159,Tryz.ntmps159
 go_wp2_with (go_at_call 178;refine (HA.out _).mono ?_;rintro e w1 ⟨rfl,hb1⟩;have HB1:=Hid.mk2 hb1;clear hb1)
 go_ret2
 exact ⟨⟨_,rfl⟩,HB1.out⟩
end Go.Proofs.YtldfkcpbjooemaaGreatDoor
