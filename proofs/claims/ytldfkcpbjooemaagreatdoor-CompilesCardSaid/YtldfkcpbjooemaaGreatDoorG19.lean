/-
  The program's firstSign and first: the kind and the length of the token with which a text begins.
-/
import Derived.Test.YtldfkcpbjooemaaGreatDoorG18
import Derived.Test.YtldfkcpbjooemaaGreatDoorG09
import Derived.Test.YtldfkcpbjooemaaGreatDoorG12
set_option linter.unusedVariables false
set_option linter.unusedSimpArgs false
namespace Go.Proofs.YtldfkcpbjooemaaGreatDoor
open Go.RowKit
theorem signGo_drop (t:Txt) (i k n:Nat) (h:i < tSign.length):signGo (tSign.drop i) i k n t=if n < (tSign[i]).length∧(tSign[i]).length≤t.length∧(t.take (tSign[i]).length==tSign[i])=true then signGo (tSign.drop (i+1)) (i+1) (22+i) (tSign[i]).length t else signGo (tSign.drop (i+1)) (i+1) k n t:=by
 rw[List.drop_eq_getElem_cons h];rfl
theorem tSign_len:∀ i (h:i < 12),(tSign[i]'h).length≤2∧1≤(tSign[i]'h).length:=by decide
set_option maxHeartbeats 1000000 in
theorem firstSign_any (s:ByteArray) (hs:s.size≤400) (w:World) (hg:GlobT w) :
  Calls Tryz.prog 135 #[.string s] w fun e w'=>e=.returned (.tuple #[.int .i64 (firstSignT s.toList).1,.int .i64 (firstSignT s.toList).2])∧Below w.heap.size w w':=by
 have HG:Hid (GlobT w):=hg
 clear hg
 go_enter Tryz.func135,Tryz.ntmps135
 go_wp2
 go_loopw [4,5,6] (fun vk vn vi wr=>∃ i k n:Nat,i≤12∧vi=.int .i64 i∧vk=.int .i64 k∧vn=.int .i64 n∧n≤2∧Below w.heap.size w wr∧firstSignT s.toList=signGo (tSign.drop i) i k n s.toList) (fun _ _ i _=>12 - (intOf i).toNat)
 case atStart=>exact ⟨0,0,0,Nat.zero_le _,rfl,rfl,rfl,by omega,Below.refl _ _,rfl⟩
 case round =>
  obtain ⟨i,k,n,hi,rfl,rfl,rfl,hn,hbel,hgo⟩:=hrel
  have HGO:Hid (firstSignT s.toList=signGo (tSign.drop i) i k n s.toList):=hgo
  clear hgo
  by_cases hlt:i < 12
  ·have hc:=(HG.out.below hbel).signs i hlt
   have hl:=tSign_len i hlt
   have HD:Hid (firstSignT s.toList=if n < (tSign[i]'hlt).length∧(tSign[i]'hlt).length≤s.toList.length∧(s.toList.take (tSign[i]'hlt).length==tSign[i]'hlt)=true then signGo (tSign.drop (i+1)) (i+1) (22+i) (tSign[i]'hlt).length s.toList else signGo (tSign.drop (i+1)) (i+1) k n s.toList):=(by rw[HGO.out,signGo_drop _ i k n hlt]:_=_)
   obtain ⟨d,hd⟩:∃ d,d=bsOf (tSign[i]'hlt):=⟨_,rfl⟩
   have hdl:(tSign[i]'hlt).length=d.size:=by rw[hd,bsOf_size]
   rw[← hd] at hc
   rw[hdl] at hl
   have HDT:Hid (tSign[i]'hlt=d.toList):=(by rw[hd,bsOf_toList]:tSign[i]'hlt=d.toList)
   have HDL:Hid ((tSign[i]'hlt).length=d.size):=hdl
   obtain ⟨hl1,hl2⟩:=hl
   clear hd hdl
   by_cases h1:n < d.size
   ·by_cases h2:d.size≤s.size
    ·have h1':decide ((n:Int) < (d.size:Int))=true:=by simp;omega
     have h2':decide ((d.size:Int)≤(s.size:Int))=true:=by simp;omega
     have hex:=extract_bsOf s 0 d.size
     have HX:Hid ((s.extract 0 d.size).toList=s.toList.take d.size):=(by rw[hex,bsOf_toList];simp:(s.extract 0 d.size).toList=s.toList.take d.size)
     clear hex
     cases heq:((s.extract 0 d.size).toList==d.toList)
     ·have h_HNO:firstSignT s.toList=signGo (tSign.drop (i+1)) (i+1) k n s.toList:=by rw[HD.out,if_neg];rintro ⟨_,_,h3⟩;rw[HDL.out,HDT.out,← HX.out,heq] at h3;cases h3
      have HNO:Hid (firstSignT s.toList=signGo (tSign.drop (i+1)) (i+1) k n s.toList):=h_HNO
      clear h_HNO
      go_wp2
      go_quiet (fail)
      go_wp2
      go_roundw
      case rel=>exact ⟨i+1,k,n,by omega,by go_num,rfl,rfl,hn,below_drewN hbel _,HNO.out⟩
      case measure=>simp[intOf];omega
     ·have h_HYES:firstSignT s.toList=signGo (tSign.drop (i+1)) (i+1) (22+i) d.size s.toList:=by rw[HD.out,if_pos ⟨by rw[HDL.out];exact h1,by rw[HDL.out,toList_length];exact h2,by rw[HDL.out,HDT.out,← HX.out];exact heq⟩,HDL.out]
      have HYES:Hid (firstSignT s.toList=signGo (tSign.drop (i+1)) (i+1) (22+i) d.size s.toList):=h_HYES
      clear h_HYES
      go_wp2
      go_quiet (fail)
      go_wp2
      go_roundw
      case rel=>exact ⟨i+1,22+i,d.size,by omega,by go_num,by go_num,rfl,by omega,below_drewN hbel _,HYES.out⟩
      case measure=>simp[intOf];omega
    ·have h_HNO:firstSignT s.toList=signGo (tSign.drop (i+1)) (i+1) k n s.toList:=by rw[HD.out,if_neg];rintro ⟨_,h3,_⟩;rw[HDL.out,toList_length] at h3;exact h2 h3
     have HNO:Hid (firstSignT s.toList=signGo (tSign.drop (i+1)) (i+1) k n s.toList):=h_HNO
     clear h_HNO
     have h1':decide ((n:Int) < (d.size:Int))=true:=by simp;omega
     have h2':decide ((d.size:Int)≤(s.size:Int))=false:=by simp;omega
     go_wp2
     go_quiet (fail)
     go_wp2
     go_roundw
     case rel=>exact ⟨i+1,k,n,by omega,by go_num,rfl,rfl,hn,below_drewN hbel _,HNO.out⟩
     case measure=>simp[intOf];omega
   ·have h_HNO:firstSignT s.toList=signGo (tSign.drop (i+1)) (i+1) k n s.toList:=by rw[HD.out,if_neg];rintro ⟨h3,_,_⟩;rw[HDL.out] at h3;exact h1 h3
    have HNO:Hid (firstSignT s.toList=signGo (tSign.drop (i+1)) (i+1) k n s.toList):=h_HNO
    clear h_HNO
    have h1':decide ((n:Int) < (d.size:Int))=false:=by simp;omega
    go_wp2
    go_quiet (fail)
    go_wp2
    go_roundw
    case rel=>exact ⟨i+1,k,n,by omega,by go_num,rfl,rfl,hn,below_drewN hbel _,HNO.out⟩
    case measure=>simp[intOf];omega
  ·have HE:Hid (firstSignT s.toList=(k,n)):=(by rw[HGO.out,List.drop_eq_nil_of_le (by show 12≤i;omega)];rfl:_=_)
   go_wp2
   go_ret2
   exact ⟨by rw[HE.out];rfl,hbel⟩
end Go.Proofs.YtldfkcpbjooemaaGreatDoor
namespace Go.Proofs.YtldfkcpbjooemaaGreatDoor
open Go.RowKit
set_option maxHeartbeats 1000000 in
theorem first_any (s:ByteArray) (hs:s.size≤400) (w:World) (hg:GlobT w) :
    Calls Tryz.prog 90 #[.string s] w fun e w'=>e=.returned (.tuple #[.int .i64 (firstT s.toList).1,.int .i64 (firstT s.toList).2])∧Below w.heap.size w w':=by
  have HG:Hid (GlobT w):=hg
  clear hg
  have hdl:digitRowT s.toList≤s.size:=by rw[← toList_length];exact takeWhile_length_le _ _
  have hll:letterRowT s.toList≤s.size:=by rw[← toList_length];exact takeWhile_length_le _ _
  have hft:firstT s.toList=if 18 < digitRowT s.toList then (0,0) else if 0 < digitRowT s.toList then (1,digitRowT s.toList) else if 8 < letterRowT s.toList then (0,0) else if 0 < letterRowT s.toList then (wordKindT (s.toList.take (letterRowT s.toList)),letterRowT s.toList) else firstSignT s.toList:=rfl
  obtain ⟨n,hn⟩:∃ n,n=digitRowT s.toList:=⟨_,rfl⟩
  obtain ⟨m,hm⟩:∃ m,m=letterRowT s.toList:=⟨_,rfl⟩
  rw[← hn] at hdl hft
  rw[← hm] at hll hft
  have HN:Hid (digitRowT s.toList=n):=hn.symm
  have HM:Hid (letterRowT s.toList=m):=hm.symm
  have HX:Hid ((s.extract 0 m).toList=s.toList.take m):=(by rw[extract_bsOf,bsOf_toList];simp:(s.extract 0 m).toList=s.toList.take m)
  clear hn hm
  by_cases h1:18 < n
  · rw[hft,if_pos h1];clear hft
    go_enter Tryz.func90,Tryz.ntmps90
    go_wp2_with (first | (go_at_call 132;refine (digitRow_any s hs _).mono ?_;rintro e _ ⟨rfl,rfl⟩;rw[HN.out]) | (go_at_call 133;refine (letterRow_any s hs _).mono ?_;rintro e _ ⟨rfl,rfl⟩;rw[HM.out]) | (go_at_call 134;refine (wordKind_any _ _ HG.out).mono ?_;rintro e _ ⟨rfl,rfl⟩) | (go_at_call 135;refine (firstSign_any s hs _ HG.out).mono ?_;rintro e w5 ⟨rfl,hb5⟩))
    go_ret2
    exact ⟨rfl,Below.refl _ _⟩
  · rw[if_neg h1] at hft
    by_cases h2:0 < n
    · rw[hft,if_pos h2];clear hft
      go_enter Tryz.func90,Tryz.ntmps90
      go_wp2_with (first | (go_at_call 132;refine (digitRow_any s hs _).mono ?_;rintro e _ ⟨rfl,rfl⟩;rw[HN.out]) | (go_at_call 133;refine (letterRow_any s hs _).mono ?_;rintro e _ ⟨rfl,rfl⟩;rw[HM.out]) | (go_at_call 134;refine (wordKind_any _ _ HG.out).mono ?_;rintro e _ ⟨rfl,rfl⟩) | (go_at_call 135;refine (firstSign_any s hs _ HG.out).mono ?_;rintro e w5 ⟨rfl,hb5⟩))
      go_ret2
      exact ⟨rfl,Below.refl _ _⟩
    · rw[if_neg h2] at hft
      by_cases h3:8 < m
      · rw[hft,if_pos h3];clear hft
        go_enter Tryz.func90,Tryz.ntmps90
        go_wp2_with (first | (go_at_call 132;refine (digitRow_any s hs _).mono ?_;rintro e _ ⟨rfl,rfl⟩;rw[HN.out]) | (go_at_call 133;refine (letterRow_any s hs _).mono ?_;rintro e _ ⟨rfl,rfl⟩;rw[HM.out]) | (go_at_call 134;refine (wordKind_any _ _ HG.out).mono ?_;rintro e _ ⟨rfl,rfl⟩) | (go_at_call 135;refine (firstSign_any s hs _ HG.out).mono ?_;rintro e w5 ⟨rfl,hb5⟩))
        go_ret2
        exact ⟨rfl,Below.refl _ _⟩
      · rw[if_neg h3] at hft
        by_cases h4:0 < m
        · rw[hft,if_pos h4];clear hft
          go_enter Tryz.func90,Tryz.ntmps90
          go_wp2_with (first | (go_at_call 132;refine (digitRow_any s hs _).mono ?_;rintro e _ ⟨rfl,rfl⟩;rw[HN.out]) | (go_at_call 133;refine (letterRow_any s hs _).mono ?_;rintro e _ ⟨rfl,rfl⟩;rw[HM.out]) | (go_at_call 134;refine (wordKind_any _ _ HG.out).mono ?_;rintro e _ ⟨rfl,rfl⟩) | (go_at_call 135;refine (firstSign_any s hs _ HG.out).mono ?_;rintro e w5 ⟨rfl,hb5⟩))
          go_ret2
          exact ⟨by rw[← HX.out];rfl,Below.refl _ _⟩
        · rw[hft,if_neg h4];clear hft
          go_enter Tryz.func90,Tryz.ntmps90
          go_wp2_with (first | (go_at_call 132;refine (digitRow_any s hs _).mono ?_;rintro e _ ⟨rfl,rfl⟩;rw[HN.out]) | (go_at_call 133;refine (letterRow_any s hs _).mono ?_;rintro e _ ⟨rfl,rfl⟩;rw[HM.out]) | (go_at_call 134;refine (wordKind_any _ _ HG.out).mono ?_;rintro e _ ⟨rfl,rfl⟩) | (go_at_call 135;refine (firstSign_any s hs _ HG.out).mono ?_;rintro e w5 ⟨rfl,hb5⟩))
          go_ret2
          exact ⟨rfl,hb5⟩
def cellP (t:PTok):List Value:=[.int .i64 t.kind,.int .i64 t.place,.string (bsOf t.text)]
def cellsP (l:List PTok):List Value:=l.flatMap cellP
theorem cellsP_snoc (l:List PTok) (t:PTok):cellsP (l++[t])=cellsP l++cellP t:=by simp[cellsP]
theorem Tryz.infoPTok:(Tryz.prog.info? 107).map (fun i=>(i.zero,i.size,i.bytes))=some (some (.agg #[.int .i64 0,.int .i64 0,.string ⟨#[]⟩]),3,32):=by kernel_rfl
def preP (acc:List PTok):Except Nat (List PTok)→Except Nat (List PTok)
  | .ok l=>.ok (acc++l)
  | .error e=>.error e
theorem preP_app (a b:List PTok) (x:Except Nat (List PTok)):preP a (preP b x)=preP (a++b) x:=by cases x <;> simp[preP]
theorem toksP_end (s:ByteArray) (p:Nat) (hp:s.size≤p):toksP (s.toList.drop p) p=.ok [⟨0,p,[]⟩]:=by
  rw[List.drop_eq_nil_of_le (by rw[toList_length];omega),toksP_nil]
theorem toksP_blank (s:ByteArray) (p:Nat) (hp:p < s.size) (hb:blankC s[p]=true):toksP (s.toList.drop p) p=toksP (s.toList.drop (p+1)) (p+1):=by
  rw[drop_cons s p hp,toksP_cons,if_pos hb]
theorem toksP_bad (s:ByteArray) (p:Nat) (hp:p < s.size) (hb:blankC s[p]=false) (hn:(firstT (s.toList.drop p)).2=0):toksP (s.toList.drop p) p=.error p:=by
  rw[drop_cons s p hp] at hn ⊢
  rw[toksP_cons,if_neg (by simp[hb]),if_pos hn]
theorem toksP_tok (s:ByteArray) (p n k:Nat) (hp:p < s.size) (hb:blankC s[p]=false) (hf:firstT (s.toList.drop p)=(k,n)) (hn:n≠0) :
    toksP (s.toList.drop p) p=preP [⟨k,p,(s.toList.drop p).take n⟩] (toksP (s.toList.drop (p+n)) (p+n)):=by
  rw[show s.toList.drop (p+n)=(s.toList.drop p).drop n by rw[List.drop_drop]]
  rw[drop_cons s p hp] at hf ⊢
  conv=>lhs;rw[toksP_cons]
  rw[if_neg (by simp[hb]),if_neg (by rw[hf];exact hn),hf]
  cases toksP ((s[p] :: s.toList.drop (p+1)).drop n) (p+n) <;> rfl
theorem cell_three (w:World) (x y z:Value) (e:TypeId):∀ j u,[x,y,z][j]?=some u→(w.alloc (.cells #[x,y,z] e)).cell? ((⟨w.heap.size,0,none⟩:Addr).add j)=some u:=by
  intro j u hj
  match j,hj with
  | 0,hj=>simp at hj;subst hj;simp[Addr.add]
  | 1,hj=>simp at hj;subst hj;simp[Addr.add]
  | 2,hj=>simp at hj;subst hj;simp[Addr.add]
theorem one_three {s:ByteArray} {k k':IntKind} {n n':Int}:∀ u∈[Value.int k n,Value.int k' n',Value.string s],u.oneCell'=true:=by
  intro u hu
  simp at hu
  rcases hu with rfl | rfl | rfl <;> rfl
theorem scan_step {w wr w1 w2:World} {acc:List PTok} {v v':Value} {b:ByteArray} {k p:Nat} {e:TypeId} {o:Obj} (hbel:Below w.heap.size w wr) (hb1:Below wr.heap.size wr w1)
    (hown2:w2.ownsRow w.heap.size e 3 v' (acc.length+1) (cellsP acc++[.int .i64 k,.int .i64 p,.string b])) (hg:(w1.alloc o).grownBy w2 v.ownBlock) (hown1:w1.ownsRow w.heap.size e 3 v acc.length (cellsP acc)) :
    w2.ownsRow w.heap.size e 3 v' (acc++[(⟨k,p,b.toList⟩:PTok)]).length (cellsP (acc++[⟨k,p,b.toList⟩]))∧Below w.heap.size w w2:=by
  have hs1:=hbel.size
  have hs2:=hb1.size
  refine ⟨?_, ?_⟩
  · rw[cellsP_snoc]
    simp only[cellP,bsOf_of,List.length_append,List.length_cons,List.length_nil]
    exact hown2
  · exact ((hbel.trans (hb1.mono hs1)).alloc (by omega) o).grown hg (by simp;omega) (fun k hk=>(hown1.lt k hk).1)
set_option maxHeartbeats 1000000 in
set_option maxRecDepth 10000 in
theorem Scan_any (s:ByteArray) (hs:s.size≤400) (w:World) (hg:GlobT w) :
    Calls Tryz.prog 53 #[.string s] w fun e w'=>Below w.heap.size w w' ∧
      ((∃ l v,toksP s.toList 0=.ok l∧l.length≤401∧e=.returned (.tuple #[v,.bool true,.int .i64 0])∧w'.ownsRow w.heap.size 107 3 v l.length (cellsP l)) ∨
       (∃ p,toksP s.toList 0=.error p∧e=.returned (.tuple #[.slice none 0 0,.bool false,.int .i64 p]))):=by
  obtain ⟨i0,hi,hz0,hz1,hz2⟩:=info_parts Tryz.infoPTok
  have HG:Hid (GlobT w):=hg
  clear hg
  go_enter Tryz.func53,Tryz.ntmps53
  go_wp2
  go_loopw [5,6] (fun v vi wr=>∃ (p:Nat) (acc:List PTok),p≤s.size∧vi=.int .i64 p∧wr.ownsRow w.heap.size 107 3 v acc.length (cellsP acc)∧acc.length≤p∧Below w.heap.size w wr∧toksP s.toList 0=preP acc (toksP (s.toList.drop p) p)) (fun _ i _=>s.size - (intOf i).toNat)
  case atStart=>exact ⟨0,[],Nat.zero_le _,rfl,World.ownsRow_made w #[] 0 (Nat.le_refl _) (by unfold maxLen;omega) rfl,Nat.le_refl _,(Below.refl _ _).alloc (Nat.le_refl _) _,by rw[List.drop_zero];cases toksP s.toList 0 <;> rfl⟩
  case round =>
    obtain ⟨p,acc,hp,rfl,hown,hacc,hbel,hrem⟩:=hrel
    have HR:Hid (toksP s.toList 0=preP acc (toksP (s.toList.drop p) p)):=hrem
    clear hrem
    have hbs:=hbel.size
    by_cases hlt:p < s.size
    · cases hb:blankC s[p]
      · have hrs:(s.extract p s.size).size=s.size - p:=by rw[ByteArray.size_extract];omega
        have hrt:(s.extract p s.size).toList=s.toList.drop p:=by rw[extract_bsOf,bsOf_toList,← toList_length,← List.length_drop,List.take_length]
        obtain ⟨r,hr⟩:∃ r,r=s.extract p s.size:=⟨_,rfl⟩
        have hsl:∀ wx:World,(Instr.slice 9 (.string s) (some (.int .i64 (p:Int))) none none).run Tryz.prog wx=.ok (.string r) wx:=by
          intro wx
          rw[hr,run_slice_string_l wx 9 s Tryz.underlying9 .i64 _ (by omega) (by omega)]
          simp
        rw[← hr] at hrs hrt
        have HRT:Hid (r.toList=s.toList.drop p):=hrt
        have hr4:r.size≤400:=by omega
        have hfl:=firstT_le r.toList
        rw[toList_length] at hfl
        obtain ⟨k,n,hkn⟩:∃ k n,firstT r.toList=(k,n):=⟨_,_,rfl⟩
        rw[hkn] at hfl
        have HKN:Hid (firstT r.toList=(k,n)):=hkn
        have HB:Hid (blankC s[p]=false):=hb
        have hnp:n≤r.size:=hfl
        have hnps:p+n≤s.size:=by omega
        clear hrt hr hkn hfl hrs
        by_cases hn0:n=0
        · subst hn0
          go_wp2_with (first | (go_at_call 89;refine (isBlank_any _ _).mono ?_;rintro e w9 ⟨rfl,hw9⟩;subst hw9;simp only[hb]) | (go_at_call 90;refine (first_any r hr4 _ (HG.out.below hbel)).mono ?_;rintro e w1 ⟨rfl,hb1⟩;rw[HKN.out]))
          go_ret3
          exact ⟨hbel.trans (hb1.mono hbs),.inr ⟨p,by rw[HR.out,toksP_bad s p hlt HB.out (by rw[← HRT.out,HKN.out])];rfl,rfl⟩⟩
        · have hn0':¬ ((n:Int)=0):=by omega
          go_wp2_with (first | (go_at_call 89;refine (isBlank_any _ _).mono ?_;rintro e w9 ⟨rfl,hw9⟩;subst hw9;simp only[hb]) | (go_at_call 90;refine (first_any r hr4 _ (HG.out.below hbel)).mono ?_;rintro e w1 ⟨rfl,hb1⟩;rw[HKN.out];have hown1:=own_below hown hb1;have hs1:=hb1.size) | (at_builtin;refine wpList_append_own _ rfl (.tmp 32) (.tmp 39) 100 rfl w.heap.size 107 i0 (.agg #[.int .i64 0,.int .i64 0,.string ⟨#[]⟩]) 3 32 Tryz.underlying100 hi hz0 hz1 hz2 rfl (by decide) _ _ _ rfl (hown1.alloc _) ⟨w1.heap.size,0,none⟩ 1 1 [.int .i64 k,.int .i64 p,.string (r.extract 0 n)] rfl rfl (cell_three _ _ _ _ _) one_three (by unfold maxLen;omega) (by omega) (by simp;omega) ?_;intro v' w2 hown2 hgrow2 _))
          have R:=scan_step hbel hb1 hown2 hgrow2 hown1
          have HTX:Hid ((s.toList.drop p).take n=(r.extract 0 n).toList):=(by rw[extract_bsOf,bsOf_toList,HRT.out];simp:(s.toList.drop p).take n=(r.extract 0 n).toList)
          clear hown2 hgrow2 hown1
          go_roundw
          case rel=>exact ⟨p+n,acc++[⟨k,p,(r.extract 0 n).toList⟩],by omega,by go_num,R.1,by simp;omega,R.2,by rw[HR.out,toksP_tok s p n k hlt HB.out (by rw[← HRT.out];exact HKN.out) hn0,preP_app,HTX.out]⟩
          case measure=>simp[intOf];omega
      · go_wp2_with (first | (go_at_call 89;refine (isBlank_any _ _).mono ?_;rintro e w9 ⟨rfl,hw9⟩;subst hw9;simp only[hb]))
        go_roundw
        case rel=>exact ⟨p+1,acc,by omega,by go_num,hown,by omega,hbel,by rw[HR.out,toksP_blank s p hlt hb]⟩
        case measure=>simp[intOf];omega
    · go_wp2_with (at_builtin;refine wpList_append_own _ rfl (.tmp 44) (.tmp 47) 100 rfl w.heap.size 107 i0 (.agg #[.int .i64 0,.int .i64 0,.string ⟨#[]⟩]) 3 32 Tryz.underlying100 hi hz0 hz1 hz2 rfl (by decide) _ _ _ rfl (hown.alloc _) ⟨wr.heap.size,0,none⟩ 1 1 [.int .i64 0,.int .i64 p,.string (⟨#[]⟩)] rfl rfl (cell_three _ _ _ _ _) one_three (by unfold maxLen;omega) (by omega) (by simp;omega) ?_;intro v' w2 hown2 hgrow2 _)
      have R:=scan_step (k:=0) (p:=p) (b:=⟨#[]⟩) hbel (Below.refl _ _) hown2 hgrow2 hown
      rw[show (⟨#[]⟩:ByteArray).toList=[] by rw[ByteArray.toList_eq]] at R
      go_ret3
      exact ⟨R.2,.inl ⟨acc++[⟨0,p,[]⟩],v',by rw[HR.out,toksP_end s p (by omega)];rfl,by simp;omega,rfl,R.1⟩⟩
end Go.Proofs.YtldfkcpbjooemaaGreatDoor
namespace Go.Proofs.YtldfkcpbjooemaaGreatDoor
open Go.RowKit
set_option maxHeartbeats 1000000 in
theorem binding_any (k:Nat) (w:World) :
  Calls Tryz.prog 184 #[.int .i64 k] w fun e w'=>e=.returned (.int .i64 (bindK k))∧w'=w:=by
 go_enter Tryz.func184,Tryz.ntmps184
 go_wp2
 all_goals go_ret
 all_goals exact ⟨ret_int (by simp at *;unfold bindK;(repeat' split) <;> omega),rfl⟩
set_option maxHeartbeats 1000000 in
theorem isSingle_any (k:Nat) (w:World) :
  Calls Tryz.prog 198 #[.int .i64 k] w fun e w'=>e=.returned (.bool (singleK k))∧w'=w:=by
 rcases (show k=1∨k=2∨(k≠1∧k≠2∧k < 10)∨(k≠1∧k≠2∧10≤k∧k≤21)∨(k≠1∧k≠2∧10≤k∧21 < k) by omega) with rfl | rfl | ⟨h1,h2,h3⟩ | ⟨h1,h2,h3,h4⟩ | ⟨h1,h2,h3,h4⟩
 ·go_enter Tryz.func198,Tryz.ntmps198
  go_wp2
  go_ret
  exact ⟨rfl,rfl⟩
 ·go_enter Tryz.func198,Tryz.ntmps198
  go_wp2
  go_ret
  exact ⟨rfl,rfl⟩
 all_goals
  have e1:((k:Int)==1)=false:=by simp;omega
  have e2:((k:Int)==2)=false:=by simp;omega
  go_enter Tryz.func198,Tryz.ntmps198
  go_wp2
  all_goals go_ret
  all_goals exact ⟨ret_bool (by unfold singleK;rw[Bool.eq_iff_iff];simp;omega),rfl⟩
end Go.Proofs.YtldfkcpbjooemaaGreatDoor
namespace Go.Proofs.YtldfkcpbjooemaaGreatDoor
open Go.RowKit Go.Deep
theorem hideP {p:Prop} (h:p):Hid p:=h
def cellN (n:PNode):List Value:=[.int .i64 (kindP n.tok.text),.int .i64 n.tok.at',.string (bsOf n.tok.text),.int .i64 n.ops,.int .i64 n.left,.int .i64 n.right]
def cellL (p:PLet):List Value:=[.int .i64 (kindP p.name.text),.int .i64 p.name.at',.string (bsOf p.name.text),.int .i64 p.val.place,.int .i64 p.val.fr,.int .i64 p.val.behind]
def cellU (p:PRule):List Value:=[.bool p.hw,.int .i64 p.when.place,.int .i64 p.when.fr,.int .i64 p.when.behind,.bool p.hs,.int .i64 p.score.place,.int .i64 p.score.fr,.int .i64 p.score.behind]
def cellT (t:RTok):List Value:=[.int .i64 (kindP t.text),.int .i64 t.at',.string (bsOf t.text)]
def cellsN (l:List PNode):List Value:=l.flatMap cellN
def cellsLt (l:List PLet):List Value:=l.flatMap cellL
def cellsU (l:List PRule):List Value:=l.flatMap cellU
def cellsT (l:List RTok):List Value:=l.flatMap cellT
theorem cellsT_toP (l:List RTok):cellsP (l.map toP)=cellsT l:=by
 induction l with
 | nil=>rfl
 | cons t r ih=>rw[List.map_cons,cellsP,List.flatMap_cons,← cellsP,ih];rfl
theorem cellsT_get:∀ (l:List RTok) (k:Nat) (h:k < l.length),(cellsT l)[k * 3]?=some (.int .i64 (kindP l[k].text))∧(cellsT l)[k * 3+1]?=some (.int .i64 l[k].at')∧(cellsT l)[k * 3+2]?=some (.string (bsOf l[k].text))
 | [],k,h=>by simp at h
 | t :: r,0,h=>⟨rfl,rfl,rfl⟩
 | t :: r,k+1,h=>by
  have ih:=cellsT_get r k (by simpa using h)
  have e:∀ j,(cellsT (t :: r))[(k+1) * 3+j]?=(cellsT r)[k * 3+j]?:=by
   intro j
   rw[show (k+1) * 3+j=3+(k * 3+j) by omega]
   show (cellT t++cellsT r)[3+(k * 3+j)]?=_
   rw[List.getElem?_append_right (by simp[cellT])]
   simp[cellT]
  exact ⟨by rw[show (k+1) * 3=(k+1) * 3+0 by omega,e];exact ih.1,by rw[e];exact ih.2.1,by rw[e];exact ih.2.2⟩
structure RS where
 tv:Value
 T:List RTok
 k:Nat
 d:Nat
 f:Bool
 nv:Value
 lv:Value
 rv:Value
 ns:List PNode
 ls:List PLet
 rs:List PRule
structure RdAt (w:World) (B:Nat) (S:RS):Prop where
 blk:Blk w B #[S.tv,.int .i64 S.k,.int .i64 S.d,.bool S.f,S.nv,S.lv,S.rv] 105
 otk:w.ownsRow 0 107 3 S.tv S.T.length (cellsT S.T)
 ond:w.ownsRow (B+1) 175 6 S.nv S.ns.length (cellsN S.ns)
 olt:w.ownsRow (B+1) 113 6 S.lv S.ls.length (cellsLt S.ls)
 orl:w.ownsRow (B+1) 116 8 S.rv S.rs.length (cellsU S.rs)
 kt:S.k < S.T.length
 tl:S.T.length≤401
 nk:S.ns.length≤S.k
 dl:S.d≤8
theorem RdAt.below {w w':World} {B:Nat} {S:RS} (h:RdAt w B S) (hb:Below w.heap.size w w'):RdAt w' B S :=
 ⟨h.blk.below hb h.blk.lt,own_below h.otk hb,own_below h.ond hb,own_below h.olt hb,own_below h.orl hb,h.kt,h.tl,h.nk,h.dl⟩
theorem RdAt.drew {w:World} {B:Nat} {S:RS} (h:RdAt w B S):RdAt w.drew B S:=h.below (below_drewN (Below.refl _ w) 1)
theorem RdAt.alloc {w:World} {B:Nat} {S:RS} (h:RdAt w B S) (o:Obj):RdAt (w.alloc o) B S:=h.below ((Below.refl _ _).alloc (Nat.le_refl _) o)
theorem own_set {w:World} {base B i s n:Nat} {e t:TypeId} {v u:Value} {xs:List Value} {cs:Array Value} (h:w.ownsRow base e s v n xs) (hb:Blk w B cs t) (hne:t≠e):(w.setCell ⟨B,i,none⟩ u).ownsRow base e s v n xs:=by
 refine ⟨h.1, ?_⟩
 rcases h.2 with hn | ⟨g,cap,cur,rfl,hbg,hg,r⟩
 ·exact .inl hn
 ·refine .inr ⟨g,cap,cur,rfl,hbg, ?_,r⟩
  have hgb:g≠B:=by
   rintro rfl
   unfold Blk at hb
   rw[hb] at hg
   simp only[Option.some.injEq,Obj.cells.injEq] at hg
   exact hne hg.2.1
  rw[Below.heap_setCell _ _ _ _ hgb]
  exact hg
structure KeepN (B:Nat) (w w':World):Prop where
 os:w'.os=w.os
 tape:w'.tape=w.tape
 output:w'.output=w.output
 size:w.heap.size≤w'.heap.size
 block:∀ b o,w.heap[b]?=some o→b≠B→(b < B∨∀ cs fz,o≠.cells cs 175 fz)→w'.heap[b]?=some o
theorem KeepN.refl (B:Nat) (w:World):KeepN B w w:=⟨rfl,rfl,rfl,Nat.le_refl _,fun _ _ h _ _=>h⟩
theorem KeepN.trans {B:Nat} {w w1 w2:World} (h:KeepN B w w1) (g:KeepN B w1 w2):KeepN B w w2 :=
 ⟨g.os.trans h.os,g.tape.trans h.tape,g.output.trans h.output,Nat.le_trans h.size g.size,fun b o h1 h2 h3=>g.block b o (h.block b o h1 h2 h3) h2 h3⟩
theorem KeepN.of {B:Nat} {w w':World} (h:Below w.heap.size w w'):KeepN B w w':=⟨h.os,h.tape,h.output,h.size,fun b o h1 _ _=>by rw[h.block b (Array.getElem?_eq_some_iff.1 h1).1];exact h1⟩
theorem KeepN.below {B:Nat} {w w':World} (h:KeepN B w w') (hB:B≤w.heap.size):Below B w w' :=
 ⟨h.os,h.tape,h.output,h.size,fun k hk=>by
  have hlt:k < w.heap.size:=by omega
  have e:=Array.getElem?_eq_getElem hlt
  rw[e]
  exact h.block k _ e (by omega) (.inl hk)⟩
theorem KeepN.set {w:World} (B i:Nat) (v:Value):KeepN B w (w.setCell ⟨B,i,none⟩ v):=by
 have g:=(Below.refl B w).setCell (p:=⟨B,i,none⟩) (Nat.le_refl _) v
 exact ⟨g.os,g.tape,g.output,g.size,fun b o h1 h2 _=>by rw[Below.heap_setCell _ _ _ _ h2];exact h1⟩
theorem Blk.keepN {w w':World} {B b:Nat} {cs:Array Value} {t:TypeId} (h:Blk w b cs t) (hk:KeepN B w w') (hne:b≠B) (ht:t≠175):Blk w' b cs t :=
 hk.block b _ h hne (.inr fun cs' fz e=>by simp only[Obj.cells.injEq] at e;exact ht e.2.1)
theorem own_keepN {w w':World} {B base s n:Nat} {e t:TypeId} {v:Value} {xs:List Value} {cs:Array Value} (h:w.ownsRow base e s v n xs) (hb:Blk w B cs t) (hne:t≠e) (he:e≠175) (hk:KeepN B w w'):w'.ownsRow base e s v n xs:=by
 refine ⟨h.1, ?_⟩
 rcases h.2 with hn | ⟨g,cap,cur,rfl,hbg,hg,r⟩
 ·exact .inl hn
 ·refine .inr ⟨g,cap,cur,rfl,hbg, ?_,r⟩
  refine hk.block g _ hg ?_ (.inr fun cs' fz e'=>by simp only[Obj.cells.injEq] at e';exact he e'.2.1)
  rintro rfl
  unfold Blk at hb
  rw[hb] at hg
  simp only[Option.some.injEq,Obj.cells.injEq] at hg
  exact hne hg.2.1
theorem KeepN.grown {w w':World} {B s n:Nat} {v:Value} {xs:List Value} (h:w.ownsRow (B+1) 175 s v n xs) (hg:w.grownBy w' v.ownBlock):KeepN B w w':=by
 refine ⟨hg.os,hg.tape,hg.output,hg.size,fun b o h1 h2 h3=>?_⟩
 have hlt:=(Array.getElem?_eq_some_iff.1 h1).1
 rw[hg.block b hlt ?_]
 ·exact h1
 ·intro e
  rcases h.2 with ⟨rfl,_⟩ | ⟨g,cap,cur,rfl,hbg,hgg,r⟩
  ·cases e
  ·simp only[Value.ownBlock,Option.some.injEq] at e
   subst e
   rcases h3 with h3 | h3
   ·omega
   ·rw[hgg] at h1
    simp only[Option.some.injEq] at h1
    exact h3 _ _ h1.symm
theorem RdAt.setK {w:World} {B:Nat} {S:RS} (h:RdAt w B S) (k:Nat) (hk:k < S.T.length) (hn:S.k≤k):RdAt (w.setCell ⟨B,1,none⟩ (.int .i64 k)) B { S with k:=k } :=
 ⟨h.blk.set 1 _,own_set h.otk h.blk (by decide),own_set h.ond h.blk (by decide),own_set h.olt h.blk (by decide),own_set h.orl h.blk (by decide),hk,h.tl,Nat.le_trans h.nk hn,h.dl⟩
theorem RdAt.setD {w:World} {B:Nat} {S:RS} (h:RdAt w B S) (d:Nat) (hd:d≤8):RdAt (w.setCell ⟨B,2,none⟩ (.int .i64 d)) B { S with d:=d } :=
 ⟨h.blk.set 2 _,own_set h.otk h.blk (by decide),own_set h.ond h.blk (by decide),own_set h.olt h.blk (by decide),own_set h.orl h.blk (by decide),h.kt,h.tl,h.nk,hd⟩
theorem RdAt.setF {w:World} {B:Nat} {S:RS} (h:RdAt w B S) (f:Bool):RdAt (w.setCell ⟨B,3,none⟩ (.bool f)) B { S with f:=f } :=
 ⟨h.blk.set 3 _,own_set h.otk h.blk (by decide),own_set h.ond h.blk (by decide),own_set h.olt h.blk (by decide),own_set h.orl h.blk (by decide),h.kt,h.tl,h.nk,h.dl⟩
theorem RdAt.shape {w:World} {B:Nat} {S:RS} (h:RdAt w B S):∃ g cap,S.tv=.slice (some ⟨g,0,none⟩) S.T.length cap∧S.T.length≤cap∧g < w.heap.size∧∀ j u,(cellsT S.T)[j]?=some u→w.cell? ⟨g,j,none⟩=some u:=by
 have hp:=h.kt
 rcases h.otk.2 with ⟨_,hn⟩ | ⟨g,cap,cur,hv,hb,hg,hnc,hcm,hcs,htk⟩
 ·omega
 ·refine ⟨g,cap,hv,hnc,lt_of_block hg,fun j u hj=>?_⟩
  have hlt:j < S.T.length * 3:=by
   have:=h.otk.1
   rw[List.getElem?_eq_some_iff] at hj
   obtain ⟨h1,_⟩:=hj
   omega
  have:=h.otk
  rw[hv] at this
  rw[this.cellAt j hlt]
  exact hj
end Go.Proofs.YtldfkcpbjooemaaGreatDoor
