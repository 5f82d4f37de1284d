/-
  The program's first and Scan: the tokens of a text, with one of the kind End behind them; or the place at which none begins.
-/
import Derived.Test.YtpcjadaeolkngaaGreatDoorJ07
import Derived.Test.YtpcjadaeolkngaaGreatDoorJ01
import Derived.Test.YtpcjadaeolkngaaGreatDoorJ04
import Derived.Deep.RegionHeld3
import Derived.Deep.RegionLaw
import Derived.Deep.DeepCutAuto
import Derived.Deep.AppendLies
set_option linter.unusedVariables false
set_option linter.unusedSimpArgs false
namespace Go.Proofs.YtpcjadaeolkngaaGreatDoor
open Go.RowKit
set_option maxHeartbeats 1000000 in
theorem first_any(s:ByteArray)(hs:s.size≤400)(w:World)(hg:GlobT w) :
    Calls Tryz.prog 66 #[.string s] w fun e w'=>e=.returned (.tuple #[.int .i64 (firstT s.toList).1,.int .i64 (firstT s.toList).2])∧Below w.heap.size w w':=by
  have HG:Hid (GlobT w):=hg
  clear hg
  have hdl:digitRowT s.toList≤s.size:=by rw[← toList_length];exact takeWhile_length_le _ _
  have hll:letterRowT s.toList≤s.size:=by rw[← toList_length];exact takeWhile_length_le _ _
  have hft:firstT s.toList=if 18<digitRowT s.toList then (0,0) else if 0<digitRowT s.toList then (1,digitRowT s.toList) else if 8<letterRowT s.toList then (0,0) else if 0<letterRowT s.toList then (wordKindT (s.toList.take (letterRowT s.toList)),letterRowT s.toList) else firstSignT s.toList:=rfl
  obtain ⟨n,hn⟩:∃ n,n=digitRowT s.toList:=⟨_,rfl⟩
  obtain ⟨m,hm⟩:∃ m,m=letterRowT s.toList:=⟨_,rfl⟩
  rw[← hn]at hdl hft
  rw[← hm]at hll hft
  have HN:Hid (digitRowT s.toList=n):=hn.symm
  have HM:Hid (letterRowT s.toList=m):=hm.symm
  have HX:Hid ((s.extract 0 m).toList=s.toList.take m):=(by rw[extract_bsOf,bsOf_toList];simp:(s.extract 0 m).toList=s.toList.take m)
  clear hn hm
  by_cases h1:18<n
  · rw[hft,if_pos h1];clear hft
    go_enter Tryz.func66,Tryz.ntmps66
    go_wp2_with (first | (go_at_call 98;refine (digitRow_any s hs _).mono ?_;rintro e _ ⟨rfl,rfl⟩;rw[HN.out]) | (go_at_call 99;refine (letterRow_any s hs _).mono ?_;rintro e _ ⟨rfl,rfl⟩;rw[HM.out]) | (go_at_call 100;refine (wordKind_any _ _ HG.out).mono ?_;rintro e _ ⟨rfl,rfl⟩) | (go_at_call 101;refine (firstSign_any s hs _ HG.out).mono ?_;rintro e w5 ⟨rfl,hb5⟩))
    go_ret2
    exact ⟨rfl,Below.refl _ _⟩
  · rw[if_neg h1]at hft
    by_cases h2:0<n
    · rw[hft,if_pos h2];clear hft
      go_enter Tryz.func66,Tryz.ntmps66
      go_wp2_with (first | (go_at_call 98;refine (digitRow_any s hs _).mono ?_;rintro e _ ⟨rfl,rfl⟩;rw[HN.out]) | (go_at_call 99;refine (letterRow_any s hs _).mono ?_;rintro e _ ⟨rfl,rfl⟩;rw[HM.out]) | (go_at_call 100;refine (wordKind_any _ _ HG.out).mono ?_;rintro e _ ⟨rfl,rfl⟩) | (go_at_call 101;refine (firstSign_any s hs _ HG.out).mono ?_;rintro e w5 ⟨rfl,hb5⟩))
      go_ret2
      exact ⟨rfl,Below.refl _ _⟩
    · rw[if_neg h2]at hft
      by_cases h3:8<m
      · rw[hft,if_pos h3];clear hft
        go_enter Tryz.func66,Tryz.ntmps66
        go_wp2_with (first | (go_at_call 98;refine (digitRow_any s hs _).mono ?_;rintro e _ ⟨rfl,rfl⟩;rw[HN.out]) | (go_at_call 99;refine (letterRow_any s hs _).mono ?_;rintro e _ ⟨rfl,rfl⟩;rw[HM.out]) | (go_at_call 100;refine (wordKind_any _ _ HG.out).mono ?_;rintro e _ ⟨rfl,rfl⟩) | (go_at_call 101;refine (firstSign_any s hs _ HG.out).mono ?_;rintro e w5 ⟨rfl,hb5⟩))
        go_ret2
        exact ⟨rfl,Below.refl _ _⟩
      · rw[if_neg h3]at hft
        by_cases h4:0<m
        · rw[hft,if_pos h4];clear hft
          go_enter Tryz.func66,Tryz.ntmps66
          go_wp2_with (first | (go_at_call 98;refine (digitRow_any s hs _).mono ?_;rintro e _ ⟨rfl,rfl⟩;rw[HN.out]) | (go_at_call 99;refine (letterRow_any s hs _).mono ?_;rintro e _ ⟨rfl,rfl⟩;rw[HM.out]) | (go_at_call 100;refine (wordKind_any _ _ HG.out).mono ?_;rintro e _ ⟨rfl,rfl⟩) | (go_at_call 101;refine (firstSign_any s hs _ HG.out).mono ?_;rintro e w5 ⟨rfl,hb5⟩))
          go_ret2
          exact ⟨by rw[← HX.out];rfl,Below.refl _ _⟩
        · rw[hft,if_neg h4];clear hft
          go_enter Tryz.func66,Tryz.ntmps66
          go_wp2_with (first | (go_at_call 98;refine (digitRow_any s hs _).mono ?_;rintro e _ ⟨rfl,rfl⟩;rw[HN.out]) | (go_at_call 99;refine (letterRow_any s hs _).mono ?_;rintro e _ ⟨rfl,rfl⟩;rw[HM.out]) | (go_at_call 100;refine (wordKind_any _ _ HG.out).mono ?_;rintro e _ ⟨rfl,rfl⟩) | (go_at_call 101;refine (firstSign_any s hs _ HG.out).mono ?_;rintro e w5 ⟨rfl,hb5⟩))
          go_ret2
          exact ⟨rfl,hb5⟩
def cellP(t:PTok):List Value:=[.int .i64 t.kind,.int .i64 t.place,.string (bsOf t.text)]
def cellsP(l:List PTok):List Value:=l.flatMap cellP
theorem cellsP_snoc(l:List PTok)(t:PTok):cellsP (l++[t])=cellsP l++cellP t:=by simp[cellsP]
theorem Tryz.infoPTok:(Tryz.prog.info? 101).map (fun i=>(i.zero,i.size,i.bytes))=some (some (.agg #[.int .i64 0,.int .i64 0,.string ⟨#[]⟩]),3,32):=by kernel_rfl
def preP(acc:List PTok):Except Nat (List PTok)→Except Nat (List PTok)
  | .ok l=>.ok (acc++l)
  | .error e=>.error e
theorem preP_app(a b:List PTok)(x:Except Nat (List PTok)):preP a (preP b x)=preP (a++b) x:=by cases x <;> simp[preP]
theorem toksP_end(s:ByteArray)(p:Nat)(hp:s.size≤p):toksP (s.toList.drop p) p=.ok [⟨0,p,[]⟩]:=by
  rw[List.drop_eq_nil_of_le (by rw[toList_length];omega),toksP_nil]
theorem toksP_blank(s:ByteArray)(p:Nat)(hp:p<s.size)(hb:blankC s[p]=true):toksP (s.toList.drop p) p=toksP (s.toList.drop (p+1)) (p+1):=by
  rw[drop_cons s p hp,toksP_cons,if_pos hb]
theorem toksP_bad(s:ByteArray)(p:Nat)(hp:p<s.size)(hb:blankC s[p]=false)(hn:(firstT (s.toList.drop p)).2=0):toksP (s.toList.drop p) p=.error p:=by
  rw[drop_cons s p hp]at hn ⊢
  rw[toksP_cons,if_neg (by simp[hb]),if_pos hn]
theorem toksP_tok(s:ByteArray)(p n k:Nat)(hp:p<s.size)(hb:blankC s[p]=false)(hf:firstT (s.toList.drop p)=(k,n))(hn:n≠0) :
    toksP (s.toList.drop p) p=preP [⟨k,p,(s.toList.drop p).take n⟩] (toksP (s.toList.drop (p+n)) (p+n)):=by
  rw[show s.toList.drop (p+n)=(s.toList.drop p).drop n by rw[List.drop_drop]]
  rw[drop_cons s p hp]at hf ⊢
  conv=>lhs;rw[toksP_cons]
  rw[if_neg (by simp[hb]),if_neg (by rw[hf];exact hn),hf]
  cases toksP ((s[p] :: s.toList.drop (p+1)).drop n) (p+n) <;> rfl
theorem cell_three(w:World)(x y z:Value)(e:TypeId):∀ j u,[x,y,z][j]?=some u→(w.alloc (.cells #[x,y,z] e)).cell? ((⟨w.heap.size,0,none⟩:Addr).add j)=some u:=by
  intro j u hj
  match j,hj with
  | 0,hj=>simp at hj;subst hj;simp[Addr.add]
  | 1,hj=>simp at hj;subst hj;simp[Addr.add]
  | 2,hj=>simp at hj;subst hj;simp[Addr.add]
theorem one_three{s:ByteArray}{k k':IntKind}{n n':Int}:∀ u∈[Value.int k n,Value.int k' n',Value.string s],u.oneCell'=true:=by
  intro u hu
  simp at hu
  rcases hu with rfl | rfl | rfl <;> rfl
theorem scan_step{w wr w1 w2:World}{acc:List PTok}{v v':Value}{b:ByteArray}{k p:Nat}{e:TypeId}{o:Obj}(hbel:Below w.heap.size w wr)(hb1:Below wr.heap.size wr w1)
    (hown2:w2.ownsRow w.heap.size e 3 v' (acc.length+1) (cellsP acc++[.int .i64 k,.int .i64 p,.string b])) (hg:(w1.alloc o).grownBy w2 v.ownBlock) (hown1:w1.ownsRow w.heap.size e 3 v acc.length (cellsP acc)) :
    w2.ownsRow w.heap.size e 3 v' (acc++[(⟨k,p,b.toList⟩:PTok)]).length (cellsP (acc++[⟨k,p,b.toList⟩]))∧Below w.heap.size w w2:=by
  have hs1:=hbel.size
  have hs2:=hb1.size
  refine ⟨?_, ?_⟩
  · rw[cellsP_snoc]
    simp only[cellP,bsOf_of,List.length_append,List.length_cons,List.length_nil]
    exact hown2
  · exact ((hbel.trans (hb1.mono hs1)).alloc (by omega) o).grown hg (by simp;omega) (fun k hk=>(hown1.lt k hk).1)
set_option maxHeartbeats 1000000 in
set_option maxRecDepth 10000 in
theorem Scan_any(s:ByteArray)(hs:s.size≤400)(w:World)(hg:GlobT w) :
    Calls Tryz.prog 41 #[.string s] w fun e w'=>Below w.heap.size w w' ∧
      ((∃ l v,toksP s.toList 0=.ok l∧l.length≤401∧e=.returned (.tuple #[v,.bool true,.int .i64 0])∧w'.ownsRow w.heap.size 101 3 v l.length (cellsP l)) ∨
       (∃ p,toksP s.toList 0=.error p∧e=.returned (.tuple #[.slice none 0 0,.bool false,.int .i64 p]))):=by
  obtain ⟨i0,hi,hz0,hz1,hz2⟩:=info_parts Tryz.infoPTok
  have HG:Hid (GlobT w):=hg
  clear hg
  go_enter Tryz.func41,Tryz.ntmps41
  go_wp2
  go_loopw [5,6] (fun v vi wr=>∃ (p:Nat) (acc:List PTok),p≤s.size∧vi=.int .i64 p∧wr.ownsRow w.heap.size 101 3 v acc.length (cellsP acc)∧acc.length≤p∧Below w.heap.size w wr∧toksP s.toList 0=preP acc (toksP (s.toList.drop p) p)) (fun _ i _=>s.size-(intOf i).toNat)
  case atStart=>exact ⟨0,[],Nat.zero_le _,rfl,World.ownsRow_made w #[] 0 (Nat.le_refl _) (by unfold maxLen;omega) rfl,Nat.le_refl _,(Below.refl _ _).alloc (Nat.le_refl _) _,by rw[List.drop_zero];cases toksP s.toList 0 <;> rfl⟩
  case round =>
    obtain ⟨p,acc,hp,rfl,hown,hacc,hbel,hrem⟩:=hrel
    have HR:Hid (toksP s.toList 0=preP acc (toksP (s.toList.drop p) p)):=hrem
    clear hrem
    have hbs:=hbel.size
    by_cases hlt:p<s.size
    · cases hb:blankC s[p]
      · have hrs:(s.extract p s.size).size=s.size-p:=by rw[ByteArray.size_extract];omega
        have hrt:(s.extract p s.size).toList=s.toList.drop p:=by rw[extract_bsOf,bsOf_toList,← toList_length,← List.length_drop,List.take_length]
        obtain ⟨r,hr⟩:∃ r,r=s.extract p s.size:=⟨_,rfl⟩
        have hsl:∀ wx:World,(Instr.slice 9 (.string s) (some (.int .i64 (p:Int))) none none).run Tryz.prog wx=.ok (.string r) wx:=by
          intro wx
          rw[hr,run_slice_string_l wx 9 s Tryz.underlying9 .i64 _ (by omega) (by omega)]
          simp
        rw[← hr]at hrs hrt
        have HRT:Hid (r.toList=s.toList.drop p):=hrt
        have hr4:r.size≤400:=by omega
        have hfl:=firstT_le r.toList
        rw[toList_length]at hfl
        obtain ⟨k,n,hkn⟩:∃ k n,firstT r.toList=(k,n):=⟨_,_,rfl⟩
        rw[hkn]at hfl
        have HKN:Hid (firstT r.toList=(k,n)):=hkn
        have HB:Hid (blankC s[p]=false):=hb
        have hnp:n≤r.size:=hfl
        have hnps:p+n≤s.size:=by omega
        clear hrt hr hkn hfl hrs
        by_cases hn0:n=0
        · subst hn0
          go_wp2_with (first | (go_at_call 65;refine (isBlank_any _ _).mono ?_;rintro e w9 ⟨rfl,hw9⟩;subst hw9;simp only[hb]) | (go_at_call 66;refine (first_any r hr4 _ (HG.out.below hbel)).mono ?_;rintro e w1 ⟨rfl,hb1⟩;rw[HKN.out]))
          go_ret3
          exact ⟨hbel.trans (hb1.mono hbs),.inr ⟨p,by rw[HR.out,toksP_bad s p hlt HB.out (by rw[← HRT.out,HKN.out])];rfl,rfl⟩⟩
        · have hn0':¬ ((n:Int)=0):=by omega
          go_wp2_with (first | (go_at_call 65;refine (isBlank_any _ _).mono ?_;rintro e w9 ⟨rfl,hw9⟩;subst hw9;simp only[hb]) | (go_at_call 66;refine (first_any r hr4 _ (HG.out.below hbel)).mono ?_;rintro e w1 ⟨rfl,hb1⟩;rw[HKN.out];have hown1:=own_below hown hb1;have hs1:=hb1.size) | (at_builtin;refine wpList_append_own _ rfl (.tmp 32) (.tmp 39) 94 rfl w.heap.size 101 i0 (.agg #[.int .i64 0,.int .i64 0,.string ⟨#[]⟩]) 3 32 Tryz.underlying94 hi hz0 hz1 hz2 rfl (by decide) _ _ _ rfl (hown1.alloc _) ⟨w1.heap.size,0,none⟩ 1 1 [.int .i64 k,.int .i64 p,.string (r.extract 0 n)] rfl rfl (cell_three _ _ _ _ _) one_three (by unfold maxLen;omega) (by omega) (by simp;omega) ?_;intro v' w2 hown2 hgrow2 _))
          have R:=scan_step hbel hb1 hown2 hgrow2 hown1
          have HTX:Hid ((s.toList.drop p).take n=(r.extract 0 n).toList):=(by rw[extract_bsOf,bsOf_toList,HRT.out];simp:(s.toList.drop p).take n=(r.extract 0 n).toList)
          clear hown2 hgrow2 hown1
          go_roundw
          case rel=>exact ⟨p+n,acc++[⟨k,p,(r.extract 0 n).toList⟩],by omega,by go_num,R.1,by simp;omega,R.2,by rw[HR.out,toksP_tok s p n k hlt HB.out (by rw[← HRT.out];exact HKN.out) hn0,preP_app,HTX.out]⟩
          case measure=>simp[intOf];omega
      · go_wp2_with (first | (go_at_call 65;refine (isBlank_any _ _).mono ?_;rintro e w9 ⟨rfl,hw9⟩;subst hw9;simp only[hb]))
        go_roundw
        case rel=>exact ⟨p+1,acc,by omega,by go_num,hown,by omega,hbel,by rw[HR.out,toksP_blank s p hlt hb]⟩
        case measure=>simp[intOf];omega
    · go_wp2_with (at_builtin;refine wpList_append_own _ rfl (.tmp 44) (.tmp 47) 94 rfl w.heap.size 101 i0 (.agg #[.int .i64 0,.int .i64 0,.string ⟨#[]⟩]) 3 32 Tryz.underlying94 hi hz0 hz1 hz2 rfl (by decide) _ _ _ rfl (hown.alloc _) ⟨wr.heap.size,0,none⟩ 1 1 [.int .i64 0,.int .i64 p,.string (⟨#[]⟩)] rfl rfl (cell_three _ _ _ _ _) one_three (by unfold maxLen;omega) (by omega) (by simp;omega) ?_;intro v' w2 hown2 hgrow2 _)
      have R:=scan_step (k:=0) (p:=p) (b:=⟨#[]⟩) hbel (Below.refl _ _) hown2 hgrow2 hown
      rw[show (⟨#[]⟩:ByteArray).toList=[] by rw[ByteArray.toList_eq]]at R
      go_ret3
      exact ⟨R.2,.inl ⟨acc++[⟨0,p,[]⟩],v',by rw[HR.out,toksP_end s p (by omega)];rfl,by simp;omega,rfl,R.1⟩⟩
set_option maxHeartbeats 1000000 in
theorem binding_any(k:Nat)(w:World) :
  Calls Tryz.prog 144 #[.int .i64 k] w fun e w'=>e=.returned (.int .i64 (bindK k))∧w'=w:=by
 go_enter Tryz.func144,Tryz.ntmps144
 go_wp2
 all_goals go_ret
 all_goals exact ⟨ret_int (by simp at *;unfold bindK;(repeat' split) <;> omega),rfl⟩
set_option maxHeartbeats 1000000 in
theorem isSingle_any(k:Nat)(w:World) :
  Calls Tryz.prog 153 #[.int .i64 k] w fun e w'=>e=.returned (.bool (singleK k))∧w'=w:=by
 rcases (show k=1∨k=2∨(k≠1∧k≠2∧k<10)∨(k≠1∧k≠2∧10≤k∧k≤21)∨(k≠1∧k≠2∧10≤k∧21<k) by omega) with rfl | rfl | ⟨h1,h2,h3⟩ | ⟨h1,h2,h3,h4⟩ | ⟨h1,h2,h3,h4⟩
 ·go_enter Tryz.func153,Tryz.ntmps153
  go_wp2
  go_ret
  exact ⟨rfl,rfl⟩
 ·go_enter Tryz.func153,Tryz.ntmps153
  go_wp2
  go_ret
  exact ⟨rfl,rfl⟩
 all_goals
  have e1:((k:Int)==1)=false:=by simp;omega
  have e2:((k:Int)==2)=false:=by simp;omega
  go_enter Tryz.func153,Tryz.ntmps153
  go_wp2
  all_goals go_ret
  all_goals exact ⟨ret_bool (by unfold singleK;rw[Bool.eq_iff_iff];simp;omega),rfl⟩
open Go.Deep
theorem hideP{p:Prop}(h:p):Hid p:=h
def cellN(n:PNode):List Value:=[.int .i64 (kindP n.tok.text),.int .i64 n.tok.at',.string (bsOf n.tok.text),.int .i64 n.ops,.int .i64 n.left,.int .i64 n.right]
def cellL(p:PLet):List Value:=[.int .i64 (kindP p.name.text),.int .i64 p.name.at',.string (bsOf p.name.text),.int .i64 p.val.place,.int .i64 p.val.fr,.int .i64 p.val.behind]
def cellU(p:PRule):List Value:=[.bool p.hw,.int .i64 p.when.place,.int .i64 p.when.fr,.int .i64 p.when.behind,.bool p.hs,.int .i64 p.score.place,.int .i64 p.score.fr,.int .i64 p.score.behind]
def cellT(t:RTok):List Value:=[.int .i64 (kindP t.text),.int .i64 t.at',.string (bsOf t.text)]
def cellsN(l:List PNode):List Value:=l.flatMap cellN
def cellsLt(l:List PLet):List Value:=l.flatMap cellL
def cellsU(l:List PRule):List Value:=l.flatMap cellU
def cellsT(l:List RTok):List Value:=l.flatMap cellT
theorem cellsT_toP(l:List RTok):cellsP (l.map toP)=cellsT l:=by
 induction l with
 | nil=>rfl
 | cons t r ih=>rw[List.map_cons,cellsP,List.flatMap_cons,← cellsP,ih];rfl
theorem cellsT_get:∀ (l:List RTok) (k:Nat) (h:k<l.length),(cellsT l)[k*3]?=some (.int .i64 (kindP l[k].text))∧(cellsT l)[k*3+1]?=some (.int .i64 l[k].at')∧(cellsT l)[k*3+2]?=some (.string (bsOf l[k].text))
 | [],k,h=>by simp at h
 | t :: r,0,h=>⟨rfl,rfl,rfl⟩
 | t :: r,k+1,h=>by
  have ih:=cellsT_get r k (by simpa using h)
  have e:∀ j,(cellsT (t :: r))[(k+1)*3+j]?=(cellsT r)[k*3+j]?:=by
   intro j
   rw[show (k+1)*3+j=3+(k*3+j) by omega]
   show (cellT t++cellsT r)[3+(k*3+j)]?=_
   rw[List.getElem?_append_right (by simp[cellT])]
   simp[cellT]
  exact ⟨by rw[show (k+1)*3=(k+1)*3+0 by omega,e];exact ih.1,by rw[e];exact ih.2.1,by rw[e];exact ih.2.2⟩
structure RS where
 tv:Value
 T:List RTok
 k:Nat
 d:Nat
 f:Bool
 nv:Value
 lv:Value
 rv:Value
 ns:List PNode
 ls:List PLet
 rs:List PRule
structure RdAt(w:World)(B:Nat)(S:RS):Prop where
 blk:Blk w B #[S.tv,.int .i64 S.k,.int .i64 S.d,.bool S.f,S.nv,S.lv,S.rv] 99
 otk:w.ownsRow 0 101 3 S.tv S.T.length (cellsT S.T)
 ond:w.ownsRow (B+1) 154 6 S.nv S.ns.length (cellsN S.ns)
 olt:w.ownsRow (B+1) 107 6 S.lv S.ls.length (cellsLt S.ls)
 orl:w.ownsRow (B+1) 110 8 S.rv S.rs.length (cellsU S.rs)
 kt:S.k<S.T.length
 tl:S.T.length≤401
 nk:S.ns.length≤S.k
 dl:S.d≤8
theorem RdAt.below{w w':World}{B:Nat}{S:RS}(h:RdAt w B S)(hb:Below w.heap.size w w'):RdAt w' B S :=
 ⟨h.blk.below hb h.blk.lt,own_below h.otk hb,own_below h.ond hb,own_below h.olt hb,own_below h.orl hb,h.kt,h.tl,h.nk,h.dl⟩
theorem RdAt.drew{w:World}{B:Nat}{S:RS}(h:RdAt w B S):RdAt w.drew B S:=h.below (below_drewN (Below.refl _ w) 1)
theorem RdAt.alloc{w:World}{B:Nat}{S:RS}(h:RdAt w B S)(o:Obj):RdAt (w.alloc o) B S:=h.below ((Below.refl _ _).alloc (Nat.le_refl _) o)
theorem own_set{w:World}{base B i s n:Nat}{e t:TypeId}{v u:Value}{xs:List Value}{cs:Array Value}(h:w.ownsRow base e s v n xs)(hb:Blk w B cs t)(hne:t≠e):(w.setCell ⟨B,i,none⟩ u).ownsRow base e s v n xs:=by
 refine ⟨h.1, ?_⟩
 rcases h.2 with hn | ⟨g,cap,cur,rfl,hbg,hg,r⟩
 ·exact .inl hn
 ·refine .inr ⟨g,cap,cur,rfl,hbg, ?_,r⟩
  have hgb:g≠B:=by
   rintro rfl
   unfold Blk at hb
   rw[hb]at hg
   simp only[Option.some.injEq,Obj.cells.injEq]at hg
   exact hne hg.2.1
  rw[Below.heap_setCell _ _ _ _ hgb]
  exact hg
structure KeepN(B:Nat)(w w':World):Prop where
 os:w'.os=w.os
 tape:w'.tape=w.tape
 output:w'.output=w.output
 size:w.heap.size≤w'.heap.size
 block:∀ b o,w.heap[b]?=some o→b≠B→(b<B∨∀ cs fz,o≠.cells cs 154 fz)→w'.heap[b]?=some o
theorem KeepN.refl(B:Nat)(w:World):KeepN B w w:=⟨rfl,rfl,rfl,Nat.le_refl _,fun _ _ h _ _=>h⟩
theorem KeepN.trans{B:Nat}{w w1 w2:World}(h:KeepN B w w1)(g:KeepN B w1 w2):KeepN B w w2 :=
 ⟨g.os.trans h.os,g.tape.trans h.tape,g.output.trans h.output,Nat.le_trans h.size g.size,fun b o h1 h2 h3=>g.block b o (h.block b o h1 h2 h3) h2 h3⟩
theorem KeepN.of{B:Nat}{w w':World}(h:Below w.heap.size w w'):KeepN B w w':=⟨h.os,h.tape,h.output,h.size,fun b o h1 _ _=>by rw[h.block b (Array.getElem?_eq_some_iff.1 h1).1];exact h1⟩
theorem KeepN.below{B:Nat}{w w':World}(h:KeepN B w w')(hB:B≤w.heap.size):Below B w w' :=
 ⟨h.os,h.tape,h.output,h.size,fun k hk=>by
  have hlt:k<w.heap.size:=by omega
  have e:=Array.getElem?_eq_getElem hlt
  rw[e]
  exact h.block k _ e (by omega) (.inl hk)⟩
theorem KeepN.set{w:World}(B i:Nat)(v:Value):KeepN B w (w.setCell ⟨B,i,none⟩ v):=by
 have g:=(Below.refl B w).setCell (p:=⟨B,i,none⟩) (Nat.le_refl _) v
 exact ⟨g.os,g.tape,g.output,g.size,fun b o h1 h2 _=>by rw[Below.heap_setCell _ _ _ _ h2];exact h1⟩
theorem Blk.keepN{w w':World}{B b:Nat}{cs:Array Value}{t:TypeId}(h:Blk w b cs t)(hk:KeepN B w w')(hne:b≠B)(ht:t≠154):Blk w' b cs t :=
 hk.block b _ h hne (.inr fun cs' fz e=>by simp only[Obj.cells.injEq]at e;exact ht e.2.1)
theorem own_keepN{w w':World}{B base s n:Nat}{e t:TypeId}{v:Value}{xs:List Value}{cs:Array Value}(h:w.ownsRow base e s v n xs)(hb:Blk w B cs t)(hne:t≠e)(he:e≠154)(hk:KeepN B w w'):w'.ownsRow base e s v n xs:=by
 refine ⟨h.1, ?_⟩
 rcases h.2 with hn | ⟨g,cap,cur,rfl,hbg,hg,r⟩
 ·exact .inl hn
 ·refine .inr ⟨g,cap,cur,rfl,hbg, ?_,r⟩
  refine hk.block g _ hg ?_ (.inr fun cs' fz e'=>by simp only[Obj.cells.injEq]at e';exact he e'.2.1)
  rintro rfl
  unfold Blk at hb
  rw[hb]at hg
  simp only[Option.some.injEq,Obj.cells.injEq]at hg
  exact hne hg.2.1
theorem KeepN.grown{w w':World}{B s n:Nat}{v:Value}{xs:List Value}(h:w.ownsRow (B+1) 154 s v n xs)(hg:w.grownBy w' v.ownBlock):KeepN B w w':=by
 refine ⟨hg.os,hg.tape,hg.output,hg.size,fun b o h1 h2 h3=>?_⟩
 have hlt:=(Array.getElem?_eq_some_iff.1 h1).1
 rw[hg.block b hlt ?_]
 ·exact h1
 ·intro e
  rcases h.2 with ⟨rfl,_⟩ | ⟨g,cap,cur,rfl,hbg,hgg,r⟩
  ·cases e
  ·simp only[Value.ownBlock,Option.some.injEq]at e
   subst e
   rcases h3 with h3 | h3
   ·omega
   ·rw[hgg]at h1
    simp only[Option.some.injEq]at h1
    exact h3 _ _ h1.symm
theorem RdAt.setK{w:World}{B:Nat}{S:RS}(h:RdAt w B S)(k:Nat)(hk:k<S.T.length)(hn:S.k≤k):RdAt (w.setCell ⟨B,1,none⟩ (.int .i64 k)) B { S with k:=k } :=
 ⟨h.blk.set 1 _,own_set h.otk h.blk (by decide),own_set h.ond h.blk (by decide),own_set h.olt h.blk (by decide),own_set h.orl h.blk (by decide),hk,h.tl,Nat.le_trans h.nk hn,h.dl⟩
theorem RdAt.setD{w:World}{B:Nat}{S:RS}(h:RdAt w B S)(d:Nat)(hd:d≤8):RdAt (w.setCell ⟨B,2,none⟩ (.int .i64 d)) B { S with d:=d } :=
 ⟨h.blk.set 2 _,own_set h.otk h.blk (by decide),own_set h.ond h.blk (by decide),own_set h.olt h.blk (by decide),own_set h.orl h.blk (by decide),h.kt,h.tl,h.nk,hd⟩
theorem RdAt.setF{w:World}{B:Nat}{S:RS}(h:RdAt w B S)(f:Bool):RdAt (w.setCell ⟨B,3,none⟩ (.bool f)) B { S with f:=f } :=
 ⟨h.blk.set 3 _,own_set h.otk h.blk (by decide),own_set h.ond h.blk (by decide),own_set h.olt h.blk (by decide),own_set h.orl h.blk (by decide),h.kt,h.tl,h.nk,h.dl⟩
theorem RdAt.shape{w:World}{B:Nat}{S:RS}(h:RdAt w B S):∃ g cap,S.tv=.slice (some ⟨g,0,none⟩) S.T.length cap∧S.T.length≤cap∧g<w.heap.size∧∀ j u,(cellsT S.T)[j]?=some u→w.cell? ⟨g,j,none⟩=some u:=by
 have hp:=h.kt
 rcases h.otk.2 with ⟨_,hn⟩ | ⟨g,cap,cur,hv,hb,hg,hnc,hcm,hcs,htk⟩
 ·omega
 ·refine ⟨g,cap,hv,hnc,lt_of_block hg,fun j u hj=>?_⟩
  have hlt:j<S.T.length*3:=by
   have:=h.otk.1
   rw[List.getElem?_eq_some_iff]at hj
   obtain ⟨h1,_⟩:=hj
   omega
  have:=h.otk
  rw[hv]at this
  rw[this.cellAt j hlt]
  exact hj
def tokA(t:RTok):Value:=.agg #[.int .i64 (kindP t.text),.int .i64 t.at',.string (bsOf t.text)]
theorem tok_end{w W:World}(hb:Below w.heap.size w W)(a b c:Value):Below w.heap.size w (((W.setCell ⟨w.heap.size,0,none⟩ a).setCell ⟨w.heap.size,1,none⟩ b).setCell ⟨w.heap.size,2,none⟩ c) :=
 ((hb.setCell (p:=⟨w.heap.size,0,none⟩) (Nat.le_refl _) a).setCell (p:=⟨w.heap.size,1,none⟩) (Nat.le_refl _) b).setCell (p:=⟨w.heap.size,2,none⟩) (Nat.le_refl _) c
theorem new_below(w:World)(o:Obj):Below w.heap.size w (w.alloc o):=(Below.refl _ _).alloc (Nat.le_refl _) o
set_option maxHeartbeats 1000000 in
theorem current_any(B:Nat)(S:RS)(w:World)(h:RdAt w B S)(hk:S.k<S.T.length) :
  Calls Tryz.prog 43 #[.pointer (some ⟨B,0,none⟩)] w fun e w'=>e=.returned (tokA S.T[S.k])∧Below w.heap.size w w':=by
 obtain ⟨g,cap,hv,hcap,hg,hc⟩:=h.shape
 have htl:=h.tl
 have hB:=h.blk.lt
 have c0:=h.blk.cell 0
 have c1:=h.blk.cell 1
 simp only[List.getElem?_toArray,List.getElem?_cons_zero,List.getElem?_cons_succ]at c0 c1
 rw[hv]at c0
 obtain ⟨g0,g1,g2⟩:=cellsT_get S.T S.k hk
 have d0:=hc _ _ g0
 have d1:=hc _ _ g1
 have d2:=hc _ _ g2
 clear hc g0 g1 g2 h hv
 unfold tokA
 generalize S.T[S.k]=t at *
 obtain ⟨kd,hkd⟩:∃ kd,kd=kindP t.text:=⟨_,rfl⟩
 rw[← hkd]at d0 ⊢
 clear hkd
 generalize hn:S.T.length=n at *
 clear hn
 generalize hkk:S.k=k at *
 clear hkk
 go_enter Tryz.func43,Tryz.ntmps43
 go_wp2
 go_quiet (fail)
 go_wp2
 go_region
 all_goals
  go_wp2
  refine bodyPost_ret (v:=.agg #[.int .i64 kd,.int .i64 t.at',.string (bsOf t.text)]) (by simp[results,Tryz.results43,go_sem]) rfl ⟨rfl, ?_⟩
  exact tok_end (below_drewN (new_below w _) _) _ _ _
set_option maxHeartbeats 1000000 in
theorem sees_any(B:Nat)(S:RS)(w:World)(h:RdAt w B S)(hk:S.k<S.T.length)(n:Nat) :
  Calls Tryz.prog 67 #[.pointer (some ⟨B,0,none⟩),.int .i64 n] w fun e w'=>e=.returned (.bool (!S.f&&kindP S.T[S.k].text==n))∧Below w.heap.size w w':=by
 have HR:=hideP h
 have hB:=h.blk.lt
 clear h
 go_enter Tryz.func67,Tryz.ntmps67
 go_wp2_with (go_at_call 43;refine (current_any B S _ HR.out hk).mono ?_;rintro e w1 ⟨rfl,hb1⟩;unfold tokA;replace HR:=hideP (HR.out.below hb1);have c3:=HR.out.blk.cell 3;have hB1:=HR.out.blk.lt;simp only[List.getElem?_toArray,List.getElem?_cons_zero,List.getElem?_cons_succ]at c3)
 all_goals go_ret
 all_goals refine ⟨ret_bool ?_,hb1.alloc (by have:=hb1.size;omega) _⟩
 ·simp_all
 ·have hf:S.f=false:=by simp_all
  rw[hf,Bool.eq_iff_iff]
  simp only[Bool.not_false,Bool.true_and,beq_iff_eq]
  omega
set_option maxHeartbeats 1000000 in
theorem take_yes(B:Nat)(S:RS)(w:World)(h:RdAt w B S)(hk:S.k<S.T.length)(n:Nat)(hs:S.f=false)(hn:kindP S.T[S.k].text=n)(hk2:S.k+1<S.T.length) :
  Calls Tryz.prog 102 #[.pointer (some ⟨B,0,none⟩),.int .i64 n] w fun e w'=>e=.returned (.tuple #[])∧RdAt w' B { S with k:=S.k+1 }∧KeepN B w w':=by
 have HR:=hideP h
 have HN:=hideP hn
 have HS:=hideP hs
 have hB:=h.blk.lt
 have htl:=h.tl
 clear h hn hs
 go_enter Tryz.func102,Tryz.ntmps102
 go_wp2_with (go_at_call 67;refine (sees_any B S _ HR.out hk n).mono ?_;rintro e w1 ⟨rfl,hb1⟩;rw[HN.out,HS.out];simp only[Bool.not_false,Bool.true_and,beq_self_eq_true];replace HR:=hideP (HR.out.below hb1);have c1:=HR.out.blk.cell 1;have f1:=HR.out.blk.free 1;have hB1:=HR.out.blk.lt;simp only[List.getElem?_toArray,List.getElem?_cons_zero,List.getElem?_cons_succ]at c1)
 have R:=HR.out.setK (S.k+1) hk2 (by omega)
 refine bodyPost_end (results_none rfl _ _ _) rfl ?_
 exact ⟨rfl,R,(KeepN.of hb1).trans (KeepN.set B 1 _)⟩
set_option maxHeartbeats 1000000 in
theorem take_no(B:Nat)(S:RS)(w:World)(h:RdAt w B S)(hk:S.k<S.T.length)(n:Nat)(hs:S.f=true∨kindP S.T[S.k].text≠n) :
  Calls Tryz.prog 102 #[.pointer (some ⟨B,0,none⟩),.int .i64 n] w fun e w'=>e=.returned (.tuple #[])∧RdAt w' B { S with f:=true }∧KeepN B w w':=by
 have HR:=hideP h
 have hb:(!S.f&&kindP S.T[S.k].text==n)=false:=by
  rcases hs with hs | hs
  ·simp[hs]
  ·simp[hs]
 have HN:=hideP hb
 have hB:=h.blk.lt
 have htl:=h.tl
 clear h hb hs
 go_enter Tryz.func102,Tryz.ntmps102
 go_wp2_with (go_at_call 67;refine (sees_any B S _ HR.out hk n).mono ?_;rintro e w1 ⟨rfl,hb1⟩;rw[HN.out];replace HR:=hideP (HR.out.below hb1);have c1:=HR.out.blk.cell 3;have f1:=HR.out.blk.free 3;have hB1:=HR.out.blk.lt;simp only[List.getElem?_toArray,List.getElem?_cons_zero,List.getElem?_cons_succ]at c1)
 have R:=HR.out.setF true
 refine bodyPost_end (results_none rfl _ _ _) rfl ?_
 exact ⟨rfl,R,(KeepN.of hb1).trans (KeepN.set B 3 _)⟩
set_option maxHeartbeats 1000000 in
theorem currentBinding_any(B:Nat)(S:RS)(w:World)(h:RdAt w B S)(hk:S.k<S.T.length) :
  Calls Tryz.prog 141 #[.pointer (some ⟨B,0,none⟩)] w fun e w'=>e=.returned (.int .i64 ((if S.f then 0 else bindK (kindP S.T[S.k].text):Nat):Int))∧Below w.heap.size w w':=by
 have HR:=hideP h
 have hB:=h.blk.lt
 have c3:=h.blk.cell 3
 simp only[List.getElem?_toArray,List.getElem?_cons_zero,List.getElem?_cons_succ]at c3
 clear h
 cases hf:S.f
 ·rw[hf]at c3
  clear hf
  go_enter Tryz.func141,Tryz.ntmps141
  go_wp2_with (first | (go_at_call 43;refine (current_any B S _ HR.out hk).mono ?_;rintro e w1 ⟨rfl,hb1⟩;unfold tokA;replace HR:=hideP (HR.out.below hb1)) | (go_at_call 144;refine (binding_any _ _).mono ?_;rintro e w2 ⟨rfl,rfl⟩))
  go_ret
  exact ⟨ret_int (by simp),hb1.alloc (by have:=hb1.size;omega) _⟩
 ·rw[hf]at c3
  clear hf
  go_enter Tryz.func141,Tryz.ntmps141
  go_wp2
  go_ret
  exact ⟨ret_int (by simp),Below.refl _ _⟩
def nodA(n:PNode):Value:=.agg #[.int .i64 (kindP n.tok.text),.int .i64 n.tok.at',.string (bsOf n.tok.text),.int .i64 n.ops,.int .i64 n.left,.int .i64 n.right]
theorem Tryz.infoNode:(Tryz.prog.info? 154).map (fun i=>(i.zero,i.size,i.bytes))=some (some (.agg #[.int .i64 0,.int .i64 0,.string ⟨#[]⟩,.int .i64 0,.int .i64 0,.int .i64 0]),6,56):=by kernel_rfl
theorem one_nod(n:PNode):∀ u∈cellN n,u.oneCell'=true:=by
 intro u hu
 simp[cellN]at hu
 rcases hu with rfl | rfl | rfl | rfl | rfl | rfl <;> rfl
theorem cellsN_snoc(l:List PNode)(n:PNode):cellsN (l++[n])=cellsN l++cellN n:=by simp[cellsN]
theorem rd_added{w w3:World}{B:Nat}{S:RS}{n:PNode}{v:Value}{kd:Nat}(h:RdAt w B S)(ho:w3.ownsRow (B+1) 154 6 v (S.ns.length+1) (cellsN S.ns++[.int .i64 kd,.int .i64 n.tok.at',.string (bsOf n.tok.text),.int .i64 n.ops,.int .i64 n.left,.int .i64 n.right]))(hg:w.grownBy w3 S.nv.ownBlock)(hkd:kindP n.tok.text=kd)(hn:S.ns.length+1≤S.k) :
  RdAt (w3.setCell ⟨B,4,none⟩ v) B { S with nv:=v,ns:=S.ns++[n] }∧KeepN B w (w3.setCell ⟨B,4,none⟩ v):=by
 have hk:=KeepN.grown h.ond hg
 have hneB:some B≠S.nv.ownBlock:=by intro e;have:=(h.ond.lt B e.symm).1;omega
 have hb:Blk w3 B #[S.tv,.int .i64 S.k,.int .i64 S.d,.bool S.f,S.nv,S.lv,S.rv] 99:=by
  unfold Blk;rw[hg.block B h.blk.lt hneB];exact h.blk
 subst hkd
 refine ⟨⟨hb.set 4 v,own_set (own_keepN h.otk h.blk (by decide) (by decide) hk) hb (by decide), ?_,own_set (own_keepN h.olt h.blk (by decide) (by decide) hk) hb (by decide),own_set (own_keepN h.orl h.blk (by decide) (by decide) hk) hb (by decide),h.kt,h.tl,by simpa using hn,h.dl⟩,hk.trans (KeepN.set B 4 v)⟩
 have:=own_set (i:=4) (u:=v) ho hb (by decide)
 simpa[cellsN_snoc,cellN] using this
set_option maxHeartbeats 2000000 in
set_option maxRecDepth 100000 in
theorem add_any(B:Nat)(S:RS)(w:World)(h:RdAt w B S)(n:PNode)(hn:S.ns.length+1≤S.k) :
  Calls Tryz.prog 142 #[.pointer (some ⟨B,0,none⟩),nodA n] w fun e w'=>e=.returned (.int .i64 (S.ns.length:Nat))∧(∃ nv,RdAt w' B { S with nv:=nv,ns:=S.ns++[n] })∧KeepN B w w':=by
 obtain ⟨i0,hi,hz0,hz1,hz2⟩:=info_parts Tryz.infoNode
 have HR:=hideP h
 have hB:=h.blk.lt
 have htl:=h.tl
 have hkt:=h.kt
 have c4:=h.blk.cell 4
 have f4:=h.blk.free 4
 simp only[List.getElem?_toArray,List.getElem?_cons_zero,List.getElem?_cons_succ]at c4
 have hOn:=h.ond
 clear h
 unfold nodA
 generalize hkd:kindP n.tok.text=kd
 have HKD:=hideP hkd
 clear hkd
 go_enter Tryz.func142,Tryz.ntmps142
 go_wp2
 have hneB:S.nv.ownBlock≠some B:=by intro e;have:=(hOn.lt B e).1;omega
 have HW:=hideP (((HR.out.alloc (.cells #[.int .i64 kd,.int .i64 n.tok.at',.string (bsOf n.tok.text),.int .i64 n.ops,.int .i64 n.left,.int .i64 n.right] 154)).alloc (.cells #[.int .i64 kd,.int .i64 n.tok.at',.string (bsOf n.tok.text),.int .i64 n.ops,.int .i64 n.left,.int .i64 n.right] 154)).drew)
 have hone:∀ u∈[Value.int .i64 kd,.int .i64 n.tok.at',.string (bsOf n.tok.text),.int .i64 n.ops,.int .i64 n.left,.int .i64 n.right],u.oneCell'=true:=by have:=one_nod n;unfold cellN at this;rw[HKD.out]at this;exact this
 have h63:S.ns.length+1≤maxLen:=by unfold maxLen;omega
 have hnb:=Blk.new (w.alloc (.cells #[.int .i64 kd,.int .i64 n.tok.at',.string (bsOf n.tok.text),.int .i64 n.ops,.int .i64 n.left,.int .i64 n.right] 154)) #[.int .i64 kd,.int .i64 n.tok.at',.string (bsOf n.tok.text),.int .i64 n.ops,.int .i64 n.left,.int .i64 n.right] 154
 rw[show (w.alloc (.cells #[.int .i64 kd,.int .i64 n.tok.at',.string (bsOf n.tok.text),.int .i64 n.ops,.int .i64 n.left,.int .i64 n.right] 154)).heap.size=w.heap.size+1 from by simp]at hnb
 have hnews:∀ j u,[Value.int .i64 kd,.int .i64 n.tok.at',.string (bsOf n.tok.text),.int .i64 n.ops,.int .i64 n.left,.int .i64 n.right][j]?=some u→(((w.alloc (.cells #[.int .i64 kd,.int .i64 n.tok.at',.string (bsOf n.tok.text),.int .i64 n.ops,.int .i64 n.left,.int .i64 n.right] 154)).alloc (.cells #[.int .i64 kd,.int .i64 n.tok.at',.string (bsOf n.tok.text),.int .i64 n.ops,.int .i64 n.left,.int .i64 n.right] 154)).drew).cell? ((⟨w.heap.size+1,0,none⟩:Addr).add j)=some u:=World.news_of_block (cs:=#[.int .i64 kd,.int .i64 n.tok.at',.string (bsOf n.tok.text),.int .i64 n.ops,.int .i64 n.left,.int .i64 n.right]) (t:=154) (fr:=(0,0)) hnb
 go_region_law ((refine step_append_lies _ (by rfl) _ _ _ (by rfl) (B+1) 154 i0 _ 6 56 Tryz.underlying69 hi hz0 hz1 hz2 rfl (by omega) S.nv S.ns.length (cellsN S.ns) (by rfl) HW.out.ond ⟨w.heap.size+1,0,none⟩ 1 1 [.int .i64 kd,.int .i64 n.tok.at',.string (bsOf n.tok.text),.int .i64 n.ops,.int .i64 n.left,.int .i64 n.right] (by rfl) (by rfl) hnews hone (by omega) h63 (by omega) (by simp <;> omega) (w.heap.size+1+1) (by simp) ?_;intro gg cap w3 hown3 hgrow hat hlt4;have f3:w3.frozen? ⟨B,4,none⟩=false:=(hgrow.frozen_far _ (by simp <;> omega) (Ne.symm hneB)).trans (HW.out.blk.free 4);have c3:w3.cell? ⟨B,4,none⟩=some S.nv:=(hgrow.cell_far _ (by simp <;> omega) (Ne.symm hneB)).trans (HW.out.blk.cell 4)))
 all_goals
  have R:=rd_added HW.out hown3 hgrow HKD.out hn
  clear hnews hnb hone hown3 hgrow
  go_wp2
  go_ret
  exact ⟨ret_int (by omega),⟨_,R.1⟩,(KeepN.of (below_drewN (((Below.refl _ w).alloc (Nat.le_refl _) _).alloc (by simp) _) 1)).trans R.2⟩
end Go.Proofs.YtpcjadaeolkngaaGreatDoor
