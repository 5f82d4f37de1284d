/-
  The program's first and Scan: the tokens of a text, with one of the kind End behind them; or the place at which none begins.
-/
import Derived.Test.YtgfnkeiigjholaaGreatDoorQ17
import Derived.Test.YtgfnkeiigjholaaGreatDoorQ10
set_option linter.unusedVariables false
set_option linter.unusedSimpArgs false
namespace Go.Proofs.YtgfnkeiigjholaaGreatDoor
open Go.RowKit
set_option maxHeartbeats 1000000 in
theorem first_any(s:ByteArray)(hs:s.size≤400)(w:World)(hg:GlobT w) :
    Calls Tryz.prog 90 #[.string s] w fun e w'=>e=.returned (.tuple #[.int .i64 (firstT s.toList).1,.int .i64 (firstT s.toList).2])∧Below w.heap.size w w':=by
  have HG:Hid (GlobT w):=hg
  clear hg
  have hdl:digitRowT s.toList≤s.size:=by rw[← toList_length];exact takeWhile_length_le _ _
  have hll:letterRowT s.toList≤s.size:=by rw[← toList_length];exact takeWhile_length_le _ _
  have hft:firstT s.toList=if 18<digitRowT s.toList then (0,0) else if 0<digitRowT s.toList then (1,digitRowT s.toList) else if 8<letterRowT s.toList then (0,0) else if 0<letterRowT s.toList then (wordKindT (s.toList.take (letterRowT s.toList)),letterRowT s.toList) else firstSignT s.toList:=rfl
  obtain ⟨n,hn⟩:∃ n,n=digitRowT s.toList:=⟨_,rfl⟩
  obtain ⟨m,hm⟩:∃ m,m=letterRowT s.toList:=⟨_,rfl⟩
  rw[← hn]at hdl hft
  rw[← hm]at hll hft
  have HN:Hid (digitRowT s.toList=n):=hn.symm
  have HM:Hid (letterRowT s.toList=m):=hm.symm
  have HX:Hid ((s.extract 0 m).toList=s.toList.take m):=(by rw[extract_bsOf,bsOf_toList];simp:(s.extract 0 m).toList=s.toList.take m)
  clear hn hm
  by_cases h1:18<n
  · rw[hft,if_pos h1];clear hft
    go_enter Tryz.func90,Tryz.ntmps90
    go_wp2_with (first | (go_at_call 132;refine (digitRow_any s hs _).mono ?_;rintro e _ ⟨rfl,rfl⟩;rw[HN.out]) | (go_at_call 133;refine (letterRow_any s hs _).mono ?_;rintro e _ ⟨rfl,rfl⟩;rw[HM.out]) | (go_at_call 134;refine (wordKind_any _ _ HG.out).mono ?_;rintro e _ ⟨rfl,rfl⟩) | (go_at_call 135;refine (firstSign_any s hs _ HG.out).mono ?_;rintro e w5 ⟨rfl,hb5⟩))
    go_ret2
    exact ⟨rfl,Below.refl _ _⟩
  · rw[if_neg h1]at hft
    by_cases h2:0<n
    · rw[hft,if_pos h2];clear hft
      go_enter Tryz.func90,Tryz.ntmps90
      go_wp2_with (first | (go_at_call 132;refine (digitRow_any s hs _).mono ?_;rintro e _ ⟨rfl,rfl⟩;rw[HN.out]) | (go_at_call 133;refine (letterRow_any s hs _).mono ?_;rintro e _ ⟨rfl,rfl⟩;rw[HM.out]) | (go_at_call 134;refine (wordKind_any _ _ HG.out).mono ?_;rintro e _ ⟨rfl,rfl⟩) | (go_at_call 135;refine (firstSign_any s hs _ HG.out).mono ?_;rintro e w5 ⟨rfl,hb5⟩))
      go_ret2
      exact ⟨rfl,Below.refl _ _⟩
    · rw[if_neg h2]at hft
      by_cases h3:8<m
      · rw[hft,if_pos h3];clear hft
        go_enter Tryz.func90,Tryz.ntmps90
        go_wp2_with (first | (go_at_call 132;refine (digitRow_any s hs _).mono ?_;rintro e _ ⟨rfl,rfl⟩;rw[HN.out]) | (go_at_call 133;refine (letterRow_any s hs _).mono ?_;rintro e _ ⟨rfl,rfl⟩;rw[HM.out]) | (go_at_call 134;refine (wordKind_any _ _ HG.out).mono ?_;rintro e _ ⟨rfl,rfl⟩) | (go_at_call 135;refine (firstSign_any s hs _ HG.out).mono ?_;rintro e w5 ⟨rfl,hb5⟩))
        go_ret2
        exact ⟨rfl,Below.refl _ _⟩
      · rw[if_neg h3]at hft
        by_cases h4:0<m
        · rw[hft,if_pos h4];clear hft
          go_enter Tryz.func90,Tryz.ntmps90
          go_wp2_with (first | (go_at_call 132;refine (digitRow_any s hs _).mono ?_;rintro e _ ⟨rfl,rfl⟩;rw[HN.out]) | (go_at_call 133;refine (letterRow_any s hs _).mono ?_;rintro e _ ⟨rfl,rfl⟩;rw[HM.out]) | (go_at_call 134;refine (wordKind_any _ _ HG.out).mono ?_;rintro e _ ⟨rfl,rfl⟩) | (go_at_call 135;refine (firstSign_any s hs _ HG.out).mono ?_;rintro e w5 ⟨rfl,hb5⟩))
          go_ret2
          exact ⟨by rw[← HX.out];rfl,Below.refl _ _⟩
        · rw[hft,if_neg h4];clear hft
          go_enter Tryz.func90,Tryz.ntmps90
          go_wp2_with (first | (go_at_call 132;refine (digitRow_any s hs _).mono ?_;rintro e _ ⟨rfl,rfl⟩;rw[HN.out]) | (go_at_call 133;refine (letterRow_any s hs _).mono ?_;rintro e _ ⟨rfl,rfl⟩;rw[HM.out]) | (go_at_call 134;refine (wordKind_any _ _ HG.out).mono ?_;rintro e _ ⟨rfl,rfl⟩) | (go_at_call 135;refine (firstSign_any s hs _ HG.out).mono ?_;rintro e w5 ⟨rfl,hb5⟩))
          go_ret2
          exact ⟨rfl,hb5⟩
def cellP(t:PTok):List Value:=[.int .i64 t.kind,.int .i64 t.place,.string (bsOf t.text)]
def cellsP(l:List PTok):List Value:=l.flatMap cellP
theorem cellsP_snoc(l:List PTok)(t:PTok):cellsP (l++[t])=cellsP l++cellP t:=by simp[cellsP]
theorem Tryz.infoPTok:(Tryz.prog.info? 107).map (fun i=>(i.zero,i.size,i.bytes))=some (some (.agg #[.int .i64 0,.int .i64 0,.string ⟨#[]⟩]),3,32):=by kernel_rfl
def preP(acc:List PTok):Except Nat (List PTok)→Except Nat (List PTok)
  | .ok l=>.ok (acc++l)
  | .error e=>.error e
theorem preP_app(a b:List PTok)(x:Except Nat (List PTok)):preP a (preP b x)=preP (a++b) x:=by cases x <;> simp[preP]
theorem toksP_end(s:ByteArray)(p:Nat)(hp:s.size≤p):toksP (s.toList.drop p) p=.ok [⟨0,p,[]⟩]:=by
  rw[List.drop_eq_nil_of_le (by rw[toList_length];omega),toksP_nil]
theorem toksP_blank(s:ByteArray)(p:Nat)(hp:p<s.size)(hb:blankC s[p]=true):toksP (s.toList.drop p) p=toksP (s.toList.drop (p+1)) (p+1):=by
  rw[drop_cons s p hp,toksP_cons,if_pos hb]
theorem toksP_bad(s:ByteArray)(p:Nat)(hp:p<s.size)(hb:blankC s[p]=false)(hn:(firstT (s.toList.drop p)).2=0):toksP (s.toList.drop p) p=.error p:=by
  rw[drop_cons s p hp]at hn ⊢
  rw[toksP_cons,if_neg (by simp[hb]),if_pos hn]
theorem toksP_tok(s:ByteArray)(p n k:Nat)(hp:p<s.size)(hb:blankC s[p]=false)(hf:firstT (s.toList.drop p)=(k,n))(hn:n≠0) :
    toksP (s.toList.drop p) p=preP [⟨k,p,(s.toList.drop p).take n⟩] (toksP (s.toList.drop (p+n)) (p+n)):=by
  rw[show s.toList.drop (p+n)=(s.toList.drop p).drop n by rw[List.drop_drop]]
  rw[drop_cons s p hp]at hf ⊢
  conv=>lhs;rw[toksP_cons]
  rw[if_neg (by simp[hb]),if_neg (by rw[hf];exact hn),hf]
  cases toksP ((s[p] :: s.toList.drop (p+1)).drop n) (p+n) <;> rfl
theorem cell_three(w:World)(x y z:Value)(e:TypeId):∀ j u,[x,y,z][j]?=some u→(w.alloc (.cells #[x,y,z] e)).cell? ((⟨w.heap.size,0,none⟩:Addr).add j)=some u:=by
  intro j u hj
  match j,hj with
  | 0,hj=>simp at hj;subst hj;simp[Addr.add]
  | 1,hj=>simp at hj;subst hj;simp[Addr.add]
  | 2,hj=>simp at hj;subst hj;simp[Addr.add]
theorem one_three{s:ByteArray}{k k':IntKind}{n n':Int}:∀ u∈[Value.int k n,Value.int k' n',Value.string s],u.oneCell'=true:=by
  intro u hu
  simp at hu
  rcases hu with rfl | rfl | rfl <;> rfl
theorem scan_step{w wr w1 w2:World}{acc:List PTok}{v v':Value}{b:ByteArray}{k p:Nat}{e:TypeId}{o:Obj}(hbel:Below w.heap.size w wr)(hb1:Below wr.heap.size wr w1)
    (hown2:w2.ownsRow w.heap.size e 3 v' (acc.length+1) (cellsP acc++[.int .i64 k,.int .i64 p,.string b])) (hg:(w1.alloc o).grownBy w2 v.ownBlock) (hown1:w1.ownsRow w.heap.size e 3 v acc.length (cellsP acc)) :
    w2.ownsRow w.heap.size e 3 v' (acc++[(⟨k,p,b.toList⟩:PTok)]).length (cellsP (acc++[⟨k,p,b.toList⟩]))∧Below w.heap.size w w2:=by
  have hs1:=hbel.size
  have hs2:=hb1.size
  refine ⟨?_, ?_⟩
  · rw[cellsP_snoc]
    simp only[cellP,bsOf_of,List.length_append,List.length_cons,List.length_nil]
    exact hown2
  · exact ((hbel.trans (hb1.mono hs1)).alloc (by omega) o).grown hg (by simp;omega) (fun k hk=>(hown1.lt k hk).1)
set_option maxHeartbeats 1000000 in
set_option maxRecDepth 10000 in
theorem Scan_any(s:ByteArray)(hs:s.size≤400)(w:World)(hg:GlobT w) :
    Calls Tryz.prog 53 #[.string s] w fun e w'=>Below w.heap.size w w' ∧
      ((∃ l v,toksP s.toList 0=.ok l∧l.length≤401∧e=.returned (.tuple #[v,.bool true,.int .i64 0])∧w'.ownsRow w.heap.size 107 3 v l.length (cellsP l)) ∨
       (∃ p,toksP s.toList 0=.error p∧e=.returned (.tuple #[.slice none 0 0,.bool false,.int .i64 p]))):=by
  obtain ⟨i0,hi,hz0,hz1,hz2⟩:=info_parts Tryz.infoPTok
  have HG:Hid (GlobT w):=hg
  clear hg
  go_enter Tryz.func53,Tryz.ntmps53
  go_wp2
  go_loopw [5,6] (fun v vi wr=>∃ (p:Nat) (acc:List PTok),p≤s.size∧vi=.int .i64 p∧wr.ownsRow w.heap.size 107 3 v acc.length (cellsP acc)∧acc.length≤p∧Below w.heap.size w wr∧toksP s.toList 0=preP acc (toksP (s.toList.drop p) p)) (fun _ i _=>s.size-(intOf i).toNat)
  case atStart=>exact ⟨0,[],Nat.zero_le _,rfl,World.ownsRow_made w #[] 0 (Nat.le_refl _) (by unfold maxLen;omega) rfl,Nat.le_refl _,(Below.refl _ _).alloc (Nat.le_refl _) _,by rw[List.drop_zero];cases toksP s.toList 0 <;> rfl⟩
  case round =>
    obtain ⟨p,acc,hp,rfl,hown,hacc,hbel,hrem⟩:=hrel
    have HR:Hid (toksP s.toList 0=preP acc (toksP (s.toList.drop p) p)):=hrem
    clear hrem
    have hbs:=hbel.size
    by_cases hlt:p<s.size
    · cases hb:blankC s[p]
      · have hrs:(s.extract p s.size).size=s.size-p:=by rw[ByteArray.size_extract];omega
        have hrt:(s.extract p s.size).toList=s.toList.drop p:=by rw[extract_bsOf,bsOf_toList,← toList_length,← List.length_drop,List.take_length]
        obtain ⟨r,hr⟩:∃ r,r=s.extract p s.size:=⟨_,rfl⟩
        have hsl:∀ wx:World,(Instr.slice 9 (.string s) (some (.int .i64 (p:Int))) none none).run Tryz.prog wx=.ok (.string r) wx:=by
          intro wx
          rw[hr,run_slice_string_l wx 9 s Tryz.underlying9 .i64 _ (by omega) (by omega)]
          simp
        rw[← hr]at hrs hrt
        have HRT:Hid (r.toList=s.toList.drop p):=hrt
        have hr4:r.size≤400:=by omega
        have hfl:=firstT_le r.toList
        rw[toList_length]at hfl
        obtain ⟨k,n,hkn⟩:∃ k n,firstT r.toList=(k,n):=⟨_,_,rfl⟩
        rw[hkn]at hfl
        have HKN:Hid (firstT r.toList=(k,n)):=hkn
        have HB:Hid (blankC s[p]=false):=hb
        have hnp:n≤r.size:=hfl
        have hnps:p+n≤s.size:=by omega
        clear hrt hr hkn hfl hrs
        by_cases hn0:n=0
        · subst hn0
          go_wp2_with (first | (go_at_call 89;refine (isBlank_any _ _).mono ?_;rintro e w9 ⟨rfl,hw9⟩;subst hw9;simp only[hb]) | (go_at_call 90;refine (first_any r hr4 _ (HG.out.below hbel)).mono ?_;rintro e w1 ⟨rfl,hb1⟩;rw[HKN.out]))
          go_ret3
          exact ⟨hbel.trans (hb1.mono hbs),.inr ⟨p,by rw[HR.out,toksP_bad s p hlt HB.out (by rw[← HRT.out,HKN.out])];rfl,rfl⟩⟩
        · have hn0':¬ ((n:Int)=0):=by omega
          go_wp2_with (first | (go_at_call 89;refine (isBlank_any _ _).mono ?_;rintro e w9 ⟨rfl,hw9⟩;subst hw9;simp only[hb]) | (go_at_call 90;refine (first_any r hr4 _ (HG.out.below hbel)).mono ?_;rintro e w1 ⟨rfl,hb1⟩;rw[HKN.out];have hown1:=own_below hown hb1;have hs1:=hb1.size) | (at_builtin;refine wpList_append_own _ rfl (.tmp 32) (.tmp 39) 100 rfl w.heap.size 107 i0 (.agg #[.int .i64 0,.int .i64 0,.string ⟨#[]⟩]) 3 32 Tryz.underlying100 hi hz0 hz1 hz2 rfl (by decide) _ _ _ rfl (hown1.alloc _) ⟨w1.heap.size,0,none⟩ 1 1 [.int .i64 k,.int .i64 p,.string (r.extract 0 n)] rfl rfl (cell_three _ _ _ _ _) one_three (by unfold maxLen;omega) (by omega) (by simp;omega) ?_;intro v' w2 hown2 hgrow2 _))
          have R:=scan_step hbel hb1 hown2 hgrow2 hown1
          have HTX:Hid ((s.toList.drop p).take n=(r.extract 0 n).toList):=(by rw[extract_bsOf,bsOf_toList,HRT.out];simp:(s.toList.drop p).take n=(r.extract 0 n).toList)
          clear hown2 hgrow2 hown1
          go_roundw
          case rel=>exact ⟨p+n,acc++[⟨k,p,(r.extract 0 n).toList⟩],by omega,by go_num,R.1,by simp;omega,R.2,by rw[HR.out,toksP_tok s p n k hlt HB.out (by rw[← HRT.out];exact HKN.out) hn0,preP_app,HTX.out]⟩
          case measure=>simp[intOf];omega
      · go_wp2_with (first | (go_at_call 89;refine (isBlank_any _ _).mono ?_;rintro e w9 ⟨rfl,hw9⟩;subst hw9;simp only[hb]))
        go_roundw
        case rel=>exact ⟨p+1,acc,by omega,by go_num,hown,by omega,hbel,by rw[HR.out,toksP_blank s p hlt hb]⟩
        case measure=>simp[intOf];omega
    · go_wp2_with (at_builtin;refine wpList_append_own _ rfl (.tmp 44) (.tmp 47) 100 rfl w.heap.size 107 i0 (.agg #[.int .i64 0,.int .i64 0,.string ⟨#[]⟩]) 3 32 Tryz.underlying100 hi hz0 hz1 hz2 rfl (by decide) _ _ _ rfl (hown.alloc _) ⟨wr.heap.size,0,none⟩ 1 1 [.int .i64 0,.int .i64 p,.string (⟨#[]⟩)] rfl rfl (cell_three _ _ _ _ _) one_three (by unfold maxLen;omega) (by omega) (by simp;omega) ?_;intro v' w2 hown2 hgrow2 _)
      have R:=scan_step (k:=0) (p:=p) (b:=⟨#[]⟩) hbel (Below.refl _ _) hown2 hgrow2 hown
      rw[show (⟨#[]⟩:ByteArray).toList=[] by rw[ByteArray.toList_eq]]at R
      go_ret3
      exact ⟨R.2,.inl ⟨acc++[⟨0,p,[]⟩],v',by rw[HR.out,toksP_end s p (by omega)];rfl,by simp;omega,rfl,R.1⟩⟩
set_option maxHeartbeats 1000000 in
theorem binding_any(k:Nat)(w:World) :
  Calls Tryz.prog 184 #[.int .i64 k] w fun e w'=>e=.returned (.int .i64 (bindK k))∧w'=w:=by
 go_enter Tryz.func184,Tryz.ntmps184
 go_wp2
 all_goals go_ret
 all_goals exact ⟨ret_int (by simp at *;unfold bindK;(repeat' split) <;> omega),rfl⟩
set_option maxHeartbeats 1000000 in
theorem isSingle_any(k:Nat)(w:World) :
  Calls Tryz.prog 198 #[.int .i64 k] w fun e w'=>e=.returned (.bool (singleK k))∧w'=w:=by
 rcases (show k=1∨k=2∨(k≠1∧k≠2∧k<10)∨(k≠1∧k≠2∧10≤k∧k≤21)∨(k≠1∧k≠2∧10≤k∧21<k) by omega) with rfl | rfl | ⟨h1,h2,h3⟩ | ⟨h1,h2,h3,h4⟩ | ⟨h1,h2,h3,h4⟩
 ·go_enter Tryz.func198,Tryz.ntmps198
  go_wp2
  go_ret
  exact ⟨rfl,rfl⟩
 ·go_enter Tryz.func198,Tryz.ntmps198
  go_wp2
  go_ret
  exact ⟨rfl,rfl⟩
 all_goals
  have e1:((k:Int)==1)=false:=by simp;omega
  have e2:((k:Int)==2)=false:=by simp;omega
  go_enter Tryz.func198,Tryz.ntmps198
  go_wp2
  all_goals go_ret
  all_goals exact ⟨ret_bool (by unfold singleK;rw[Bool.eq_iff_iff];simp;omega),rfl⟩
end Go.Proofs.YtgfnkeiigjholaaGreatDoor
