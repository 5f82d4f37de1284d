/-
  What the document's tokens are, by its own functions may and Tokens, called in any world.
-/
import Derived.Test.YtgfnkeiigjholaaGreatDoorQ01
import Derived.Deep.QuietTactic
import Derived.BigQuiet
set_option linter.unusedVariables false
set_option linter.unusedSimpArgs false
namespace Go.Proofs.YtgfnkeiigjholaaGreatDoor
open Go.RowKit
theorem cell_lit(w:World)(l:List ByteArray)(cs:Array Value)(e:TypeId)(hcs:cs.toList=l.map .string)(k:Nat)(hk:k<l.length):(w.alloc (.cells cs e)).cell? ⟨w.heap.size,k,none⟩=some (.string l[k]):=by
 have:cs.toList[k]?=some (.string l[k]):=by rw[hcs];simp[hk]
 simp at this
 simp[this]
set_option maxHeartbeats 1000000 in
theorem may_any(t:ByteArray)(h0:0<t.size)(w:World) :
  Calls Tryz.prog 96 #[.string t] w fun e w'=>e=.returned (.bool (mayT t.toList))∧Below w.heap.size w w':=by
 have hh:=head_getElem t h0
 have hn:mayT t.toList=if isDig t[0] then decide (t.size≤18) else if isLet t[0] then decide (t.size≤8) else signT t.toList:=by
  rw[← hh,← toList_length];rfl
 rw[hn];clear hn hh
 cases hd:isDig t[0]
 ·cases hl:isLet t[0]
  ·go_enter Tryz.func96,Tryz.ntmps96
   go_wp2_with (first | (go_at_call 66;refine (isDigit_any _ _).mono ?_;rintro e w' ⟨rfl,rfl⟩) | (go_at_call 103;refine (isLetter_any _ _).mono ?_;rintro e w' ⟨rfl,rfl⟩))
   go_loop [4] (fun i=>∃ k:Nat,k≤12∧i=.int .i64 k∧inL t (wSign.take k)=false) (fun i=>12-(intOf i).toNat)
   case atStart=>exact ⟨0,Nat.zero_le _,rfl,rfl⟩
   case round =>
    obtain ⟨k,hk,rfl,hin⟩:=hrel
    by_cases hlt:k<12
    ·have hls:k<wSign.length:=hlt
     have hck:=cell_lit w' wSign #[.string ⟨#[59]⟩,.string ⟨#[61]⟩,.string ⟨#[33,61]⟩,.string ⟨#[60]⟩,.string ⟨#[60,61]⟩,.string ⟨#[43]⟩,.string ⟨#[45]⟩,.string ⟨#[42]⟩,.string ⟨#[47]⟩,.string ⟨#[37]⟩,.string ⟨#[40]⟩,.string ⟨#[41]⟩] 9 rfl k hls
     have HI:Hid (inL t (wSign.take k)=false):=hin
     clear hin
     obtain ⟨x,hx⟩:∃ x,x=wSign[k]:=⟨_,rfl⟩
     rw[← hx]at hck
     have HX:Hid (x=wSign[k]):=hx
     clear hx
     go_wp2
     ·go_ret
      exact ⟨ret_bool (by rw[signT,← inL_eq t wSign tSign rfl];exact (inL_hit hls (HX.out ▸ (by assumption))).symm),(Below.refl _ _).alloc (Nat.le_refl _) _⟩
     ·go_round
      case rel=>exact ⟨k+1,by omega,by go_num,inL_miss hls HI.out (HX.out ▸ (by assumption))⟩
      case measure=>simp[intOf];omega
    ·go_wp2
     go_ret
     exact ⟨ret_bool (by rw[signT,← inL_eq t wSign tSign rfl];rw[List.take_of_length_le (by simp[wSign];omega)]at hin;exact hin.symm),(Below.refl _ _).alloc (Nat.le_refl _) _⟩
  ·go_enter Tryz.func96,Tryz.ntmps96
   go_wp2_with (first | (go_at_call 66;refine (isDigit_any _ _).mono ?_;rintro e w' ⟨rfl,rfl⟩) | (go_at_call 103;refine (isLetter_any _ _).mono ?_;rintro e w' ⟨rfl,rfl⟩))
   go_ret
   exact ⟨ret_bool (by simp;omega),Below.refl _ _⟩
 ·go_enter Tryz.func96,Tryz.ntmps96
  go_wp2_with (first | (go_at_call 66;refine (isDigit_any _ _).mono ?_;rintro e w' ⟨rfl,rfl⟩) | (go_at_call 103;refine (isLetter_any _ _).mono ?_;rintro e w' ⟨rfl,rfl⟩))
  go_ret
  exact ⟨ret_bool (by simp;omega),Below.refl _ _⟩
def cellR(t:RTok):List Value:=[.string (bsOf t.text),.int .i64 t.at']
def cellsR(l:List RTok):List Value:=l.flatMap cellR
theorem cellsR_length(l:List RTok):(cellsR l).length=l.length*2:=by
 induction l with
 | nil=>rfl
 | cons a r ih=>simp only[cellsR,List.flatMap_cons,List.length_append,List.length_cons]at ih ⊢;rw[ih];simp[cellR];omega
theorem cellsR_snoc(l:List RTok)(t:RTok):cellsR (l++[t])=cellsR l++cellR t:=by simp[cellsR]
theorem Tryz.infoRTok:(Tryz.prog.info? 77).map (fun i=>(i.zero,i.size,i.bytes))=some (some (.agg #[.string ⟨#[]⟩,.int .i64 0]),2,24):=by kernel_rfl
def bitOf:Value→Nat | .bool true=>1 | _=>0
theorem cell_two(w:World)(x y:Value)(e:TypeId):∀ j u,[x,y][j]?=some u→(w.alloc (.cells #[x,y] e)).cell? ((⟨w.heap.size,0,none⟩:Addr).add j)=some u:=by
  intro j u hj
  match j,hj with
  | 0,hj=>simp at hj;subst hj;simp[Addr.add]
  | 1,hj=>simp at hj;subst hj;simp[Addr.add]
theorem one_two{s:ByteArray}{k:IntKind}{n:Int}:∀ u∈[Value.string s,Value.int k n],u.oneCell'=true:=by
  intro u hu
  simp at hu
  rcases hu with rfl | rfl <;> rfl
theorem tok_step{w wr w1 w2:World}{acc:List RTok}{v v':Value}{s:ByteArray}{p k:Nat}{e:TypeId}{o:Obj}{l:Txt}(hbel:Below w.heap.size w wr)(hb1:Below wr.heap.size wr w1)
    (hown2:w2.ownsRow w.heap.size e 2 v' (acc.length+1) (cellsR acc++[.string (s.extract p k),.int .i64 p])) (hg:(w1.alloc o).grownBy w2 v.ownBlock) (hown1:w1.ownsRow w.heap.size e 2 v acc.length (cellsR acc)) (hE:s.extract p k=bsOf l) :
    w2.ownsRow w.heap.size e 2 v' (acc++[(⟨(s.extract p k).toList,p⟩:RTok)]).length (cellsR (acc++[⟨(s.extract p k).toList,p⟩]))∧Below w.heap.size w w2:=by
  have hs1:=hbel.size
  have hs2:=hb1.size
  refine ⟨?_, ?_⟩
  · rw[cellsR_snoc]
    simp only[cellR,bsOf_of,List.length_append,List.length_cons,List.length_nil]
    exact hown2
  · refine ((hbel.trans (hb1.mono hs1)).alloc (by omega) o).grown hg (by simp;omega) (fun k hk=>(hown1.lt k hk).1)
def TokRel(s:ByteArray)(w:World)(v i:Value)(wr:World):Prop :=
  ∃ (p:Nat) (acc:List RTok),p≤s.size∧i=.int .i64 p∧wr.ownsRow w.heap.size 77 2 v acc.length (cellsR acc)∧acc.length≤p∧Below w.heap.size w wr∧toksR s.toList 0=preR acc (toksR (s.toList.drop p) p)
set_option maxHeartbeats 1600000 in
set_option maxRecDepth 100000 in
theorem Tokens_any(s:ByteArray)(hs:s.size≤400)(w:World) :
    Calls Tryz.prog 58 #[.string s] w fun e w'=>Below w.heap.size w w' ∧
      ((∃ l v,toksR s.toList 0=.ok l∧l.length≤400∧e=.returned (.tuple #[v,.int .i64 (-1)])∧w'.ownsRow w.heap.size 77 2 v l.length (cellsR l)) ∨
       (∃ p,toksR s.toList 0=.error p∧e=.returned (.tuple #[.slice none 0 0,.int .i64 p]))):=by
  obtain ⟨i0,hi,hz0,hz1,hz2⟩:=info_parts Tryz.infoRTok
  go_enter Tryz.func58,Tryz.ntmps58
  go_wp2
  go_loopw [4,5] (fun v i wr=>TokRel s w v i wr) (fun _ i _=>s.size-(intOf i).toNat)
  case atStart=>exact ⟨0,[],Nat.zero_le _,rfl,World.ownsRow_nil _ _ _ _,Nat.le_refl _,Below.refl _ _,by rw[preR_nil];rfl⟩
  case round =>
    obtain ⟨p,acc,hp,rfl,hown,hacc,hbel,hrem⟩:=hrel
    have HR:Hid (toksR s.toList 0=preR acc (toksR (s.toList.drop p) p)):=hrem
    clear hrem
    by_cases hlt:p<s.size
    · by_cases hb:blankC s[p]=true
      · have hb':=hb
        rw[blankC_int]at hb'
        have hb2:(s[p].toNat:Int)=32∨(s[p].toNat:Int)=10:=by simpa using hb'
        have HB:Hid (blankC s[p]=true):=hb
        clear hb hb'
        rcases hb2 with h32 | h10
        · go_wp2
          go_roundw
          case rel=>exact ⟨p+1,acc,by omega,by go_num,hown,by omega,hbel,by rw[HR.out,toks_blank s p hlt HB.out]⟩
          case measure=>simp[intOf];omega
        · have h32:¬ (s[p].toNat:Int)=32:=by omega
          go_wp2
          go_roundw
          case rel=>exact ⟨p+1,acc,by omega,by go_num,hown,by omega,hbel,by rw[HR.out,toks_blank s p hlt HB.out]⟩
          case measure=>simp[intOf];omega
      · have hb':¬ ((s[p].toNat:Int)=32∨(s[p].toNat:Int)=10):=by
          rw[blankC_int]at hb;simpa using hb
        have h32:((s[p].toNat:Int)==32)=false:=by simp;omega
        have h10:((s[p].toNat:Int)==10)=false:=by simp;omega
        have HB:Hid (blankC s[p]=false):=(by simpa using hb:blankC s[p]=false)
        clear hb hb'
        have htl:=tokLen_bd s p hlt
        go_wp2
        go_loopw [6,7] (fun kk mm wx=>∃ (k:Nat) (b:Bool),p<k∧k≤p+tokLen s p∧kk=.int .i64 k∧mm=.bool b∧wx.ownsRow w.heap.size 77 2 u4 acc.length (cellsR acc)∧Below w.heap.size w wx∧(b=false→k=p+tokLen s p)) (fun kk mm _=>(s.size-(intOf kk).toNat)+bitOf mm)
        case atStart=>exact ⟨p+1,true,by omega,by omega,by go_num,rfl,hown,hbel,by simp⟩
        case round =>
          clear hown hbel
          obtain ⟨k,b,hpk,hkn,rfl,rfl,hown,hbel,hb⟩:=hrel
          by_cases hgo:b=true∧k<s.size
          · obtain ⟨rfl,hks⟩:=hgo
            clear hb
            have hix:=fun wx=>run_index_nat (P:=Tryz.prog) wx 9 s .i64 (IntKind.i64.wrap ((k:Int)-1)) (k-1) Tryz.underlying9 (by rw[IntWalk.i64_in _ ⟨by omega,by omega⟩];omega) (by omega)
            by_cases hkk:k<p+tokLen s p
            · have hsm:=tokLen_more s p k hpk hkk hks
              go_wp2
              go_quiet ((go_at_call 95;exact Calls.quiet_of_same (same_any _ _ _)))
              go_wp2
              go_roundw
              case rel=>exact ⟨k+1,true,by omega,by omega,by go_num,rfl,hown,below_drewN hbel _,by simp⟩
              case measure=>simp[intOf,bitOf];omega
            · have hke:k=p+tokLen s p:=by omega
              have hsm:=tokLen_stop s p k hlt hke hks
              have HK:Hid (k=p+tokLen s p):=hke
              clear hke
              go_wp2
              go_quiet ((go_at_call 95;exact Calls.quiet_of_same (same_any _ _ _)))
              go_wp2
              go_roundw
              case rel=>exact ⟨k,false,by omega,by omega,by go_num,rfl,hown,below_drewN hbel _,fun _=>HK.out⟩
              case measure=>simp[intOf,bitOf]
          · have hke:k=p+tokLen s p:=by
              cases b
              · exact hb rfl
              · have:¬ k<s.size:=fun h=>hgo ⟨rfl,h⟩
                omega
            have hz:Hid (0<(s.extract p k).size):=(by rw[ByteArray.size_extract];omega:0<(s.extract p k).size)
            have HK:Hid (k=p+tokLen s p):=hke
            have hkp:(k:Int)≤s.size:=by omega
            clear hke hb
            have hout:(k<s.size∧b=false)∨¬ k<s.size:=by
              by_cases hks:k<s.size
              · cases b
                · exact .inl ⟨hks,rfl⟩
                · exact absurd ⟨rfl,hks⟩ hgo
              · exact .inr hks
            clear hgo
            have HE:Hid (s.extract p k=bsOf ((s.toList.drop p).take (k-p))):=extract_bsOf s p k
            cases hm:mayT (s.extract p k).toList
            · rcases hout with ⟨hks,rfl⟩ | hge
              · go_wp2_with (go_at_call 96;refine (may_any _ hz.out _).mono ?_;rintro e w1 ⟨rfl,hb1⟩)
                go_ret2
                exact ⟨hbel.trans (hb1.mono hbel.size),.inr ⟨p,by rw[HR.out,toks_bad s p hlt HB.out (HK.out ▸ hm)];rfl,rfl⟩⟩
              · go_wp2_with (go_at_call 96;refine (may_any _ hz.out _).mono ?_;rintro e w1 ⟨rfl,hb1⟩)
                go_ret2
                exact ⟨hbel.trans (hb1.mono hbel.size),.inr ⟨p,by rw[HR.out,toks_bad s p hlt HB.out (HK.out ▸ hm)];rfl,rfl⟩⟩
            · rcases hout with ⟨hks,rfl⟩ | hge
              · go_wp2_with (first | (go_at_call 96;refine (may_any _ hz.out _).mono ?_;rintro e w1 ⟨rfl,hb1⟩;have hown1:=own_below hown hb1) | (at_builtin;refine wpList_append_own _ rfl _ _ 68 rfl w.heap.size 77 i0 (.agg #[.string ⟨#[]⟩,.int .i64 0]) 2 24 Tryz.underlying68 hi hz0 hz1 hz2 rfl (by decide) _ _ _ rfl (hown1.alloc _) ⟨w1.heap.size,0,none⟩ 1 1 [.string (s.extract p k),.int .i64 p] rfl rfl (cell_two w1 _ _ _) one_two (by unfold maxLen;omega) (by omega) (by have:=hbel.size;have:=hb1.size;simp;omega) ?_;intro v' w2 hown2 hgrow2 _))
                have R:=tok_step hbel hb1 hown2 hgrow2 hown1 HE.out
                clear hown2 hgrow2 hown1
                go_wp2
                go_roundw
                case rel=>exact ⟨k,acc++[⟨(s.extract p k).toList,p⟩],by omega,by go_num,R.1,by simp;omega,R.2,by rw[HR.out,toks_tok s p hlt HB.out (HK.out ▸ hm),preR_app,← HK.out]⟩
                case measure=>simp[intOf];omega
              · go_wp2_with (first | (go_at_call 96;refine (may_any _ hz.out _).mono ?_;rintro e w1 ⟨rfl,hb1⟩;have hown1:=own_below hown hb1) | (at_builtin;refine wpList_append_own _ rfl _ _ 68 rfl w.heap.size 77 i0 (.agg #[.string ⟨#[]⟩,.int .i64 0]) 2 24 Tryz.underlying68 hi hz0 hz1 hz2 rfl (by decide) _ _ _ rfl (hown1.alloc _) ⟨w1.heap.size,0,none⟩ 1 1 [.string (s.extract p k),.int .i64 p] rfl rfl (cell_two w1 _ _ _) one_two (by unfold maxLen;omega) (by omega) (by have:=hbel.size;have:=hb1.size;simp;omega) ?_;intro v' w2 hown2 hgrow2 _))
                have R:=tok_step hbel hb1 hown2 hgrow2 hown1 HE.out
                clear hown2 hgrow2 hown1
                go_wp2
                go_roundw
                case rel=>exact ⟨k,acc++[⟨(s.extract p k).toList,p⟩],by omega,by go_num,R.1,by simp;omega,R.2,by rw[HR.out,toks_tok s p hlt HB.out (HK.out ▸ hm),preR_app,← HK.out]⟩
                case measure=>simp[intOf];omega
    · go_wp2
      go_ret2
      refine ⟨hbel,.inl ⟨acc,_, ?_,by omega,rfl,hown⟩⟩
      rw[HR.out,toks_end s p (by omega)];simp[preR]
end Go.Proofs.YtgfnkeiigjholaaGreatDoor
