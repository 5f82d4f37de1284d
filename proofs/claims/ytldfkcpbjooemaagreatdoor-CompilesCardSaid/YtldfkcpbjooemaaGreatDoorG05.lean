/-
  The document's look at the NAMEs of a policy, token by token.
-/
import Derived.Test.YtldfkcpbjooemaaGreatDoorG03
import Derived.Test.YtldfkcpbjooemaaGreatDoorG04
set_option linter.unusedVariables false
set_option linter.unusedSimpArgs false
namespace Go.Proofs.YtldfkcpbjooemaaGreatDoor
def thereN (there:List Txt) (late:Txt) (t:Txt):List Txt:=if t==cSemi&&!(late==[]) then there++[late] else there
def lateN (late:Txt) (t:Txt):Txt:=if t==cSemi&&!(late==[]) then [] else late
def namesGo:List Txt→Txt→Txt→List RTok→Option Nat
 | _,_,_,[]=>none
 | there,late,prev,t :: r =>
  if nameT t.text then
   if ((thereN there late t.text).contains t.text)==(prev==cLet) then some t.at'
   else namesGo (thereN there late t.text) (if prev==cLet then t.text else lateN late t.text) t.text r
  else namesGo (thereN there late t.text) (lateN late t.text) t.text r
def placeV:Option Nat→Int
 | none=>-1
 | some p=>p
theorem name_not_semi {t:Txt} (h:nameT t=true):(t==cSemi)=false:=by
 cases hs:(t==cSemi)
 ·rfl
 ·have:t=cSemi:=by simpa using hs
  subst this
  revert h;decide
theorem thereN_semi {there:List Txt} {late t:Txt} (h:(t==cSemi)=true) (hl:(late==[])=false):thereN there late t=there++[late]∧lateN late t=[]:=by simp[thereN,lateN,h,hl]
theorem thereN_no {there:List Txt} {late t:Txt} (h:(t==cSemi)=false∨(late==[])=true):thereN there late t=there∧lateN late t=late:=by
 rcases h with h | h
 ·simp[thereN,lateN,h]
 ·simp[thereN,lateN,h]
end Go.Proofs.YtldfkcpbjooemaaGreatDoor
namespace Go.Proofs.YtldfkcpbjooemaaGreatDoor
open Go.RowKit
def cellsTr (l:List Txt):List Value:=l.map fun t=>.string (bsOf t)
theorem Tryz.infoStr:(Tryz.prog.info? 9).map (fun i=>(i.zero,i.size,i.bytes))=some (some (.string ⟨#[]⟩),1,16):=by kernel_rfl
def prevT (l:List RTok) (k:Nat):Txt:=if k=0 then [] else ((l[k - 1]?).map RTok.text).getD []
def NamesRel (l:List RTok) (w:World) (vt vl vi:Value) (wr:World):Prop :=
 ∃ (k:Nat) (there:List Txt) (late:Txt),k≤l.length∧vi=.int .i64 k∧wr.ownsRow w.heap.size 9 1 vt there.length (cellsTr there)∧there.length≤k∧vl=.string (bsOf late)∧Below w.heap.size w wr∧namesGo [] [] [] l=namesGo there late (prevT l k) (l.drop k)
theorem not_both {a b:Bool} (h:¬ (a=true∧b=false)):a=false∨b=true:=by cases a <;> cases b <;> simp_all
theorem nm_app {w wr w2:World} {there:List Txt} {late:Txt} {v v':Value} {q:ByteArray} {e:TypeId} {o:Obj} (hbel:Below w.heap.size w wr) (hown2:w2.ownsRow w.heap.size e 1 v' (there.length+1) (cellsTr there++[.string q]))
  (hg:(wr.alloc o).grownBy w2 v.ownBlock) (hown:wr.ownsRow w.heap.size e 1 v there.length (cellsTr there)) (hq:bsOf late=q) :
  w2.ownsRow w.heap.size e 1 v' (there++[late]).length (cellsTr (there++[late]))∧Below w.heap.size w w2:=by
 have hs:=hbel.size
 refine ⟨?_,(hbel.alloc hs o).grown hg (by simp;omega) (fun k hk=>(hown.lt k hk).1)⟩
 simp only[cellsTr,List.map_append,List.map_cons,List.map_nil,List.length_append,List.length_cons,List.length_nil,hq] at hown2 ⊢
 exact hown2
theorem prevT_succ (l:List RTok) (k:Nat) (h:k < l.length):prevT l (k+1)=l[k].text:=by
 unfold prevT;simp[h]
theorem inL_cells (t:ByteArray) (l:List Txt):inL t (l.map bsOf)=l.contains t.toList:=inL_eq t _ l rfl
theorem cellsT_eq (l:List Txt):cellsTr l=(l.map bsOf).map .string:=by simp[cellsTr]
theorem ng_no {there:List Txt} {late prev:Txt} {t:RTok} {r:List RTok} (h:nameT t.text=false):namesGo there late prev (t :: r)=namesGo (thereN there late t.text) (lateN late t.text) t.text r:=by
 simp only[namesGo,h];simp
theorem ng_hit {there:List Txt} {late prev:Txt} {t:RTok} {r:List RTok} (h:nameT t.text=true) (he:(there.contains t.text==(prev==cLet))=true):namesGo there late prev (t :: r)=some t.at':=by
 have hn:=thereN_no (there:=there) (late:=late) (.inl (name_not_semi h))
 simp only[namesGo,h,hn.1,he];simp
theorem ng_fresh {there:List Txt} {late prev:Txt} {t:RTok} {r:List RTok} (h:nameT t.text=true) (hp:(prev==cLet)=true) (he:there.contains t.text=false):namesGo there late prev (t :: r)=namesGo there t.text t.text r:=by
 have hn:=thereN_no (there:=there) (late:=late) (.inl (name_not_semi h))
 simp only[namesGo,h,hn.1,hp,he];simp
theorem ng_old {there:List Txt} {late prev:Txt} {t:RTok} {r:List RTok} (h:nameT t.text=true) (hp:(prev==cLet)=false) (he:there.contains t.text=true):namesGo there late prev (t :: r)=namesGo there late t.text r:=by
 have hn:=thereN_no (there:=there) (late:=late) (.inl (name_not_semi h))
 simp only[namesGo,h,hn.1,hn.2,hp,he];simp
set_option maxHeartbeats 1000000 in
set_option maxRecDepth 10000 in
theorem names_ref (l:List RTok) (hne:∀ t∈l,t.text≠[]) (v:Value) (w:World) (hl:0 < l.length) (hl4:l.length≤400) (hv:Reads w v l.length (cellsR l)) :
  Calls Tryz.prog 33 #[v] w fun e w'=>e=.returned (.int .i64 (placeV (namesGo [] [] [] l)))∧Below w.heap.size w w':=by
 obtain ⟨i0,hi,hz0,hz1,hz2⟩:=info_parts Tryz.infoStr
 obtain ⟨g,o,cap,rfl,_,hlt,hc⟩:=hv.pos hl
 clear hv
 go_enter Tryz.func33,Tryz.ntmps33
 go_wp2
 go_loopw [3,4,5] (fun vt vl vi wr=>NamesRel l w vt vl vi wr) (fun _ _ i _=>l.length - (intOf i).toNat)
 case atStart=>exact ⟨0,[],[],Nat.zero_le _,rfl,World.ownsRow_nil _ _ _ _,Nat.le_refl _,rfl,Below.refl _ _,rfl⟩
 case round =>
  obtain ⟨k,there,late,hk,rfl,hown,hth,rfl,hbel,hng⟩:=hrel
  by_cases hkl:k < l.length
  ·have hbs:=hbel.size
   have cx:wr.cell? ⟨g,o+k * 2,none⟩=some (.string (bsOf l[k].text)):=(hbel.cell (p:=⟨g,o+k * 2,none⟩) hlt).trans (hc _ _ (cellsR_get l k hkl).1)
   have ca:wr.cell? ⟨g,o+k * 2+1,none⟩=some (.int .i64 l[k].at'):=(hbel.cell (p:=⟨g,o+k * 2+1,none⟩) hlt).trans (hc _ _ (cellsR_get l k hkl).2)
   obtain ⟨c,hcd⟩:∃ c,c=bsOf l[k].text:=⟨_,rfl⟩
   rw[← hcd] at cx
   have HT:Hid (l[k].text=c.toList):=(by rw[hcd,bsOf_toList]:l[k].text=c.toList)
   have hz:Hid (0 < c.size):=(by rw[hcd,bsOf_size];exact List.length_pos_iff.2 (hne _ (List.getElem_mem hkl)):0 < c.size)
   clear hcd
   have HC:Hid (∀ j u,(cellsR l)[j]?=some u→w.cell? ⟨g,o+j,none⟩=some u):=hc
   have HN:Hid (namesGo [] [] [] l=namesGo there late (prevT l k) (l[k] :: l.drop (k+1))):=(by rw[hng,List.drop_eq_getElem_cons hkl]:_=_)
   clear hng hc
   obtain ⟨q,hq⟩:∃ q,q=bsOf late:=⟨_,rfl⟩
   rw[← hq]
   have HQ:Hid (late=q.toList):=(by rw[hq,bsOf_toList]:late=q.toList)
   have HQ':Hid (bsOf late=q):=hq.symm
   clear hq
   cases hnm:nameT c.toList
   ·have GO:Hid (namesGo [] [] [] l=namesGo (thereN there late l[k].text) (lateN late l[k].text) l[k].text (l.drop (k+1))):=(by rw[HN.out,ng_no (by rw[HT.out];exact hnm)]:_=_)
    by_cases hap:(c.toList==[59])=true∧(q.toList==[])=false
    ·obtain ⟨h59,hla⟩:=hap
     have HN2:Hid (thereN there late l[k].text=there++[late]∧lateN late l[k].text=[]):=thereN_semi (by rw[HT.out];exact h59) (by rw[HQ.out];exact hla)
     go_wp2_with (first | (go_at_call 65;refine (isName_any _ hz.out _).mono ?_;rintro e w3 ⟨rfl,hb3⟩;simp only[hnm]) | (at_builtin;refine wpList_append_own _ rfl _ _ 127 rfl w.heap.size 9 i0 (.string ⟨#[]⟩) 1 16 Tryz.underlying127 hi hz0 hz1 hz2 rfl (by decide) _ _ _ rfl (hown.alloc _) ⟨wr.heap.size,0,none⟩ 1 1 [.string q] rfl rfl (cell_one_new _ _ _) one_one (by unfold maxLen;omega) (by omega) (by simp;omega) ?_;intro v' w2 hown2 hgrow2 _))
     have R:=nm_app hbel hown2 hgrow2 hown HQ'.out
     go_roundw
     case rel=>exact ⟨k+1,there++[late],[],by omega,by go_num,own_below R.1 hb3,by simp;omega,rfl,R.2.trans (hb3.mono R.2.size),by rw[GO.out,HN2.out.1,HN2.out.2,prevT_succ l k hkl]⟩
     case measure=>simp[intOf];omega
    ·have HN2:Hid (thereN there late l[k].text=there∧lateN late l[k].text=late):=thereN_no (by rw[HT.out,HQ.out];exact not_both hap)
     cases h59:(c.toList==[59])
     ·go_wp2_with (go_at_call 65;refine (isName_any _ hz.out _).mono ?_;rintro e w3 ⟨rfl,hb3⟩;simp only[hnm])
      go_roundw
      case rel=>exact ⟨k+1,there,late,by omega,by go_num,own_below hown hb3,by omega,by rw[HQ'.out],hbel.trans (hb3.mono hbs),by rw[GO.out,HN2.out.1,HN2.out.2,prevT_succ l k hkl]⟩
      case measure=>simp[intOf];omega
     ·cases hla:(q.toList==[])
      ·exact absurd ⟨h59,hla⟩ hap
      ·go_wp2_with (go_at_call 65;refine (isName_any _ hz.out _).mono ?_;rintro e w3 ⟨rfl,hb3⟩;simp only[hnm])
       go_roundw
       case rel=>exact ⟨k+1,there,late,by omega,by go_num,own_below hown hb3,by omega,by rw[HQ'.out],hbel.trans (hb3.mono hbs),by rw[GO.out,HN2.out.1,HN2.out.2,prevT_succ l k hkl]⟩
       case measure=>simp[intOf];omega
   ·have hnt:nameT l[k].text=true:=by rw[HT.out];exact hnm
    have HNT:Hid (nameT l[k].text=true):=hnt
    have h59:(c.toList==[59])=false:=by have:=name_not_semi hnt;rw[HT.out] at this;exact this
    clear hnt
    have hin:inL c (there.map bsOf)=there.contains l[k].text:=by rw[HT.out];exact inL_cells c there
    have hth4:(there.map bsOf).length≤1000000:=by simp;omega
    cases hkn:there.contains l[k].text
    ·have HKN:Hid (there.contains l[k].text=false):=hkn
     rw[hkn] at hin
     clear hkn
     by_cases hk0:0 < k
     ·have hk1:k - 1 < l.length:=by omega
      have cp:wr.cell? ⟨g,o+(k - 1) * 2,none⟩=some (.string (bsOf l[k - 1].text)):=(hbel.cell (p:=⟨g,o+(k - 1) * 2,none⟩) hlt).trans (HC.out _ _ (cellsR_get l (k - 1) hk1).1)
      obtain ⟨d,hd⟩:∃ d,d=bsOf l[k - 1].text:=⟨_,rfl⟩
      rw[← hd] at cp
      have HPV:Hid (prevT l k=d.toList):=(by rw[hd,bsOf_toList];unfold prevT;rw[if_neg (by omega)];simp[hk1]:prevT l k=d.toList)
      clear hd
      cases hfr:(d.toList==[108,101,116])
      ·have FR:Hid ((prevT l k==cLet)=false):=(by rw[HPV.out];exact hfr:(prevT l k==cLet)=false)
       go_wp2_with (first | (go_at_call 65;refine (isName_any _ hz.out _).mono ?_;rintro e w3 ⟨rfl,hb3⟩;simp only[hnm];have ca3:=(hb3.cell (p:=⟨g,o+k * 2+1,none⟩) (Nat.lt_of_lt_of_le hlt hbs)).trans ca;have hrd:=reads_of_own (own_below hown hb3);have cp3:=(hb3.cell (p:=⟨g,o+(k - 1) * 2,none⟩) (Nat.lt_of_lt_of_le hlt hbs)).trans cp) | (go_at_call 68;refine (in_any c (there.map bsOf) _ _ (by rw[← cellsT_eq,List.length_map];exact hrd) hth4).mono ?_;rintro e w9 ⟨rfl,hw9⟩;subst hw9;simp only[hin]))
       go_ret
       exact ⟨ret_int (by rw[HN.out,ng_hit HNT.out (by rw[HKN.out,FR.out];rfl)];rfl),hbel.trans (hb3.mono hbs)⟩
      ·have FR:Hid ((prevT l k==cLet)=true):=(by rw[HPV.out];exact hfr:(prevT l k==cLet)=true)
       go_wp2_with (first | (go_at_call 65;refine (isName_any _ hz.out _).mono ?_;rintro e w3 ⟨rfl,hb3⟩;simp only[hnm];have ca3:=(hb3.cell (p:=⟨g,o+k * 2+1,none⟩) (Nat.lt_of_lt_of_le hlt hbs)).trans ca;have hrd:=reads_of_own (own_below hown hb3);have cp3:=(hb3.cell (p:=⟨g,o+(k - 1) * 2,none⟩) (Nat.lt_of_lt_of_le hlt hbs)).trans cp) | (go_at_call 68;refine (in_any c (there.map bsOf) _ _ (by rw[← cellsT_eq,List.length_map];exact hrd) hth4).mono ?_;rintro e w9 ⟨rfl,hw9⟩;subst hw9;simp only[hin]))
       go_roundw
       case rel=>exact ⟨k+1,there,l[k].text,by omega,by go_num,own_below hown hb3,by omega,by rw[HT.out,bsOf_of],hbel.trans (hb3.mono hbs),by rw[HN.out,ng_fresh HNT.out FR.out HKN.out,prevT_succ l k hkl]⟩
       case measure=>simp[intOf];omega
     ·have hk0':decide ((0:Int) < (k:Int))=false:=by simp;omega
      have FR:Hid ((prevT l k==cLet)=false):=(by unfold prevT;rw[if_pos (by omega)];decide:(prevT l k==cLet)=false)
      go_wp2_with (first | (go_at_call 65;refine (isName_any _ hz.out _).mono ?_;rintro e w3 ⟨rfl,hb3⟩;simp only[hnm];have ca3:=(hb3.cell (p:=⟨g,o+k * 2+1,none⟩) (Nat.lt_of_lt_of_le hlt hbs)).trans ca;have hrd:=reads_of_own (own_below hown hb3)) | (go_at_call 68;refine (in_any c (there.map bsOf) _ _ (by rw[← cellsT_eq,List.length_map];exact hrd) hth4).mono ?_;rintro e w9 ⟨rfl,hw9⟩;subst hw9;simp only[hin]))
      go_ret
      exact ⟨ret_int (by rw[HN.out,ng_hit HNT.out (by rw[HKN.out,FR.out];rfl)];rfl),hbel.trans (hb3.mono hbs)⟩
    ·have HKN:Hid (there.contains l[k].text=true):=hkn
     rw[hkn] at hin
     clear hkn
     by_cases hk0:0 < k
     ·have hk1:k - 1 < l.length:=by omega
      have cp:wr.cell? ⟨g,o+(k - 1) * 2,none⟩=some (.string (bsOf l[k - 1].text)):=(hbel.cell (p:=⟨g,o+(k - 1) * 2,none⟩) hlt).trans (HC.out _ _ (cellsR_get l (k - 1) hk1).1)
      obtain ⟨d,hd⟩:∃ d,d=bsOf l[k - 1].text:=⟨_,rfl⟩
      rw[← hd] at cp
      have HPV:Hid (prevT l k=d.toList):=(by rw[hd,bsOf_toList];unfold prevT;rw[if_neg (by omega)];simp[hk1]:prevT l k=d.toList)
      clear hd
      cases hfr:(d.toList==[108,101,116])
      ·have FR:Hid ((prevT l k==cLet)=false):=(by rw[HPV.out];exact hfr:(prevT l k==cLet)=false)
       go_wp2_with (first | (go_at_call 65;refine (isName_any _ hz.out _).mono ?_;rintro e w3 ⟨rfl,hb3⟩;simp only[hnm];have ca3:=(hb3.cell (p:=⟨g,o+k * 2+1,none⟩) (Nat.lt_of_lt_of_le hlt hbs)).trans ca;have hrd:=reads_of_own (own_below hown hb3);have cp3:=(hb3.cell (p:=⟨g,o+(k - 1) * 2,none⟩) (Nat.lt_of_lt_of_le hlt hbs)).trans cp) | (go_at_call 68;refine (in_any c (there.map bsOf) _ _ (by rw[← cellsT_eq,List.length_map];exact hrd) hth4).mono ?_;rintro e w9 ⟨rfl,hw9⟩;subst hw9;simp only[hin]))
       go_roundw
       case rel=>exact ⟨k+1,there,late,by omega,by go_num,own_below hown hb3,by omega,by rw[HQ'.out],hbel.trans (hb3.mono hbs),by rw[HN.out,ng_old HNT.out FR.out HKN.out,prevT_succ l k hkl]⟩
       case measure=>simp[intOf];omega
      ·have FR:Hid ((prevT l k==cLet)=true):=(by rw[HPV.out];exact hfr:(prevT l k==cLet)=true)
       go_wp2_with (first | (go_at_call 65;refine (isName_any _ hz.out _).mono ?_;rintro e w3 ⟨rfl,hb3⟩;simp only[hnm];have ca3:=(hb3.cell (p:=⟨g,o+k * 2+1,none⟩) (Nat.lt_of_lt_of_le hlt hbs)).trans ca;have hrd:=reads_of_own (own_below hown hb3);have cp3:=(hb3.cell (p:=⟨g,o+(k - 1) * 2,none⟩) (Nat.lt_of_lt_of_le hlt hbs)).trans cp) | (go_at_call 68;refine (in_any c (there.map bsOf) _ _ (by rw[← cellsT_eq,List.length_map];exact hrd) hth4).mono ?_;rintro e w9 ⟨rfl,hw9⟩;subst hw9;simp only[hin]))
       go_ret
       exact ⟨ret_int (by rw[HN.out,ng_hit HNT.out (by rw[HKN.out,FR.out];rfl)];rfl),hbel.trans (hb3.mono hbs)⟩
     ·have hk0':decide ((0:Int) < (k:Int))=false:=by simp;omega
      have FR:Hid ((prevT l k==cLet)=false):=(by unfold prevT;rw[if_pos (by omega)];decide:(prevT l k==cLet)=false)
      go_wp2_with (first | (go_at_call 65;refine (isName_any _ hz.out _).mono ?_;rintro e w3 ⟨rfl,hb3⟩;simp only[hnm];have ca3:=(hb3.cell (p:=⟨g,o+k * 2+1,none⟩) (Nat.lt_of_lt_of_le hlt hbs)).trans ca;have hrd:=reads_of_own (own_below hown hb3)) | (go_at_call 68;refine (in_any c (there.map bsOf) _ _ (by rw[← cellsT_eq,List.length_map];exact hrd) hth4).mono ?_;rintro e w9 ⟨rfl,hw9⟩;subst hw9;simp only[hin]))
      go_roundw
      case rel=>exact ⟨k+1,there,late,by omega,by go_num,own_below hown hb3,by omega,by rw[HQ'.out],hbel.trans (hb3.mono hbs),by rw[HN.out,ng_old HNT.out FR.out HKN.out,prevT_succ l k hkl]⟩
      case measure=>simp[intOf];omega
  ·go_wp2
   go_ret
   exact ⟨ret_int (by rw[hng,List.drop_eq_nil_of_le (by omega)];rfl),hbel⟩
end Go.Proofs.YtldfkcpbjooemaaGreatDoor
namespace Go.Proofs.YtldfkcpbjooemaaGreatDoor
structure LetD where
 kw:RTok
 name:RTok
 eq:RTok
 e:Tr
 semi:RTok
structure RuleD where
 wh:Option (RTok × Tr)
 act:RTok
 sc:Option Tr
 semi:RTok
def RSt:Type:=Sum LetD RuleD
def RSt.letS (kw name eq:RTok) (e:Tr) (semi:RTok):RSt:=Sum.inl ⟨kw,name,eq,e,semi⟩
def RSt.rule (wh:Option (RTok × Tr)) (act:RTok) (sc:Option Tr) (semi:RTok):RSt:=Sum.inr ⟨wh,act,sc,semi⟩
theorem RSt.cases (s:RSt):(∃ kw name eq e semi,s=.letS kw name eq e semi)∨(∃ wh act sc semi,s=.rule wh act sc semi):=by
 rcases s with ⟨kw,name,eq,e,semi⟩ | ⟨wh,act,sc,semi⟩
 ·exact .inl ⟨kw,name,eq,e,semi,rfl⟩
 ·exact .inr ⟨wh,act,sc,semi,rfl⟩
def optToks:Option Tr→List RTok
 | none=>[]
 | some e=>e.toks
def whToks:Option (RTok × Tr)→List RTok
 | none=>[]
 | some (k,e)=>k :: e.toks
def RSt.body (s:RSt):List RTok:=Sum.elim (fun d:LetD=>d.kw :: d.name :: d.eq :: d.e.toks) (fun d:RuleD=>whToks d.wh++d.act :: optToks d.sc) s
def RSt.semi (s:RSt):RTok:=Sum.elim LetD.semi RuleD.semi s
theorem RSt.body_let (kw name eq:RTok) (e:Tr) (semi:RTok):(RSt.letS kw name eq e semi).body=kw :: name :: eq :: e.toks:=rfl
theorem RSt.body_rule (wh:Option (RTok × Tr)) (act:RTok) (sc:Option Tr) (semi:RTok):(RSt.rule wh act sc semi).body=whToks wh++act :: optToks sc:=rfl
def RSt.toks (s:RSt):List RTok:=s.body++[s.semi]
def toksL (l:List RSt):List RTok:=l.flatMap RSt.toks
def RSt.isLet (s:RSt):Bool:=Sum.elim (fun _:LetD=>true) (fun _:RuleD=>false) s
def RSt.wf (s:RSt):Prop:=Sum.elim (fun d:LetD=>d.kw.text=cLet∧nameT d.name.text=true∧d.eq.text=cEq∧d.e.wf∧d.semi.text=cSemi) (fun d:RuleD=>(∀ k e,d.wh=some (k,e)→k.text=cWhen∧e.wf)∧d.act.text=(if d.sc.isSome then cScore else cReject)∧(∀ e,d.sc=some e→e.wf)∧d.semi.text=cSemi) s
theorem toksL_append (a b:List RSt):toksL (a++b)=toksL a++toksL b:=by simp[toksL]
theorem toksL_cons (a:RSt) (b:List RSt):toksL (a :: b)=a.toks++toksL b:=by simp[toksL]
theorem RSt.body_pos (s:RSt):1≤s.body.length:=by
 rcases s.cases with ⟨kw,name,eq,e,semi,rfl⟩ | ⟨wh,act,sc,semi,rfl⟩
 ·simp[RSt.body_let]
 ·simp[RSt.body_rule];omega
theorem RSt.toks_length (s:RSt):s.toks.length=s.body.length+1:=by simp[RSt.toks]
def plainE (t:Txt):Prop:=t≠cSemi∧t≠cLet∧t≠cWhen∧t≠cScore∧t≠cReject
theorem single_plain {t:Txt} (h:singleT t=true):plainE t:=by
 refine ⟨?_, ?_, ?_, ?_, ?_⟩ <;> (intro e;subst e;revert h;decide)
theorem un_plain {t:Txt} (h:unT t=true):plainE t:=by
 refine ⟨?_, ?_, ?_, ?_, ?_⟩ <;> (intro e;subst e;revert h;decide)
theorem bin_plain {t:Txt} (h:0 < bindsT t):plainE t:=by
 refine ⟨?_, ?_, ?_, ?_, ?_⟩ <;> (intro e;subst e;revert h;decide)
theorem Tr.plain (t:Tr) (h:t.wf):∀ x∈t.toks,plainE x.text:=by
 refine Tr.ind (P:=fun t=>∀ x∈t.toks,plainE x.text) t h ?_ ?_ ?_ ?_
 ·intro a h x hx;simp[Tr.toks_leaf] at hx;subst hx;exact single_plain (Tr.wf_leaf h).1
 ·intro op e h ih x hx
  simp only[Tr.toks_un,List.mem_cons] at hx
  rcases hx with rfl | hx
  ·exact un_plain (Tr.wf_un h).1
  ·exact ih x hx
 ·intro op l r h ihl ihr x hx
  simp only[Tr.toks_bin,List.mem_append,List.mem_cons] at hx
  rcases hx with hx | rfl | hx
  ·exact ihl x hx
  ·exact bin_plain (Tr.wf_bin h).1
  ·exact ihr x hx
 ·intro o e c h ih x hx
  simp only[Tr.toks_par,List.mem_cons,List.mem_append,List.mem_nil_iff,or_false] at hx
  rcases hx with rfl | hx | rfl
  ·rw[(Tr.wf_par h).1];refine ⟨?_, ?_, ?_, ?_, ?_⟩ <;> decide
  ·exact ih x hx
  ·rw[(Tr.wf_par h).2.1];refine ⟨?_, ?_, ?_, ?_, ?_⟩ <;> decide
theorem RSt.body_no_semi (s:RSt) (h:s.wf):∀ x∈s.body,x.text≠cSemi:=by
 intro x hx
 rcases s.cases with ⟨kw,name,eq,e,semi,rfl⟩ | ⟨wh,act,sc,semi,rfl⟩
 ·simp only[RSt.body_let,List.mem_cons] at hx
  rcases hx with rfl | rfl | rfl | hx
  ·rw[h.1];decide
  ·intro e';have:=name_not_semi h.2.1;rw[e'] at this;revert this;decide
  ·rw[h.2.2.1];decide
  ·exact (e.plain h.2.2.2.1 x hx).1
 ·simp only[RSt.body_rule,List.mem_append,List.mem_cons] at hx
  rcases hx with hx | rfl | hx
  ·cases wh with
   | none=>simp[whToks] at hx
   | some p =>
    obtain ⟨k,e⟩:=p
    simp only[whToks,List.mem_cons] at hx
    rcases hx with rfl | hx
    ·rw[(h.1 x e rfl).1];decide
    ·exact (e.plain (h.1 k e rfl).2 x hx).1
  ·rw[h.2.1];split <;> decide
  ·cases sc with
   | none=>simp[optToks] at hx
   | some e=>exact (e.plain (h.2.2.1 e rfl) x hx).1
theorem RSt.semi_text (s:RSt) (h:s.wf):s.semi.text=cSemi:=by
 rcases s.cases with ⟨kw,name,eq,e,semi,rfl⟩ | ⟨wh,act,sc,semi,rfl⟩
 ·exact h.2.2.2.2
 ·exact h.2.2.2
def All2 {α β:Type} (R:α→β→Prop):List α→List β→Prop
 | [],[]=>True
 | a :: xa,b :: bs=>R a b∧All2 R xa bs
 | _,_=>False
theorem All2.len {α β:Type} {R:α→β→Prop}:∀ {xa:List α} {bs:List β},All2 R xa bs→xa.length=bs.length
 | [],[],_=>rfl
 | _ :: _,_ :: _,h=>by simp[All2.len h.2]
 | [],_ :: _,h=>h.elim
 | _ :: _,[],h=>h.elim
theorem All2.mono {α β:Type} {R S:α→β→Prop} (hrs:∀ a b,R a b→S a b):∀ {xa:List α} {bs:List β},All2 R xa bs→All2 S xa bs
 | [],[],_=>trivial
 | _ :: _,_ :: _,h=>⟨hrs _ _ h.1,All2.mono hrs h.2⟩
 | [],_ :: _,h=>h.elim
 | _ :: _,[],h=>h.elim
theorem All2.snoc {α β:Type} {R:α→β→Prop}:∀ {xa:List α} {bs:List β} {a:α} {b:β},All2 R xa bs→R a b→All2 R (xa++[a]) (bs++[b])
 | [],[],_,_,_,h=>⟨h,trivial⟩
 | _ :: _,_ :: _,_,_,h,h'=>⟨h.1,All2.snoc h.2 h'⟩
 | [],_ :: _,_,_,h,_=>h.elim
 | _ :: _,[],_,_,h,_=>h.elim
theorem All2.get {α β:Type} {R:α→β→Prop}:∀ {xa:List α} {bs:List β},All2 R xa bs→∀ (i:Nat) (h:i < xa.length) (h':i < bs.length),R xa[i] bs[i]
 | _ :: _,_ :: _,h,0,_,_=>h.1
 | _ :: _,_ :: _,h,i+1,h1,h2=>All2.get h.2 i (by simpa using h1) (by simpa using h2)
 | [],_ :: _,h,_,_,_=>h.elim
 | _ :: _,[],h,_,_,_=>h.elim
theorem toksL_at (done todo:List RSt) (s:RSt) (j:Nat) (hj:j≤s.body.length) (l:List RTok) (hl:l=toksL (done++s :: todo)) (h:(toksL done).length+j < l.length) :
  (j < s.body.length→∃ h',l[(toksL done).length+j]=s.body[j]'h')∧(j=s.body.length→l[(toksL done).length+j]=s.semi):=by
 subst hl
 have e:toksL (done++s :: todo)=toksL done++(s.body++([s.semi]++toksL todo)):=by
  rw[toksL_append,toksL_cons,RSt.toks];simp
 constructor
 ·intro hlt
  refine ⟨hlt, ?_⟩
  simp only[e]
  rw[List.getElem_append_right (by omega)]
  simp only[Nat.add_sub_cancel_left]
  rw[List.getElem_append_left hlt]
 ·intro he
  simp only[e]
  rw[List.getElem_append_right (by omega)]
  simp only[Nat.add_sub_cancel_left]
  rw[List.getElem_append_right (by omega)]
  simp[he]
end Go.Proofs.YtldfkcpbjooemaaGreatDoor
