/-
  The document's find: the let of a name.
-/
import Derived.Test.YtldfkcpbjooemaaGreatDoorG04
import Derived.Test.YtldfkcpbjooemaaGreatDoorG06
import Derived.Test.YtldfkcpbjooemaaGreatDoorG07
import Derived.Test.YtldfkcpbjooemaaGreatDoorG05
set_option linter.unusedVariables false
set_option linter.unusedSimpArgs false
namespace Go.Proofs.YtldfkcpbjooemaaGreatDoor
open Go.RowKit Go.Deep
set_option maxHeartbeats 1000000 in
theorem find_ref (l:List Stm) (hl4:l.length≤400) (j:Nat) (hj:j < l.length) (hu:∀ i (hi:i < j),l[i].name≠l[j].name) (t:ByteArray) (ht:t.toList=l[j].name) (lv kv:Value) (w:World) (hlv:Reads w lv l.length (cellsS l)) :
  Calls Tryz.prog 88 #[.agg #[lv,kv],.string t] w fun e w'=>e=.returned l[j].expr∧Below w.heap.size w w':=by
 rcases hlv with ⟨_,hn,_⟩ | ⟨g,o,cap,rfl,hnc,hlt,hc⟩
 ·omega
 have HBE:Hid (Below w.heap.size w (w.alloc (.cells #[.slice (some ⟨g,o,none⟩) l.length cap,kv] 42))):=(Below.refl _ _).alloc (Nat.le_refl _) _
 have HU:=Hid.mk2 hu
 have HT:=Hid.mk2 ht
 clear hu ht
 go_enter Tryz.func88,Tryz.ntmps88
 go_wp2
 go_loop [5] (fun i=>∃ k:Nat,k≤j∧i=.int .i64 k) (fun i=>l.length - (intOf i).toNat)
 case atStart=>exact ⟨0,Nat.zero_le _,rfl⟩
 case round =>
  obtain ⟨k,hkl,rfl⟩:=hrel
  have hk3:k < l.length:=by omega
  obtain ⟨d0,d1,_,_⟩:=cellsS_get l k hk3
  have ca:=(HBE.out.cell (p:=⟨g,o+k * 4,none⟩) hlt).trans (hc _ _ d0)
  have cb:(w.alloc (.cells #[.slice (some ⟨g,o,none⟩) l.length cap,kv] 42)).cell? ⟨g,o+k * 4+1,none⟩=some l[k].expr:=(HBE.out.cell (p:=⟨g,o+(k * 4+1),none⟩) hlt).trans (hc _ _ d1)
  obtain ⟨nb,hnb⟩:∃ nb,nb=bsOf l[k].name:=⟨_,rfl⟩
  rw[← hnb] at ca
  have hnl:nb.toList=l[k].name:=by rw[hnb,bsOf_toList]
  by_cases hkj:k=j
  ·subst hkj
   have heq:(nb.toList==t.toList)=true:=by rw[hnl,HT.out];simp
   obtain ⟨ev,hev⟩:∃ ev,l[k].expr=ev:=⟨_,rfl⟩
   rw[hev] at cb
   have HEV:=Hid.mk2 hev
   clear d0 d1 hnb hnl hev
   go_wp2
   go_ret
   exact ⟨by rw[HEV.out];rfl,HBE.out⟩
  ·have heq:(nb.toList==t.toList)=false:=by
    rw[hnl,HT.out]
    simpa using HU.out k (by omega)
   clear d0 d1 hnb hnl
   generalize l[k].expr=ev at *
   go_wp2
   go_round
   case rel=>exact ⟨k+1,by omega,by go_num⟩
   case measure=>simp[intOf];omega
end Go.Proofs.YtldfkcpbjooemaaGreatDoor
namespace Go.Proofs.YtldfkcpbjooemaaGreatDoor
open Go.RowKit Go.Deep
def attrW:List Txt:=[[115,105,122,101],[115,112,101,101,100],[110,101,101,100],[122,111,110,101],[99,97,112],[117,115,101,100],[104,97,115]]
def attrT (t:Txt):Bool:=attrW.contains t
def tokF (fe:Txt→Bool) (t:Txt):Bool:=if attrT t then false else if nameT t then fe t else true
def fixL (fe:Txt→Bool) (l:List RTok):Bool:=l.all fun a=>tokF fe a.text
theorem fixL_take {fe:Txt→Bool} {l:List RTok} {k:Nat} (hk:k < l.length) (h:tokF fe l[k].text=false):fixL fe l=false:=by
 unfold fixL
 rw[List.all_eq_false]
 exact ⟨l[k],List.getElem_mem hk,by rw[h];simp⟩
structure LetsIn (w:World) (l:List Stm) (L:List RSt):Prop where
 len:l.length=L.length
 few:l.length≤400
 ok:∀ j (hj:j < l.length) (hj':j < L.length),StmOk w l[j] L[j]
theorem RdO.bl {w w':World} {v:Value} (hb:Below w.heap.size w w'):∀ {o:Option Tr},RdO w v o→RdO w' v o
 | none,h=>h
 | some _,h=>Reads.below h hb
theorem StmOk.bl {w w':World} (hb:Below w.heap.size w w') {s:Stm} {r:RSt} (h:StmOk w s r):StmOk w' s r:=by
 rcases r.cases with ⟨kw,name,eq,e,semi,rfl⟩ | ⟨wh,act,sc,semi,rfl⟩
 ·exact ⟨h.1,h.2.1.below hb,h.2.2.1,h.2.2.2⟩
 ·exact ⟨h.1,h.2.1,RdO.bl hb h.2.2.1,RdO.bl hb h.2.2.2⟩
theorem LetsIn.below {w w':World} {l:List Stm} {L:List RSt} (h:LetsIn w l L) (hb:Below w.heap.size w w'):LetsIn w' l L:=⟨h.len,h.few,fun j hj hj'=>(h.ok j hj hj').bl hb⟩
theorem im_step2 {w wx w':World} (h:Below w.heap.size w wx) (hb:Below wx.heap.size wx w'):Below w.heap.size w w':=h.trans (hb.mono h.size)
theorem im_dr3 {w wx:World} (h:Below w.heap.size w wx):Below w.heap.size w wx.drew:=below_drewN h 1
def FixOk (l:List Stm) (L:List RSt) (fe:Txt→Bool) (toks:List RTok):Prop:=∀ (v:Value) (w:World) (lv kv:Value),0 < toks.length→toks.length≤400→Reads w v toks.length (cellsR toks)→Reads w lv l.length (cellsS l)→LetsIn w l L →
 Calls Tryz.prog 52 #[.agg #[lv,kv],v] w fun e w'=>e=.returned (.bool (fixL fe toks))∧Below w.heap.size w w'
structure NameAt (l:List Stm) (L:List RSt) (t:Txt) (j:Nat) (e:Tr):Prop where
 lt:j < l.length
 nm:l[j].name=t
 un:∀ i (hi:i < j),l[i].name≠l[j].name
 st:∃ kw name eq semi,L[j]?=some (RSt.letS kw name eq e semi)
theorem NameAt.reads {w:World} {l:List Stm} {L:List RSt} {t:Txt} {j:Nat} {e:Tr} (h:NameAt l L t j e) (hL:LetsIn w l L):Reads w (l[j]'h.lt).expr e.toks.length (cellsR e.toks):=by
 obtain ⟨kw,name,eq,semi,hs⟩:=h.st
 obtain ⟨hj,he⟩:=List.getElem?_eq_some_iff.1 hs
 have:=hL.ok j h.lt hj
 rw[he] at this
 exact this.2.1
set_option maxHeartbeats 2000000 in
set_option maxRecDepth 100000 in
theorem fixed_list (l:List Stm) (L:List RSt) (fe:Txt→Bool) (toks:List RTok) (htx:∀ a∈toks,a.text≠[])
  (hn:∀ a∈toks,nameT a.text=true→∃ j e,NameAt l L a.text j e∧e.toks.length≤400∧fe a.text=fixL fe e.toks∧FixOk l L fe e.toks):FixOk l L fe toks:=by
 intro v w lv kv h0 h4 hv hlv hL
 obtain ⟨g,o,cap,rfl,hncap,hlt,hc⟩:=hv.pos h0
 have HC:Hid (∀ j u,(cellsR toks)[j]?=some u→w.cell? ⟨g,o+j,none⟩=some u):=hc
 have HLV:=Hid.mk2 hlv
 have HL:=Hid.mk2 hL
 have HN:=Hid.mk2 hn
 have HTX:=Hid.mk2 htx
 have HB0:Hid (Blk (w.alloc (.cells #[lv,kv] 42)) w.heap.size #[lv,kv] 42∧Below w.heap.size w (w.alloc (.cells #[lv,kv] 42))):=⟨Blk.new w _ _,(Below.refl _ _).alloc (Nat.le_refl _) _⟩
 clear hv hc hlv hL hn htx
 go_enter Tryz.func52,Tryz.ntmps52
 go_wp2
 go_loopw [5] (fun vi wr=>∃ k:Nat,k≤toks.length∧vi=.int .i64 k∧Blk wr w.heap.size #[lv,kv] 42∧Below w.heap.size w wr∧∀ i (hi:i < k) (hi':i < toks.length),tokF fe toks[i].text=true) (fun i _=>toks.length - (intOf i).toNat)
 case atStart=>exact ⟨0,Nat.zero_le _,rfl,HB0.out.1,HB0.out.2,fun i hi=>by omega⟩
 case round =>
  obtain ⟨k,hk,rfl,hbk,hbl,hall⟩:=hrel
  have HBK:=Hid.mk2 hbk
  have HBL:=Hid.mk2 hbl
  have HALL:=Hid.mk2 hall
  have hs0:=hbl.size
  clear hbk hbl hall HB0
  by_cases hlt2:k < toks.length
  ·have tx:=(HBL.out.cell (p:=⟨g,o+k * 2,none⟩) hlt).trans (HC.out _ _ (cellsR_get toks k hlt2).1)
   have HK:=Hid.mk2 (List.getElem_mem hlt2)
   have HNN:Hid (nameT toks[k].text=true→∃ j e,NameAt l L toks[k].text j e∧e.toks.length≤400∧fe toks[k].text=fixL fe e.toks∧FixOk l L fe e.toks):=fun h=>HN.out _ HK.out h
   have hz:Hid (0 < (bsOf toks[k].text).size):=(by rw[bsOf_size];exact List.length_pos_iff.2 (HTX.out _ HK.out):0 < (bsOf toks[k].text).size)
   have HTF:Hid (tokF fe toks[k].text=if attrT toks[k].text then false else if nameT toks[k].text then fe toks[k].text else true):=(rfl:_=_)
   have HIN:Hid (∀ wx gq,Reads wx (.slice (some ⟨gq,0,none⟩) 7 7) 7 ((attrW.map bsOf).map .string)→Calls Tryz.prog 68 #[.string (bsOf toks[k].text),.slice (some ⟨gq,0,none⟩) 7 7] wx fun e w'=>e=.returned (.bool (attrT toks[k].text))∧w'=wx):=fun wx gq hr=>by
    have:=in_any (bsOf toks[k].text) (attrW.map bsOf) (.slice (some ⟨gq,0,none⟩) 7 7) wx (by simpa[attrW] using hr) (by decide)
    rw[inL_eq _ _ attrW rfl,bsOf_toList] at this
    exact this
   have HSTOP:Hid (tokF fe toks[k].text=false→fixL fe toks=false):=fixL_take hlt2
   generalize htx:toks[k].text=tt at *
   have HGO:Hid (tokF fe tt=true→∀ i (hi:i < k+1) (hi':i < toks.length),tokF fe toks[i].text=true):=fun h i hi hi'=>by
    rcases Nat.lt_or_ge i k with h1 | h1
    ·exact HALL.out i h1 hi'
    ·obtain rfl:i=k:=by omega
     rw[htx];exact h
   clear htx
   have HRD:Hid (∀ wx:World,Reads (wx.alloc (.cells #[.string { data:=#[115,105,122,101] },.string { data:=#[115,112,101,101,100] },.string { data:=#[110,101,101,100] },.string { data:=#[122,111,110,101] },.string { data:=#[99,97,112] },.string { data:=#[117,115,101,100] },.string { data:=#[104,97,115] }] 9)) (.slice (some ⟨wx.heap.size,0,none⟩) 7 7) 7 ((attrW.map bsOf).map .string)):=fun wx=>.inr ⟨wx.heap.size,0,7,rfl,Nat.le_refl _,by simp,fun j u hu=>by
    have hb:=Blk.new wx #[.string { data:=#[115,105,122,101] },.string { data:=#[115,112,101,101,100] },.string { data:=#[110,101,101,100] },.string { data:=#[122,111,110,101] },.string { data:=#[99,97,112] },.string { data:=#[117,115,101,100] },.string { data:=#[104,97,115] }] 9
    rw[Nat.zero_add,hb.cell]
    rw[← hu,List.getElem?_toArray]
    rfl⟩
   cases hat:attrT tt with
   | true =>
    have HF:=Hid.mk2 (HSTOP.out (by rw[HTF.out,hat];rfl))
    go_wp2_with (go_at_call 68;refine (HIN.out _ _ (HRD.out _)).mono ?_;rintro e _ ⟨rfl,rfl⟩;rw[hat])
    go_ret
    exact ⟨by rw[HF.out];rfl,HBL.out.alloc HBL.out.size _⟩
   | false =>
    cases hnm:nameT tt with
    | false =>
     have HG:=Hid.mk2 (HGO.out (by rw[HTF.out,hat,hnm];rfl))
     go_wp2_with (first
      | (go_at_call 68;refine (HIN.out _ _ (HRD.out _)).mono ?_;rintro e _ ⟨rfl,rfl⟩;rw[hat])
      | (go_at_call 65;refine (isName_any _ hz.out _).mono ?_;rintro e w1 ⟨rfl,hb1⟩;simp only[bsOf_toList,hnm];have HB1:=Hid.mk2 (im_step2 (HBL.out.alloc HBL.out.size _) hb1);have HK1:=Hid.mk2 ((HBK.out.alloc _).below hb1 (by have:=HBK.out.lt;simp;omega));clear hb1))
     go_roundw
     case rel=>exact ⟨k+1,by omega,by go_num,HK1.out,HB1.out,HG.out⟩
     case measure=>simp[intOf];omega
    | true =>
     obtain ⟨j,e,hna,he4,hfe,hfx⟩:=HNN.out hnm
     have HTF2:Hid (tokF fe tt=fixL fe e.toks):=by rw[Hid,HTF.out,hat,hnm];simpa using hfe
     clear hfe
     go_upto_region 9 with (first
      | (go_at_call 68;refine (HIN.out _ _ (HRD.out _)).mono ?_;rintro e _ ⟨rfl,rfl⟩;rw[hat])
      | (go_at_call 65;refine (isName_any _ hz.out _).mono ?_;rintro e w1 ⟨rfl,hb1⟩;simp only[bsOf_toList,hnm];have HB1:=Hid.mk2 (im_step2 (HBL.out.alloc HBL.out.size _) hb1);have HK1:=Hid.mk2 ((HBK.out.alloc _).below hb1 (by have:=HBK.out.lt;simp;omega));clear hb1))
     have k0:=HK1.out.cell 0
     have k1:=HK1.out.cell 1
     have hl1:=HK1.out.lt
     cases hfv:fixL fe e.toks with
     | false =>
      have HF:=Hid.mk2 (HSTOP.out (by rw[HTF2.out,hfv]))
      have HFV:=Hid.mk2 hfv
      clear hfv
      go_region_held3 (fun w'=>w'.cell? ⟨w.heap.size,0,none⟩=some lv∧w'.cell? ⟨w.heap.size,1,none⟩=some kv) (first | with_reducible exact ⟨HK1.out.cell 0,HK1.out.cell 1⟩ | go_keep) (first
       | (go_at_call 88;refine (find_ref l HL.out.few j hna.lt hna.un (bsOf tt) (by rw[bsOf_toList];exact hna.nm.symm) lv kv _ (by first | with_reducible exact HLV.out.below HB1.out | with_reducible exact HLV.out.below (im_dr3 HB1.out))).mono ?_;rintro e' w2 ⟨rfl,hb2⟩;(first | replace HK1:=Hid.mk2 (show Blk w2 w.heap.size #[lv,kv] 42 by with_reducible exact HK1.out.below hb2 HK1.out.lt) | replace HK1:=Hid.mk2 (show Blk w2 w.heap.size #[lv,kv] 42 by with_reducible exact HK1.out.drew.below hb2 HK1.out.drew.lt));(first | replace HB1:=Hid.mk2 (show Below w.heap.size w w2 by with_reducible exact im_step2 HB1.out hb2) | replace HB1:=Hid.mk2 (show Below w.heap.size w w2 by with_reducible exact im_step2 (im_dr3 HB1.out) hb2));clear hb2 k0 k1;have k0:=HK1.out.cell 0;have k1:=HK1.out.cell 1;have hl2:=HK1.out.lt)
       | (go_at_call 52;refine (hfx _ _ lv kv e.toks_pos he4 (by first | with_reducible exact hna.reads (HL.out.below HB1.out) | with_reducible exact hna.reads (HL.out.below (im_dr3 HB1.out))) (by first | with_reducible exact HLV.out.below HB1.out | with_reducible exact HLV.out.below (im_dr3 HB1.out)) (by first | with_reducible exact HL.out.below HB1.out | with_reducible exact HL.out.below (im_dr3 HB1.out))).mono ?_;rintro e' w3 ⟨rfl,hb3⟩;rw[HFV.out];(first | replace HK1:=Hid.mk2 (show Blk w3 w.heap.size #[lv,kv] 42 by with_reducible exact HK1.out.below hb3 HK1.out.lt) | replace HK1:=Hid.mk2 (show Blk w3 w.heap.size #[lv,kv] 42 by with_reducible exact HK1.out.drew.below hb3 HK1.out.drew.lt));(first | replace HB1:=Hid.mk2 (show Below w.heap.size w w3 by with_reducible exact im_step2 HB1.out hb3) | replace HB1:=Hid.mk2 (show Below w.heap.size w w3 by with_reducible exact im_step2 (im_dr3 HB1.out) hb3));clear hb3 k0 k1;have k0:=HK1.out.cell 0;have k1:=HK1.out.cell 1;have hl3:=HK1.out.lt))
      all_goals
       go_wp2
       go_ret
       exact ⟨by rw[HF.out];rfl,HB1.out⟩
     | true =>
      have HG:=Hid.mk2 (HGO.out (by rw[HTF2.out,hfv]))
      have HFV:=Hid.mk2 hfv
      clear hfv
      go_region_held3 (fun w'=>w'.cell? ⟨w.heap.size,0,none⟩=some lv∧w'.cell? ⟨w.heap.size,1,none⟩=some kv) (first | with_reducible exact ⟨HK1.out.cell 0,HK1.out.cell 1⟩ | go_keep) (first
       | (go_at_call 88;refine (find_ref l HL.out.few j hna.lt hna.un (bsOf tt) (by rw[bsOf_toList];exact hna.nm.symm) lv kv _ (by first | with_reducible exact HLV.out.below HB1.out | with_reducible exact HLV.out.below (im_dr3 HB1.out))).mono ?_;rintro e' w2 ⟨rfl,hb2⟩;(first | replace HK1:=Hid.mk2 (show Blk w2 w.heap.size #[lv,kv] 42 by with_reducible exact HK1.out.below hb2 HK1.out.lt) | replace HK1:=Hid.mk2 (show Blk w2 w.heap.size #[lv,kv] 42 by with_reducible exact HK1.out.drew.below hb2 HK1.out.drew.lt));(first | replace HB1:=Hid.mk2 (show Below w.heap.size w w2 by with_reducible exact im_step2 HB1.out hb2) | replace HB1:=Hid.mk2 (show Below w.heap.size w w2 by with_reducible exact im_step2 (im_dr3 HB1.out) hb2));clear hb2 k0 k1;have k0:=HK1.out.cell 0;have k1:=HK1.out.cell 1;have hl2:=HK1.out.lt)
       | (go_at_call 52;refine (hfx _ _ lv kv e.toks_pos he4 (by first | with_reducible exact hna.reads (HL.out.below HB1.out) | with_reducible exact hna.reads (HL.out.below (im_dr3 HB1.out))) (by first | with_reducible exact HLV.out.below HB1.out | with_reducible exact HLV.out.below (im_dr3 HB1.out)) (by first | with_reducible exact HL.out.below HB1.out | with_reducible exact HL.out.below (im_dr3 HB1.out))).mono ?_;rintro e' w3 ⟨rfl,hb3⟩;rw[HFV.out];(first | replace HK1:=Hid.mk2 (show Blk w3 w.heap.size #[lv,kv] 42 by with_reducible exact HK1.out.below hb3 HK1.out.lt) | replace HK1:=Hid.mk2 (show Blk w3 w.heap.size #[lv,kv] 42 by with_reducible exact HK1.out.drew.below hb3 HK1.out.drew.lt));(first | replace HB1:=Hid.mk2 (show Below w.heap.size w w3 by with_reducible exact im_step2 HB1.out hb3) | replace HB1:=Hid.mk2 (show Below w.heap.size w w3 by with_reducible exact im_step2 (im_dr3 HB1.out) hb3));clear hb3 k0 k1;have k0:=HK1.out.cell 0;have k1:=HK1.out.cell 1;have hl3:=HK1.out.lt))
      all_goals
       go_wp2
       go_roundw
       case rel=>exact ⟨k+1,by omega,by go_num,HK1.out,HB1.out,HG.out⟩
       case measure=>simp[intOf];omega
  ·go_wp2
   go_ret
   exact ⟨by rw[show fixL fe toks=true from List.all_eq_true.2 (fun a ha=>by obtain ⟨i,hi,rfl⟩:=List.getElem_of_mem ha;exact HALL.out i (by omega) hi)];rfl,HBL.out⟩
end Go.Proofs.YtldfkcpbjooemaaGreatDoor
namespace Go.Proofs.YtldfkcpbjooemaaGreatDoor
def partFold:List (Txt × Nat)→Nat→Txt→Nat
 | [],k,_=>k
 | (n,s) :: r,k,t=>partFold r (if n==t then s else k) t
def partOne (ps:List (Txt × Nat)) (t:Txt):Nat:=partFold ps (if t==cOpen||t==cClose then 0 else 1) t
def partsGo (ps:List (Txt × Nat)):Nat→List RTok→Nat
 | n,[]=>n
 | n,t :: r=>if n+partOne ps t.text > 150 then 151 else partsGo ps (n+partOne ps t.text) r
theorem partFold_le (ps:List (Txt × Nat)) (hp:∀ p∈ps,p.2≤151):∀ (k:Nat) (t:Txt),k≤151→partFold ps k t≤151:=by
 induction ps with
 | nil=>intro k t h;exact h
 | cons p r ih =>
  intro k t h
  obtain ⟨n,s⟩:=p
  simp only[partFold]
  refine ih (fun q hq=>hp q (by simp[hq])) _ _ ?_
  have:=hp (n,s) (by simp)
  split <;> simp_all
theorem partOne_le (ps:List (Txt × Nat)) (hp:∀ p∈ps,p.2≤151) (t:Txt):partOne ps t≤151:=by
 unfold partOne
 refine partFold_le ps hp _ t ?_
 split <;> omega
theorem partsGo_le (ps:List (Txt × Nat)):∀ (l:List RTok) (n:Nat),n≤150→partsGo ps n l≤151
 | [],n,h=>by simp only[partsGo];omega
 | t :: r,n,h=>by
  simp only[partsGo]
  split
  ·omega
  ·exact partsGo_le ps r _ (by omega)
def sizesGo:List (Txt × Nat)→List RSt→List (Txt × Nat)
 | ps,[]=>ps
 | ps,s :: r=>sizesGo (Sum.elim (fun d:LetD=>ps++[(d.name.text,partsGo ps 0 d.e.toks)]) (fun _:RuleD=>ps) s) r
def rulePartsGo (ps:List (Txt × Nat)):List RSt→Nat
 | []=>0
 | s :: r=>Sum.elim (fun _:LetD=>0) (fun d:RuleD=>partsGo ps 0 (optToks (d.wh.map Prod.snd))+partsGo ps 0 (optToks d.sc)) s+rulePartsGo ps r
theorem sizesGo_let (ps:List (Txt × Nat)) (kw name eq:RTok) (e:Tr) (semi:RTok) (r:List RSt):sizesGo ps (.letS kw name eq e semi :: r)=sizesGo (ps++[(name.text,partsGo ps 0 e.toks)]) r:=rfl
theorem rulePartsGo_rule (ps:List (Txt × Nat)) (wh:Option (RTok × Tr)) (act:RTok) (sc:Option Tr) (semi:RTok) (r:List RSt):rulePartsGo ps (.rule wh act sc semi :: r)=partsGo ps 0 (optToks (wh.map Prod.snd))+partsGo ps 0 (optToks sc)+rulePartsGo ps r:=rfl
def bigT (lets rules:List RSt):Bool:=decide (rulePartsGo (sizesGo [] lets) rules > 150)
end Go.Proofs.YtldfkcpbjooemaaGreatDoor
namespace Go.Proofs.YtldfkcpbjooemaaGreatDoor
def letsK:List (Txt × Nat)→List RSt→Except Nat (List (Txt × Nat))
 | c,[]=>.ok c
 | c,s :: r=>Sum.elim (fun d:LetD=>match kindT c d.e with
   | .error p=>.error p
   | .ok k=>letsK (c++[(d.name.text,k)]) r) (fun _:RuleD=>letsK c r) s
def firstAt (t:Tr):Nat:=((t.toks[0]?).map RTok.at').getD 0
def exprK (c:List (Txt × Nat)) (want:Nat):Option Tr→Option Nat
 | none=>none
 | some e=>match kindT c e with
  | .error p=>some p
  | .ok k=>if k=want then none else some (firstAt e)
def rulesK (c:List (Txt × Nat)):List RSt→Option Nat
 | []=>none
 | s :: r=>Sum.elim (fun _:LetD=>rulesK c r) (fun d:RuleD=>match exprK c 2 (d.wh.map Prod.snd) with
   | some p=>some p
   | none=>match exprK c 1 d.sc with
    | some p=>some p
    | none=>rulesK c r) s
theorem letsK_let (c:List (Txt × Nat)) (kw name eq:RTok) (e:Tr) (semi:RTok) (r:List RSt):letsK c (.letS kw name eq e semi :: r)=match kindT c e with
  | .error p=>.error p
  | .ok k=>letsK (c++[(name.text,k)]) r:=rfl
theorem rulesK_rule (c:List (Txt × Nat)) (wh:Option (RTok × Tr)) (act:RTok) (sc:Option Tr) (semi:RTok) (r:List RSt):rulesK c (.rule wh act sc semi :: r)=match exprK c 2 (wh.map Prod.snd) with
  | some p=>some p
  | none=>match exprK c 1 sc with
   | some p=>some p
   | none=>rulesK c r:=rfl
def wrongT (lets rules:List RSt):Option Nat:=match letsK [] lets with
 | .error p=>some p
 | .ok c=>rulesK c rules
theorem letsK_err {c:List (Txt × Nat)} {kw name eq:RTok} {e:Tr} {semi:RTok} {r:List RSt} {p:Nat} (h:kindT c e=.error p):letsK c (.letS kw name eq e semi :: r)=.error p:=by simp only[letsK_let,h]
theorem letsK_ok {c:List (Txt × Nat)} {kw name eq:RTok} {e:Tr} {semi:RTok} {r:List RSt} {k:Nat} (h:kindT c e=.ok k):letsK c (.letS kw name eq e semi :: r)=letsK (c++[(name.text,k)]) r:=by simp only[letsK_let,h]
theorem wrongT_err {L R:List RSt} {p:Nat} (h:letsK [] L=.error p):wrongT L R=some p:=by simp only[wrongT,h]
theorem wrongT_ok {L R:List RSt} {c:List (Txt × Nat)} (h:letsK [] L=.ok c):wrongT L R=rulesK c R:=by simp only[wrongT,h]
theorem rulesK_w {c:List (Txt × Nat)} {wh:Option (RTok × Tr)} {act:RTok} {sc:Option Tr} {semi:RTok} {r:List RSt} {p:Nat} (h:exprK c 2 (wh.map Prod.snd)=some p):rulesK c (.rule wh act sc semi :: r)=some p:=by simp only[rulesK_rule,h]
theorem rulesK_s {c:List (Txt × Nat)} {wh:Option (RTok × Tr)} {act:RTok} {sc:Option Tr} {semi:RTok} {r:List RSt} {p:Nat} (h:exprK c 2 (wh.map Prod.snd)=none) (h2:exprK c 1 sc=some p):rulesK c (.rule wh act sc semi :: r)=some p:=by simp only[rulesK_rule,h,h2]
theorem rulesK_n {c:List (Txt × Nat)} {wh:Option (RTok × Tr)} {act:RTok} {sc:Option Tr} {semi:RTok} {r:List RSt} (h:exprK c 2 (wh.map Prod.snd)=none) (h2:exprK c 1 sc=none):rulesK c (.rule wh act sc semi :: r)=rulesK c r:=by simp only[rulesK_rule,h,h2]
end Go.Proofs.YtldfkcpbjooemaaGreatDoor
namespace Go.Proofs.YtldfkcpbjooemaaGreatDoor
def tWords:List Txt:=[[108,101,116],[119,104,101,110],[115,99,111,114,101],[114,101,106,101,99,116],[97,110,100],[111,114],[110,111,116],[116,114,117,101],[102,97,108,115,101],[100,114,121],[99,111,108,100],[115,97,102,101],[115,105,122,101],[115,112,101,101,100],[110,101,101,100],[122,111,110,101],[99,97,112],[117,115,101,100],[104,97,115]]
def digitRowT (t:Txt):Nat:=(t.takeWhile isDig).length
def letterRowT (t:Txt):Nat:=(t.takeWhile isLet).length
def wordGo:List Txt→Nat→Txt→Nat
 | [],_,_=>2
 | x :: r,i,t=>if x==t then 3+i else wordGo r (i+1) t
def wordKindT (t:Txt):Nat:=wordGo tWords 0 t
def signGo:List Txt→Nat→Nat→Nat→Txt→Nat × Nat
 | [],_,k,n,_=>(k,n)
 | x :: r,i,k,n,t=>if n < x.length∧x.length≤t.length∧(t.take x.length==x)=true then signGo r (i+1) (22+i) x.length t else signGo r (i+1) k n t
def firstSignT (t:Txt):Nat × Nat:=signGo tSign 0 0 0 t
def firstT (t:Txt):Nat × Nat :=
 if 18 < digitRowT t then (0,0)
 else if 0 < digitRowT t then (1,digitRowT t)
 else if 8 < letterRowT t then (0,0)
 else if 0 < letterRowT t then (wordKindT (t.take (letterRowT t)),letterRowT t)
 else firstSignT t
structure PTok where
 kind:Nat
 place:Nat
 text:Txt
theorem takeWhile_length_le (p:UInt8→Bool) (t:Txt):(t.takeWhile p).length≤t.length:=(List.takeWhile_sublist p).length_le
theorem signGo_le:∀ (l:List Txt) (i k n:Nat) (t:Txt),n≤t.length→(signGo l i k n t).2≤t.length
 | [],_,_,_,_,h=>h
 | x :: r,i,k,n,t,h=>by
  simp only[signGo]
  split
  ·rename_i hc;exact signGo_le r _ _ _ t hc.2.1
  ·exact signGo_le r _ _ _ t h
theorem firstT_le (t:Txt):(firstT t).2≤t.length:=by
 unfold firstT
 split
 ·exact Nat.zero_le _
 ·split
  ·exact takeWhile_length_le _ _
  ·split
   ·exact Nat.zero_le _
   ·split
    ·exact takeWhile_length_le _ _
    ·exact signGo_le _ _ _ _ t (Nat.zero_le _)
def toksPF:Nat→Txt→Nat→Except Nat (List PTok)
 | _,[],pos=>.ok [⟨0,pos,[]⟩]
 | 0,_ :: _,_=>.ok []
 | n+1,c :: r,pos =>
  if blankC c then toksPF n r (pos+1)
  else if (firstT (c :: r)).2=0 then .error pos
  else match toksPF n ((c :: r).drop (firstT (c :: r)).2) (pos+(firstT (c :: r)).2) with
   | .ok l=>.ok (⟨(firstT (c :: r)).1,pos,(c :: r).take (firstT (c :: r)).2⟩ :: l)
   | .error e=>.error e
def toksP (s:Txt) (pos:Nat):Except Nat (List PTok):=toksPF s.length s pos
theorem toksPF_more:∀ (n m:Nat) (s:Txt) (pos:Nat),s.length≤n→s.length≤m→toksPF n s pos=toksPF m s pos
 | 0,0,[],_,_,_=>rfl
 | 0,_+1,[],_,_,_=>rfl
 | _+1,0,[],_,_,_=>rfl
 | _+1,_+1,[],_,_,_=>rfl
 | 0,_,c :: r,_,h,_=>by simp at h
 | _+1,0,c :: r,_,_,h=>by simp at h
 | n+1,m+1,c :: r,pos,h1,h2=>by
  have h1':r.length≤n:=by simpa using h1
  have h2':r.length≤m:=by simpa using h2
  simp only[toksPF]
  by_cases h0:(firstT (c :: r)).2=0
  ·rw[if_pos h0,if_pos h0,toksPF_more n m r (pos+1) h1' h2']
  ·rw[if_neg h0,if_neg h0,toksPF_more n m r (pos+1) h1' h2',toksPF_more n m ((c :: r).drop (firstT (c :: r)).2) (pos+(firstT (c :: r)).2) (by rw[List.length_drop,List.length_cons];omega) (by rw[List.length_drop,List.length_cons];omega)]
theorem toksP_nil (pos:Nat):toksP [] pos=.ok [⟨0,pos,[]⟩]:=rfl
theorem toksP_cons (c:UInt8) (r:Txt) (pos:Nat):toksP (c :: r) pos=if blankC c then toksP r (pos+1)
  else if (firstT (c :: r)).2=0 then .error pos
  else match toksP ((c :: r).drop (firstT (c :: r)).2) (pos+(firstT (c :: r)).2) with
   | .ok l=>.ok (⟨(firstT (c :: r)).1,pos,(c :: r).take (firstT (c :: r)).2⟩ :: l)
   | .error e=>.error e:=by
 unfold toksP
 rw[List.length_cons,toksPF]
 by_cases h0:(firstT (c :: r)).2=0
 ·rw[if_pos h0,if_pos h0]
 ·rw[if_neg h0,if_neg h0,toksPF_more r.length ((c :: r).drop (firstT (c :: r)).2).length _ _ (by rw[List.length_drop,List.length_cons];omega) (Nat.le_refl _)]
end Go.Proofs.YtldfkcpbjooemaaGreatDoor
