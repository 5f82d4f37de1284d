/-
  The document's Print, called in any world: the plain form.
-/
import Derived.Test.YtgfnkeiigjholaaGreatDoorQ47
import Derived.Test.YtgfnkeiigjholaaGreatDoorQ48
import Derived.Deep.RegionHeld3
import Derived.Deep.DeepCutAuto
set_option linter.unusedVariables false
set_option linter.unusedSimpArgs false
namespace Go.Proofs.YtgfnkeiigjholaaGreatDoor
open Go.RowKit Go.Deep
structure PIn(W:World)(lv rv:Value)(ls rs:List Stm)(L R:List RSt):Prop where
 l:Reads W lv ls.length (cellsS ls)
 r:Reads W rv rs.length (cellsS rs)
 al:All2 (StmOk W) ls L
 ar:All2 (StmOk W) rs R
 ll:ls.length=L.length
 rl:rs.length=R.length
def PRel(W:World)(T D:List RSt)(vo vi:Value)(wr:World):Prop:=∃ (i:Nat) (acc:List RTok),vi=.int .i64 i∧i≤D.length∧OutL (T++D.take i) acc∧PSt W wr vo acc
theorem news_six{W:World}(s1 s2 s3:Value)(n1 n2 n3:Value)(e:TypeId):∀ j u,[s1,n1,s2,n2,s3,n3][j]?=some u→(W.alloc (.cells #[s1,n1,s2,n2,s3,n3] e)).cell? ((⟨W.heap.size,0,none⟩:Addr).add j)=some u :=
 World.news_of_block (cs:=#[s1,n1,s2,n2,s3,n3]) (t:=e) (fr:=(0,0)) (heap_alloc_new W _)
theorem outL_le{l:List RSt}{acc:List RTok}(h:OutL l acc)(hs:∀ s∈l,SOk s)(hl:l.length≤800):acc.length≤800000:=by
 have:=(outL_facts l acc h hs).1
 omega
theorem bad_ref(s:ByteArray)(w:World)(c:Int)(p:Nat)(hb:tokened s.toList=.bad c p)(hc:c≠0) :
  Calls Tryz.prog 12 #[.string s] w fun e w'=>e=.returned (.tuple #[.string ⟨#[]⟩,.int .i64 c,.int .i64 p])∧Below w.heap.size w w':=by
 have HB:Hid (tokened s.toList=.bad c p):=hb
 have h0:(c != 0)=true:=by simpa using hc
 have h0':(c==0)=false:=by simpa using hc
 clear hb
 go_enter Tryz.func12,Tryz.ntmps12
 go_wp2_with (go_at_call 27;refine (Tokened_any s _).mono ?_;rintro e w1 ⟨hb1,⟨l,v,htk,_⟩ | ⟨c',p',htk,rfl⟩⟩;(rw[HB.out]at htk;cases htk);rw[HB.out]at htk;cases htk)
 exact bodyPost_ret (v:=.tuple #[.string ⟨#[]⟩,.int .i64 c,.int .i64 p]) (by simp[results,Tryz.results12,go_sem]) rfl ⟨rfl,hb1⟩
set_option maxHeartbeats 8000000 in
set_option maxRecDepth 100000 in
theorem Print_fine(s:ByteArray)(w:World)(L R:List RSt)(h:PolicyOf s.toList L R) :
  Calls Tryz.prog 12 #[.string s] w fun e w'=>e=.returned (.tuple #[.string (bsOf (polQ L R)),.int .i64 0,.int .i64 0])∧Below w.heap.size w w':=by
 have HSO:=mH (policy_sok h)
 have hfl:=filter_lets (L:=L) (R:=R) h.lets h.rules
 have HFL1:Hid ((L++R).filter RSt.isLet=L):=hfl.1
 have HFL2:Hid ((L++R).filter (fun s=>!s.isLet)=R):=hfl.2
 have hpos:0<(toksL (L++R)).length:=by
  cases hR:R with
  | nil=>exact absurd hR h.ne
  | cons a r=>rw[toksL_append,toksL_cons,List.length_append,List.length_append,RSt.toks_length];omega
 have hlens:=lens h.short
 have HF:=mH h
 obtain ⟨i0,hi0,hz0,hz1,hz2⟩:=info_parts Tryz.infoRTok
 clear h hfl
 go_enter Tryz.func12,Tryz.ntmps12
 go_upto_region 5 with (first | (go_at_call 27;refine (Tokened_any s _).mono ?_;rintro e w1 ⟨hb1,⟨l,v,htk,hl4,rfl,hown⟩ | ⟨c',p',htk,_⟩⟩;rotate_left;(rw[HF.out.fine]at htk;cases htk);rw[HF.out.fine]at htk;cases htk;have HRD:Hid (Reads w1 v (toksL (L++R)).length (cellsR (toksL (L++R)))):=reads_of_own hown;have HB1:=mH hb1;clear hown hb1) | (go_at_call 28;refine (Statements_any (L++R) HF.out.wf _ _ hpos hl4 HRD.out).mono ?_;rintro e w3 ⟨ls,rs,lv,rv,rfl,ho1,ho2,hal,har,hb3⟩;have HB3:=mH hb3;have HO1:=mH ho1;have HO2:=mH ho2;have HAL0:=mH hal;have HAR0:=mH har;clear hal har hb3 ho1 ho2))
 have hIn:PIn w3 lv rv ls rs L R:=by
  have a1:=HAL0.out
  have a2:=HAR0.out
  rw[HFL1.out]at a1
  rw[HFL2.out]at a2
  exact ⟨reads_of_own HO1.out,reads_of_own HO2.out,a1.mono (StmOk.below HB3.out),a2.mono (StmOk.below HB3.out),a1.len,a2.len⟩
 have HIN:=mH hIn
 have HBW:Hid (Below w.heap.size w w3):=HB1.out.trans (HB3.out.mono HB1.out.size)
 obtain ⟨la,lc,rfl⟩:=hIn.l.shape
 obtain ⟨ra,rc,rfl⟩:=hIn.r.shape
 have HLL:=mH hIn.ll
 have HRL:=mH hIn.rl
 clear hIn HO1 HO2 HAL0 HAR0 HB1 HB3 HRD hl4
 go_wp2
 go_loopw [10,11] (fun vo vi wr=>PRel w3 [] L vo vi wr) (fun _ i _=>L.length-(intOf i).toNat)
 case atStart=>exact ⟨0,[],rfl,Nat.zero_le _,rfl,⟨World.ownsRow_nil _ _ _ _,Below.refl _ _⟩⟩
 case round =>
  obtain ⟨i,acc,rfl,hiL,hout,hst⟩:=hrel
  have HP:=mH hst
  have HOUT:=mH hout
  have hacc:acc.length≤800000:=outL_le hout (fun q hq=>HSO.out q (List.mem_append_left _ (List.mem_of_mem_take (by simpa using hq)))) (by simp;omega)
  clear hst hout
  by_cases hil:i<L.length
  ·have hils:i<ls.length:=by rw[HLL.out];exact hil
   have e1:decide ((i:Int)<(ls.length:Int))=true:=decide_eq_true (by omega)
   obtain ⟨g,o,cap,hcut,hcap,hlt,hc⟩:=HIN.out.l.pos (by omega)
   cases hcut
   have hok:=All2.get HIN.out.al i hils hil
   have hisl:=HF.out.lets L[i] (List.getElem_mem hil)
   have hso:=HSO.out L[i] (List.mem_append_left _ (List.getElem_mem hil))
   rcases hcs:(L[i]).cases with ⟨kw,name,eq,e,semi,hLi⟩ | ⟨wh,act,sc,semi,hLi⟩
   rotate_left
   ·rw[hLi]at hisl;cases hisl
   ·clear hcs
    rw[hLi]at hok hso
    obtain ⟨ok1,ok2,ok3,ok4⟩:=hok
    have HTK:Hid (∀ b x,BareOf e x→b=acc++[wordR cLet,wordR name.text,wordR cEq]++x.toks++[wordR cSemi]→OutL ([]++L.take (i+1)) b):=fun b x hx hb=>by
     have h1:=outL_snoc (L.take i) L[i] acc (wordR cLet :: wordR name.text :: wordR cEq :: (x.toks++[wordR cSemi])) (by simpa using HOUT.out) (by rw[hLi];exact ⟨x,hx,rfl⟩)
     rw[List.nil_append,List.take_succ_eq_append_getElem hil,hb]
     simpa using h1
    have he4:e.toks.length≤400:=by have:=hso.le;rw[RSt.body_let]at this;simp at this;omega
    have HBC:Hid (BareC e ls[i].expr):=bareC hso.wf.2.2.2.1 he4 (fun a ha=>hso.tx a (by rw[RSt.body_let];simp[ha])) _
    have hbel:=HP.out.below
    have cn:wr.cell? ⟨g,o+i*4,none⟩=some (.string (bsOf name.text)):=by rw[← ok1];exact (hbel.cell (p:=⟨g,o+i*4,none⟩) hlt).trans (hc _ _ (cellsS_get ls i hils).1)
    have ce:wr.cell? ⟨g,o+i*4+1,none⟩=some ls[i].expr:=(hbel.cell (p:=⟨g,o+i*4+1,none⟩) hlt).trans (hc _ _ (cellsS_get ls i hils).2.1)
    have HRE:Hid (Reads wr ls[i].expr e.toks.length (cellsR e.toks)):=ok2.below hbel
    have HEV:Hid (∀ g,ls[i].expr.ownBlock=some g→g<w3.heap.size):=reads_blk ok2
    have hglt:g<wr.heap.size:=Nat.lt_of_lt_of_le hlt hbel.size
    have HGL:Hid (g<w3.heap.size):=hlt
    generalize ls[i].expr=ev at *
    obtain ⟨nb,hnb⟩:∃ nb,nb=bsOf name.text:=⟨_,rfl⟩
    rw[← hnb]at cn
    have HXS:Hid (cellsR [wordR cLet,wordR name.text,wordR cEq]=[.string ⟨#[108,101,116]⟩,.int .i64 0,.string nb,.int .i64 0,.string ⟨#[61]⟩,.int .i64 0]):=by rw[Hid,hnb];rfl
    have HCN:Hid (∀ wx,Below w3.heap.size w3 wx→wx.cell? ⟨g,o+i*4,none⟩=some (.string nb)):=fun wx hb=>by
     rw[hnb,← ok1]
     exact (hb.cell (p:=⟨g,o+i*4,none⟩) hlt).trans (hc _ _ (cellsS_get ls i hils).1)
    clear hnb
    clear hso hisl hLi ok1 ok2 ok3 ok4 hc hbel hlt HOUT
    go_upto_region 10 with (go_at_call 29;refine (HBC.out _ HRE.out).mono ?_;rintro e' w4 ⟨hb4,xv,x,rfl,hx,hr4,hn4⟩;have HX:=mH (PSx.bare HP.out hb4 hr4 hn4 HEV.out);have HBX:=mH hx;have hxl:=hx.len;clear hr4 hn4 hx)
    obtain ⟨gx,ox,cx,rfl,-,-,-⟩:=HX.out.rd.pos x.toks_pos
    have cn4:=HCN.out _ HX.out.st.below
    go_cut [10] (fun s10 wx=>PSx w3 wx s10 (acc++[wordR cLet,wordR name.text,wordR cEq]) (.slice (some ⟨gx,ox,none⟩) x.toks.length cx) x.toks)
    case first =>
     go_region_held3 (fun w'=>w'.cell? ⟨g,o+i*4,none⟩=some (.string nb)) (first | with_reducible exact HCN.out _ HX.out.st.below | with_reducible exact HCN.out _ HX.out.dr.st.below | with_reducible exact HCN.out _ (HX.out.al _).st.below | with_reducible exact HCN.out _ (HX.out.al _).dr.st.below | with_reducible exact HCN.out _ (HX.out.dr.al _).st.below) (first | (go_at_call 30;refine (word_any _ _).mono ?_;rintro e' w5 ⟨rfl,hb5⟩;replace HX:=mH (show PSx w3 w5 u10 acc (.slice (some ⟨gx,ox,none⟩) x.toks.length cx) x.toks by first | with_reducible exact HX.out.call hb5 | with_reducible exact HX.out.dr.call hb5);clear hb5 cn4;have cn4:=HCN.out _ HX.out.st.below) | (refine step_append_lies _ (by rfl) _ _ _ (by rfl) w3.heap.size 77 i0 _ 2 24 Tryz.underlying68 hi0 hz0 hz1 hz2 rfl (by omega) u10 acc.length (cellsR acc) (by rfl) (by first | with_reducible exact (HX.out.al _).st.own | with_reducible exact (HX.out.al _).dr.st.own | with_reducible exact (HX.out.dr.al _).st.own) ⟨_,0,none⟩ 3 3 [.string ⟨#[108,101,116]⟩,.int .i64 0,.string nb,.int .i64 0,.string ⟨#[61]⟩,.int .i64 0] (by rfl) (by rfl) (by exact news_six _ _ _ _ _ _ _) (by simp[Value.oneCell']) (by omega) (by unfold maxLen;omega) (by omega) (by have:=HX.out.st.size;simp;omega) _ rfl ?_;intro gg cap w6 hown6 hgrow6 hat6 hlt6;replace HX:=mH (PSx.app (by first | with_reducible exact HX.out.al _ | with_reducible exact (HX.out.al _).dr | with_reducible exact HX.out.dr.al _) [wordR cLet,wordR name.text,wordR cEq] hown6 rfl HXS.out hgrow6 hat6 (Nat.le_refl _));clear hown6 hgrow6 hat6 cn4))
     all_goals
      go_wp2_with fail
      go_meet
      case rel=>exact HX.out
    case rest =>
     have HX2:=mH hcut
     clear hcut HX HCN cn4 cn ce HRE HEV HBC
     obtain ⟨_,_,_,hq,-,-,hcx⟩:=HX2.out.rd.pos x.toks_pos
     cases hq
     have HCX:=mH (add_news hcx)
     clear hcx
     go_upto_region 12 with (at_builtin;refine wpList_append_own _ rfl _ _ 68 rfl w3.heap.size 77 i0 (.agg #[.string ⟨#[]⟩,.int .i64 0]) 2 24 Tryz.underlying68 hi0 hz0 hz1 hz2 rfl (by decide) _ _ _ rfl HX2.out.st.own ⟨gx,ox,none⟩ x.toks.length cx (cellsR x.toks) rfl (cellsR_length _) HCX.out (one_cellsR _) (by unfold maxLen;first | omega | (simp;omega)) (by simp;omega) HX2.out.st.size ?_;intro v7 w7 hown7 hgrow7 _;have HP7:=mH (HX2.out.st.app x.toks hown7 rfl rfl hgrow7);clear hown7 hgrow7)
     go_wp2_with (first | (go_at_call 30;refine (word_any _ _).mono ?_;rintro e' w8 ⟨rfl,hb8⟩;replace HP7:=mH (HP7.out.call hb8);clear hb8) | (at_builtin;refine wpList_append_own _ rfl _ _ 68 rfl w3.heap.size 77 i0 (.agg #[.string ⟨#[]⟩,.int .i64 0]) 2 24 Tryz.underlying68 hi0 hz0 hz1 hz2 rfl (by decide) _ _ _ rfl (HP7.out.al _).own ⟨w8.heap.size,0,none⟩ 1 1 [.string ⟨#[59]⟩,.int .i64 0] rfl rfl (cell_two w8 _ _ _) one_two (by unfold maxLen;first | omega | (simp;omega)) (by simp;omega) (HP7.out.al _).size ?_;intro v9 w9 hown9 hgrow9 _;have HP9:=mH ((HP7.out.al _).app [wordR cSemi] hown9 rfl rfl hgrow9);clear hown9 hgrow9))
     go_roundw
     case rel=>exact ⟨i+1,_,by go_num,by omega,HTK.out _ x HBX.out rfl,HP9.out⟩
     case measure=>simp[intOf];omega
  ·have e1:decide ((i:Int)<(ls.length:Int))=false:=decide_eq_false (by have:=HLL.out;omega)
   have hnl:¬ i<ls.length:=by rw[HLL.out];exact hil
   have HOL:Hid (OutL L acc):=by
    have:=HOUT.out
    rw[List.nil_append,List.take_of_length_le (by omega)]at this
    exact this
   clear HOUT hacc
   go_wp2
   go_loopw [10,13] (fun vo vi wr=>PRel w3 L R vo vi wr) (fun _ i _=>R.length-(intOf i).toNat)
   case atStart=>exact ⟨0,acc,rfl,Nat.zero_le _,by simpa using HOL.out,HP.out⟩
   case round =>
    clear HP HOL e1 hnl
    obtain ⟨j,acc,rfl,hjR,hout,hst⟩:=hrel
    have HP:=mH hst
    have HOUT:=mH hout
    have hacc:acc.length≤800000:=outL_le hout (fun q hq=>HSO.out q (by simp only[List.mem_append]at hq ⊢;exact hq.imp id List.mem_of_mem_take)) (by simp;omega)
    clear hst hout
    by_cases hjl:j<R.length
    ·have hjrs:j<rs.length:=by rw[HRL.out];exact hjl
     have e1:decide ((j:Int)<(rs.length:Int))=true:=decide_eq_true (by omega)
     obtain ⟨g,o,cap,hcut,hcap,hlt,hc⟩:=HIN.out.r.pos (by omega)
     cases hcut
     have hok:=All2.get HIN.out.ar j hjrs hjl
     have hisl:=HF.out.rules R[j] (List.getElem_mem hjl)
     have hso:=HSO.out R[j] (List.mem_append_right _ (List.getElem_mem hjl))
     rcases (R[j]).cases with ⟨kw,name,eq,e,semi,hRj⟩ | ⟨wh,act,sc,semi,hRj⟩
     ·rw[hRj]at hisl;cases hisl
     ·rw[hRj]at hok hso
      obtain ⟨ok1,ok2,ok3,ok4⟩:=hok
      have HTK:Hid (∀ A B,OutO cWhen [] (wh.map Prod.snd) A→OutO cScore [wordR cReject] sc B→OutL (L++R.take (j+1)) (acc++A++B++[wordR cSemi])):=fun A B hA hB=>by
       have h1:=outL_snoc (L++R.take j) R[j] acc (A++(B++[wordR cSemi])) HOUT.out (by rw[hRj];exact ⟨A,B,hA,hB,rfl⟩)
       rw[List.take_succ_eq_append_getElem hjl]
       simpa using h1
      have hbody:=hso.le
      rw[RSt.body_rule]at hbody
      simp only[List.length_append,List.length_cons]at hbody
      have htx:∀ a∈whToks wh++act :: optToks sc,TOk a:=hso.tx
      obtain ⟨w1',-,w3',-⟩:=hso.wf
      have HWB:Hid (∀ k e,wh=some (k,e)→e.toks.length≤400∧BareC e rs[j].when):=fun k e he=>by
       subst he
       have hl:e.toks.length≤400:=by simp[whToks]at hbody;omega
       exact ⟨hl,bareC (w1' k e rfl).2 hl (fun a ha=>htx a (by simp[whToks,ha])) _⟩
      have HSB:Hid (∀ e,sc=some e→e.toks.length≤400∧BareC e rs[j].score):=fun e he=>by
       subst he
       have hl:e.toks.length≤400:=by simp[optToks]at hbody;omega
       exact ⟨hl,bareC (w3' e rfl) hl (fun a ha=>htx a (by simp[optToks,ha])) _⟩
      have HCW:Hid (∀ wx,Below w3.heap.size w3 wx→wx.cell? ⟨g,o+j*4+2,none⟩=some rs[j].when):=fun wx hb=>(hb.cell (p:=⟨g,o+j*4+2,none⟩) hlt).trans (hc _ _ (cellsS_get rs j hjrs).2.2.1)
      have HCS:Hid (∀ wx,Below w3.heap.size w3 wx→wx.cell? ⟨g,o+j*4+3,none⟩=some rs[j].score):=fun wx hb=>(hb.cell (p:=⟨g,o+j*4+3,none⟩) hlt).trans (hc _ _ (cellsS_get rs j hjrs).2.2.2)
      have HRW:Hid (RdO w3 rs[j].when (wh.map Prod.snd)):=ok3
      have HRS:Hid (RdO w3 rs[j].score sc):=ok4
      generalize rs[j].when=wv at *
      generalize rs[j].score=sv at *
      clear hso hisl hRj ok1 ok2 ok3 ok4 hc HOUT hbody htx w1' w3' hlt
      have cw:=HCW.out _ HP.out.below
      obtain ⟨wa,wcp,hwv⟩:=(RdO.reads HRW.out).shape
      obtain ⟨nw,hnw⟩:∃ nw,(optToks (wh.map Prod.snd)).length=nw:=⟨_,rfl⟩
      rw[hnw]at hwv
      have HNW:=mH hnw
      clear hnw
      subst hwv
      obtain ⟨bw,hbw⟩:∃ bw,decide ((0:Int)<(nw:Int))=bw:=⟨_,rfl⟩
      have hbw':decide ((nw:Int)>0)=bw:=hbw
      go_upto_if 73 with fail
      go_cut [10,14] (fun s10 s14 wx=>∃ A,OutO cWhen [] (wh.map Prod.snd) A∧A.length≤401∧PSt w3 wx s10 (acc++A))
      case first =>
       cases wh with
       | none =>
        have h0:nw=0:=HNW.out.symm
        subst h0
        have h1:bw=false:=hbw.symm
        subst h1
        go_wp2
        go_meet
        case rel=>exact ⟨[],rfl,by simp,by rw[List.append_nil];exact HP.out⟩
       | some p =>
        obtain ⟨k,e⟩:=p
        obtain ⟨he4,hbc⟩:=HWB.out k e rfl
        have HBC:=mH hbc
        have h0:nw=e.toks.length:=HNW.out.symm
        have hrw:Reads w3 (.slice wa nw wcp) e.toks.length (cellsR e.toks):=HRW.out
        have HRE:=mH (hrw.below HP.out.below)
        have HEV:=mH (reads_blk hrw)
        have hep:=e.toks_pos
        have hnp:0<nw:=by omega
        have h1:bw=true:=by rw[← hbw];exact decide_eq_true (by omega)
        subst h1
        clear hbc hrw HWB HRW h0 HNW
        go_upto_region 18 with (go_at_call 29;refine (HBC.out _ HRE.out).mono ?_;rintro e' w4 ⟨hb4,xv,x,rfl,hx,hr4,hn4⟩;have HX:=mH (PSx.bare HP.out hb4 hr4 hn4 HEV.out);have HBX:=mH hx;have hxl:=hx.len;clear hr4 hn4 hx)
        obtain ⟨gx,ox,cx,rfl,-,-,-⟩:=HX.out.rd.pos x.toks_pos
        go_upto_region 19 with (first | (go_at_call 30;refine (word_any _ _).mono ?_;rintro e' w5 ⟨rfl,hb5⟩;replace HX:=mH (HX.out.call hb5);clear hb5) | (at_builtin;refine wpList_append_lies _ rfl _ _ 68 rfl w3.heap.size 77 i0 (.agg #[.string ⟨#[]⟩,.int .i64 0]) 2 24 Tryz.underlying68 hi0 hz0 hz1 hz2 rfl (by decide) _ _ _ rfl (HX.out.al _).st.own ⟨w5.heap.size,0,none⟩ 1 1 [.string ⟨#[119,104,101,110]⟩,.int .i64 0] rfl rfl (cell_two w5 _ _ _) one_two (by omega) (by unfold maxLen;first | omega | (simp;omega)) (by first | omega | (simp;omega)) (HX.out.al _).st.size _ rfl ?_;intro gg cap w6 hown6 hgrow6 hat6 hlt6;replace HX:=mH (PSx.app (HX.out.al _) [wordR cWhen] hown6 rfl rfl hgrow6 hat6 (Nat.le_refl _));clear hown6 hgrow6 hat6))
        obtain ⟨_,_,_,hq,-,-,hcx⟩:=HX.out.rd.pos x.toks_pos
        cases hq
        have HCX:=mH (add_news hcx)
        clear hcx
        go_wp2_with (at_builtin;refine wpList_append_own _ rfl _ _ 68 rfl w3.heap.size 77 i0 (.agg #[.string ⟨#[]⟩,.int .i64 0]) 2 24 Tryz.underlying68 hi0 hz0 hz1 hz2 rfl (by decide) _ _ _ rfl HX.out.st.own ⟨gx,ox,none⟩ x.toks.length cx (cellsR x.toks) rfl (cellsR_length _) HCX.out (one_cellsR _) (by unfold maxLen;first | omega | (simp;omega)) (by first | omega | (simp;omega)) HX.out.st.size ?_;intro v7 w7 hown7 hgrow7 _;have HP7:=mH (HX.out.st.app x.toks hown7 rfl rfl hgrow7);clear hown7 hgrow7)
        go_meet
        case rel=>exact ⟨wordR cWhen :: x.toks,⟨x,HBX.out,rfl⟩,by simp;omega,by rw[show acc++wordR cWhen :: x.toks=acc++[wordR cWhen]++x.toks by simp];exact HP7.out⟩
      case rest =>
       obtain ⟨A,hA,hAl,hst⟩:=hcut
       clear HP cw
       obtain ⟨ac2,hac2⟩:∃ a,acc++A=a:=⟨_,rfl⟩
       have hac:ac2.length≤800401:=by rw[← hac2,List.length_append];omega
       rw[hac2]at hst
       have HP:=mH hst
       have HA:=mH hA
       have HTK2:Hid (∀ B,OutO cScore [wordR cReject] sc B→OutL (L++R.take (j+1)) (ac2++B++[wordR cSemi])):=fun B hB=>by rw[← hac2];exact HTK.out A B HA.out hB
       clear hst hA HWB HRW HCW hac2 HTK HA hAl hacc
       have cs:=HCS.out _ HP.out.below
       obtain ⟨sa,scp,hsv⟩:=(RdO.reads HRS.out).shape
       obtain ⟨ns,hns⟩:∃ ns,(optToks sc).length=ns:=⟨_,rfl⟩
       rw[hns]at hsv
       have HNS:=mH hns
       clear hns hbw hbw' HNW
       subst hsv
       obtain ⟨bs,hbs⟩:∃ bs,decide ((0:Int)<(ns:Int))=bs:=⟨_,rfl⟩
       have hbs':decide ((ns:Int)>0)=bs:=hbs
       go_upto_if 93 with fail
       go_cut [10,15] (fun s10 s15 wx=>∃ B,OutO cScore [wordR cReject] sc B∧B.length≤401∧PSt w3 wx s10 (ac2++B))
       case first =>
        cases sc with
        | none =>
         have h0:ns=0:=HNS.out.symm
         subst h0
         have h1:bs=false:=hbs.symm
         subst h1
         go_wp2_with (first | (go_at_call 30;refine (word_any _ _).mono ?_;rintro e' w5 ⟨rfl,hb5⟩;replace HP:=mH (HP.out.call hb5);clear hb5) | (at_builtin;refine wpList_append_own _ rfl _ _ 68 rfl w3.heap.size 77 i0 (.agg #[.string ⟨#[]⟩,.int .i64 0]) 2 24 Tryz.underlying68 hi0 hz0 hz1 hz2 rfl (by decide) _ _ _ rfl (HP.out.al _).own ⟨w5.heap.size,0,none⟩ 1 1 [.string ⟨#[114,101,106,101,99,116]⟩,.int .i64 0] rfl rfl (cell_two w5 _ _ _) one_two (by unfold maxLen;first | omega | (simp;omega)) (by first | omega | (simp;omega)) (HP.out.al _).size ?_;intro v7 w7 hown7 hgrow7 _;have HP7:=mH ((HP.out.al _).app [wordR cReject] hown7 rfl rfl hgrow7);clear hown7 hgrow7))
         go_meet
         case rel=>exact ⟨[wordR cReject],rfl,by simp,HP7.out⟩
        | some e =>
         obtain ⟨he4,hbc⟩:=HSB.out e rfl
         have HBC:=mH hbc
         have h0:ns=e.toks.length:=HNS.out.symm
         have hrw:Reads w3 (.slice sa ns scp) e.toks.length (cellsR e.toks):=HRS.out
         have HRE:=mH (hrw.below HP.out.below)
         have HEV:=mH (reads_blk hrw)
         have hep:=e.toks_pos
         have hnp:0<ns:=by omega
         have h1:bs=true:=by rw[← hbs];exact decide_eq_true (by omega)
         subst h1
         clear hbc hrw HSB HRS h0 HNS
         go_upto_region 22 with (go_at_call 29;refine (HBC.out _ HRE.out).mono ?_;rintro e' w4 ⟨hb4,xv,x,rfl,hx,hr4,hn4⟩;have HX:=mH (PSx.bare HP.out hb4 hr4 hn4 HEV.out);have HBX:=mH hx;have hxl:=hx.len;clear hr4 hn4 hx)
         obtain ⟨gx,ox,cx,rfl,-,-,-⟩:=HX.out.rd.pos x.toks_pos
         go_upto_region 23 with (first | (go_at_call 30;refine (word_any _ _).mono ?_;rintro e' w5 ⟨rfl,hb5⟩;replace HX:=mH (HX.out.call hb5);clear hb5) | (at_builtin;refine wpList_append_lies _ rfl _ _ 68 rfl w3.heap.size 77 i0 (.agg #[.string ⟨#[]⟩,.int .i64 0]) 2 24 Tryz.underlying68 hi0 hz0 hz1 hz2 rfl (by decide) _ _ _ rfl (HX.out.al _).st.own ⟨w5.heap.size,0,none⟩ 1 1 [.string ⟨#[115,99,111,114,101]⟩,.int .i64 0] rfl rfl (cell_two w5 _ _ _) one_two (by omega) (by unfold maxLen;first | omega | (simp;omega)) (by first | omega | (simp;omega)) (HX.out.al _).st.size _ rfl ?_;intro gg cap w6 hown6 hgrow6 hat6 hlt6;replace HX:=mH (PSx.app (HX.out.al _) [wordR cScore] hown6 rfl rfl hgrow6 hat6 (Nat.le_refl _));clear hown6 hgrow6 hat6))
         obtain ⟨_,_,_,hq,-,-,hcx⟩:=HX.out.rd.pos x.toks_pos
         cases hq
         have HCX:=mH (add_news hcx)
         clear hcx
         go_wp2_with (at_builtin;refine wpList_append_own _ rfl _ _ 68 rfl w3.heap.size 77 i0 (.agg #[.string ⟨#[]⟩,.int .i64 0]) 2 24 Tryz.underlying68 hi0 hz0 hz1 hz2 rfl (by decide) _ _ _ rfl HX.out.st.own ⟨gx,ox,none⟩ x.toks.length cx (cellsR x.toks) rfl (cellsR_length _) HCX.out (one_cellsR _) (by unfold maxLen;first | omega | (simp;omega)) (by first | omega | (simp;omega)) HX.out.st.size ?_;intro v7 w7 hown7 hgrow7 _;have HP7:=mH (HX.out.st.app x.toks hown7 rfl rfl hgrow7);clear hown7 hgrow7)
         go_meet
         case rel=>exact ⟨wordR cScore :: x.toks,⟨x,HBX.out,rfl⟩,by simp;omega,by rw[show ac2++wordR cScore :: x.toks=ac2++[wordR cScore]++x.toks by simp];exact HP7.out⟩
       case rest =>
        obtain ⟨B,hB,hBl,hst⟩:=hcut
        clear HP cs
        have HP:=mH hst
        have HB:=mH hB
        clear hst hB HSB HRS HCS hbs hbs' HNS
        go_wp2_with (first | (go_at_call 30;refine (word_any _ _).mono ?_;rintro e' w5 ⟨rfl,hb5⟩;replace HP:=mH (HP.out.call hb5);clear hb5) | (at_builtin;refine wpList_append_own _ rfl _ _ 68 rfl w3.heap.size 77 i0 (.agg #[.string ⟨#[]⟩,.int .i64 0]) 2 24 Tryz.underlying68 hi0 hz0 hz1 hz2 rfl (by decide) _ _ _ rfl (HP.out.al _).own ⟨w5.heap.size,0,none⟩ 1 1 [.string ⟨#[59]⟩,.int .i64 0] rfl rfl (cell_two w5 _ _ _) one_two (by unfold maxLen;first | omega | (simp;omega)) (by first | omega | (simp;omega)) (HP.out.al _).size ?_;intro v7 w7 hown7 hgrow7 _;have HP7:=mH ((HP.out.al _).app [wordR cSemi] hown7 rfl rfl hgrow7);clear hown7 hgrow7))
        go_roundw
        case rel=>exact ⟨j+1,_,by go_num,by omega,HTK2.out B HB.out,HP7.out⟩
        case measure=>simp[intOf];omega
    ·have e1:decide ((j:Int)<(rs.length:Int))=false:=decide_eq_false (by have:=HRL.out;omega)
     have hnl2:¬ j<rs.length:=by rw[HRL.out];exact hjl
     have hol:OutL (L++R) acc:=by
      have:=HOUT.out
      rw[List.take_of_length_le (by omega)]at this
      exact this
     have HTX:Hid (∀ a∈acc,txOk a):=(outL_facts _ _ hol HSO.out).2
     have HPOL:Hid (setG true true false acc=polQ L R):=set_pol L R acc hol HF.out.wf HF.out.ne
     clear HOUT hol
     go_wp2_with (go_at_call 31;refine (set_any acc (by omega) HTX.out _ _ (reads_of_own HP.out.own)).mono ?_;rintro e' w9 ⟨rfl,hb9⟩)
     refine bodyPost_ret (v:=.tuple #[.string (bsOf (setG true true false acc)),.int .i64 0,.int .i64 0]) (by simp[results,Tryz.results12,go_sem]) rfl ?_
     exact ⟨by rw[HPOL.out],HBW.out.trans ((HP.out.below.trans (hb9.mono HP.out.below.size)).mono HBW.out.size)⟩
end Go.Proofs.YtgfnkeiigjholaaGreatDoor
