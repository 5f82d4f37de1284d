/-
  The document's set, called in any world: tokens with blanks and newlines between them.
-/
import Derived.Test.YtgfnkeiigjholaaGreatDoorQ46
import Derived.Deep.DeepCutAuto
set_option linter.unusedVariables false
set_option linter.unusedSimpArgs false
namespace Go.Proofs.YtgfnkeiigjholaaGreatDoor
open Go.RowKit Go.Deep
structure SeRel(l:List RTok)(w wr:World)(j:Nat)(p:Txt)(g wn ps:Bool):Prop where
  le:j≤l.length
  few:p.length≤19*j
  eq:setG true true false l=p++setG g wn ps (l.drop j)
  prev:g=false→∃ k,∃ h:k<l.length,j=k+1∧ps=(l[k].text==cSemi)
  below:Below w.heap.size w wr
def SetRel(l:List RTok)(w:World)(vs vg vw vi:Value)(wr:World):Prop:=∃ (j:Nat) (p:Txt) (g wn ps:Bool),vi=.int .i64 j∧vs=.string (bsOf p)∧vg=.bool g∧vw=.bool wn∧SeRel l w wr j p g wn ps
def sepN(t:Txt)(g ps:Bool):Txt:=if !g&&t != cClose&&t != cSemi then (if ps then [10] else [32]) else []
theorem setG_cons(t:RTok)(r:List RTok)(g w ps:Bool):setG g w ps (t :: r)=sepN t.text g ps++(strip0 t.text++setG (gluedN t.text w) (wantsN t.text) (t.text==cSemi) r):=rfl
theorem sepN_le(t:Txt)(g ps:Bool):(sepN t g ps).length≤1:=by
  unfold sepN
  split
  · split <;> simp
  · simp
theorem bne_of{a b:Txt}{x:Bool}(h:(a==b)=x):(a != b)=!x:=by rw[bne,h]
set_option maxHeartbeats 4000000 in
set_option maxRecDepth 100000 in
theorem set_any(l:List RTok)(hl:l.length≤1000000)(ht:∀ a∈l,txOk a)(v:Value)(w:World)(hv:Reads w v l.length (cellsR l)) :
    Calls Tryz.prog 31 #[v] w fun e w'=>e=.returned (.string (bsOf (setG true true false l)))∧Below w.heap.size w w':=by
  have HV:=mH hv
  have HT:=mH ht
  obtain ⟨va,vc,rfl⟩:=hv.shape
  clear hv ht
  go_enter Tryz.func31,Tryz.ntmps31
  go_wp2
  go_loopw [3,4,5,6] (fun vs vg vw vi wr=>SetRel l w vs vg vw vi wr) (fun _ _ _ i _=>l.length-(intOf i).toNat)
  case atStart=>exact ⟨0,[],true,true,false,rfl,rfl,rfl,rfl,⟨Nat.zero_le _,Nat.le_refl _,rfl,fun h=>(by cases h),Below.refl _ _⟩⟩
  case round =>
    obtain ⟨j,p,gb,wn,ps,rfl,rfl,rfl,rfl,hr⟩:=hrel
    have HR:=mH hr
    have hle:=hr.le
    have hbel:=hr.below
    clear hr
    by_cases hjl:j<l.length
    · have e1:decide ((j:Int)<(l.length:Int))=true:=decide_eq_true (by omega)
      obtain ⟨g,o,cap,hcut,hcap,hlt,hc⟩:=HV.out.pos (by omega)
      cases hcut
      have hcell:wr.cell? ⟨g,o+j*2,none⟩=some (.string (bsOf l[j].text)):=(hbel.cell (p:=⟨g,o+j*2,none⟩) hlt).trans (hc _ _ (cellsR_get l j hjl).1)
      have HPR:Hid (∀ k (h:k<l.length),wr.cell? ⟨g,o+k*2,none⟩=some (.string (bsOf l[k].text))):=fun k h=>(hbel.cell (p:=⟨g,o+k*2,none⟩) hlt).trans (hc _ _ (cellsR_get l k h).1)
      have htx:=HT.out l[j] (List.getElem_mem hjl)
      have HEQ:Hid (setG true true false l=p++(sepN l[j].text gb ps++(strip0 l[j].text++setG (gluedN l[j].text wn) (wantsN l[j].text) (l[j].text==cSemi) (l.drop (j+1))))):=by
        rw[Hid,HR.out.eq,List.drop_eq_getElem_cons hjl,setG_cons]
      have hfew:=HR.out.few
      have hsl:=sepN_le l[j].text gb ps
      have hst:=strip0_le l[j].text
      have ht18:=htx.2
      have HPV:Hid (gb=false→∃ k,∃ h:k<l.length,j=k+1∧ps=(l[k].text==cSemi)):=HR.out.prev
      have HLS:Hid (∃ k,∃ h:k<l.length,j+1=k+1∧(l[j].text==cSemi)=(l[k].text==cSemi)):=⟨j,hjl,rfl,rfl⟩
      have HBL:=mH hbel
      have htp:=htx.1
      clear hc htx HR hbel
      obtain ⟨t,htt⟩:∃ t,l[j].text=t:=⟨_,rfl⟩
      rw[htt]at hcell HEQ hsl hst ht18 htp HLS
      clear htt
      have hcz:(bsOf t).size≤1000:=by rw[bsOf_size];omega
      have hc1:1≤(bsOf t).size:=by rw[bsOf_size];omega
      have HSH:Hid (∀ wx,Calls Tryz.prog 63 #[.string (bsOf t)] wx fun e w'=>e=.returned (.string (bsOf (strip0 t)))∧w'=wx):=fun wx=>by
        have:=short_any (bsOf t) hcz hc1 wx
        rw[bsOf_toList]at this
        exact this
      have HLF:Hid (∀ wx,Calls Tryz.prog 64 #[.string (bsOf t)] wx fun e w'=>e=.returned (.bool (leafT t))∧Below wx.heap.size wx w'):=fun wx=>by
        have:=isLeaf_any (bsOf t) wx
        rw[bsOf_toList]at this
        exact this
      have HNM:Hid (∀ wx,Calls Tryz.prog 65 #[.string (bsOf t)] wx fun e w'=>e=.returned (.bool (nameT t))∧Below wx.heap.size wx w'):=fun wx=>by
        have:=isName_any (bsOf t) (by omega) wx
        rw[bsOf_toList]at this
        exact this
      have hdig:(bsOf t)[0]'(by omega)=headC t:=by
        have:=head_getElem (bsOf t) (by omega)
        rw[bsOf_toList]at this
        exact this.symm
      have HDG:Hid (∀ wx,Calls Tryz.prog 66 #[.int .u8 ((bsOf t)[0]'(by omega)).toNat] wx fun e w'=>e=.returned (.bool (isDig (headC t)))∧w'=wx):=fun wx=>by
        have:=isDigit_any ((bsOf t)[0]'(by omega)) wx
        rw[hdig]at this ⊢
        exact this
      have hix:=fun wx=>run_index_nat (P:=Tryz.prog) wx 9 (bsOf t) .i64 0 0 Tryz.underlying9 rfl (by omega)
      generalize ((bsOf t)[0]'(by omega)).toNat=dn at HDG hix
      have HBT:Hid (∀ y,((bsOf t).toList==y)=(t==y)):=by rw[Hid,bsOf_toList];exact fun _=>rfl
      have q0:(bsOf p).size≤19*j:=by rw[bsOf_size];exact hfew
      have q1:(⟨#[10]⟩:ByteArray).size=1:=rfl
      have q2:(⟨#[32]⟩:ByteArray).size=1:=rfl
      have q3:(bsOf (strip0 t)).size≤18:=by rw[bsOf_size];omega
      have q4:(bsOf (p++sepN t gb ps)).size≤19*j+1:=by rw[bsOf_size,List.length_append];omega
      have HFW:Hid ((p++(sepN t gb ps++strip0 t)).length≤19*(j+1)):=by rw[Hid,List.length_append,List.length_append];omega
      have z1:(9223372036854775807<(bsOf p).size+1)=False:=by simp;omega
      have z2:(9223372036854775807<(bsOf (p++sepN t gb ps)).size+(bsOf (strip0 t)).size)=False:=by simp;omega
      have HE2:Hid (bsOf (p++(sepN t gb ps++strip0 t))=bsOf (p++sepN t gb ps)++bsOf (strip0 t)):=by rw[Hid,← bsOf_app,List.append_assoc]
      have HS0:Hid (sepN t gb ps=[]→bsOf (p++sepN t gb ps)=bsOf p):=fun h=>by rw[h,List.append_nil]
      have HS1:Hid (sepN t gb ps=[10]→bsOf (p++sepN t gb ps)=bsOf p++⟨#[10]⟩):=fun h=>by rw[h,bsOf_app];rfl
      have HS2:Hid (sepN t gb ps=[32]→bsOf (p++sepN t gb ps)=bsOf p++⟨#[32]⟩):=fun h=>by rw[h,bsOf_app];rfl
      clear hfew hsl hst ht18 htp hdig hcz
      obtain ⟨sp,hsp⟩:∃ sp,sepN t gb ps=sp:=⟨_,rfl⟩
      have HSP:=mH hsp
      rw[hsp]at HEQ q4 HFW z2 HE2 HS0 HS1 HS2
      clear hsp
      generalize bsOf (strip0 t)=sh at HSH q3 z2 HE2
      generalize bsOf (p++sp)=ps' at q4 z2 HE2 HS0 HS1 HS2
      generalize bsOf t=c at *
      generalize bsOf p=pb at *
      obtain ⟨B,hB⟩:∃ B,(!gb&&t != cClose&&t != cSemi)=B:=⟨_,rfl⟩
      have HB:=mH hB
      have HSB:Hid (sp=if B then (if ps then [10] else [32]) else []):=by rw[Hid,← HSP.out,sepN,hB]
      clear hB HSP
      go_upto_region 8 with fail
      go_cut [30] (fun s30 wx=>s30=.bool B∧wx=wr)
      case first =>
        cases hg:gb with
        | true =>
          subst hg
          have E:Hid (B=false):=by rw[Hid,← HB.out];rfl
          go_wp2
          go_meet
          case rel=>exact ⟨by rw[E.out],rfl⟩
        | false =>
          subst hg
          cases h1:(c.toList==[41])
          · have h1':=bne_of h1
            have g1:(t != cClose)=true:=bne_of ((HBT.out [41]).symm.trans h1)
            cases h2:(c.toList==[59])
            · have h2':=bne_of h2
              have g2:(t != cSemi)=true:=bne_of ((HBT.out [59]).symm.trans h2)
              have E:Hid (B=true):=by rw[Hid,← HB.out,g1,g2];rfl
              clear g1 g2
              go_wp2
              go_meet
              case rel=>exact ⟨by rw[E.out],rfl⟩
            · have h2':=bne_of h2
              have g2:(t != cSemi)=false:=bne_of ((HBT.out [59]).symm.trans h2)
              have E:Hid (B=false):=by rw[Hid,← HB.out,g2];simp
              clear g1 g2
              go_wp2
              go_meet
              case rel=>exact ⟨by rw[E.out],rfl⟩
          · have h1':=bne_of h1
            have g1:(t != cClose)=false:=bne_of ((HBT.out [41]).symm.trans h1)
            have E:Hid (B=false):=by rw[Hid,← HB.out,g1];simp
            clear g1
            go_wp2
            go_meet
            case rel=>exact ⟨by rw[E.out],rfl⟩
      case rest =>
        obtain ⟨rfl,hwx⟩:=hcut
        subst wc
        go_upto_if 30 with fail
        go_cut [3] (fun s3 wx=>s3=.string ps'∧wx=wr)
        case first =>
          cases hb:B with
          | false =>
            subst hb
            have E:=mH (HS0.out (by rw[HSB.out];rfl))
            go_wp2
            go_meet
            case rel=>exact ⟨by rw[E.out],rfl⟩
          | true =>
            subst hb
            have hgf:gb=false:=by
              have:=HB.out
              cases gb
              · rfl
              · simp at this
            obtain ⟨k,hk,hjk,hps⟩:=HPV.out hgf
            have hck:=HPR.out k hk
            obtain ⟨ck,hckd⟩:∃ ck,ck=bsOf l[k].text:=⟨_,rfl⟩
            have hcb:(ck.toList==[59])=ps:=by rw[hckd,bsOf_toList,hps];rfl
            rw[← hckd]at hck
            clear hckd hps hgf
            subst hjk
            cases hp:ps with
            | true =>
              subst hp
              have E:=mH (HS1.out (by rw[HSB.out];rfl))
              go_wp2
              go_meet
              case rel=>exact ⟨by rw[E.out],rfl⟩
            | false =>
              subst hp
              have E:=mH (HS2.out (by rw[HSB.out];rfl))
              go_wp2
              go_meet
              case rel=>exact ⟨by rw[E.out],rfl⟩
        case rest =>
         obtain ⟨rfl,hwx⟩:=hcut
         subst wc
         go_upto_region 13 with (go_at_call 63;refine (HSH.out _).mono ?_;rintro e' wz ⟨rfl,hwz⟩;subst wz)
         go_cut [4] (fun s4 wx=>s4=.bool (gluedN t wn)∧wx=wr)
         case first =>
           have HGL:Hid (gluedN t wn=(t==[40]||(t==[45]&&wn))):=rfl
           cases h1:(c.toList==[40])
           · have g1:(t==[40])=false:=(HBT.out _).symm.trans h1
             cases h2:(c.toList==[45])
             · have g2:(t==[45])=false:=(HBT.out _).symm.trans h2
               have E:Hid (gluedN t wn=false):=by rw[Hid];rw[HGL.out,g1,g2];rfl
               go_wp2
               go_meet
               case rel=>exact ⟨by rw[E.out],rfl⟩
             · have g2:(t==[45])=true:=(HBT.out _).symm.trans h2
               have E:Hid (gluedN t wn=wn):=by rw[Hid];rw[HGL.out,g1,g2];cases wn <;> rfl
               go_wp2
               go_meet
               case rel=>exact ⟨by rw[E.out],rfl⟩
           · have g1:(t==[40])=true:=(HBT.out _).symm.trans h1
             have E:Hid (gluedN t wn=true):=by rw[Hid];rw[HGL.out,g1];rfl
             go_wp2
             go_meet
             case rel=>exact ⟨by rw[E.out],rfl⟩
         case rest =>
           obtain ⟨rfl,hwx⟩:=hcut
           subst wc
           have HW:Hid (wantsN t=!((leafT t||nameT t||isDig (headC t))||t==[41])):=rfl
           generalize gluedN t wn=gl at *
           generalize hwt:wantsN t=wt at *
           clear hwt
           generalize leafT t=lf at *
           generalize nameT t=nm at *
           generalize isDig (headC t)=dg at *
           go_upto_region 16 with (first | (go_at_call 64;refine (HLF.out _).mono ?_;rintro e' w1 ⟨rfl,hb1⟩;replace HBL:=mH (HBL.out.trans (hb1.mono HBL.out.size));clear hb1) | (go_at_call 65;refine (HNM.out _).mono ?_;rintro e' w2 ⟨rfl,hb2⟩;replace HBL:=mH (HBL.out.trans (hb2.mono HBL.out.size));clear hb2))
           cases h1:(c.toList==[41])
           · have g1:(t==[41])=false:=(HBT.out _).symm.trans h1
             have hw:wt=!(lf||nm||dg):=by rw[HW.out,g1,Bool.or_false]
             clear HW
             cases lf <;> cases nm <;> cases dg
             all_goals
               subst hw
               go_wp2_with (go_at_call 66;refine (HDG.out _).mono ?_;rintro e' wz ⟨rfl,hwz⟩;subst wz)
               go_roundw
               case rel=>exact ⟨j+1,p++(sp++strip0 t),gl,_,(t==cSemi),by go_num,by rw[HE2.out],rfl,rfl,⟨by omega,HFW.out,by rw[HEQ.out];simp,fun _=>HLS.out,HBL.out⟩⟩
               case measure=>simp[intOf];omega
           · have g1:(t==[41])=true:=(HBT.out _).symm.trans h1
             have hw:wt=false:=by rw[HW.out,g1,Bool.or_true];rfl
             clear HW
             cases lf <;> cases nm <;> cases dg
             all_goals
               subst hw
               go_wp2_with (go_at_call 66;refine (HDG.out _).mono ?_;rintro e' wz ⟨rfl,hwz⟩;subst wz)
               go_roundw
               case rel=>exact ⟨j+1,p++(sp++strip0 t),gl,_,(t==cSemi),by go_num,by rw[HE2.out],rfl,rfl,⟨by omega,HFW.out,by rw[HEQ.out];simp,fun _=>HLS.out,HBL.out⟩⟩
               case measure=>simp[intOf];omega
    · have e1:decide ((j:Int)<(l.length:Int))=false:=decide_eq_false (by omega)
      have HEQ:Hid (setG true true false l=p):=by rw[Hid,HR.out.eq,List.drop_eq_nil_of_le (by omega),setG,List.append_nil]
      clear hbel
      go_wp2
      go_ret
      exact ⟨by rw[HEQ.out];rfl,HR.out.below⟩
end Go.Proofs.YtgfnkeiigjholaaGreatDoor
