/-
  The document's Says: what a policy says of an item and a bin, with its plain steps.
-/
import Derived.Test.YtldfkcpbjooemaaGreatDoorG48
import Derived.Test.YtldfkcpbjooemaaGreatDoorG43
import Derived.Test.YtldfkcpbjooemaaGreatDoorG41
import Derived.Deep.CutRange
set_option linter.unusedVariables false
set_option linter.unusedSimpArgs false
namespace Go.Proofs.YtldfkcpbjooemaaGreatDoor
open Go.RowKit Go.Deep
structure ExprV (E:List Ent) (t:Tr) (k:Nat):Prop where
 wf:t.wf
 may:∀ a∈t.toks,mayT a.text=true∧NumOk a
 parts:partSum (pE E) t.toks≤150
 names:∀ a∈t.toks,nameT a.text=true→a.text∈nE E
 kind:kindT (cE E) t=.ok k
 short:t.toks.length≤400
def RulesV (E:List Ent) (R:List RSt):Prop:=∀ wh act sc semi,RSt.rule wh act sc semi∈R→(∀ kw e,wh=some (kw,e)→ExprV E e 2)∧(∀ e,sc=some e→ExprV E e 1)
def addS (S:Nat) (q:Nat × Int × Nat):Nat × Int × Nat:=(q.1,q.2.1,S+q.2.2)
theorem addS_add (a b:Nat) (q:Nat × Int × Nat):addS a (addS b q)=addS (a+b) q:=by unfold addS;simp only;rw[Nat.add_assoc]
theorem wrS (S c:Nat) (h1:S≤1000000) (h2:c≤1000000):wrap64 ((S:Int)+(c:Int))=(S:Int)+(c:Int)∧wrap64 ((S:Int)+(c:Int)+1)=(S:Int)+(c:Int)+1∧IntKind.i64.wrap ((S:Int)+(c:Int))=(S:Int)+(c:Int)∧IntKind.i64.wrap ((S:Int)+(c:Int)+1)=(S:Int)+(c:Int)+1 :=
 ⟨IntWalk.wrap64_in _ ⟨by omega,by omega⟩,IntWalk.wrap64_in _ ⟨by omega,by omega⟩,IntWalk.i64_in _ ⟨by omega,by omega⟩,IntWalk.i64_in _ ⟨by omega,by omega⟩⟩
theorem wr1' (c:Nat) (h:c≤1000000):wrap64 ((c:Int)+1)=((c+1:Nat):Int)∧IntKind.i64.wrap ((c:Int)+1)=((c+1:Nat):Int) :=
 ⟨(IntWalk.wrap64_in _ ⟨by omega,by omega⟩).trans (by omega),(IntWalk.i64_in _ ⟨by omega,by omega⟩).trans (by omega)⟩
structure BxP (w wx:World) (lv kv rv:Value) (x:Itm) (y:Bn):Prop where
 sc:Blk wx w.heap.size #[lv,kv,rv] 44
 it:Blk wx (w.heap.size+1) #[.int .i64 x.size,.int .i64 x.speed,.int .i64 x.need] 26
 bn:Blk wx (w.heap.size+2) #[.int .i64 y.id,.int .i64 y.zone,.int .i64 y.cap,.int .i64 y.used,.int .i64 y.has] 28
 rs:Blk wx (w.heap.size+3) (wA 0 0 0) 52
 bl:Below w.heap.size w wx
theorem BxP.below {w wx w':World} {lv kv rv:Value} {x:Itm} {y:Bn} (h:BxP w wx lv kv rv x y) (hb:Below wx.heap.size wx w'):BxP w w' lv kv rv x y :=
 ⟨h.sc.below hb h.sc.lt,h.it.below hb h.it.lt,h.bn.below hb h.bn.lt,h.rs.below hb h.rs.lt,h.bl.trans (hb.mono h.bl.size)⟩
theorem BxP.start (w:World) (lv kv rv:Value) (x:Itm) (y:Bn):BxP w ((((w.alloc (.cells #[lv,kv,rv] 44)).alloc (.cells #[.int .i64 x.size,.int .i64 x.speed,.int .i64 x.need] 26)).alloc (.cells #[.int .i64 y.id,.int .i64 y.zone,.int .i64 y.cap,.int .i64 y.used,.int .i64 y.has] 28)).alloc (.cells (wA 0 0 0) 52)) lv kv rv x y:=by
 have a2:=Blk.new (w.alloc (.cells #[lv,kv,rv] 44)) #[.int .i64 x.size,.int .i64 x.speed,.int .i64 x.need] 26
 have a3:=Blk.new ((w.alloc (.cells #[lv,kv,rv] 44)).alloc (.cells #[.int .i64 x.size,.int .i64 x.speed,.int .i64 x.need] 26)) #[.int .i64 y.id,.int .i64 y.zone,.int .i64 y.cap,.int .i64 y.used,.int .i64 y.has] 28
 have a4:=Blk.new (((w.alloc (.cells #[lv,kv,rv] 44)).alloc (.cells #[.int .i64 x.size,.int .i64 x.speed,.int .i64 x.need] 26)).alloc (.cells #[.int .i64 y.id,.int .i64 y.zone,.int .i64 y.cap,.int .i64 y.used,.int .i64 y.has] 28)) (wA 0 0 0) 52
 rw[show (w.alloc (.cells #[lv,kv,rv] 44)).heap.size=w.heap.size+1 by simp] at a2
 rw[show ((w.alloc (.cells #[lv,kv,rv] 44)).alloc (.cells #[.int .i64 x.size,.int .i64 x.speed,.int .i64 x.need] 26)).heap.size=w.heap.size+2 by simp] at a3
 rw[show (((w.alloc (.cells #[lv,kv,rv] 44)).alloc (.cells #[.int .i64 x.size,.int .i64 x.speed,.int .i64 x.need] 26)).alloc (.cells #[.int .i64 y.id,.int .i64 y.zone,.int .i64 y.cap,.int .i64 y.used,.int .i64 y.has] 28)).heap.size=w.heap.size+3 by simp] at a4
 exact ⟨(((Blk.new w _ _).alloc _).alloc _).alloc _,(a2.alloc _).alloc _,a3.alloc _,a4,((((Below.refl _ w).alloc (Nat.le_refl _) _).alloc (by simp) _).alloc (by simp;omega) _).alloc (by simp;omega) _⟩
theorem nz_int {b:Nat} (h:¬ b=0):((b:Int) != 0)=true:=by simp;omega
theorem z_int {b:Nat} (h:b=0):((b:Int) != 0)=false:=by simp[h]
theorem pos_int {b:Nat} (h:0 < b):decide ((0:Int) < (b:Int))=true∧((b:Int)==0)=false:=by constructor <;> (simp;try omega)
theorem s_next {S k d S2:Nat} (h1:S≤500 * k) (h2:d≤450) (h3:S+(d+1)=S2):S2≤500 * (k+1)∧(S:Int)+(d:Int)+1=(S2:Int):=by omega
theorem s_cast {S d:Nat}:(((S+d:Nat):Nat):Int)=(S:Int)+(d:Int)∧(((S+(d+1):Nat):Nat):Int)=(S:Int)+(d:Int)+1:=by omega
theorem RdO.shape {w:World} {v:Value}:∀ {o:Option Tr},RdO w v o→∃ a n c,v=.slice a n c
 | none,h=>⟨_,_,_,h⟩
 | some _,h=>by obtain ⟨a,c,e⟩:=Reads.shape h;exact ⟨_,_,_,e⟩
theorem say_act {env:Txt→Wo} {x:Itm} {y:Bn} {S:Nat} {kw act semi:RTok} {e:Tr} {sc:Option Tr} {rest T:Nat × Int × Nat} (h:addS S (sayD env x y ⟨some (kw,e),act,sc,semi⟩ rest)=T) (h0:(e.wor env x y).flt=0) :
  ((e.wor env x y).v=0→addS (S+whenW (e.wor env x y)) rest=T)∧((e.wor env x y).v≠0→addS (S+whenW (e.wor env x y)) (actW env x y sc)=T):=by
 unfold sayD at h
 simp only at h
 rw[if_neg (fun g=>g h0)] at h
 constructor
 ·intro hv
  rw[if_pos hv] at h
  rw[← h,← addS_add];rfl
 ·intro hv
  rw[if_neg hv] at h
  rw[← h,← addS_add];rfl
set_option maxHeartbeats 8000000 in
set_option maxRecDepth 100000 in
theorem Says_any (hAt:AtoiOk) (l:List Stm) (L:List RSt) (E:List Ent) (rs:List Stm) (R:List RSt) (x:Itm) (y:Bn) (hx:x.Ok∧y.Ok) (hV:LetsV l L E x y) (hRV:RulesV E R) (hR:isRuleL' R) (hr4:rs.length≤400) (lv kv rv:Value) (w:World) (hlv:Reads w lv l.length (cellsS l)) (hL:LetsIn w l L) (hrv:Reads w rv rs.length (cellsS rs)) (har:All2 (StmOk w) rs R) :
  Calls Tryz.prog 24 #[.agg #[lv,kv,rv],itmA x,bnA y] w fun e w'=>e=.returned (resA (sayW (lookW (vE E)) x y R))∧Below w.heap.size w w':=by
 have HX:=Hid.mk2 hx
 have HV:=Hid.mk2 hV
 have HRV:=Hid.mk2 hRV
 have HLV:=Hid.mk2 hlv
 have HL:=Hid.mk2 hL
 have HRR:=Hid.mk2 hrv
 have HAR:=Hid.mk2 har
 have HRL:=Hid.mk2 hR
 have HLN:Hid (rs.length=R.length):=har.len
 obtain ⟨ra,rc,rfl⟩:=hrv.shape
 generalize henv:lookW (vE E)=env
 have HENV:=Hid.mk2 henv
 obtain ⟨T,hT⟩:∃ T,sayW env x y R=T:=⟨_,rfl⟩
 rw[hT]
 have HT:=Hid.mk2 hT
 have HQ:=Hid.mk2 (BxP.start w lv kv (.slice ra rs.length rc) x y)
 clear hx hV hRV hlv hL hrv har hR hT henv
 unfold itmA bnA
 go_enter Tryz.func24,Tryz.ntmps24
 go_upto_region 1 with fail
 generalize (((w.alloc (.cells #[lv,kv,.slice ra rs.length rc] 44)).alloc (.cells #[.int .i64 x.size,.int .i64 x.speed,.int .i64 x.need] 26)).alloc (.cells #[.int .i64 y.id,.int .i64 y.zone,.int .i64 y.cap,.int .i64 y.used,.int .i64 y.has] 28)).alloc (.cells (wA 0 0 0) 52)=W0 at HQ ⊢
 go_wp2
 go_loopw [7,8] (fun vs vi wr=>∃ k S:Nat,k≤rs.length∧vs=.int .i64 S∧vi=.int .i64 k∧S≤500 * k∧BxP w wr lv kv (.slice ra rs.length rc) x y∧addS S (sayW env x y (R.drop k))=T) (fun _ i _=>rs.length - (intOf i).toNat)
 case atStart=>exact ⟨0,0,Nat.zero_le _,rfl,rfl,Nat.le_refl _,HQ.out,by rw[List.drop_zero,HT.out];unfold addS;simp⟩
 case round =>
  obtain ⟨k,S,hk,rfl,rfl,hS,hq,hsum⟩:=hrel
  clear HQ
  have HQ:=Hid.mk2 hq
  have HSUM:=Hid.mk2 hsum
  have hq2:=hq.sc.cell 2
  have hql:=hq.sc.lt
  have hqc:=hq.sc.cell
  simp only[List.getElem?_toArray,List.getElem?_cons_zero,List.getElem?_cons_succ] at hq2
  clear hq hsum
  have hb_S:S≤200000:=by omega
  by_cases hlt:k < rs.length
  ·have hm1:rs.length - (k+1) < rs.length - k:=by omega
   have hk1:k+1≤rs.length:=hlt
   have hb_k:500 * (k+1)≤300000:=by omega
   have hS7:S≤500 * (k+1):=by omega
   obtain ⟨g,og,cap,hcut,hcap,hg,hc⟩:=HRR.out.pos (Nat.lt_of_le_of_lt (Nat.zero_le _) hlt)
   cases hcut
   obtain ⟨d0,d1,d2,d3⟩:=cellsS_get rs k hlt
   have c0:=(HQ.out.bl.cell (p:=⟨g,og+k * 4,none⟩) hg).trans (hc _ _ d0)
   have c1:=(HQ.out.bl.cell (p:=⟨g,og+(k * 4+1),none⟩) hg).trans (hc _ _ d1)
   have c2:=(HQ.out.bl.cell (p:=⟨g,og+(k * 4+2),none⟩) hg).trans (hc _ _ d2)
   have c3:=(HQ.out.bl.cell (p:=⟨g,og+(k * 4+3),none⟩) hg).trans (hc _ _ d3)
   rw[← Nat.add_assoc] at c1 c2 c3
   have hkR:k < R.length:=by rw[← HLN.out];exact hlt
   have HOK:Hid (StmOk w rs[k] R[k]):=HAR.out.get k hlt hkR
   have HDR:Hid (R.drop k=R[k] :: R.drop (k+1)):=List.drop_eq_getElem_cons hkR
   have HMEM:Hid (R[k]∈R):=List.getElem_mem hkR
   obtain ⟨nm,hnm⟩:∃ nm,bsOf rs[k].name=nm:=⟨_,rfl⟩
   obtain ⟨ex,hex⟩:∃ v,rs[k].expr=v:=⟨_,rfl⟩
   obtain ⟨wn,hwn⟩:∃ v,rs[k].when=v:=⟨_,rfl⟩
   obtain ⟨sv,hsv0⟩:∃ v,rs[k].score=v:=⟨_,rfl⟩
   rw[hnm] at c0
   rw[hex] at c1
   rw[hwn] at c2
   rw[hsv0] at c3
   have HWN:=Hid.mk2 hwn
   have HSV:=Hid.mk2 hsv0
   have HEX:=Hid.mk2 hex
   clear hnm hex hwn hsv0 d0 d1 d2 d3 hc
   rcases (R[k]).cases with ⟨kw,name,eq,e,semi,he⟩ | ⟨wh,act,sc,semi,he⟩
   ·exfalso
    have:=HRL.out _ HMEM.out
    rw[he] at this
    cases this
   have HOK2:Hid (ex=.slice none 0 0∧RdO w wn (wh.map Prod.snd)∧RdO w sv sc):=(by
    have:=HOK.out
    rw[he] at this
    obtain ⟨_,h2,h3,h4⟩:=this
    rw[HEX.out] at h2
    rw[HWN.out] at h3
    rw[HSV.out] at h4
    exact ⟨h2,h3,h4⟩:ex=.slice none 0 0∧RdO w wn (wh.map Prod.snd)∧RdO w sv sc)
   have HXV:Hid (_∧_):=HRV.out wh act sc semi (he ▸ HMEM.out)
   have HXS:Hid (∀ e,sc=some e→ExprV E e 1):=HXV.out.2
   have HXW:Hid (∀ kw e,wh=some (kw,e)→ExprV E e 2):=HXV.out.1
   have HSD:Hid (addS S (sayD env x y ⟨wh,act,sc,semi⟩ (sayW env x y (R.drop (k+1))))=T):=(by
    have:=HSUM.out
    rw[HDR.out,he,sayW_rule] at this
    exact this:_=T)
   obtain ⟨hex0,hwR,hsR⟩:=HOK2.out
   have HSC:Hid (RdO w sv sc):=hsR
   have HWH:Hid (RdO w wn (wh.map Prod.snd)):=hwR
   clear HXV HOK HOK2 HDR HMEM he HSUM HWN HSV HEX
   obtain ⟨wna,wnn,wnc,rfl⟩:=hwR.shape
   obtain ⟨sva,svn,svc,rfl⟩:=hsR.shape
   subst hex0
   clear hwR hsR
   have HST0:=Hid.mk2 (Blk.new wr #[.string nm,.slice none 0 0,.slice wna wnn wnc,.slice sva svn svc] 75)
   have HQ0:=Hid.mk2 (HQ.out.below (one_al wr (.cells #[.string nm,.slice none 0 0,.slice wna wnn wnc,.slice sva svn svc] 75)))
   go_upto_region 6 with fail
   generalize hW:wr.alloc (.cells #[.string nm,.slice none 0 0,.slice wna wnn wnc,.slice sva svn svc] 75)=W at HST0 HQ0 ⊢
   generalize hzb:wr.heap.size=zb at HST0 ⊢
   clear hW hzb HQ c0 c1 c2 c3 hq2 hql hqc
   have HQ:=HQ0
   have HST:=HST0
   clear HQ0 HST0
   cases wh with
   | none =>
    have hwn0:Value.slice wna wnn wnc=.slice none 0 0:=HWH.out
    cases hwn0
    have HACT:Hid (addS S (actW env x y sc)=T):=HSD.out
    have r0:=HQ.out.rs.cell
    have rf:=HQ.out.rs.free
    have hrl:=HQ.out.rs.lt
    have st0:=HST.out.cell
    have q0:=HQ.out.sc.cell
    have hzl:=HST.out.lt
    have i0:=HQ.out.it.cell
    have b0:=HQ.out.bn.cell
    go_upto_region 14 with fail
    clear r0 rf hrl st0 q0 hzl i0 b0
    cases sc with
    | none =>
     have hsv:Value.slice sva svn svc=.slice none 0 0:=HSC.out
     cases hsv
     have HACT2:Hid (T=(0,0,S+1)):=by rw[Hid,← HACT.out];rfl
     have hw1:=(wr1' S (Nat.le_trans hb_S (by decide))).1
     have hw2:=(wr1' S (Nat.le_trans hb_S (by decide))).2
     have r0:=HQ.out.rs.cell
     have rf:=HQ.out.rs.free
     have hrl:=HQ.out.rs.lt
     have st0:=HST.out.cell
     have q0:=HQ.out.sc.cell
     have hzl:=HST.out.lt
     have i0:=HQ.out.it.cell
     have b0:=HQ.out.bn.cell
     go_wp2
     have hfb:=((HQ.out.rs.set 0 (.int .i64 0)).set 1 (.int .i64 0)).set 2 (.int .i64 ((S:Int)+1))
     have g0:=hfb.cell 0
     have g1:=hfb.cell 1
     have g2:=hfb.cell 2
     refine bodyPost_ret (v:=.agg #[.int .i64 0,.int .i64 0,.int .i64 ((S:Int)+1)]) (by simp[results,Tryz.results24,go_sem,g0,g1,g2]) rfl ⟨?_, ?_⟩
     ·rw[HACT2.out];rfl
     ·exact sets3 (rb:=w.heap.size+3) HQ.out.bl (Nat.le_add_right _ _) _ _ _
    | some e2 =>
     have XV:=Hid.mk2 (HXS.out e2 rfl)
     have e2p:=e2.toks_pos
     have e24:=XV.out.short
     have IV2R:Hid (Reads w (.slice sva svn svc) e2.toks.length (cellsR e2.toks)):=HSC.out
     obtain ⟨g2,o2,c2,hsv,_,_,_⟩:=IV2R.out.pos e2p
     have IV2:Hid (ValOk l L x y e2.toks _ _ _):=val_any hAt HX.out.1 HX.out.2 HV.out e2 XV.out.wf XV.out.may XV.out.parts XV.out.names 1 XV.out.kind
     have WO2:=Hid.mk2 (wo_tree HX.out.1 HX.out.2 HV.out e2 XV.out.wf XV.out.may XV.out.parts XV.out.names 1 XV.out.kind)
     rw[HENV.out] at IV2 WO2
     have HA2:Hid (addS S (if (e2.wor env x y).flt≠0 then (2,((e2.wor env x y).flt:Int),(e2.wor env x y).steps) else (1,(e2.wor env x y).v,(e2.wor env x y).steps+1))=T):=HACT.out
     have HS2:Hid ((e2.wor env x y).steps≤450):=(by have:=WO2.out.le;have:=XV.out.parts;omega:(e2.wor env x y).steps≤450)
     obtain ⟨a2,ha2⟩:∃ a,(e2.wor env x y).v=a:=⟨_,rfl⟩
     obtain ⟨b2,hb2⟩:∃ a,(e2.wor env x y).flt=a:=⟨_,rfl⟩
     obtain ⟨d2,hd2⟩:∃ a,(e2.wor env x y).steps=a:=⟨_,rfl⟩
     rw[ha2,hb2,hd2] at IV2 HA2
     rw[hd2] at HS2
     have hd24:=HS2.out
     clear ha2 hb2 hd2 WO2 HS2
     cases hsv
     have hln:=(pos_int e2p).2
     have r0:=HQ.out.rs.cell
     have rf:=HQ.out.rs.free
     have hrl:=HQ.out.rs.lt
     have st0:=HST.out.cell
     have q0:=HQ.out.sc.cell
     have hzl:=HST.out.lt
     have i0:=HQ.out.it.cell
     have b0:=HQ.out.bn.cell
     go_upto_region 17 with (go_at_call 51;refine (IV2.out _ _ lv kv e2p e24 (IV2R.out.below HQ.out.bl) (HLV.out.below HQ.out.bl) (HL.out.below HQ.out.bl)).mono ?_;rintro e' w3 ⟨rfl,hb3⟩;have HZ:=Hid.mk2 (Blk.new w3 #[.int .i64 a2,.int .i64 b2,.int .i64 d2] 97);replace HQ:=Hid.mk2 ((HQ.out.below hb3).below (one_al w3 (.cells #[.int .i64 a2,.int .i64 b2,.int .i64 d2] 97)));replace HST:=Hid.mk2 ((HST.out.below hb3 HST.out.lt).alloc (.cells #[.int .i64 a2,.int .i64 b2,.int .i64 d2] 97));clear hb3 r0 rf hrl st0 q0 hzl i0 b0)
     generalize hW9:w3.alloc (.cells #[.int .i64 a2,.int .i64 b2,.int .i64 d2] 97)=W9 at HQ HST HZ ⊢
     generalize hzc0:w3.heap.size=zc at HZ ⊢
     clear hW9 hzc0
     have z0:=HZ.out.cell
     have hzc:=HZ.out.lt
     have r0:=HQ.out.rs.cell
     have rf:=HQ.out.rs.free
     have hrl:=HQ.out.rs.lt
     have st0:=HST.out.cell
     have q0:=HQ.out.sc.cell
     have hzl:=HST.out.lt
     have i0:=HQ.out.it.cell
     have b0:=HQ.out.bn.cell
     have hw1:=(wrS S d2 (Nat.le_trans hb_S (by decide)) (Nat.le_trans hd24 (by decide))).1
     have hw2:=(wrS S d2 (Nat.le_trans hb_S (by decide)) (Nat.le_trans hd24 (by decide))).2.1
     have hw3:=(wrS S d2 (Nat.le_trans hb_S (by decide)) (Nat.le_trans hd24 (by decide))).2.2.1
     have hw4:=(wrS S d2 (Nat.le_trans hb_S (by decide)) (Nat.le_trans hd24 (by decide))).2.2.2
     by_cases hb0:b2=0
     ·have hbb:=z_int hb0
      have HR:Hid (T=(1,a2,S+(d2+1))):=by rw[Hid,← HA2.out,if_neg (fun h=>h hb0)];rfl
      clear hb0
      go_wp2
      have hfb:=((HQ.out.rs.set 0 (.int .i64 1)).set 1 (.int .i64 a2)).set 2 (.int .i64 ((S:Int)+(d2:Int)+1))
      have g0:=hfb.cell 0
      have g1:=hfb.cell 1
      have g2:=hfb.cell 2
      refine bodyPost_ret (v:=.agg #[.int .i64 1,.int .i64 a2,.int .i64 ((S:Int)+(d2:Int)+1)]) (by simp[results,Tryz.results24,go_sem,g0,g1,g2]) rfl ⟨?_, ?_⟩
      ·rw[HR.out];unfold resA;simp only;rw[s_cast.2];rfl
      ·exact sets3 (rb:=w.heap.size+3) HQ.out.bl (Nat.le_add_right _ _) _ _ _
     ·have hbb:=nz_int hb0
      have HR:Hid (T=(2,(b2:Int),S+d2)):=by rw[Hid,← HA2.out,if_pos hb0];rfl
      clear hb0
      go_wp2
      have hfb:=((HQ.out.rs.set 0 (.int .i64 2)).set 1 (.int .i64 b2)).set 2 (.int .i64 ((S:Int)+(d2:Int)))
      have g0:=hfb.cell 0
      have g1:=hfb.cell 1
      have g2:=hfb.cell 2
      refine bodyPost_ret (v:=.agg #[.int .i64 2,.int .i64 b2,.int .i64 ((S:Int)+(d2:Int))]) (by simp[results,Tryz.results24,go_sem,g0,g1,g2]) rfl ⟨?_, ?_⟩
      ·rw[HR.out];unfold resA;simp only;rw[s_cast.1];rfl
      ·exact sets3 (rb:=w.heap.size+3) HQ.out.bl (Nat.le_add_right _ _) _ _ _
   | some p =>
    obtain ⟨kw,e⟩:=p
    have XW:=Hid.mk2 (HXW.out kw e rfl)
    have e1p:=e.toks_pos
    have e14:=XW.out.short
    have IV1R:Hid (Reads w (.slice wna wnn wnc) e.toks.length (cellsR e.toks)):=HWH.out
    obtain ⟨g1,o1,c1,hwn1,_,_,_⟩:=IV1R.out.pos e1p
    have IV1:Hid (ValOk l L x y e.toks _ _ _):=val_any hAt HX.out.1 HX.out.2 HV.out e XW.out.wf XW.out.may XW.out.parts XW.out.names 2 XW.out.kind
    have IF1:Hid (FixOk l L (feE E) e.toks):=fix_tree HV.out e XW.out.may XW.out.names
    have HFX:Hid ((e.wor env x y).fix=fixL (feE E) e.toks):=(by rw[← HENV.out];exact wor_fix _ x y e XW.out.wf (fun a ha=>(XW.out.may a ha).1):_=_)
    have WO1:=Hid.mk2 (wo_tree HX.out.1 HX.out.2 HV.out e XW.out.wf XW.out.may XW.out.parts XW.out.names 2 XW.out.kind)
    rw[HENV.out] at IV1 WO1
    have HS1:Hid ((e.wor env x y).steps≤450):=(by have:=WO1.out.le;have:=XW.out.parts;omega:(e.wor env x y).steps≤450)
    have HD:Hid ((e.wor env x y).flt=0→((e.wor env x y).v=0→addS (S+whenW (e.wor env x y)) (sayW env x y (R.drop (k+1)))=T)∧((e.wor env x y).v≠0→addS (S+whenW (e.wor env x y)) (actW env x y sc)=T)):=fun h0=>say_act HSD.out h0
    have HDF:Hid ((e.wor env x y).flt≠0→addS S (2,((e.wor env x y).flt:Int),(e.wor env x y).steps)=T):=(fun h0=>by rw[← HSD.out];unfold sayD;simp only;rw[if_pos h0]:_→_)
    unfold whenW at HD
    rw[HFX.out] at HD
    obtain ⟨a1,ha1⟩:∃ a,(e.wor env x y).v=a:=⟨_,rfl⟩
    obtain ⟨b1,hb1⟩:∃ a,(e.wor env x y).flt=a:=⟨_,rfl⟩
    obtain ⟨d1,hd1⟩:∃ a,(e.wor env x y).steps=a:=⟨_,rfl⟩
    rw[ha1,hb1,hd1] at IV1 HD
    rw[hb1,hd1] at HDF
    rw[hd1] at HS1
    have hd14:=HS1.out
    clear ha1 hb1 hd1 WO1 HS1 HSD HFX
    cases hwn1
    have hln:=(pos_int e1p).1
    have r0:=HQ.out.rs.cell
    have rf:=HQ.out.rs.free
    have hrl:=HQ.out.rs.lt
    have st0:=HST.out.cell
    have q0:=HQ.out.sc.cell
    have hzl:=HST.out.lt
    have i0:=HQ.out.it.cell
    have b0:=HQ.out.bn.cell
    go_upto_region 8 with (go_at_call 51;refine (IV1.out _ _ lv kv e1p e14 (IV1R.out.below HQ.out.bl) (HLV.out.below HQ.out.bl) (HL.out.below HQ.out.bl)).mono ?_;rintro e' w3 ⟨rfl,hb3⟩;have HZ:=Hid.mk2 (Blk.new w3 #[.int .i64 a1,.int .i64 b1,.int .i64 d1] 97);replace HQ:=Hid.mk2 ((HQ.out.below hb3).below (one_al w3 (.cells #[.int .i64 a1,.int .i64 b1,.int .i64 d1] 97)));replace HST:=Hid.mk2 ((HST.out.below hb3 HST.out.lt).alloc (.cells #[.int .i64 a1,.int .i64 b1,.int .i64 d1] 97));clear hb3 r0 rf hrl st0 q0 hzl i0 b0)
    generalize hW4:w3.alloc (.cells #[.int .i64 a1,.int .i64 b1,.int .i64 d1] 97)=W4 at HQ HST HZ ⊢
    generalize hzc0:w3.heap.size=zc at HZ ⊢
    clear hW4 hzc0
    have z0:=HZ.out.cell
    have hzc:=HZ.out.lt
    have r0:=HQ.out.rs.cell
    have rf:=HQ.out.rs.free
    have hrl:=HQ.out.rs.lt
    have st0:=HST.out.cell
    have q0:=HQ.out.sc.cell
    have hzl:=HST.out.lt
    have i0:=HQ.out.it.cell
    have b0:=HQ.out.bn.cell
    go_upto_region 9 with (go_at_call 52;refine (IF1.out _ _ lv kv e1p e14 (IV1R.out.below HQ.out.bl) (HLV.out.below HQ.out.bl) (HL.out.below HQ.out.bl)).mono ?_;rintro e' W5 ⟨rfl,hb5⟩;replace HQ:=Hid.mk2 (HQ.out.below hb5);replace HST:=Hid.mk2 (HST.out.below hb5 HST.out.lt);replace HZ:=Hid.mk2 (HZ.out.below hb5 HZ.out.lt);clear hb5 r0 rf hrl st0 q0 hzl i0 b0 z0 hzc)
    have z0:=HZ.out.cell
    have hzc:=HZ.out.lt
    have r0:=HQ.out.rs.cell
    have rf:=HQ.out.rs.free
    have hrl:=HQ.out.rs.lt
    have st0:=HST.out.cell
    have q0:=HQ.out.sc.cell
    have hzl:=HST.out.lt
    have i0:=HQ.out.it.cell
    have b0:=HQ.out.bn.cell
    by_cases hb0:b1=0
    ·have hbb:=z_int hb0
     have HD2:=Hid.mk2 (HD.out hb0)
     have hw1:=(wrS S d1 (Nat.le_trans hb_S (by decide)) (Nat.le_trans hd14 (by decide))).1
     have hw2:=(wrS S d1 (Nat.le_trans hb_S (by decide)) (Nat.le_trans hd14 (by decide))).2.1
     have hw3:=(wrS S d1 (Nat.le_trans hb_S (by decide)) (Nat.le_trans hd14 (by decide))).2.2.1
     have hw4:=(wrS S d1 (Nat.le_trans hb_S (by decide)) (Nat.le_trans hd14 (by decide))).2.2.2
     have HB0:=Hid.mk2 hb0
     clear hb0 HD HDF
     cases hfx:fixL (feE E) e.toks with
     | true =>
      have HFX:=Hid.mk2 hfx
      have HD3:Hid ((a1=0→addS S (sayW env x y (R.drop (k+1)))=T)∧(a1≠0→addS S (actW env x y sc)=T)):=(by
       have:=HD2.out
       rw[hfx,if_pos ⟨rfl,HB0.out⟩,Nat.add_zero] at this
       exact this:_∧_)
      clear hfx HD2
      by_cases ha0:a1=0
      ·have haa:(a1==0)=true:=by simp[ha0]
       have HR:=Hid.mk2 (HD3.out.1 ha0)
       clear ha0 HD3
       go_wp2
       go_roundw
       case rel=>exact ⟨k+1,S,hk1,by go_num,by go_num,hS7,HQ.out,HR.out⟩
       case measure=>first | exact hm1 | (simp[intOf];exact hm1) | (simp[intOf];omega)
      ·have haa:(a1==0)=false:=by simp[ha0]
       have HACT:=Hid.mk2 (HD3.out.2 ha0)
       clear ha0 HD3
       go_upto_region 14 with fail
       clear r0 rf hrl st0 q0 hzl i0 b0 z0 hzc
       cases sc with
       | none =>
        have hsv:Value.slice sva svn svc=.slice none 0 0:=HSC.out
        cases hsv
        have HACT2:Hid (T=(0,0,S+1)):=by rw[Hid,← HACT.out];rfl
        have hw1:=(wr1' S (Nat.le_trans hb_S (by decide))).1
        have hw2:=(wr1' S (Nat.le_trans hb_S (by decide))).2
        have r0:=HQ.out.rs.cell
        have rf:=HQ.out.rs.free
        have hrl:=HQ.out.rs.lt
        have st0:=HST.out.cell
        have q0:=HQ.out.sc.cell
        have hzl:=HST.out.lt
        have i0:=HQ.out.it.cell
        have b0:=HQ.out.bn.cell
        go_wp2
        have hfb:=((HQ.out.rs.set 0 (.int .i64 0)).set 1 (.int .i64 0)).set 2 (.int .i64 ((S:Int)+1))
        have g0:=hfb.cell 0
        have g1:=hfb.cell 1
        have g2:=hfb.cell 2
        refine bodyPost_ret (v:=.agg #[.int .i64 0,.int .i64 0,.int .i64 ((S:Int)+1)]) (by simp[results,Tryz.results24,go_sem,g0,g1,g2]) rfl ⟨?_, ?_⟩
        ·rw[HACT2.out];rfl
        ·exact sets3 (rb:=w.heap.size+3) HQ.out.bl (Nat.le_add_right _ _) _ _ _
       | some e2 =>
        have XV:=Hid.mk2 (HXS.out e2 rfl)
        have e2p:=e2.toks_pos
        have e24:=XV.out.short
        have IV2R:Hid (Reads w (.slice sva svn svc) e2.toks.length (cellsR e2.toks)):=HSC.out
        obtain ⟨g2,o2,c2,hsv,_,_,_⟩:=IV2R.out.pos e2p
        have IV2:Hid (ValOk l L x y e2.toks _ _ _):=val_any hAt HX.out.1 HX.out.2 HV.out e2 XV.out.wf XV.out.may XV.out.parts XV.out.names 1 XV.out.kind
        have WO2:=Hid.mk2 (wo_tree HX.out.1 HX.out.2 HV.out e2 XV.out.wf XV.out.may XV.out.parts XV.out.names 1 XV.out.kind)
        rw[HENV.out] at IV2 WO2
        have HA2:Hid (addS S (if (e2.wor env x y).flt≠0 then (2,((e2.wor env x y).flt:Int),(e2.wor env x y).steps) else (1,(e2.wor env x y).v,(e2.wor env x y).steps+1))=T):=HACT.out
        have HS2:Hid ((e2.wor env x y).steps≤450):=(by have:=WO2.out.le;have:=XV.out.parts;omega:(e2.wor env x y).steps≤450)
        obtain ⟨a2,ha2⟩:∃ a,(e2.wor env x y).v=a:=⟨_,rfl⟩
        obtain ⟨b2,hb2⟩:∃ a,(e2.wor env x y).flt=a:=⟨_,rfl⟩
        obtain ⟨d2,hd2⟩:∃ a,(e2.wor env x y).steps=a:=⟨_,rfl⟩
        rw[ha2,hb2,hd2] at IV2 HA2
        rw[hd2] at HS2
        have hd24:=HS2.out
        clear ha2 hb2 hd2 WO2 HS2
        cases hsv
        have hln:=(pos_int e2p).2
        have r0:=HQ.out.rs.cell
        have rf:=HQ.out.rs.free
        have hrl:=HQ.out.rs.lt
        have st0:=HST.out.cell
        have q0:=HQ.out.sc.cell
        have hzl:=HST.out.lt
        have i0:=HQ.out.it.cell
        have b0:=HQ.out.bn.cell
        go_upto_region 17 with (go_at_call 51;refine (IV2.out _ _ lv kv e2p e24 (IV2R.out.below HQ.out.bl) (HLV.out.below HQ.out.bl) (HL.out.below HQ.out.bl)).mono ?_;rintro e' w3 ⟨rfl,hb3⟩;have HZ:=Hid.mk2 (Blk.new w3 #[.int .i64 a2,.int .i64 b2,.int .i64 d2] 97);replace HQ:=Hid.mk2 ((HQ.out.below hb3).below (one_al w3 (.cells #[.int .i64 a2,.int .i64 b2,.int .i64 d2] 97)));replace HST:=Hid.mk2 ((HST.out.below hb3 HST.out.lt).alloc (.cells #[.int .i64 a2,.int .i64 b2,.int .i64 d2] 97));clear hb3 r0 rf hrl st0 q0 hzl i0 b0)
        generalize hW9:w3.alloc (.cells #[.int .i64 a2,.int .i64 b2,.int .i64 d2] 97)=W9 at HQ HST HZ ⊢
        generalize hzc0:w3.heap.size=zc at HZ ⊢
        clear hW9 hzc0
        have z0:=HZ.out.cell
        have hzc:=HZ.out.lt
        have r0:=HQ.out.rs.cell
        have rf:=HQ.out.rs.free
        have hrl:=HQ.out.rs.lt
        have st0:=HST.out.cell
        have q0:=HQ.out.sc.cell
        have hzl:=HST.out.lt
        have i0:=HQ.out.it.cell
        have b0:=HQ.out.bn.cell
        have hw1:=(wrS S d2 (Nat.le_trans hb_S (by decide)) (Nat.le_trans hd24 (by decide))).1
        have hw2:=(wrS S d2 (Nat.le_trans hb_S (by decide)) (Nat.le_trans hd24 (by decide))).2.1
        have hw3:=(wrS S d2 (Nat.le_trans hb_S (by decide)) (Nat.le_trans hd24 (by decide))).2.2.1
        have hw4:=(wrS S d2 (Nat.le_trans hb_S (by decide)) (Nat.le_trans hd24 (by decide))).2.2.2
        by_cases hb0:b2=0
        ·have hbb:=z_int hb0
         have HR:Hid (T=(1,a2,S+(d2+1))):=by rw[Hid,← HA2.out,if_neg (fun h=>h hb0)];rfl
         clear hb0
         go_wp2
         have hfb:=((HQ.out.rs.set 0 (.int .i64 1)).set 1 (.int .i64 a2)).set 2 (.int .i64 ((S:Int)+(d2:Int)+1))
         have g0:=hfb.cell 0
         have g1:=hfb.cell 1
         have g2:=hfb.cell 2
         refine bodyPost_ret (v:=.agg #[.int .i64 1,.int .i64 a2,.int .i64 ((S:Int)+(d2:Int)+1)]) (by simp[results,Tryz.results24,go_sem,g0,g1,g2]) rfl ⟨?_, ?_⟩
         ·rw[HR.out];unfold resA;simp only;rw[s_cast.2];rfl
         ·exact sets3 (rb:=w.heap.size+3) HQ.out.bl (Nat.le_add_right _ _) _ _ _
        ·have hbb:=nz_int hb0
         have HR:Hid (T=(2,(b2:Int),S+d2)):=by rw[Hid,← HA2.out,if_pos hb0];rfl
         clear hb0
         go_wp2
         have hfb:=((HQ.out.rs.set 0 (.int .i64 2)).set 1 (.int .i64 b2)).set 2 (.int .i64 ((S:Int)+(d2:Int)))
         have g0:=hfb.cell 0
         have g1:=hfb.cell 1
         have g2:=hfb.cell 2
         refine bodyPost_ret (v:=.agg #[.int .i64 2,.int .i64 b2,.int .i64 ((S:Int)+(d2:Int))]) (by simp[results,Tryz.results24,go_sem,g0,g1,g2]) rfl ⟨?_, ?_⟩
         ·rw[HR.out];unfold resA;simp only;rw[s_cast.1];rfl
         ·exact sets3 (rb:=w.heap.size+3) HQ.out.bl (Nat.le_add_right _ _) _ _ _
     | false =>
      have HFX:=Hid.mk2 hfx
      have HD3:Hid ((a1=0→addS (S+(d1+1)) (sayW env x y (R.drop (k+1)))=T)∧(a1≠0→addS (S+(d1+1)) (actW env x y sc)=T)):=(by
       have:=HD2.out
       rw[hfx,if_neg (by simp)] at this
       exact this:_∧_)
      clear hfx HD2
      have HD3:=HD3
      obtain ⟨S2,hS2⟩:∃ S2,S+(d1+1)=S2:=⟨_,rfl⟩
      obtain ⟨hS25,hS2i⟩:=s_next hS hd14 hS2
      have hb_S2:S2≤300000:=Nat.le_trans hS25 hb_k
      rw[hS2] at HD3
      clear hS2
      by_cases ha0:a1=0
      ·have haa:(a1==0)=true:=by simp[ha0]
       have HR:=Hid.mk2 (HD3.out.1 ha0)
       clear ha0 HD3
       go_wp2
       go_roundw
       case rel=>exact ⟨k+1,S2,hk1,by first | rfl | (rw[hS2i]) | go_num,by go_num,hS25,HQ.out,HR.out⟩
       case measure=>first | exact hm1 | (simp[intOf];exact hm1) | (simp[intOf];omega)
      ·have haa:(a1==0)=false:=by simp[ha0]
       have HACT:=Hid.mk2 (HD3.out.2 ha0)
       clear ha0 HD3
       go_upto_region 14 with fail
       try rw[hS2i]
       clear r0 rf hrl st0 q0 hzl i0 b0 z0 hzc hS2i hw1 hw2 hw3 hw4
       cases sc with
       | none =>
        have hsv:Value.slice sva svn svc=.slice none 0 0:=HSC.out
        cases hsv
        have HACT2:Hid (T=(0,0,S2+1)):=by rw[Hid,← HACT.out];rfl
        have hw1:=(wr1' S2 (Nat.le_trans hb_S2 (by decide))).1
        have hw2:=(wr1' S2 (Nat.le_trans hb_S2 (by decide))).2
        have r0:=HQ.out.rs.cell
        have rf:=HQ.out.rs.free
        have hrl:=HQ.out.rs.lt
        have st0:=HST.out.cell
        have q0:=HQ.out.sc.cell
        have hzl:=HST.out.lt
        have i0:=HQ.out.it.cell
        have b0:=HQ.out.bn.cell
        go_wp2
        have hfb:=((HQ.out.rs.set 0 (.int .i64 0)).set 1 (.int .i64 0)).set 2 (.int .i64 ((S2:Int)+1))
        have g0:=hfb.cell 0
        have g1:=hfb.cell 1
        have g2:=hfb.cell 2
        refine bodyPost_ret (v:=.agg #[.int .i64 0,.int .i64 0,.int .i64 ((S2:Int)+1)]) (by simp[results,Tryz.results24,go_sem,g0,g1,g2]) rfl ⟨?_, ?_⟩
        ·rw[HACT2.out];rfl
        ·exact sets3 (rb:=w.heap.size+3) HQ.out.bl (Nat.le_add_right _ _) _ _ _
       | some e2 =>
        have XV:=Hid.mk2 (HXS.out e2 rfl)
        have e2p:=e2.toks_pos
        have e24:=XV.out.short
        have IV2R:Hid (Reads w (.slice sva svn svc) e2.toks.length (cellsR e2.toks)):=HSC.out
        obtain ⟨g2,o2,c2,hsv,_,_,_⟩:=IV2R.out.pos e2p
        have IV2:Hid (ValOk l L x y e2.toks _ _ _):=val_any hAt HX.out.1 HX.out.2 HV.out e2 XV.out.wf XV.out.may XV.out.parts XV.out.names 1 XV.out.kind
        have WO2:=Hid.mk2 (wo_tree HX.out.1 HX.out.2 HV.out e2 XV.out.wf XV.out.may XV.out.parts XV.out.names 1 XV.out.kind)
        rw[HENV.out] at IV2 WO2
        have HA2:Hid (addS S2 (if (e2.wor env x y).flt≠0 then (2,((e2.wor env x y).flt:Int),(e2.wor env x y).steps) else (1,(e2.wor env x y).v,(e2.wor env x y).steps+1))=T):=HACT.out
        have HS2:Hid ((e2.wor env x y).steps≤450):=(by have:=WO2.out.le;have:=XV.out.parts;omega:(e2.wor env x y).steps≤450)
        obtain ⟨a2,ha2⟩:∃ a,(e2.wor env x y).v=a:=⟨_,rfl⟩
        obtain ⟨b2,hb2⟩:∃ a,(e2.wor env x y).flt=a:=⟨_,rfl⟩
        obtain ⟨d2,hd2⟩:∃ a,(e2.wor env x y).steps=a:=⟨_,rfl⟩
        rw[ha2,hb2,hd2] at IV2 HA2
        rw[hd2] at HS2
        have hd24:=HS2.out
        clear ha2 hb2 hd2 WO2 HS2
        cases hsv
        have hln:=(pos_int e2p).2
        have r0:=HQ.out.rs.cell
        have rf:=HQ.out.rs.free
        have hrl:=HQ.out.rs.lt
        have st0:=HST.out.cell
        have q0:=HQ.out.sc.cell
        have hzl:=HST.out.lt
        have i0:=HQ.out.it.cell
        have b0:=HQ.out.bn.cell
        go_upto_region 17 with (go_at_call 51;refine (IV2.out _ _ lv kv e2p e24 (IV2R.out.below HQ.out.bl) (HLV.out.below HQ.out.bl) (HL.out.below HQ.out.bl)).mono ?_;rintro e' w3 ⟨rfl,hb3⟩;have HZ:=Hid.mk2 (Blk.new w3 #[.int .i64 a2,.int .i64 b2,.int .i64 d2] 97);replace HQ:=Hid.mk2 ((HQ.out.below hb3).below (one_al w3 (.cells #[.int .i64 a2,.int .i64 b2,.int .i64 d2] 97)));replace HST:=Hid.mk2 ((HST.out.below hb3 HST.out.lt).alloc (.cells #[.int .i64 a2,.int .i64 b2,.int .i64 d2] 97));clear hb3 r0 rf hrl st0 q0 hzl i0 b0)
        generalize hW9:w3.alloc (.cells #[.int .i64 a2,.int .i64 b2,.int .i64 d2] 97)=W9 at HQ HST HZ ⊢
        generalize hzc0:w3.heap.size=zc at HZ ⊢
        clear hW9 hzc0
        have z0:=HZ.out.cell
        have hzc:=HZ.out.lt
        have r0:=HQ.out.rs.cell
        have rf:=HQ.out.rs.free
        have hrl:=HQ.out.rs.lt
        have st0:=HST.out.cell
        have q0:=HQ.out.sc.cell
        have hzl:=HST.out.lt
        have i0:=HQ.out.it.cell
        have b0:=HQ.out.bn.cell
        have hw1:=(wrS S2 d2 (Nat.le_trans hb_S2 (by decide)) (Nat.le_trans hd24 (by decide))).1
        have hw2:=(wrS S2 d2 (Nat.le_trans hb_S2 (by decide)) (Nat.le_trans hd24 (by decide))).2.1
        have hw3:=(wrS S2 d2 (Nat.le_trans hb_S2 (by decide)) (Nat.le_trans hd24 (by decide))).2.2.1
        have hw4:=(wrS S2 d2 (Nat.le_trans hb_S2 (by decide)) (Nat.le_trans hd24 (by decide))).2.2.2
        by_cases hb0:b2=0
        ·have hbb:=z_int hb0
         have HR:Hid (T=(1,a2,S2+(d2+1))):=by rw[Hid,← HA2.out,if_neg (fun h=>h hb0)];rfl
         clear hb0
         go_wp2
         have hfb:=((HQ.out.rs.set 0 (.int .i64 1)).set 1 (.int .i64 a2)).set 2 (.int .i64 ((S2:Int)+(d2:Int)+1))
         have g0:=hfb.cell 0
         have g1:=hfb.cell 1
         have g2:=hfb.cell 2
         refine bodyPost_ret (v:=.agg #[.int .i64 1,.int .i64 a2,.int .i64 ((S2:Int)+(d2:Int)+1)]) (by simp[results,Tryz.results24,go_sem,g0,g1,g2]) rfl ⟨?_, ?_⟩
         ·rw[HR.out];unfold resA;simp only;rw[s_cast.2];rfl
         ·exact sets3 (rb:=w.heap.size+3) HQ.out.bl (Nat.le_add_right _ _) _ _ _
        ·have hbb:=nz_int hb0
         have HR:Hid (T=(2,(b2:Int),S2+d2)):=by rw[Hid,← HA2.out,if_pos hb0];rfl
         clear hb0
         go_wp2
         have hfb:=((HQ.out.rs.set 0 (.int .i64 2)).set 1 (.int .i64 b2)).set 2 (.int .i64 ((S2:Int)+(d2:Int)))
         have g0:=hfb.cell 0
         have g1:=hfb.cell 1
         have g2:=hfb.cell 2
         refine bodyPost_ret (v:=.agg #[.int .i64 2,.int .i64 b2,.int .i64 ((S2:Int)+(d2:Int))]) (by simp[results,Tryz.results24,go_sem,g0,g1,g2]) rfl ⟨?_, ?_⟩
         ·rw[HR.out];unfold resA;simp only;rw[s_cast.1];rfl
         ·exact sets3 (rb:=w.heap.size+3) HQ.out.bl (Nat.le_add_right _ _) _ _ _
    ·have hbb:=nz_int hb0
     have HR:Hid (addS S (2,(b1:Int),d1)=T):=HDF.out hb0
     have hw1:=(wrS S d1 (Nat.le_trans hb_S (by decide)) (Nat.le_trans hd14 (by decide))).1
     have hw3:=(wrS S d1 (Nat.le_trans hb_S (by decide)) (Nat.le_trans hd14 (by decide))).2.2.1
     clear hb0 HD HDF
     go_wp2
     have hfb:=((HQ.out.rs.set 0 (.int .i64 2)).set 1 (.int .i64 b1)).set 2 (.int .i64 ((S:Int)+(d1:Int)))
     have g0:=hfb.cell 0
     have g1:=hfb.cell 1
     have g2:=hfb.cell 2
     refine bodyPost_ret (v:=.agg #[.int .i64 2,.int .i64 b1,.int .i64 ((S:Int)+(d1:Int))]) (by simp[results,Tryz.results24,go_sem,g0,g1,g2]) rfl ⟨?_, ?_⟩
     ·rw[← HR.out];unfold resA addS;simp only;rw[s_cast.1];rfl
     ·exact sets3 (rb:=w.heap.size+3) HQ.out.bl (Nat.le_add_right _ _) _ _ _
  ·have hend:Hid (T=(0,0,S+1)):=(by
    have:=HSUM.out
    rw[List.drop_eq_nil_of_le (by rw[← HLN.out];omega)] at this
    rw[← this];rfl:_=_)
   have hw1:=(wr1' S (Nat.le_trans hb_S (by decide))).1
   have hw2:=(wr1' S (Nat.le_trans hb_S (by decide))).2
   have r0:=HQ.out.rs.cell
   have rf:=HQ.out.rs.free
   have hrl:=HQ.out.rs.lt
   go_wp2
   have hfb:=((HQ.out.rs.set 0 (.int .i64 0)).set 1 (.int .i64 0)).set 2 (.int .i64 ((S:Int)+1))
   have g0:=hfb.cell 0
   have g1:=hfb.cell 1
   have g2:=hfb.cell 2
   refine bodyPost_ret (v:=.agg #[.int .i64 0,.int .i64 0,.int .i64 ((S:Int)+1)]) (by simp[results,Tryz.results24,go_sem,g0,g1,g2]) rfl ⟨?_, ?_⟩
   ·rw[hend.out];rfl
   ·exact sets3 (rb:=w.heap.size+3) HQ.out.bl (Nat.le_add_right _ _) _ _ _
end Go.Proofs.YtldfkcpbjooemaaGreatDoor
