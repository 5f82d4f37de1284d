/-
  The program's check: a policy that was read fits; Errors.
-/
import Derived.Test.YtldfkcpbjooemaaGreatDoorG28
import Derived.Test.YtldfkcpbjooemaaGreatDoorG07
import Derived.Test.YtldfkcpbjooemaaGreatDoorG00
import Derived.Laws.BytesString
import Derived.Laws.Cells
import Derived.BigQuiet
import Derived.Deep.RegionHeld3
import Derived.Deep.RegionWith
set_option linter.unusedVariables false
set_option linter.unusedSimpArgs false
namespace Go.Proofs.YtldfkcpbjooemaaGreatDoor
open Go.RowKit Go.Deep
theorem flat_ok (t:Tr) (hw:t.wf):∀ b,∀ n∈t.flat b,n.tok∈t.toks∧n.left≤b+t.num∧n.right≤b+t.num:=by
 refine Tr.ind (P:=fun t=>∀ b,∀ n∈t.flat b,n.tok∈t.toks∧n.left≤b+t.num∧n.right≤b+t.num) t hw ?_ ?_ ?_ ?_
 ·intro a _ b n hn
  rw[Tr.flat_leaf,List.mem_singleton] at hn
  subst hn
  exact ⟨by rw[Tr.toks_leaf];simp,Nat.zero_le _,Nat.zero_le _⟩
 ·intro op e _ ih b n hn
  rw[Tr.flat_un,List.mem_append,List.mem_singleton] at hn
  rw[Tr.toks_un,Tr.num_un]
  rcases hn with hn | rfl
  ·obtain ⟨h1,h2,h3⟩:=ih b n hn
   exact ⟨by simp[h1],by omega,by omega⟩
  ·exact ⟨by simp,by simp only;omega,Nat.zero_le _⟩
 ·intro op l r _ ih1 ih2 b n hn
  rw[Tr.flat_bin,List.mem_append,List.mem_append,List.mem_singleton] at hn
  rw[Tr.toks_bin,Tr.num_bin]
  rcases hn with (hn | hn) | rfl
  ·obtain ⟨h1,h2,h3⟩:=ih1 b n hn
   exact ⟨by simp[h1],by omega,by omega⟩
  ·obtain ⟨h1,h2,h3⟩:=ih2 _ n hn
   exact ⟨by simp[h1],by omega,by omega⟩
  ·exact ⟨by simp,by simp only;omega,by simp only;omega⟩
 ·intro o e c _ ih b n hn
  rw[Tr.flat_par] at hn
  rw[Tr.toks_par,Tr.num_par]
  obtain ⟨h1,h2,h3⟩:=ih b n hn
  exact ⟨by simp[h1],h2,h3⟩
theorem opt_ok (o:Option Tr) (hw:∀ e,o=some e→e.wf) (b:Nat):∀ n∈optNodes b o,n.tok∈optToks o∧n.left≤b+optNum o∧n.right≤b+optNum o:=by
 cases o with
 | none=>intro n hn;cases hn
 | some e=>exact flat_ok e (hw e rfl) b
theorem wh_wf {wh:Option (RTok × Tr)} (h:∀ k e,wh=some (k,e)→k.text=cWhen∧e.wf):∀ e,wh.map Prod.snd=some e→e.wf:=by
 intro e he
 cases wh with
 | none=>cases he
 | some p =>
  obtain ⟨k,e'⟩:=p
  cases he
  exact (h k _ rfl).2
theorem wh_toks (wh:Option (RTok × Tr)):∀ x∈optToks (wh.map Prod.snd),x∈whToks wh:=by
 intro x hx
 cases wh with
 | none=>cases hx
 | some p =>
  obtain ⟨k,e⟩:=p
  exact List.mem_cons_of_mem _ hx
theorem nodes_ok:∀ (l:List RSt),(∀ s∈l,s.wf)→∀ b,∀ n∈nodesS b l,n.tok∈toksL l∧n.left≤b+numS l∧n.right≤b+numS l
 | [],_,b,n,hn=>by cases hn
 | s :: r,hw,b,n,hn=>by
  rw[nodesS,List.mem_append] at hn
  rw[toksL_cons,numS]
  rcases hn with hn | hn
  ·have hws:=hw s List.mem_cons_self
   rcases s.cases with ⟨kw,name,eq,e,semi,rfl⟩ | ⟨wh,act,sc,semi,rfl⟩
   ·rw[RSt.nodes_let] at hn
    obtain ⟨h1,h2,h3⟩:=flat_ok e hws.2.2.2.1 b n hn
    rw[RSt.toks,RSt.body_let,RSt.num_let]
    exact ⟨by simp[h1],by omega,by omega⟩
   ·rw[RSt.nodes_rule,List.mem_append] at hn
    rw[RSt.toks,RSt.body_rule,RSt.num_rule]
    rcases hn with hn | hn
    ·obtain ⟨h1,h2,h3⟩:=opt_ok (wh.map Prod.snd) (wh_wf hws.1) b n hn
     have:=wh_toks wh _ h1
     exact ⟨by simp[this],by omega,by omega⟩
    ·obtain ⟨h1,h2,h3⟩:=opt_ok sc hws.2.2.1 _ n hn
     exact ⟨by simp[h1],by omega,by omega⟩
  ·obtain ⟨h1,h2,h3⟩:=nodes_ok r (fun x hx=>hw x (by simp[hx])) _ n hn
   exact ⟨by simp[h1],by omega,by omega⟩
theorem lets_ok:∀ (l:List RSt) (b:Nat),∀ p∈letsS b l,p.val.fr≤p.val.behind∧p.val.behind≤b+numS l
 | [],b,p,hp=>by cases hp
 | s :: r,b,p,hp=>by
  rw[letsS,List.mem_append] at hp
  rw[numS]
  rcases hp with hp | hp
  ·rcases s.cases with ⟨kw,name,eq,e,semi,rfl⟩ | ⟨wh,act,sc,semi,rfl⟩
   ·rw[RSt.lets_let,List.mem_singleton] at hp
    subst hp
    rw[RSt.num_let]
    exact ⟨by simp[layE],by simp only[layE];omega⟩
   ·cases hp
  ·have:=lets_ok r _ p hp
   omega
theorem optE_ok (o:Option Tr) (b:Nat):(optE b o).fr≤(optE b o).behind∧(optE b o).behind≤b+optNum o:=by
 cases o with
 | none=>exact ⟨Nat.le_refl _,Nat.zero_le _⟩
 | some e=>exact ⟨by simp[optE,layE],by simp[optE,layE,optNum]⟩
theorem rules_ok:∀ (l:List RSt) (b:Nat),∀ p∈rulesS b l,(p.when.fr≤p.when.behind∧p.when.behind≤b+numS l)∧(p.score.fr≤p.score.behind∧p.score.behind≤b+numS l)
 | [],b,p,hp=>by cases hp
 | s :: r,b,p,hp=>by
  rw[rulesS,List.mem_append] at hp
  rw[numS]
  rcases hp with hp | hp
  ·rcases s.cases with ⟨kw,name,eq,e,semi,rfl⟩ | ⟨wh,act,sc,semi,rfl⟩
   ·cases hp
   ·rw[RSt.rules_rule,List.mem_singleton] at hp
    subst hp
    rw[RSt.num_rule]
    have h1:=optE_ok (wh.map Prod.snd) b
    have h2:=optE_ok sc (b+optNum (wh.map Prod.snd))
    simp only
    omega
  ·have:=rules_ok r _ p hp
   omega
theorem fits_of {s:Txt} {L R:List RSt} (h:PolicyOf s L R) (hN:(nodesS 0 (L++R)).length≤401):Fits (nodesS 0 (L++R)) (letsS 0 (L++R)) (rulesS 0 (L++R)):=by
 have hn:=nodesS_len (L++R) h.wf 0
 have h1:letsS 0 (L++R)=letsS 0 L:=by rw[letsS_append,lets_none R h.rules,List.append_nil]
 have h2:rulesS 0 (L++R)=rulesS (numS L) R:=by rw[rulesS_append,rules_none L h.lets,List.nil_append,Nat.zero_add]
 have hc:=cons_lets L (fun x hx=>h.wf x (by simp[hx])) h.lets 0
 have hr:=cons_rules R (fun x hx=>h.wf x (by simp[hx])) h.rules (numS L)
 have ho:=nodes_ok (L++R) h.wf 0
 have hl:=lets_ok (L++R) 0
 have hu:=rules_ok (L++R) 0
 rw[Nat.zero_add,← hn] at hl hu
 refine ⟨⟨fun n hx=>h.may _ (ho n hx).1,fun p hp=>⟨(hl p hp).1,(hl p hp).2⟩,fun p hp=>⟨(hu p hp).1.1,(hu p hp).1.2⟩,fun p hp=>⟨(hu p hp).2.1,(hu p hp).2.2⟩⟩, ?_, ?_,fun n hx=>?_⟩
 ·rw[h1];exact hc.1
 ·rw[h1,h2,hc.2,Nat.zero_add];exact hr
 ·have:=ho n hx
  omega
def errsOf (N:List PNode) (ls:List PLet) (rs:List PRule):Nat × Nat:=match pNames N ls rs with
 | some p=>(4,p)
 | none=>match pKinds N ls rs with
  | some p=>(5,p)
  | none=>if pParts N ls rs > 150 then (6,0) else (0,0)
set_option maxHeartbeats 2000000 in
set_option maxRecDepth 100000 in
theorem Errors_any (nv lv rv:Value) (N:List PNode) (ls:List PLet) (rs:List PRule) (w:World) (h:PolAt w nv lv rv N ls rs) (hx:Fits N ls rs) :
  Calls Tryz.prog 67 #[polA nv lv rv] w fun e' w'=>e'=.returned (.tuple #[.int .i64 ((errsOf N ls rs).1:Nat),.int .i64 ((errsOf N ls rs).2:Nat)])∧Below w.heap.size w w':=by
 have HC:=hideP (chk1_start h)
 have HX:=hideP hx
 clear h hx
 unfold polA
 cases hn:pNames N ls rs with
 | some q =>
  have HE:Hid (errsOf N ls rs=(4,q)):=by rw[Hid,errsOf,hn]
  have HN:=hideP hn
  clear hn
  rw[HE.out]
  go_enter Tryz.func67,Tryz.ntmps67
  go_wp2_with (go_at_call 104;refine (names_any _ _ _ N ls rs _ HC.out.pa HX.out.x).mono ?_;rintro e' w1 ⟨rfl,hb1⟩;rw[HN.out];simp only[resN];have HC1:=hideP (HC.out.below hb1);clear hb1)
  go_ret2
  exact ⟨rfl,HC1.out.bl⟩
 | none =>
  have HN:=hideP hn
  cases hk:pKinds N ls rs with
  | some q =>
   have HE:Hid (errsOf N ls rs=(5,q)):=by rw[Hid,errsOf,hn,hk]
   have HKI:=hideP hk
   clear hn hk
   rw[HE.out]
   go_enter Tryz.func67,Tryz.ntmps67
   go_wp2_with (first | (go_at_call 104;refine (names_any _ _ _ N ls rs _ HC.out.pa HX.out.x).mono ?_;rintro e' w1 ⟨rfl,hb1⟩;rw[HN.out];simp only[resN];have HC1:=hideP (HC.out.below hb1);clear hb1;have p0:=HC1.out.bp.cell 0;have p1:=HC1.out.bp.cell 1;have p2:=HC1.out.bp.cell 2;have hB1:=HC1.out.bp.lt) | (go_at_call 105;refine (kinds_any _ _ _ N ls rs _ HC1.out.pa HX.out).mono ?_;rintro e' w2 ⟨rfl,hb2⟩;rw[HKI.out];simp only[resN];have HC2:=hideP (HC1.out.below hb2);clear hb2))
   go_ret2
   exact ⟨rfl,HC2.out.bl⟩
  | none =>
   have HKI:=hideP hk
   by_cases hp:pParts N ls rs > 150
   ·have HE:Hid (errsOf N ls rs=(6,0)):=by rw[Hid,errsOf,hn,hk];simp only[if_pos hp]
    obtain ⟨pn,hpn⟩:∃ pn,pParts N ls rs=pn:=⟨_,rfl⟩
    have HPN:=hideP hpn
    rw[hpn] at hp
    have hp':decide ((pn:Int) > 150)=true:=by simp;omega
    clear hn hk hpn
    rw[HE.out]
    go_enter Tryz.func67,Tryz.ntmps67
    go_wp2_with (first | (go_at_call 104;refine (names_any _ _ _ N ls rs _ HC.out.pa HX.out.x).mono ?_;rintro e' w1 ⟨rfl,hb1⟩;rw[HN.out];simp only[resN];have HC1:=hideP (HC.out.below hb1);clear hb1;have p0:=HC1.out.bp.cell 0;have p1:=HC1.out.bp.cell 1;have p2:=HC1.out.bp.cell 2;have hB1:=HC1.out.bp.lt) | (go_at_call 105;refine (kinds_any _ _ _ N ls rs _ HC1.out.pa HX.out).mono ?_;rintro e' w2 ⟨rfl,hb2⟩;rw[HKI.out];simp only[resN];have HC2:=hideP (HC1.out.below hb2);clear hb2;have q0:=HC2.out.bp.cell 0;have q1:=HC2.out.bp.cell 1;have q2:=HC2.out.bp.cell 2;have hB2:=HC2.out.bp.lt) | (go_at_call 106;refine (parts_any _ _ _ N ls rs _ HC2.out.pa HX.out.x).mono ?_;rintro e' w3 ⟨rfl,hb3⟩;rw[HPN.out];have HC3:=hideP (HC2.out.below hb3);clear hb3))
    go_ret2
    exact ⟨rfl,HC3.out.bl⟩
   ·have HE:Hid (errsOf N ls rs=(0,0)):=by rw[Hid,errsOf,hn,hk];simp only[if_neg hp]
    obtain ⟨pn,hpn⟩:∃ pn,pParts N ls rs=pn:=⟨_,rfl⟩
    have HPN:=hideP hpn
    rw[hpn] at hp
    have hp':decide ((pn:Int) > 150)=false:=by simp;omega
    clear hn hk hpn
    rw[HE.out]
    go_enter Tryz.func67,Tryz.ntmps67
    go_wp2_with (first | (go_at_call 104;refine (names_any _ _ _ N ls rs _ HC.out.pa HX.out.x).mono ?_;rintro e' w1 ⟨rfl,hb1⟩;rw[HN.out];simp only[resN];have HC1:=hideP (HC.out.below hb1);clear hb1;have p0:=HC1.out.bp.cell 0;have p1:=HC1.out.bp.cell 1;have p2:=HC1.out.bp.cell 2;have hB1:=HC1.out.bp.lt) | (go_at_call 105;refine (kinds_any _ _ _ N ls rs _ HC1.out.pa HX.out).mono ?_;rintro e' w2 ⟨rfl,hb2⟩;rw[HKI.out];simp only[resN];have HC2:=hideP (HC1.out.below hb2);clear hb2;have q0:=HC2.out.bp.cell 0;have q1:=HC2.out.bp.cell 1;have q2:=HC2.out.bp.cell 2;have hB2:=HC2.out.bp.lt) | (go_at_call 106;refine (parts_any _ _ _ N ls rs _ HC2.out.pa HX.out.x).mono ?_;rintro e' w3 ⟨rfl,hb3⟩;rw[HPN.out];have HC3:=hideP (HC2.out.below hb3);clear hb3))
    go_ret2
    exact ⟨rfl,HC3.out.bl⟩
end Go.Proofs.YtldfkcpbjooemaaGreatDoor
namespace Go.Proofs.YtldfkcpbjooemaaGreatDoor
open Go.RowKit Go.Deep
def SoundAs (s:Txt) (c:Int) (p:Nat):Prop :=
 (tokened s=.bad c p∧c≠0)∨∃ (L R:List RSt) (n:Nat),PolicyOf s L R∧errsOf (nodesS 0 (L++R)) (letsS 0 (L++R)) (rulesS 0 (L++R))=(n,p)∧c=n
theorem Read_bad (s:ByteArray) (w:World) (hg:GlobT w) (hz:s.size≤maxLen) {c:Int} {p:Nat} (h:tokened s.toList=.bad c p) :
  Calls Tryz.prog 25 #[.string s] w fun e w'=>Below w.heap.size w w'∧c≠0∧e=.returned (.tuple #[.agg #[nilS,nilS,nilS],.int .i64 c,.int .i64 (p:Nat)]):=by
 refine (Read_any s w hg hz).mono ?_
 rintro e w' ⟨hb,⟨c',p',ht,hc,rfl⟩ | ⟨L,R,nv,lv,rv,hp,_⟩⟩
 ·rw[h] at ht;cases ht;exact ⟨hb,hc,rfl⟩
 ·have:=hp.fine;rw[h] at this;cases this
theorem Read_fine (s:ByteArray) (w:World) (hg:GlobT w) (hz:s.size≤maxLen) {l:List RTok} (h:tokened s.toList=.fine l) :
  Calls Tryz.prog 25 #[.string s] w fun e w'=>Below w.heap.size w w'∧∃ L R na nc la lc ra rc,PolicyOf s.toList L R∧e=.returned (.tuple #[.agg #[.slice na (nodesS 0 (L++R)).length nc,.slice la (letsS 0 (L++R)).length lc,.slice ra (rulesS 0 (L++R)).length rc],.int .i64 0,.int .i64 0])∧PolAt w' (.slice na (nodesS 0 (L++R)).length nc) (.slice la (letsS 0 (L++R)).length lc) (.slice ra (rulesS 0 (L++R)).length rc) (nodesS 0 (L++R)) (letsS 0 (L++R)) (rulesS 0 (L++R)):=by
 refine (Read_any s w hg hz).mono ?_
 rintro e w' ⟨hb,⟨c',p',ht,hc,rfl⟩ | ⟨L,R,nv,lv,rv,hp,rfl,hm⟩⟩
 ·rw[h] at ht;cases ht
 ·have hpa:=PolAt.of hm hp
  obtain ⟨na,nc,rfl⟩:=hpa.n.shape
  obtain ⟨la,lc,rfl⟩:=hpa.l.shape
  obtain ⟨ra,rc,rfl⟩:=hpa.r.shape
  exact ⟨hb,L,R,na,nc,la,lc,ra,rc,hp,rfl,hpa⟩
theorem errs_zero {N:List PNode} {ls:List PLet} {rs:List PRule} {p:Nat} (h:errsOf N ls rs=(0,p)):p=0:=by
 unfold errsOf at h
 split at h
 ·cases h
 ·split at h
  ·cases h
  ·split at h
   ·cases h
   ·cases h;rfl
theorem three_sets {w w1:World} (h:Below w.heap.size w w1) (a b c:Value):Below w.heap.size w (((w1.setCell ⟨w.heap.size,0,none⟩ a).setCell ⟨w.heap.size,1,none⟩ b).setCell ⟨w.heap.size,2,none⟩ c) :=
 ((h.setCell (p:=⟨w.heap.size,0,none⟩) (Nat.le_refl _) a).setCell (p:=⟨w.heap.size,1,none⟩) (Nat.le_refl _) b).setCell (p:=⟨w.heap.size,2,none⟩) (Nat.le_refl _) c
set_option maxHeartbeats 2000000 in
set_option maxRecDepth 100000 in
theorem readSound_any (s:ByteArray) (w:World) (hg:GlobT w) (hz:s.size≤maxLen) :
  Calls Tryz.prog 32 #[.string s] w fun e w'=>Below w.heap.size w w'∧∃ c p,SoundAs s.toList c p∧∃ a1 l1 c1 a2 l2 c2 a3 l3 c3,e=.returned (.tuple #[.agg #[.slice a1 l1 c1,.slice a2 l2 c2,.slice a3 l3 c3],.int .i64 c,.int .i64 (p:Nat)]):=by
 have hbz:=new_below w (.cells #[nilS,nilS,nilS] 64)
 have HG:=hideP (hg.below hbz)
 have HZ:=hideP (Blk.new w #[nilS,nilS,nilS] 64)
 have HBZ:=hideP hbz
 have HSZ:=hideP hz
 clear hg hbz hz
 cases htk:tokened s.toList with
 | error cp =>
  obtain ⟨c,p⟩:=cp
  have HTK:Hid (tokened s.toList=.bad c p):=htk
  clear htk
  go_enter Tryz.func32,Tryz.ntmps32
  go_wp2_with (go_at_call 25;refine (Read_bad s _ HG.out HSZ.out HTK.out).mono ?_;rintro e w1 ⟨hb1,hc,rfl⟩;have HZ1:=hideP (HZ.out.below hb1 HZ.out.lt);have HB1:=hideP hb1;have hz1:=HZ1.out.lt;have z0:=HZ1.out.cell 0;have z1:=HZ1.out.cell 1;have z2:=HZ1.out.cell 2;have f0:=HZ1.out.free 0;have f1:=HZ1.out.free 1;have f2:=HZ1.out.free 2;clear hb1)
  have hfb:=(((HZ1.out.set 0 (.slice none 0 0)).set 1 (.slice none 0 0)).set 2 (.slice none 0 0)).alloc (.cells #[.slice none 0 0,.slice none 0 0,.slice none 0 0] 64)
  have g0:=hfb.cell 0
  have g1:=hfb.cell 1
  have g2:=hfb.cell 2
  have hbl:=(three_sets (HBZ.out.trans (HB1.out.mono HBZ.out.size)) (.slice none 0 0) (.slice none 0 0) (.slice none 0 0)).trans ((new_below _ (.cells #[.slice none 0 0,.slice none 0 0,.slice none 0 0] 64)).mono (by simp;omega))
  exact bodyPost_ret (v:=.tuple #[.agg #[.slice none 0 0,.slice none 0 0,.slice none 0 0],.int .i64 c,.int .i64 p]) (by simp[results,Tryz.results32,go_sem,g0,g1,g2]) rfl ⟨hbl,c,p,Or.inl ⟨HTK.out,hc⟩,_,_,_,_,_,_,_,_,_,rfl⟩
 | ok l =>
  have HTK:Hid (tokened s.toList=.fine l):=htk
  clear htk
  go_enter Tryz.func32,Tryz.ntmps32
  go_wp2_with (first | (go_at_call 25;refine (Read_fine s _ HG.out HSZ.out HTK.out).mono ?_;rintro e w1 ⟨hb1,L,R,na,nc,la,lc,ra,rc,hp,rfl,hpa⟩;have HZ1:=hideP (HZ.out.below hb1 HZ.out.lt);have HB1:=hideP (HBZ.out.trans (hb1.mono HBZ.out.size));have hz1:=HZ1.out.lt;have HP:=hideP hp;have HPA:=hideP hpa;clear hb1 hp hpa) | (go_at_call 67;refine (Errors_any _ _ _ _ _ _ _ (HPA.out.below (new_below w1 _)) (fits_of HP.out HPA.out.nb)).mono ?_;rintro e w3 ⟨rfl,hb3⟩;obtain ⟨np,hnp⟩:∃ np,errsOf (nodesS 0 (L++R)) (letsS 0 (L++R)) (rulesS 0 (L++R))=np:=⟨_,rfl⟩;obtain ⟨n,p⟩:=np;rw[hnp];dsimp only;have HNP:=hideP hnp;have HZ3:=hideP ((HZ1.out.alloc (.cells #[.slice na (nodesS 0 (L++R)).length nc,.slice la (letsS 0 (L++R)).length lc,.slice ra (rulesS 0 (L++R)).length rc] 64)).below hb3 (HZ1.out.alloc (.cells #[.slice na (nodesS 0 (L++R)).length nc,.slice la (letsS 0 (L++R)).length lc,.slice ra (rulesS 0 (L++R)).length rc] 64)).lt);have HV3:=hideP ((Blk.new w1 #[.slice na (nodesS 0 (L++R)).length nc,.slice la (letsS 0 (L++R)).length lc,.slice ra (rulesS 0 (L++R)).length rc] 64).below hb3 (Blk.new w1 #[.slice na (nodesS 0 (L++R)).length nc,.slice la (letsS 0 (L++R)).length lc,.slice ra (rulesS 0 (L++R)).length rc] 64).lt);have HB3:=hideP ((HB1.out.trans ((new_below w1 (.cells #[.slice na (nodesS 0 (L++R)).length nc,.slice la (letsS 0 (L++R)).length lc,.slice ra (rulesS 0 (L++R)).length rc] 64)).mono HB1.out.size)).trans (hb3.mono (by simp;omega)));have hz3:=HZ3.out.lt;have hv3:=HV3.out.lt;have z0:=HZ3.out.cell 0;have z1:=HZ3.out.cell 1;have z2:=HZ3.out.cell 2;have f0:=HZ3.out.free 0;have f1:=HZ3.out.free 1;have f2:=HZ3.out.free 2;have v0:=HV3.out.cell 0;have v1:=HV3.out.cell 1;have v2:=HV3.out.cell 2;clear hb3 hnp))
  ·rename_i hn0
   have hfb:=((HZ3.out.set 0 (.slice none 0 0)).set 1 (.slice none 0 0)).set 2 (.slice none 0 0)
   have g0:=hfb.cell 0
   have g1:=hfb.cell 1
   have g2:=hfb.cell 2
   have hbl:=three_sets HB3.out (.slice none 0 0) (.slice none 0 0) (.slice none 0 0)
   exact bodyPost_ret (v:=.tuple #[.agg #[.slice none 0 0,.slice none 0 0,.slice none 0 0],.int .i64 n,.int .i64 p]) (by simp[results,Tryz.results32,go_sem,g0,g1,g2]) rfl ⟨hbl,n,p,Or.inr ⟨L,R,n,HP.out,HNP.out,rfl⟩,_,_,_,_,_,_,_,_,_,rfl⟩
  ·rename_i hn0
   have hn1:n=0:=by simpa using hn0
   subst hn1
   have hp0:=errs_zero HNP.out
   subst hp0
   have hfb:=((HZ3.out.set 0 (.slice na (nodesS 0 (L++R)).length nc)).set 1 (.slice la (letsS 0 (L++R)).length lc)).set 2 (.slice ra (rulesS 0 (L++R)).length rc)
   have g0:=hfb.cell 0
   have g1:=hfb.cell 1
   have g2:=hfb.cell 2
   have hbl:=three_sets HB3.out (.slice na (nodesS 0 (L++R)).length nc) (.slice la (letsS 0 (L++R)).length lc) (.slice ra (rulesS 0 (L++R)).length rc)
   exact bodyPost_ret (v:=.tuple #[.agg #[.slice na (nodesS 0 (L++R)).length nc,.slice la (letsS 0 (L++R)).length lc,.slice ra (rulesS 0 (L++R)).length rc],.int .i64 0,.int .i64 0]) (by simp[results,Tryz.results32,go_sem,g0,g1,g2]) rfl ⟨hbl,0,0,Or.inr ⟨L,R,0,HP.out,HNP.out,rfl⟩,_,_,_,_,_,_,_,_,_,rfl⟩
end Go.Proofs.YtldfkcpbjooemaaGreatDoor
namespace Go.Proofs.YtldfkcpbjooemaaGreatDoor
open Go.RowKit
theorem RSt.toks_two (s:RSt):2≤s.toks.length:=by
 have:=s.body_pos
 rw[s.toks_length];omega
end Go.Proofs.YtldfkcpbjooemaaGreatDoor
namespace Go.Proofs.YtldfkcpbjooemaaGreatDoor
open Go.RowKit
theorem Read_pol (s:ByteArray) (w:World) (hg:GlobT w) (hz:s.size≤maxLen) {l:List RTok} (h:tokened s.toList=.fine l) :
  Calls Tryz.prog 25 #[.string s] w fun e w'=>Below w.heap.size w w'∧∃ L R na nc la lc ra rc,PolicyOf s.toList L R∧e=.returned (.tuple #[.agg #[.slice na (nodesS 0 (L++R)).length nc,.slice la (letsS 0 (L++R)).length lc,.slice ra (rulesS 0 (L++R)).length rc],.int .i64 0,.int .i64 0])∧PolMem w' w.heap.size (.slice na (nodesS 0 (L++R)).length nc) (.slice la (letsS 0 (L++R)).length lc) (.slice ra (rulesS 0 (L++R)).length rc) L R:=by
 refine (Read_any s w hg hz).mono ?_
 rintro e w' ⟨hb,⟨c',p',ht,hc,rfl⟩ | ⟨L,R,nv,lv,rv,hp,rfl,hm⟩⟩
 ·rw[h] at ht;cases ht
 ·have hpa:=PolAt.of hm hp
  obtain ⟨na,nc,rfl⟩:=hpa.n.shape
  obtain ⟨la,lc,rfl⟩:=hpa.l.shape
  obtain ⟨ra,rc,rfl⟩:=hpa.r.shape
  exact ⟨hb,L,R,na,nc,la,lc,ra,rc,hp,rfl,hm⟩
theorem PolMem.set {w:World} {base:Nat} {nv lv rv:Value} {L R:List RSt} (h:PolMem w base nv lv rv L R) (b i:Nat) (hb:b < base) (v:Value):PolMem (w.setCell ⟨b,i,none⟩ v) base nv lv rv L R :=
 ⟨ownsRow_setCell_below h.ond (a:=⟨b,i,none⟩) hb v,ownsRow_setCell_below h.olt (a:=⟨b,i,none⟩) hb v,ownsRow_setCell_below h.orl (a:=⟨b,i,none⟩) hb v⟩
set_option maxHeartbeats 2000000 in
set_option maxRecDepth 100000 in
theorem readSound_fine (s:ByteArray) (w:World) (hg:GlobT w) (hz:s.size≤maxLen) {l:List RTok} (htk:tokened s.toList=.fine l) (herr:∀ L R,PolicyOf s.toList L R→errsOf (nodesS 0 (L++R)) (letsS 0 (L++R)) (rulesS 0 (L++R))=(0,0)) :
  Calls Tryz.prog 32 #[.string s] w fun e w'=>Below w.heap.size w w'∧∃ L R na nc la lc ra rc,PolicyOf s.toList L R∧e=.returned (.tuple #[.agg #[.slice na (nodesS 0 (L++R)).length nc,.slice la (letsS 0 (L++R)).length lc,.slice ra (rulesS 0 (L++R)).length rc],.int .i64 0,.int .i64 0])∧PolMem w' w.heap.size (.slice na (nodesS 0 (L++R)).length nc) (.slice la (letsS 0 (L++R)).length lc) (.slice ra (rulesS 0 (L++R)).length rc) L R:=by
 have hbz:=new_below w (.cells #[nilS,nilS,nilS] 64)
 have HG:=hideP (hg.below hbz)
 have HZ:=hideP (Blk.new w #[nilS,nilS,nilS] 64)
 have HBZ:=hideP hbz
 have HSZ:=hideP hz
 have HER:=hideP herr
 clear hg hbz hz herr
 have HTK:Hid (tokened s.toList=.fine l):=htk
 clear htk
 go_enter Tryz.func32,Tryz.ntmps32
 go_wp2_with (first | (go_at_call 25;refine (Read_pol s _ HG.out HSZ.out HTK.out).mono ?_;rintro e w1 ⟨hb1,L,R,na,nc,la,lc,ra,rc,hp,rfl,hpm⟩;have hpa:=PolAt.of hpm hp;have HPM:=hideP hpm;clear hpm;have HZ1:=hideP (HZ.out.below hb1 HZ.out.lt);have HB1:=hideP (HBZ.out.trans (hb1.mono HBZ.out.size));have hz1:=HZ1.out.lt;have HP:=hideP hp;have HPA:=hideP hpa;clear hb1 hp hpa) | (go_at_call 67;refine (Errors_any _ _ _ _ _ _ _ (HPA.out.below (new_below w1 _)) (fits_of HP.out HPA.out.nb)).mono ?_;rintro e w3 ⟨rfl,hb3⟩;have HPM3:=hideP ((HPM.out.below (new_below w1 (.cells #[.slice na (nodesS 0 (L++R)).length nc,.slice la (letsS 0 (L++R)).length lc,.slice ra (rulesS 0 (L++R)).length rc] 64))).below hb3);obtain ⟨np,hnp⟩:∃ np,errsOf (nodesS 0 (L++R)) (letsS 0 (L++R)) (rulesS 0 (L++R))=np:=⟨_,rfl⟩;obtain ⟨n,p⟩:=np;rw[hnp];dsimp only;have HNP:=hideP hnp;have HZ3:=hideP ((HZ1.out.alloc (.cells #[.slice na (nodesS 0 (L++R)).length nc,.slice la (letsS 0 (L++R)).length lc,.slice ra (rulesS 0 (L++R)).length rc] 64)).below hb3 (HZ1.out.alloc (.cells #[.slice na (nodesS 0 (L++R)).length nc,.slice la (letsS 0 (L++R)).length lc,.slice ra (rulesS 0 (L++R)).length rc] 64)).lt);have HV3:=hideP ((Blk.new w1 #[.slice na (nodesS 0 (L++R)).length nc,.slice la (letsS 0 (L++R)).length lc,.slice ra (rulesS 0 (L++R)).length rc] 64).below hb3 (Blk.new w1 #[.slice na (nodesS 0 (L++R)).length nc,.slice la (letsS 0 (L++R)).length lc,.slice ra (rulesS 0 (L++R)).length rc] 64).lt);have HB3:=hideP ((HB1.out.trans ((new_below w1 (.cells #[.slice na (nodesS 0 (L++R)).length nc,.slice la (letsS 0 (L++R)).length lc,.slice ra (rulesS 0 (L++R)).length rc] 64)).mono HB1.out.size)).trans (hb3.mono (by simp;omega)));have hz3:=HZ3.out.lt;have hv3:=HV3.out.lt;have z0:=HZ3.out.cell 0;have z1:=HZ3.out.cell 1;have z2:=HZ3.out.cell 2;have f0:=HZ3.out.free 0;have f1:=HZ3.out.free 1;have f2:=HZ3.out.free 2;have v0:=HV3.out.cell 0;have v1:=HV3.out.cell 1;have v2:=HV3.out.cell 2;clear hb3 hnp))
 ·rename_i hn0
  have:=HER.out L R HP.out
  rw[HNP.out] at this
  cases this
  simp at hn0
 ·rename_i hn0
  have hn1:n=0:=by simpa using hn0
  subst hn1
  have hp0:=errs_zero HNP.out
  subst hp0
  have hfb:=((HZ3.out.set 0 (.slice na (nodesS 0 (L++R)).length nc)).set 1 (.slice la (letsS 0 (L++R)).length lc)).set 2 (.slice ra (rulesS 0 (L++R)).length rc)
  have g0:=hfb.cell 0
  have g1:=hfb.cell 1
  have g2:=hfb.cell 2
  have hbl:=three_sets HB3.out (.slice na (nodesS 0 (L++R)).length nc) (.slice la (letsS 0 (L++R)).length lc) (.slice ra (rulesS 0 (L++R)).length rc)
  have hpm:=((HPM3.out.set w.heap.size 0 (by simp) (.slice na (nodesS 0 (L++R)).length nc)).set w.heap.size 1 (by simp) (.slice la (letsS 0 (L++R)).length lc)).set w.heap.size 2 (by simp) (.slice ra (rulesS 0 (L++R)).length rc)
  exact bodyPost_ret (v:=.tuple #[.agg #[.slice na (nodesS 0 (L++R)).length nc,.slice la (letsS 0 (L++R)).length lc,.slice ra (rulesS 0 (L++R)).length rc],.int .i64 0,.int .i64 0]) (by simp[results,Tryz.results32,go_sem,g0,g1,g2]) rfl ⟨hbl,L,R,na,nc,la,lc,ra,rc,HP.out,rfl,⟨own_base hpm.ond (by simp),own_base hpm.olt (by simp),own_base hpm.orl (by simp)⟩⟩
end Go.Proofs.YtldfkcpbjooemaaGreatDoor
namespace Go.Proofs.YtldfkcpbjooemaaGreatDoor
open Go.RowKit
def btw (n a b:Int):Bool:=decide (a≤n)&&decide (n≤b)
def itmB (x:Itm):Bool:=btw x.size 1 1000&&btw x.speed 0 1000&&btw x.need 0 2
def bnB (y:Bn):Bool:=btw y.id 0 1000&&btw y.zone 0 9&&btw y.cap 1 1000&&btw y.used 0 y.cap&&btw y.has 0 2
theorem itmB_iff (x:Itm):itmB x=true ↔ x.Ok:=by unfold itmB btw Itm.Ok;simp[and_assoc]
theorem bnB_iff (y:Bn):bnB y=true ↔ y.Ok:=by unfold bnB btw Bn.Ok;simp[and_assoc]
set_option maxHeartbeats 400000 in
theorem between_any (n a b:Int) (w:World) :
  Calls Tryz.prog 43 #[.int .i64 n,.int .i64 a,.int .i64 b] w fun e w'=>e=.returned (.bool (btw n a b))∧w'=w:=by
 unfold btw
 by_cases h:a≤n
 all_goals
  go_enter Tryz.func43,Tryz.ntmps43
  go_wp2
  all_goals go_ret
  all_goals exact ⟨ret_bool (by go_light;first | (simp[h];done) | (simp;omega)),rfl⟩
set_option maxHeartbeats 1000000 in
theorem rIsItem_any (x:Itm) (w:World) :
  Calls Tryz.prog 21 #[itmA x] w fun e w'=>e=.returned (.bool (itmB x))∧Below w.heap.size w w':=by
 unfold itmA itmB
 cases h1:btw x.size 1 1000 <;> cases h2:btw x.speed 0 1000
 all_goals
  go_enter Tryz.func21,Tryz.ntmps21
  go_wp2_with (go_at_call 43;refine (between_any _ _ _ _).mono ?_;rintro e w' ⟨rfl,rfl⟩)
  go_ret
  exact ⟨ret_bool (by simp),box3 _ _⟩
set_option maxHeartbeats 1000000 in
theorem rIsBin_any (y:Bn) (w:World) :
  Calls Tryz.prog 22 #[bnA y] w fun e w'=>e=.returned (.bool (bnB y))∧Below w.heap.size w w':=by
 unfold bnA bnB
 cases h1:btw y.id 0 1000 <;> cases h2:btw y.zone 0 9 <;> cases h3:btw y.cap 1 1000 <;> cases h4:btw y.used 0 y.cap
 all_goals
  go_enter Tryz.func22,Tryz.ntmps22
  go_wp2_with (go_at_call 43;refine (between_any _ _ _ _).mono ?_;rintro e w' ⟨rfl,rfl⟩)
  go_ret
  exact ⟨ret_bool (by simp),box3 _ _⟩
end Go.Proofs.YtldfkcpbjooemaaGreatDoor
namespace Go.Proofs.YtldfkcpbjooemaaGreatDoor
open Go.RowKit
structure But (fb:Nat) (w w':World):Prop where
 os:w'.os=w.os
 tape:w'.tape=w.tape
 output:w'.output=w.output
 size:w.heap.size≤w'.heap.size
 block:∀ k,k≠fb→k < w.heap.size→w'.heap[k]?=w.heap[k]?
theorem But.refl (fb:Nat) (w:World):But fb w w:=⟨rfl,rfl,rfl,Nat.le_refl _,fun _ _ _=>rfl⟩
theorem But.trans {fb:Nat} {w w1 w2:World} (h:But fb w w1) (g:But fb w1 w2):But fb w w2 :=
 ⟨g.os.trans h.os,g.tape.trans h.tape,g.output.trans h.output,Nat.le_trans h.size g.size,fun k h1 h2=>(g.block k h1 (Nat.lt_of_lt_of_le h2 h.size)).trans (h.block k h1 h2)⟩
theorem But.of {fb:Nat} {w w':World} (h:Below w.heap.size w w'):But fb w w':=⟨h.os,h.tape,h.output,h.size,fun k _ h2=>h.block k h2⟩
theorem But.below {fb B:Nat} {w w':World} (h:But fb w w') (h1:B≤fb) (h2:B≤w.heap.size):Below B w w':=⟨h.os,h.tape,h.output,h.size,fun k hk=>h.block k (by omega) (by omega)⟩
theorem Blk.but {w w':World} {b fb:Nat} {cs:Array Value} {t:TypeId} (h:Blk w b cs t) (hb:But fb w w') (hne:b≠fb):Blk w' b cs t:=(hb.block b hne h.lt).trans h
theorem But.set {w:World} (fb i:Nat) (v:Value) (h:fb < w.heap.size):But fb w (w.setCell ⟨fb,i,none⟩ v):=by
 have g:=(Below.refl fb w).setCell (p:=⟨fb,i,none⟩) (Nat.le_refl _) v
 exact ⟨g.os,g.tape,g.output,g.size,fun k h1 _=>Below.heap_setCell _ _ _ _ h1⟩
end Go.Proofs.YtldfkcpbjooemaaGreatDoor
namespace Go.Proofs.YtldfkcpbjooemaaGreatDoor
open Go.RowKit
def bsN (l:List Nat):ByteArray:=⟨(l.map UInt8.ofNat).toArray⟩
theorem bsN_fold (l:List Nat):∀ r:ByteArray,(l.map Int.ofNat).foldl (fun r n=>r.push (UInt8.ofNat n.toNat)) r=⟨r.data++(l.map UInt8.ofNat).toArray⟩:=by
 induction l with
 | nil=>intro r;simp
 | cons c l ih =>
  intro r
  simp only[List.map_cons,List.foldl_cons]
  rw[ih]
  simp[ByteArray.push]
theorem bsN_append (l m:List Nat):bsN l++bsN m=bsN (l++m):=by
 apply ByteArray.ext
 simp[bsN,ByteArray.data_append]
theorem conv_bytes (w:World) (b:Nat) (l:List Nat) (t:TypeId) (hb:Blk w b ((l.map fun n:Nat=>Value.int .u8 (n:Int)).toArray) t) :
  (convert 179 9 (.slice (some ⟨b,0,none⟩) l.length l.length)).run Tryz.prog w=.ok (.string (bsN l)) w:=by
 rw[run_convert_bytes_string w 179 9 5 _ _ _ Tryz.underlying179 Tryz.underlying5 Tryz.underlying9]
 rw[run_bytesToString w ⟨b,0,none⟩ l.length l.length (l.map Int.ofNat) ?_]
 ·rw[bsN_fold]
  simp[bsN]
 ·have h:=run_loadCells_list (P:=Tryz.prog) w ⟨b,0,none⟩ ((l.map Int.ofNat).map (Value.int .u8)) ?_
  ·simpa using h
  ·intro j v hj
   simp at hj
   obtain ⟨c,hc,rfl⟩:=hj
   have:=hb.cell j
   simp[hc] at this
   rw[show (⟨b,0,none⟩:Addr).add j=⟨b,j,none⟩ by unfold Addr.add;split <;> simp_all]
   exact this
end Go.Proofs.YtldfkcpbjooemaaGreatDoor
namespace Go.Proofs.YtldfkcpbjooemaaGreatDoor
open Go.RowKit
end Go.Proofs.YtldfkcpbjooemaaGreatDoor
namespace Go.Proofs.YtldfkcpbjooemaaGreatDoor
open Go.RowKit
end Go.Proofs.YtldfkcpbjooemaaGreatDoor
namespace Go.Proofs.YtldfkcpbjooemaaGreatDoor
open Go.RowKit
end Go.Proofs.YtldfkcpbjooemaaGreatDoor
namespace Go.Proofs.YtldfkcpbjooemaaGreatDoor
open Go.RowKit
end Go.Proofs.YtldfkcpbjooemaaGreatDoor
namespace Go.Proofs.YtldfkcpbjooemaaGreatDoor
open Go.RowKit
end Go.Proofs.YtldfkcpbjooemaaGreatDoor
namespace Go.Proofs.YtldfkcpbjooemaaGreatDoor
open Go.RowKit
end Go.Proofs.YtldfkcpbjooemaaGreatDoor
namespace Go.Proofs.YtldfkcpbjooemaaGreatDoor
open Go.RowKit
end Go.Proofs.YtldfkcpbjooemaaGreatDoor
namespace Go.Proofs.YtldfkcpbjooemaaGreatDoor
open Go.RowKit
structure GlobB (w:World):Prop where
 bytes:∀ c,c < 18→w.cell? ⟨0,c,none⟩=some (.int .i64 (behindN c))
 size:0 < w.heap.size
theorem GlobB.below {w w':World} (h:GlobB w) (hb:Below w.heap.size w w'):GlobB w' :=
 ⟨fun c hc=>(hb.cell (p:=⟨0,c,none⟩) h.size).trans (h.bytes c hc),Nat.lt_of_lt_of_le h.size hb.size⟩
theorem bsN_len (l:List Nat):(bsN l).size=l.length:=by simp[bsN,ByteArray.size]
theorem Tryz.infoFact:(Tryz.prog.info? 172).map (fun i=>(i.zero,i.size,i.bytes))=some (some (.agg #[.bool false,.int .i64 0]),2,16):=by kernel_rfl
end Go.Proofs.YtldfkcpbjooemaaGreatDoor
