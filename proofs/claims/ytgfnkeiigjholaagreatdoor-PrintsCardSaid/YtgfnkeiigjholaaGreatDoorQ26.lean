/-
  The program's reader: a LET.
-/
import Derived.Test.YtgfnkeiigjholaaGreatDoorQ25
set_option linter.unusedVariables false
set_option linter.unusedSimpArgs false
namespace Go.Proofs.YtgfnkeiigjholaaGreatDoor
open Go.RowKit Go.Deep
theorem Und.any{B:Nat}{S:RS}{w wr:World}{p:Spot}{l:List RTok}{G:Nat→List PNode→Prop}(h:Und B S w wr p l G):∃ S',RdAt wr B S'∧S'.lv=S.lv∧S'.rv=S.rv∧S'.ls=S.ls∧S'.rs=S.rs∧((∃ j nv ns,G j ns∧S'={ S with k:=S.k+j,nv:=nv,ns:=ns })∨(∃ j nv ns,BadS p l j∧S'={ S with k:=S.k+j,f:=true,nv:=nv,ns:=ns })):=by
  rcases h.st with ⟨j,nv,ns,hG,hR⟩ | ⟨j,nv,ns,hB,hn,hR⟩
  · exact ⟨_,hR,rfl,rfl,rfl,rfl,.inl ⟨j,nv,ns,hG,rfl⟩⟩
  · exact ⟨_,hR,rfl,rfl,rfl,rfl,.inr ⟨j,nv,ns,hB,rfl⟩⟩
theorem cellsLt_snoc(l:List PLet)(n:PLet):cellsLt (l++[n])=cellsLt l++cellL n:=by simp[cellsLt]
theorem cellsU_snoc(l:List PRule)(n:PRule):cellsU (l++[n])=cellsU l++cellU n:=by simp[cellsU]
theorem one_let(n:PLet):∀ u∈cellL n,u.oneCell'=true:=by
  intro u hu
  simp[cellL]at hu
  rcases hu with rfl | rfl | rfl | rfl | rfl | rfl <;> rfl
theorem one_rule(n:PRule):∀ u∈cellU n,u.oneCell'=true:=by
  intro u hu
  simp[cellU]at hu
  rcases hu with rfl | rfl | rfl | rfl | rfl | rfl | rfl | rfl <;> rfl
theorem rd_let{w w3:World}{B:Nat}{S:RS}{n:PLet}{v:Value}(h:RdAt w B S)(ho:w3.ownsRow (B+1) 113 6 v (S.ls.length+1) (cellsLt S.ls++cellL n))(hg:w.grownBy w3 S.lv.ownBlock) :
    RdAt (w3.setCell ⟨B,5,none⟩ v) B { S with lv:=v,ls:=S.ls++[n] }∧Below B w (w3.setCell ⟨B,5,none⟩ v):=by
  have hneB:some B≠S.lv.ownBlock:=by intro e;have:=(h.olt.lt B e.symm).1;omega
  have hb:Blk w3 B #[S.tv,.int .i64 S.k,.int .i64 S.d,.bool S.f,S.nv,S.lv,S.rv] 105:=by
    unfold Blk;rw[hg.block B h.blk.lt hneB];exact h.blk
  have hlt:=h.blk.lt
  refine ⟨⟨hb.set 5 v,own_set (h.otk.kept hg (own_ne h.otk h.olt (by decide))) hb (by decide),own_set (h.ond.kept hg (own_ne h.ond h.olt (by decide))) hb (by decide), ?_,own_set (h.orl.kept hg (own_ne h.orl h.olt (by decide))) hb (by decide),h.kt,h.tl,h.nk,h.dl⟩, ?_⟩
  · have:=own_set (i:=5) (u:=v) ho hb (by decide)
    simpa[cellsLt_snoc] using this
  · exact ((Below.refl B w).grown hg (by omega) (fun k hk=>by have:=(h.olt.lt k hk).1;omega)).setCell (p:=⟨B,5,none⟩) (Nat.le_refl _) v
theorem rd_rule{w w3:World}{B:Nat}{S:RS}{n:PRule}{v:Value}(h:RdAt w B S)(ho:w3.ownsRow (B+1) 116 8 v (S.rs.length+1) (cellsU S.rs++cellU n))(hg:w.grownBy w3 S.rv.ownBlock) :
    RdAt (w3.setCell ⟨B,6,none⟩ v) B { S with rv:=v,rs:=S.rs++[n] }∧Below B w (w3.setCell ⟨B,6,none⟩ v):=by
  have hneB:some B≠S.rv.ownBlock:=by intro e;have:=(h.orl.lt B e.symm).1;omega
  have hb:Blk w3 B #[S.tv,.int .i64 S.k,.int .i64 S.d,.bool S.f,S.nv,S.lv,S.rv] 105:=by
    unfold Blk;rw[hg.block B h.blk.lt hneB];exact h.blk
  have hlt:=h.blk.lt
  refine ⟨⟨hb.set 6 v,own_set (h.otk.kept hg (own_ne h.otk h.orl (by decide))) hb (by decide),own_set (h.ond.kept hg (own_ne h.ond h.orl (by decide))) hb (by decide),own_set (h.olt.kept hg (own_ne h.olt h.orl (by decide))) hb (by decide), ?_,h.kt,h.tl,h.nk,h.dl⟩, ?_⟩
  · have:=own_set (i:=6) (u:=v) ho hb (by decide)
    simpa[cellsU_snoc] using this
  · exact ((Below.refl B w).grown hg (by omega) (fun k hk=>by have:=(h.orl.lt k hk).1;omega)).setCell (p:=⟨B,6,none⟩) (Nat.le_refl _) v
theorem Tryz.infoLet:(Tryz.prog.info? 113).map (fun i=>(i.zero,i.size,i.bytes))=some (some (.agg #[.int .i64 0,.int .i64 0,.string ⟨#[]⟩,.int .i64 0,.int .i64 0,.int .i64 0]),6,56):=by kernel_rfl
theorem Tryz.infoRule:(Tryz.prog.info? 116).map (fun i=>(i.zero,i.size,i.bytes))=some (some (.agg #[.bool false,.int .i64 0,.int .i64 0,.int .i64 0,.bool false,.int .i64 0,.int .i64 0,.int .i64 0]),8,64):=by kernel_rfl
def LetOut(B:Nat)(S:RS)(l:List RTok)(w w':World):Prop :=
  Below B w w' ∧
  ((∃ s rest nv lv,GotS ⟨0,0,0⟩ l s rest ⟨0,0,0⟩∧s.isLet=true∧RdAt w' B { S with k:=S.k+s.toks.length,nv:=nv,lv:=lv,ns:=S.ns++s.nodes S.ns.length,ls:=S.ls++s.lets S.ns.length }) ∨
   (∃ j nv lv ns n,BadS ⟨0,0,0⟩ l j∧RdAt w' B { S with k:=S.k+j,f:=true,nv:=nv,lv:=lv,ns:=ns,ls:=S.ls++[n] }))
def G2(S:RS)(l:List RTok)(tk:RTok)(j:Nat)(ns:List PNode):Prop:=j=2∧ns=S.ns∧l[1]?=some tk∧nameT tk.text=true
def G3(S:RS)(l:List RTok)(tk:RTok)(j:Nat)(ns:List PNode):Prop:=j=3∧ns=S.ns∧l[1]?=some tk∧nameT tk.text=true∧∃ eq,l[2]?=some eq∧eq.text=cEq
def G4(S:RS)(l:List RTok)(tk:RTok)(pe:PExp)(j:Nat)(ns:List PNode):Prop:=l[1]?=some tk∧nameT tk.text=true∧(∃ eq,l[2]?=some eq∧eq.text=cEq)∧∃ e rest,GotO 0 (l.drop 3) e rest∧stops 1 rest∧j=3+e.toks.length∧ns=S.ns++e.flat S.ns.length∧pe=layE S.ns.length e
def G5(S:RS)(l:List RTok)(tk:RTok)(pe:PExp)(j:Nat)(ns:List PNode):Prop:=∃ s rest,GotS ⟨0,0,0⟩ l s rest ⟨0,0,0⟩∧s.isLet=true∧j=s.toks.length∧ns=S.ns++s.nodes S.ns.length∧s.lets S.ns.length=[⟨tk,pe⟩]
theorem l_three{kw tk eq:RTok}{l1:List RTok}(h1:(kw :: l1)[1]?=some tk)(h2:(kw :: l1)[2]?=some eq):∃ r,l1=tk :: eq :: r∧(kw :: l1).drop 3=r:=by
  rcases l1 with _ | ⟨a,_ | ⟨b,r⟩⟩
  · simp at h1
  · simp at h2
  · simp at h1 h2
    subst h1 h2
    exact ⟨r,rfl,rfl⟩
theorem name_step(S:RS){kw tk:RTok}{l1:List RTok}(hk:kw.text=cLet)(hm:∀ t∈kw :: l1,mayT t.text=true):∀ j ns,((j=1∧ns=S.ns)∧∀ a,(kw :: l1)[j]?=some a→a=tk)→j≤(kw :: l1).length∧ns.length≤S.ns.length+j∧(∀ a,(kw :: l1)[j]?=some a→kindP a.text=2→G2 S (kw :: l1) tk (j+1) ns)∧((∀ a,(kw :: l1)[j]?=some a→kindP a.text≠2)→BadS ⟨0,0,0⟩ (kw :: l1) j):=by
  rintro j ns ⟨⟨rfl,rfl⟩,ht⟩
  refine ⟨by simp,by omega,fun a ha hka=>?_,fun hno=>?_⟩
  · have:=ht a ha
    subst this
    exact ⟨rfl,rfl,ha,(kindOf _ (hm a (List.mem_of_getElem? ha))).kname.1 hka⟩
  · refine let_bad_name hk fun a r e=>?_
    subst e
    have h1:=hno a rfl
    cases h:nameT a.text with
    | false=>rfl
    | true=>exact absurd ((kindOf _ (hm a (by simp))).kname.2 h) h1
theorem eq_step(S:RS){kw tk:RTok}{l1:List RTok}(hk:kw.text=cLet)(hm:∀ t∈kw :: l1,mayT t.text=true):∀ j ns,G2 S (kw :: l1) tk j ns→j≤(kw :: l1).length∧ns.length≤S.ns.length+j∧(∀ a,(kw :: l1)[j]?=some a→kindP a.text=23→G3 S (kw :: l1) tk (j+1) ns)∧((∀ a,(kw :: l1)[j]?=some a→kindP a.text≠23)→BadS ⟨0,0,0⟩ (kw :: l1) j):=by
  rintro j ns ⟨rfl,rfl,h1,h2⟩
  have hlen:1<(kw :: l1).length:=(List.getElem?_eq_some_iff.1 h1).1
  refine ⟨by omega,by omega,fun a ha hka=>⟨rfl,rfl,h1,h2,a,ha,(kindOf _ (hm a (List.mem_of_getElem? ha))).keq.1 hka⟩,fun hno=>?_⟩
  rcases l1 with _ | ⟨b,r⟩
  · simp at hlen
  · simp at h1
    subst h1
    refine let_bad_eq hk h2 fun a r' e=>?_
    subst e
    exact fun h=>hno a rfl ((kindOf _ (hm a (by simp))).keq.2 h)
theorem expr_step(S:RS){kw tk:RTok}{l1:List RTok}(hk:kw.text=cLet):∀ j ns,G3 S (kw :: l1) tk j ns→j≤(kw :: l1).length∧ns.length≤S.ns.length+j∧(∀ t rest,GotO 0 ((kw :: l1).drop j) t rest→stops 1 rest→G4 S (kw :: l1) tk (layE ns.length t) (j+t.toks.length) (ns++t.flat ns.length))∧(∀ i,BadV 0 ((kw :: l1).drop j) i→BadS ⟨0,0,0⟩ (kw :: l1) (j+i)):=by
  rintro j ns ⟨rfl,rfl,h1,h2,eq,h3,h4⟩
  obtain ⟨r,rfl,hd⟩:=l_three h1 h3
  refine ⟨by simp,by omega,fun t rest g1 g2=>⟨h1,h2,⟨eq,h3,h4⟩,t,rest,g1,g2,rfl,rfl,rfl⟩,fun i hb=>?_⟩
  rw[hd]at hb
  rw[Nat.add_comm]
  exact let_bad_expr hk h2 h4 hb
theorem semi_step(S:RS){kw tk:RTok}{l1:List RTok}(hk:kw.text=cLet)(hm:∀ t∈kw :: l1,mayT t.text=true)(pe:PExp):∀ j ns,G4 S (kw :: l1) tk pe j ns→j≤(kw :: l1).length∧ns.length≤S.ns.length+j∧(∀ a,(kw :: l1)[j]?=some a→kindP a.text=22→G5 S (kw :: l1) tk pe (j+1) ns)∧((∀ a,(kw :: l1)[j]?=some a→kindP a.text≠22)→BadS ⟨0,0,0⟩ (kw :: l1) j):=by
  rintro j ns ⟨h1,h2,⟨eq,h3,h4⟩,e,rest,g1,g2,rfl,rfl,rfl⟩
  obtain ⟨r,rfl,hd⟩:=l_three h1 h3
  rw[hd]at g1
  have hr:=g1.eq
  have hn:=e.num_le g1.wf
  have hat:∀ a,(kw :: tk :: eq :: r)[3+e.toks.length]?=some a→∃ rest',rest=a :: rest':=by
    intro a ha
    rw[show (kw :: tk :: eq :: r)[3+e.toks.length]?=r[e.toks.length]? by rw[Nat.add_comm];rfl,hr,List.getElem?_append_right (Nat.le_refl _),Nat.sub_self]at ha
    cases rest with
    | nil=>simp at ha
    | cons b rest'=>simp at ha;subst ha;exact ⟨rest',rfl⟩
  refine ⟨by rw[hr];simp;omega,by rw[List.length_append,e.flat_len g1.wf];omega,fun a ha hka=>?_,fun hno=>?_⟩
  · obtain ⟨rest',rfl⟩:=hat a ha
    have hs:a.text=cSemi:=(kindOf _ (hm a (List.mem_of_getElem? ha))).ksemi.1 hka
    have hgot:=let_got hk h2 h4 g1 hs
    refine ⟨_,rest',hgot,rfl, ?_,rfl,rfl⟩
    rw[RSt.toks_length,RSt.body_let]
    simp
    omega
  · rw[Nat.add_comm]
    refine let_bad_end hk h2 h4 g1 g2 fun a r' e'=>?_
    subst e'
    refine fun h=>hno a ?_ ((kindOf _ (hm a ?_)).ksemi.2 h)
    · rw[show (kw :: tk :: eq :: r)[3+e.toks.length]?=r[e.toks.length]? by rw[Nat.add_comm];rfl,hr,List.getElem?_append_right (Nat.le_refl _),Nat.sub_self];rfl
    · rw[hr];simp
end Go.Proofs.YtgfnkeiigjholaaGreatDoor
