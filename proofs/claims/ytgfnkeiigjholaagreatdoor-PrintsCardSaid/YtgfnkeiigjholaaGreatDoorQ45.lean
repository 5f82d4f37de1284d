/-
  The document's Statements, called on the tokens of a policy: the lets and the rules, their expressions where they stand.
-/
import Derived.Test.YtgfnkeiigjholaaGreatDoorQ44
import Derived.Test.YtgfnkeiigjholaaGreatDoorQ08
import Derived.Deep.AppendLies
set_option linter.unusedVariables false
set_option linter.unusedSimpArgs false
namespace Go.Proofs.YtgfnkeiigjholaaGreatDoor
open Go.RowKit Go.Deep
def RdO(w:World)(v:Value):Option Tr→Prop
 | none=>v=.slice none 0 0
 | some e=>Reads w v e.toks.length (cellsR e.toks)
def StmOk(w:World)(s:Stm)(r:RSt):Prop :=
 Sum.elim (fun d:LetD=>s.name=d.name.text∧Reads w s.expr d.e.toks.length (cellsR d.e.toks)∧s.when=.slice none 0 0∧s.score=.slice none 0 0)
  (fun d:RuleD=>s.name=[]∧s.expr=.slice none 0 0∧RdO w s.when (d.wh.map Prod.snd)∧RdO w s.score d.sc) r
theorem Tryz.infoStm:(Tryz.prog.info? 75).map (fun i=>(i.zero,i.size,i.bytes))=some (some (.agg #[.string ⟨#[]⟩,.slice none 0 0,.slice none 0 0,.slice none 0 0]),4,88):=by kernel_rfl
def InB1(g:Nat)(v:Value):Prop:=v=.slice none 0 0∨∃ o n c,v=.slice (some ⟨g,o,none⟩) n c
def InB(g:Nat)(s:Stm):Prop:=InB1 g s.expr∧InB1 g s.when∧InB1 g s.score
theorem inb0(g:Nat):InB1 g (.slice none 0 0):=.inl rfl
theorem inb1(g o n c:Nat):InB1 g (.slice (some ⟨g,o,none⟩) n c):=.inr ⟨o,n,c,rfl⟩
structure StRel(g:Nat)(sts:List RSt)(w:World)(A I:Nat)(vl vr:Value)(wr:World)(done todo:List RSt)(j:Nat)(ls rs:List Stm):Prop where
 split:sts=done++todo
 hA:A=(toksL done).length
 hI:I=A+j
 none':todo=[]→j=0
 some':∀ s r,todo=s :: r→j≤s.body.length
 ownL:wr.ownsRow w.heap.size 75 4 vl ls.length (cellsS ls)
 ownR:wr.ownsRow w.heap.size 75 4 vr rs.length (cellsS rs)
 apart:vl.ownBlock=none∨vl.ownBlock≠vr.ownBlock
 allL:All2 (StmOk w) ls (done.filter RSt.isLet)
 allR:All2 (StmOk w) rs (done.filter (fun s=>!s.isLet))
 below:Below w.heap.size w wr
 blk:∀ s,s∈ls∨s∈rs→InB g s
theorem StRel.few{g:Nat}{sts:List RSt}{w:World}{A I:Nat}{vl vr:Value}{wr:World}{done todo:List RSt}{j:Nat}{ls rs:List Stm}(h:StRel g sts w A I vl vr wr done todo j ls rs):ls.length≤A∧rs.length≤A:=by
 have h1:=h.allL.len
 have h2:=h.allR.len
 have h3:done.length≤(toksL done).length:=by
  clear h h1 h2
  induction done with
  | nil=>simp
  | cons a r ih=>rw[toksL_cons,List.length_append,a.toks_length,List.length_cons];omega
 have h4:=List.length_filter_le RSt.isLet done
 have h5:=List.length_filter_le (fun s=>!RSt.isLet s) done
 have:=h.hA
 omega
theorem cellsS_snoc(l:List Stm)(s:Stm):cellsS (l++[s])=cellsS l++[.string (bsOf s.name),s.expr,s.when,s.score]:=by simp[cellsS]
theorem alloc_cell{w wr:World}{g o:Nat}{v:Value}{ob:Obj}(hbs:w.heap.size≤wr.heap.size)(hlt:g<w.heap.size)(h:wr.cell? ⟨g,o,none⟩=some v):(wr.alloc ob).cell? ⟨g,o,none⟩=some v :=
 (((Below.refl _ wr).alloc (Nat.le_refl _) ob).cell (p:=⟨g,o,none⟩) (Nat.lt_of_lt_of_le hlt hbs)).trans h
theorem news4(wr:World)(ob:Obj)(a b c d:Value)(e:TypeId):∀ j u,[a,b,c,d][j]?=some u→((wr.alloc ob).alloc (.cells #[a,b,c,d] e)).cell? ((⟨wr.heap.size+1,0,none⟩:Addr).add j)=some u:=by
 have h:=World.news_of_block (w:=(wr.alloc ob).alloc (.cells #[a,b,c,d] e)) (B:=wr.heap.size+1) (cs:=#[a,b,c,d]) (t:=e) (fr:=(0,0)) (by have:=heap_alloc_new (wr.alloc ob) (.cells #[a,b,c,d] e);simpa using this)
 exact h
theorem inb_l{g:Nat}{ls rs:List Stm}{m:Stm}(h:∀ s,s∈ls∨s∈rs→InB g s)(hm:InB g m){q:Stm}(hq:q∈ls++[m]∨q∈rs):InB g q:=by
 rcases hq with hq | hq
 ·rcases List.mem_append.1 hq with hq | hq
  ·exact h q (.inl hq)
  ·rw[List.mem_singleton.1 hq];exact hm
 ·exact h q (.inr hq)
theorem inb_r{g:Nat}{ls rs:List Stm}{m:Stm}(h:∀ s,s∈ls∨s∈rs→InB g s)(hm:InB g m){q:Stm}(hq:q∈ls∨q∈rs++[m]):InB g q:=by
 rcases hq with hq | hq
 ·exact h q (.inl hq)
 ·rcases List.mem_append.1 hq with hq | hq
  ·exact h q (.inr hq)
  ·rw[List.mem_singleton.1 hq];exact hm
theorem st_let{g:Nat}{sts:List RSt}{w:World}{A I:Nat}{vl vr:Value}{wr w1:World}{done todo:List RSt}{s:RSt}{j:Nat}{ls rs:List Stm}(h:StRel g sts w A I vl vr wr done (s :: todo) j ls rs)(hj:j=s.body.length)(hl:s.isLet=true)(m:Stm)(hm:StmOk w m s)(hmB:InB g m){o:Obj}{gg cap:Nat}
  (hown:w1.ownsRow w.heap.size 75 4 (.slice (some ⟨gg,0,none⟩) (ls.length+1) cap) (ls.length+1) (cellsS ls++[.string (bsOf m.name),m.expr,m.when,m.score])) (hg:(wr.alloc o).grownBy w1 vl.ownBlock) (hat:vl.ownBlock=some gg∨gg=wr.heap.size+1) :
  StRel g sts w (I+1) (I+1) (.slice (some ⟨gg,0,none⟩) (ls.length+1) cap) vr w1 (done++[s]) todo 0 (ls++[m]) rs:=by
 have hbs:=h.below.size
 refine ⟨by rw[h.split];simp, ?_,rfl,fun _=>rfl,fun _ _ _=>Nat.zero_le _, ?_, ?_, ?_, ?_, ?_, ?_,fun q hq=>inb_l h.blk hmB hq⟩
 ·rw[toksL_append,List.length_append,← h.hA];simp[toksL,s.toks_length];have:=h.hI;omega
 ·rw[cellsS_snoc,List.length_append];exact hown
 ·refine own_grown h.ownR hg ?_
  rcases h.apart with ha | ha
  ·rw[ha]
   cases hr:vr.ownBlock with
   | none=>exact .inl rfl
   | some k=>exact .inr (by simp)
  ·exact .inr (Ne.symm ha)
 ·right
  rcases hat with hat | hat
  ·rcases h.apart with ha | ha
   ·rw[ha]at hat;cases hat
   ·rw[hat]at ha;exact ha
  ·intro e
   have:=(h.ownR.lt gg (by rw[← e];rfl)).2
   omega
 ·rw[List.filter_append];simpa[hl] using All2.snoc h.allL hm
 ·rw[List.filter_append];simpa[hl] using h.allR
 ·exact (h.below.alloc hbs o).grown hg (by simp;omega) (fun k hk=>(h.ownL.lt k hk).1)
theorem st_rule{g:Nat}{sts:List RSt}{w:World}{A I:Nat}{vl vr:Value}{wr w1:World}{done todo:List RSt}{s:RSt}{j:Nat}{ls rs:List Stm}(h:StRel g sts w A I vl vr wr done (s :: todo) j ls rs)(hj:j=s.body.length)(hl:s.isLet=false)(m:Stm)(hm:StmOk w m s)(hmB:InB g m){o p:Obj}{gg cap:Nat}
  (hown:w1.ownsRow w.heap.size 75 4 (.slice (some ⟨gg,0,none⟩) (rs.length+1) cap) (rs.length+1) (cellsS rs++[.string (bsOf m.name),m.expr,m.when,m.score])) (hg:((wr.alloc p).alloc o).grownBy w1 vr.ownBlock) (hat:vr.ownBlock=some gg∨gg=wr.heap.size+2) :
  StRel g sts w (I+1) (I+1) vl (.slice (some ⟨gg,0,none⟩) (rs.length+1) cap) w1 (done++[s]) todo 0 ls (rs++[m]):=by
 have hbs:=h.below.size
 refine ⟨by rw[h.split];simp, ?_,rfl,fun _=>rfl,fun _ _ _=>Nat.zero_le _, ?_, ?_, ?_, ?_, ?_, ?_,fun q hq=>inb_r h.blk hmB hq⟩
 ·rw[toksL_append,List.length_append,← h.hA];simp[toksL,s.toks_length];have:=h.hI;omega
 ·refine own_grown (h.ownL.alloc p) hg ?_
  rcases h.apart with ha | ha
  ·exact .inl ha
  ·exact .inr ha
 ·rw[cellsS_snoc,List.length_append];exact hown
 ·cases hv:vl.ownBlock with
  | none=>exact .inl rfl
  | some k =>
   right
   rcases hat with hat | hat
   ·rcases h.apart with ha | ha
    ·rw[ha]at hv;cases hv
    ·rw[hat,hv]at ha;exact ha
   ·intro e
    have:=(h.ownL.lt gg (by rw[hv,e];rfl)).2
    omega
 ·rw[List.filter_append];simpa[hl] using h.allL
 ·rw[List.filter_append];simpa[hl] using All2.snoc h.allR hm
 ·exact ((h.below.alloc hbs p).alloc (by simp;omega) o).grown hg (by simp;omega) (fun k hk=>(h.ownR.lt k hk).1)
set_option maxHeartbeats 1000000 in
set_option maxRecDepth 10000 in
theorem Statements_blk(sts:List RSt)(hw:∀ s∈sts,s.wf)(g o cap:Nat)(w:World)(hpos:0<(toksL sts).length)(hl4:(toksL sts).length≤400)(hv:Reads w (.slice (some ⟨g,o,none⟩) (toksL sts).length cap) (toksL sts).length (cellsR (toksL sts))) :
  Calls Tryz.prog 28 #[.slice (some ⟨g,o,none⟩) (toksL sts).length cap] w fun e w'=>∃ ls rs lv rv,e=.returned (.tuple #[lv,rv])∧w'.ownsRow w.heap.size 75 4 lv ls.length (cellsS ls)∧w'.ownsRow w.heap.size 75 4 rv rs.length (cellsS rs) ∧
   All2 (StmOk w) ls (sts.filter RSt.isLet)∧All2 (StmOk w) rs (sts.filter (fun s=>!s.isLet))∧Below w.heap.size w w'∧∀ s,s∈ls∨s∈rs→InB g s:=by
 obtain ⟨i0,hi,hz0,hz1,hz2⟩:=info_parts Tryz.infoStm
 obtain ⟨g',o',cap',hgg,hncap,hlt,hc⟩:=hv.pos hpos
 cases hgg
 clear hv
 have HW:Hid (∀ s∈sts,s.wf):=hw
 clear hw
 obtain ⟨n,hn⟩:∃ n,n=(toksL sts).length:=⟨_,rfl⟩
 rw[← hn]at hpos hl4 hncap ⊢
 have HNN:Hid (n=(toksL sts).length):=hn
 clear hn
 go_enter Tryz.func28,Tryz.ntmps28
 go_wp2
 go_loopw [4,5,6,7] (fun vl vr va vi wr=>∃ (A I:Nat) (done todo:List RSt) (j:Nat) (ls rs:List Stm),va=.int .i64 A∧vi=.int .i64 I∧I≤n∧A≤I∧StRel g sts w A I vl vr wr done todo j ls rs) (fun _ _ _ i _=>n-(intOf i).toNat)
 case atStart=>exact ⟨0,0,[],sts,0,[],[],rfl,rfl,Nat.zero_le _,Nat.le_refl _,⟨rfl,rfl,rfl,fun _=>rfl,fun _ _ _=>Nat.zero_le _,World.ownsRow_nil _ _ _ _,World.ownsRow_nil _ _ _ _,.inl rfl,trivial,trivial,Below.refl _ _,fun s h=>by rcases h with h | h <;> cases h⟩⟩
 case round =>
  obtain ⟨A,I,done,todo,j,ls,rs,rfl,rfl,hIn,hAI,hS⟩:=hrel
  have HS:Hid (StRel g sts w A I u4 u5 wr done todo j ls rs):=hS
  clear hS
  by_cases hlt2:I<n
  ·cases todo with
   | nil =>
    exfalso
    have h1:=HS.out.split
    have h2:=HS.out.hA
    have h3:=HS.out.hI
    have h4:=HS.out.none' rfl
    have h5:=HNN.out
    rw[h1,List.append_nil]at h5
    omega
   | cons s todo =>
    have hjl:=HS.out.some' s todo rfl
    have hsw:Hid s.wf:=(HW.out s (by rw[HS.out.split];simp):s.wf)
    have hat:=toksL_at done todo s j hjl (toksL sts) (by rw[HS.out.split]) (by rw[← HS.out.hA,← HS.out.hI,← HNN.out];exact hlt2)
    have hbel:=HS.out.below
    have HC:Hid (∀ j u,(cellsR (toksL sts))[j]?=some u→w.cell? ⟨g,o+j,none⟩=some u):=hc
    clear hc
    by_cases hjb:j<s.body.length
    ·obtain ⟨hj',e⟩:=hat.1 hjb
     have cx:wr.cell? ⟨g,o+I*2,none⟩=some (.string (bsOf s.body[j].text)):=by
      have hlt3:I<(toksL sts).length:=by rw[← HNN.out];exact hlt2
      have:=(hbel.cell (p:=⟨g,o+I*2,none⟩) hlt).trans (HC.out _ _ (cellsR_get (toksL sts) I hlt3).1)
      rw[this]
      have e2:(toksL sts)[I]=s.body[j]:=by rw[← e];congr 1;rw[← HS.out.hA];exact HS.out.hI
      rw[e2]
     have h59:((bsOf s.body[j].text).toList==[59])=false:=by
      rw[bsOf_toList]
      have:=s.body_no_semi hsw.out s.body[j] (List.getElem_mem _)
      simpa[cSemi] using this
     clear hat e
     go_wp2
     go_roundw
     case rel=>exact ⟨A,I+1,done,s :: todo,j+1,ls,rs,rfl,by go_num,by omega,by omega,{ HS.out with hI:=by have:=HS.out.hI;omega,none':=fun h=>by simp at h,some':=fun s' r' h=>by cases h;omega }⟩
     case measure=>simp[intOf];omega
    ·have hjj:j=s.body.length:=by omega
     have hA:=HS.out.hA
     have hI:=HS.out.hI
     have hlt3:I<(toksL sts).length:=by rw[← HNN.out];exact hlt2
     have cx:wr.cell? ⟨g,o+I*2,none⟩=some (.string (bsOf cSemi)):=by
      have:=(hbel.cell (p:=⟨g,o+I*2,none⟩) hlt).trans (HC.out _ _ (cellsR_get (toksL sts) I hlt3).1)
      rw[this]
      have e2:(toksL sts)[I]=s.semi:=by rw[← hat.2 hjj];congr 1;rw[← hA];exact hI
      rw[e2,s.semi_text hsw.out]
     have h59:((bsOf cSemi).toList==[59])=true:=by rw[bsOf_toList];decide
     obtain ⟨o',ho'⟩:∃ o',o'=o+A*2:=⟨_,rfl⟩
     obtain ⟨nb,hnb⟩:∃ nb,nb=s.body.length:=⟨_,rfl⟩
     obtain ⟨cp,hcp⟩:∃ cp,cp=cap-A:=⟨_,rfl⟩
     have hsl:∀ wx:World,(Instr.slice 68 (.slice (some ⟨g,o,none⟩) n cap) (some (.int .i64 (A:Int))) (some (.int .i64 (I:Int))) none).run Tryz.prog wx=.ok (.slice (some ⟨g,o',none⟩) nb cp) wx:=by
      intro wx
      rw[sl_lh g o n cap A I A I rfl rfl (by omega) (by omega) (by omega) wx,ho',hcp,show I-A=nb by omega]
     have HP:Hid (Reads w (.slice (some ⟨g,o',none⟩) nb cp) nb (cellsR s.body)):=(by
      have:=reads_mid (w:=w) (g:=g) (o:=o) (cap:=cp) (toksL done) s.body (s.semi :: toksL todo) (l:=toksL sts) (by rw[HS.out.split,toksL_append,toksL_cons,RSt.toks];simp) hlt (by omega) HC.out
      rw[← hA,← ho',← hnb]at this
      exact this:Reads w (.slice (some ⟨g,o',none⟩) nb cp) nb (cellsR s.body))
     have hnbp:1≤nb:=by rw[hnb];exact s.body_pos
     have hncp:nb≤cp:=by omega
     have hnb4:nb≤400:=by omega
     have HI:Hid (I=A+nb):=(by omega:I=A+nb)
     have HNB:Hid (nb=s.body.length):=hnb
     have HO:Hid (o'=o+A*2):=ho'
     have hfew:=HS.out.few
     have hbs:=hbel.size
     have HJ:Hid (j=s.body.length):=hjj
     clear hat hjj hA hI hnb ho' hcp
     rcases s.cases with ⟨kw,name,eq,e,semi,rfl⟩ | ⟨wh,act,sc,semi,rfl⟩
     ·have hnb3:nb=e.toks.length+3:=by rw[HNB.out];simp[RSt.body_let]
      have hep:=e.toks_pos
      obtain ⟨_,_,_,hrp⟩:=HP.out.pos hnbp
      cases hrp.1
      have hpc:=hrp.2.2.2
      have c0:wr.cell? ⟨g,o',none⟩=some (.string (bsOf cLet)):=by
       have:=(hbel.cell (p:=⟨g,o'+0,none⟩) hlt).trans (hpc 0 _ rfl)
       rw[hsw.out.1]at this
       exact this
      have c1:wr.cell? ⟨g,o'+2,none⟩=some (.string (bsOf name.text)):=(hbel.cell (p:=⟨g,o'+2,none⟩) hlt).trans (hpc 2 _ rfl)
      have hsl3:=fun wx=>sl_l g o' nb cp 3 3 rfl (by omega) (by omega) wx
      have HRE:Hid (Reads w (.slice (some ⟨g,o'+3*2,none⟩) (nb-3) (cp-3)) e.toks.length (cellsR e.toks)):=(by
       have:=reads_mid (w:=w) (g:=g) (o:=o') (cap:=cp-3) [kw,name,eq] e.toks [] (l:=(RSt.letS kw name eq e semi).body) (by simp[RSt.body_let]) hlt (by omega) hpc
       rw[show nb-3=e.toks.length by omega]
       exact this:Reads w _ _ _)
      have hlet:((bsOf cLet).toList==[108,101,116])=true:=by rw[bsOf_toList];decide
      have hne:u4.ownBlock≠some g:=by intro h;have:=(HS.out.ownL.lt g h).1;omega
      have HN3:Hid (nb=e.toks.length+3):=hnb3
      have hnb3':3≤nb:=by omega
      have h1nb:(1:Int)<nb:=by omega
      clear hnb3 hpc hrp
      have hOL:=HS.out.ownL
      go_wp2
      go_region_held3 (fun w'=>w'.cell? ⟨g,o'+2,none⟩=some (.string (bsOf name.text))) (first | go_keep | (rw[hgrow.cell_far _ (by simp;omega) (Ne.symm hne)];assumption))
       ((refine step_append_lies _ (by rfl) _ _ _ (by rfl) w.heap.size 75 i0 _ 4 88 Tryz.underlying39 hi hz0 hz1 hz2 rfl (by omega) u4 ls.length (cellsS ls) (by rfl) ((hOL.alloc _).drew) ⟨wr.heap.size,0,none⟩ 1 1 [.string (bsOf name.text),.slice (some ⟨g,o'+3*2,none⟩) (nb-3) (cp-3),.slice none 0 0,.slice none 0 0] (by rfl) (by rfl) (World.news_of_block (cs:=#[.string (bsOf name.text),.slice (some ⟨g,o'+3*2,none⟩) (nb-3) (cp-3),.slice none 0 0,.slice none 0 0]) (t:=75) (fr:=(0,0)) (heap_alloc_new wr _)) (by simp[Value.oneCell']) (by omega) (by unfold maxLen;omega) (by omega) (by simp;omega) (wr.heap.size+1) (by simp) ?_;intro gg cap w1 hown1 hgrow hat hlt4))
      go_wp2
      go_roundw
      case rel=>exact ⟨I+1,I+1,done++[RSt.letS kw name eq e semi],todo,0,ls++[⟨name.text,.slice (some ⟨g,o'+3*2,none⟩) (nb-3) (cp-3),.slice none 0 0,.slice none 0 0⟩],rs,by go_num,by go_num,by omega,by omega,st_let HS.out HJ.out rfl _ ⟨rfl,(by have:=HRE.out;rw[show nb-3=e.toks.length by have:=HN3.out;omega]at this ⊢;exact this),rfl,rfl⟩ ⟨inb1 _ _ _ _,inb0 _,inb0 _⟩ hown1 ⟨hgrow.os,hgrow.tape,hgrow.output,hgrow.size,hgrow.block⟩ hat⟩
      case measure=>simp[intOf];omega
     ·obtain ⟨_,_,_,hrp⟩:=HP.out.pos hnbp
      cases hrp.1
      have hpc:=hrp.2.2.2
      clear hrp
      have hOR:=HS.out.ownR
      have hne:u5.ownBlock≠some g:=by intro h;have:=(hOR.lt g h).1;omega
      have hlS:((bsOf cScore).toList==[108,101,116])=false:=by rw[bsOf_toList];decide
      have hlR:((bsOf cReject).toList==[108,101,116])=false:=by rw[bsOf_toList];decide
      have hlW:((bsOf cWhen).toList==[108,101,116])=false:=by rw[bsOf_toList];decide
      have hwS:((bsOf cScore).toList==[119,104,101,110])=false:=by rw[bsOf_toList];decide
      have hwR:((bsOf cReject).toList==[119,104,101,110])=false:=by rw[bsOf_toList];decide
      have hwW:((bsOf cWhen).toList==[119,104,101,110])=true:=by rw[bsOf_toList];decide
      have hsS:((bsOf cScore).toList==[115,99,111,114,101])=true:=by rw[bsOf_toList];decide
      have hsR:((bsOf cReject).toList==[115,99,111,114,101])=false:=by rw[bsOf_toList];decide
      cases wh with
      | none =>
       cases sc with
       | none =>
        have c0:wr.cell? ⟨g,o',none⟩=some (.string (bsOf cReject)):=by
         have:=(hbel.cell (p:=⟨g,o'+0,none⟩) hlt).trans (hpc 0 _ rfl)
         rw[hsw.out.2.1]at this
         exact this
        have c0a:∀ ob:Obj,(wr.alloc ob).cell? ⟨g,o',none⟩=some (.string (bsOf cReject)):=fun ob=>alloc_cell hbs hlt c0
        clear hpc
        go_wp2_with (at_builtin;refine wpList_append_lies _ rfl _ _ 39 rfl w.heap.size 75 i0 _ 4 88 Tryz.underlying39 hi hz0 hz1 hz2 rfl (by omega) u5 rs.length (cellsS rs) rfl ((hOR.alloc _).alloc _) ⟨wr.heap.size+1,0,none⟩ 1 1 [.string ⟨#[]⟩,.slice none 0 0,.slice none 0 0,.slice none 0 0] rfl rfl (news4 wr _ _ _ _ _ _) (by simp[Value.oneCell']) (by omega) (by unfold maxLen;omega) (by omega) (by simp;omega) (wr.heap.size+2) (by simp) ?_;intro gg cap w1 hown1 hgrow hat hlt4)
        go_roundw
        case rel=>exact ⟨I+1,I+1,done++[_],todo,0,ls,rs++[⟨[],.slice none 0 0,.slice none 0 0,.slice none 0 0⟩],by go_num,by go_num,by omega,by omega,st_rule HS.out HJ.out rfl ⟨[],.slice none 0 0,.slice none 0 0,.slice none 0 0⟩ ⟨rfl,rfl,rfl,rfl⟩ ⟨inb0 _,inb0 _,inb0 _⟩ hown1 hgrow hat⟩
        case measure=>simp[intOf];omega
       | some e2 =>
        have hnb1:nb=e2.toks.length+1:=by rw[HNB.out];simp[RSt.body_rule,whToks,optToks]
        have hep:=e2.toks_pos
        have c0:wr.cell? ⟨g,o',none⟩=some (.string (bsOf cScore)):=by
         have:=(hbel.cell (p:=⟨g,o'+0,none⟩) hlt).trans (hpc 0 _ rfl)
         rw[hsw.out.2.1]at this
         exact this
        have c0a:∀ ob:Obj,(wr.alloc ob).cell? ⟨g,o',none⟩=some (.string (bsOf cScore)):=fun ob=>alloc_cell hbs hlt c0
        have hsl1:=fun wx=>sl_l g o' nb cp 1 1 rfl (by omega) (by omega) wx
        have HRE:Hid (Reads w (.slice (some ⟨g,o'+1*2,none⟩) (nb-1) (cp-1)) e2.toks.length (cellsR e2.toks)):=(by
         have:=reads_mid (w:=w) (g:=g) (o:=o') (cap:=cp-1) [act] e2.toks [] (l:=(RSt.rule none act (some e2) semi).body) (by simp[RSt.body_rule,whToks,optToks]) hlt (by omega) hpc
         rw[show nb-1=e2.toks.length by omega]
         exact this:Reads w _ _ _)
        clear hpc hnb1
        go_wp2_with (at_builtin;refine wpList_append_lies _ rfl _ _ 39 rfl w.heap.size 75 i0 _ 4 88 Tryz.underlying39 hi hz0 hz1 hz2 rfl (by omega) u5 rs.length (cellsS rs) rfl ((hOR.alloc _).alloc _) ⟨wr.heap.size+1,0,none⟩ 1 1 [.string ⟨#[]⟩,.slice none 0 0,.slice none 0 0,.slice (some ⟨g,o'+1*2,none⟩) (nb-1) (cp-1)] rfl rfl (news4 wr _ _ _ _ _ _) (by simp[Value.oneCell']) (by omega) (by unfold maxLen;omega) (by omega) (by simp;omega) (wr.heap.size+2) (by simp) ?_;intro gg cap w1 hown1 hgrow hat hlt4)
        go_roundw
        case rel=>exact ⟨I+1,I+1,done++[_],todo,0,ls,rs++[⟨[],.slice none 0 0,.slice none 0 0,.slice (some ⟨g,o'+1*2,none⟩) (nb-1) (cp-1)⟩],by go_num,by go_num,by omega,by omega,st_rule HS.out HJ.out rfl ⟨[],.slice none 0 0,.slice none 0 0,.slice (some ⟨g,o'+1*2,none⟩) (nb-1) (cp-1)⟩ ⟨rfl,rfl,rfl,HRE.out⟩ ⟨inb0 _,inb0 _,inb1 _ _ _ _⟩ hown1 hgrow hat⟩
        case measure=>simp[intOf];omega
      | some p =>
       obtain ⟨k0,e⟩:=p
       have hep:=e.toks_pos
       obtain ⟨K,hK⟩:∃ K,K=e.toks.length+1:=⟨_,rfl⟩
       have hbody:(RSt.rule (some (k0,e)) act sc semi).body=(k0 :: e.toks)++act :: optToks sc:=rfl
       have hnbK:nb=K+1+(optToks sc).length:=by rw[HNB.out,hbody,hK];simp;omega
       have c0:wr.cell? ⟨g,o',none⟩=some (.string (bsOf cWhen)):=by
        have:=(hbel.cell (p:=⟨g,o'+0,none⟩) hlt).trans (hpc 0 _ rfl)
        rw[(hsw.out.1 k0 e rfl).1]at this
        exact this
       have c0a:∀ ob:Obj,(wr.alloc ob).cell? ⟨g,o',none⟩=some (.string (bsOf cWhen)):=fun ob=>alloc_cell hbs hlt c0
       have HCE:Hid (∀ m (hm:m<e.toks.length) (ob:Obj),(wr.alloc ob).cell? ⟨g,o'+(m+1)*2,none⟩=some (.string (bsOf e.toks[m].text))):=(by
        intro m hm ob
        refine alloc_cell hbs hlt ((hbel.cell (p:=⟨g,o'+(m+1)*2,none⟩) hlt).trans (hpc _ _ ?_))
        have:=(cellsR_get (RSt.rule (some (k0,e)) act sc semi).body (m+1) (by rw[hbody];simp;omega)).1
        rw[this]
        simp only[hbody]
        rw[List.getElem_append_left (by simp;omega)]
        rfl:∀ m (hm:m<e.toks.length) (ob:Obj),(wr.alloc ob).cell? ⟨g,o'+(m+1)*2,none⟩=some (.string (bsOf e.toks[m].text)))
       have HCA:Hid (∀ ob:Obj,(wr.alloc ob).cell? ⟨g,o'+K*2,none⟩=some (.string (bsOf act.text))):=(by
        intro ob
        refine alloc_cell hbs hlt ((hbel.cell (p:=⟨g,o'+K*2,none⟩) hlt).trans (hpc _ _ ?_))
        have:=(cellsR_get (RSt.rule (some (k0,e)) act sc semi).body K (by rw[hbody];simp;omega)).1
        rw[this]
        simp only[hbody]
        rw[List.getElem_append_right (by simp;omega)]
        simp[hK]:∀ ob:Obj,(wr.alloc ob).cell? ⟨g,o'+K*2,none⟩=some (.string (bsOf act.text)))
       have HWH:Hid (Reads w (.slice (some ⟨g,o'+1*2,none⟩) (K-1) (cp-1)) e.toks.length (cellsR e.toks)):=(by
        have:=reads_mid (w:=w) (g:=g) (o:=o') (cap:=cp-1) [k0] e.toks (act :: optToks sc) (l:=(RSt.rule (some (k0,e)) act sc semi).body) (by simp[RSt.body_rule,whToks]) hlt (by omega) hpc
        rw[show K-1=e.toks.length by omega]
        exact this:Reads w _ _ _)
       have HPL:Hid (∀ x∈e.toks,plainE x.text):=e.plain (hsw.out.1 k0 e rfl).2
       have hslw:=fun wx=>sl_lh g o' nb cp 1 K 1 K rfl rfl (by omega) (by omega) (by omega) wx
       have hslk:=fun wx=>sl_l g o' nb cp K K rfl (by omega) (by omega) wx
       have hK2:2≤K:=by omega
       have HKE:Hid (K=e.toks.length+1):=hK
       have hrS:((bsOf cReject).toList==[114,101,106,101,99,116])=true:=by rw[bsOf_toList];decide
       have hKnb:K<nb:=by omega
       have HNK:Hid (nb=K+1+(optToks sc).length):=hnbK
       clear hK hbody hnbK
       cases sc with
       | none =>
        have hcA:=HCA.out
        rw[show act.text=cReject from hsw.out.2.1]at hcA
        have HCA2:Hid (∀ ob:Obj,(wr.alloc ob).cell? ⟨g,o'+K*2,none⟩=some (.string (bsOf cReject))):=hcA
        clear hpc hcA
        go_wp2
        go_loop [10] (fun x=>∃ k:Nat,1≤k∧k≤K∧x=.int .i64 k) (fun x=>K-(intOf x).toNat)
        case atStart=>exact ⟨1,by omega,by omega,rfl⟩
        case round =>
         obtain ⟨k,hk1,hk2,rfl⟩:=hrel
         by_cases hkK:k<K
         ·obtain ⟨d,hd⟩:∃ d,d=bsOf (e.toks[k-1]'(by have:=HKE.out;omega)).text:=⟨_,rfl⟩
          have cE:∀ ob:Obj,(wr.alloc ob).cell? ⟨g,o'+k*2,none⟩=some (.string d):=by
           intro ob
           have:=HCE.out (k-1) (by have:=HKE.out;omega) ob
           rw[← hd,show (k-1+1)=k by omega]at this
           exact this
          have hpl:=HPL.out (e.toks[k-1]'(by have:=HKE.out;omega)) (List.getElem_mem _)
          have d1:(d.toList==[115,99,111,114,101])=false:=by rw[hd,bsOf_toList];simpa[cScore] using hpl.2.2.2.1
          have d2:(d.toList==[114,101,106,101,99,116])=false:=by rw[hd,bsOf_toList];simpa[cReject] using hpl.2.2.2.2
          have hknb:k<nb:=by omega
          clear hd hpl
          go_wp2
          go_round
          case rel=>exact ⟨k+1,by omega,by omega,by go_num⟩
          case measure=>simp[intOf];omega
         ·have hkK':K=k:=by omega
          subst hkK'
          have hcA:=HCA2.out
          go_wp2_with (at_builtin;refine wpList_append_lies _ rfl _ _ 39 rfl w.heap.size 75 i0 _ 4 88 Tryz.underlying39 hi hz0 hz1 hz2 rfl (by omega) u5 rs.length (cellsS rs) rfl ((hOR.alloc _).alloc _) ⟨wr.heap.size+1,0,none⟩ 1 1 [.string ⟨#[]⟩,.slice none 0 0,.slice (some ⟨g,o'+1*2,none⟩) (K-1) (cp-1),.slice none 0 0] rfl rfl (news4 wr _ _ _ _ _ _) (by simp[Value.oneCell']) (by omega) (by unfold maxLen;omega) (by omega) (by simp;omega) (wr.heap.size+2) (by simp) ?_;intro gg cap w1 hown1 hgrow hat hlt4)
          go_roundw
          case rel=>exact ⟨I+1,I+1,done++[_],todo,0,ls,rs++[⟨[],.slice none 0 0,.slice (some ⟨g,o'+1*2,none⟩) (K-1) (cp-1),.slice none 0 0⟩],by go_num,by go_num,by omega,by omega,st_rule HS.out HJ.out rfl ⟨[],.slice none 0 0,.slice (some ⟨g,o'+1*2,none⟩) (K-1) (cp-1),.slice none 0 0⟩ ⟨rfl,rfl,HWH.out,rfl⟩ ⟨inb0 _,inb1 _ _ _ _,inb0 _⟩ hown1 hgrow hat⟩
          case measure=>simp[intOf];omega
       | some e2 =>
        have hep2:=e2.toks_pos
        have hnk2:nb=K+1+e2.toks.length:=HNK.out
        have hsl2:=fun wx=>sl_l g (o'+K*2) (nb-K) (cp-K) 1 1 rfl (by omega) (by omega) wx
        have HSC:Hid (Reads w (.slice (some ⟨g,o'+K*2+1*2,none⟩) (nb-K-1) (cp-K-1)) e2.toks.length (cellsR e2.toks)):=(by
         have:=reads_mid (w:=w) (g:=g) (o:=o') (cap:=cp-K-1) (k0 :: e.toks++[act]) e2.toks [] (l:=(RSt.rule (some (k0,e)) act (some e2) semi).body) (by simp[RSt.body_rule,whToks,optToks]) hlt (by omega) hpc
         rw[show nb-K-1=e2.toks.length by omega,show o'+K*2+1*2=o'+(k0 :: e.toks++[act]).length*2 by simp;have:=HKE.out;omega]
         exact this:Reads w _ _ _)
        clear hnk2
        have hcA:=HCA.out
        rw[show act.text=cScore from hsw.out.2.1]at hcA
        have HCA2:Hid (∀ ob:Obj,(wr.alloc ob).cell? ⟨g,o'+K*2,none⟩=some (.string (bsOf cScore))):=hcA
        clear hpc hcA
        go_wp2
        go_loop [10] (fun x=>∃ k:Nat,1≤k∧k≤K∧x=.int .i64 k) (fun x=>K-(intOf x).toNat)
        case atStart=>exact ⟨1,by omega,by omega,rfl⟩
        case round =>
         obtain ⟨k,hk1,hk2,rfl⟩:=hrel
         by_cases hkK:k<K
         ·obtain ⟨d,hd⟩:∃ d,d=bsOf (e.toks[k-1]'(by have:=HKE.out;omega)).text:=⟨_,rfl⟩
          have cE:∀ ob:Obj,(wr.alloc ob).cell? ⟨g,o'+k*2,none⟩=some (.string d):=by
           intro ob
           have:=HCE.out (k-1) (by have:=HKE.out;omega) ob
           rw[← hd,show (k-1+1)=k by omega]at this
           exact this
          have hpl:=HPL.out (e.toks[k-1]'(by have:=HKE.out;omega)) (List.getElem_mem _)
          have d1:(d.toList==[115,99,111,114,101])=false:=by rw[hd,bsOf_toList];simpa[cScore] using hpl.2.2.2.1
          have d2:(d.toList==[114,101,106,101,99,116])=false:=by rw[hd,bsOf_toList];simpa[cReject] using hpl.2.2.2.2
          have hknb:k<nb:=by omega
          clear hd hpl
          go_wp2
          go_round
          case rel=>exact ⟨k+1,by omega,by omega,by go_num⟩
          case measure=>simp[intOf];omega
         ·have hkK':K=k:=by omega
          subst hkK'
          have hcA:=HCA2.out
          go_wp2_with (at_builtin;refine wpList_append_lies _ rfl _ _ 39 rfl w.heap.size 75 i0 _ 4 88 Tryz.underlying39 hi hz0 hz1 hz2 rfl (by omega) u5 rs.length (cellsS rs) rfl ((hOR.alloc _).alloc _) ⟨wr.heap.size+1,0,none⟩ 1 1 [.string ⟨#[]⟩,.slice none 0 0,.slice (some ⟨g,o'+1*2,none⟩) (K-1) (cp-1),.slice (some ⟨g,o'+K*2+1*2,none⟩) (nb-K-1) (cp-K-1)] rfl rfl (news4 wr _ _ _ _ _ _) (by simp[Value.oneCell']) (by omega) (by unfold maxLen;omega) (by omega) (by simp;omega) (wr.heap.size+2) (by simp) ?_;intro gg cap w1 hown1 hgrow hat hlt4)
          go_roundw
          case rel=>exact ⟨I+1,I+1,done++[_],todo,0,ls,rs++[⟨[],.slice none 0 0,.slice (some ⟨g,o'+1*2,none⟩) (K-1) (cp-1),.slice (some ⟨g,o'+K*2+1*2,none⟩) (nb-K-1) (cp-K-1)⟩],by go_num,by go_num,by omega,by omega,st_rule HS.out HJ.out rfl ⟨[],.slice none 0 0,.slice (some ⟨g,o'+1*2,none⟩) (K-1) (cp-1),.slice (some ⟨g,o'+K*2+1*2,none⟩) (nb-K-1) (cp-K-1)⟩ ⟨rfl,rfl,HWH.out,HSC.out⟩ ⟨inb0 _,inb1 _ _ _ _,inb1 _ _ _ _⟩ hown1 hgrow hat⟩
          case measure=>simp[intOf];omega
  ·have hD:done=sts:=by
    have h1:=HS.out.split
    cases todo with
    | nil=>simpa using h1.symm
    | cons s todo =>
     exfalso
     have h2:=HS.out.hA
     have h3:=HS.out.hI
     have h4:=HS.out.some' s todo rfl
     have h5:=HNN.out
     rw[h1,toksL_append,toksL_cons,List.length_append,List.length_append,s.toks_length]at h5
     omega
   go_wp2
   go_ret2
   exact ⟨ls,rs,_,_,rfl,HS.out.ownL,HS.out.ownR,hD ▸ HS.out.allL,hD ▸ HS.out.allR,HS.out.below,HS.out.blk⟩
theorem Statements_any(sts:List RSt)(hw:∀ s∈sts,s.wf)(v:Value)(w:World)(hpos:0<(toksL sts).length)(hl4:(toksL sts).length≤400)(hv:Reads w v (toksL sts).length (cellsR (toksL sts))) :
  Calls Tryz.prog 28 #[v] w fun e w'=>∃ ls rs lv rv,e=.returned (.tuple #[lv,rv])∧w'.ownsRow w.heap.size 75 4 lv ls.length (cellsS ls)∧w'.ownsRow w.heap.size 75 4 rv rs.length (cellsS rs) ∧
   All2 (StmOk w) ls (sts.filter RSt.isLet)∧All2 (StmOk w) rs (sts.filter (fun s=>!s.isLet))∧Below w.heap.size w w':=by
 obtain ⟨g,o,cap,rfl,hncap,hlt,hc⟩:=hv.pos hpos
 refine (Statements_blk sts hw g o cap w hpos hl4 hv).mono ?_
 rintro e w' ⟨ls,rs,lv,rv,h1,h2,h3,h4,h5,h6,_⟩
 exact ⟨ls,rs,lv,rv,h1,h2,h3,h4,h5,h6⟩
end Go.Proofs.YtgfnkeiigjholaaGreatDoor
