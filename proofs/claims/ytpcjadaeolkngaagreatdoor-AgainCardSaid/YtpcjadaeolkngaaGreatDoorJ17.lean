/-
  The program's check: the parts of a policy.
-/
import Derived.Test.YtpcjadaeolkngaaGreatDoorJ16
import Derived.Deep.RegionWith
set_option linter.unusedVariables false
set_option linter.unusedSimpArgs false
namespace Go.Proofs.YtpcjadaeolkngaaGreatDoor
open Go.RowKit Go.Deep
structure PtU(w wr:World)(kb:Nat)(nv lv rv:Value)(sz:List Nat)(N:List PNode)(ls:List PLet)(rs:List PRule):Prop where
 c:Chk1 w wr nv lv rv N ls rs
 p:PtAt wr kb nv lv rv sz N ls rs
 hk:w.heap.size<kb
theorem PtU.below{w wr w':World}{kb:Nat}{nv lv rv:Value}{sz:List Nat}{N:List PNode}{ls:List PLet}{rs:List PRule}(h:PtU w wr kb nv lv rv sz N ls rs)(hb:Below wr.heap.size wr w'):PtU w w' kb nv lv rv sz N ls rs:=⟨h.c.below hb,h.p.below hb,h.hk⟩
theorem PtU.drew{w wr:World}{kb:Nat}{nv lv rv:Value}{sz:List Nat}{N:List PNode}{ls:List PLet}{rs:List PRule}(h:PtU w wr kb nv lv rv sz N ls rs):PtU w wr.drew kb nv lv rv sz N ls rs:=h.below (below_drewN (Below.refl _ wr) 1)
theorem ptu_start{w:World}{nv lv rv:Value}{N:List PNode}{ls:List PLet}{rs:List PRule}(h:PolAt w nv lv rv N ls rs):PtU w ((w.alloc (.cells #[nv,lv,rv] 73)).alloc (.cells (zeroK ls.length) 3)) (w.heap.size+1) nv lv rv [] N ls rs:=by
 have hb:Below w.heap.size w ((w.alloc (.cells #[nv,lv,rv] 73)).alloc (.cells (zeroK ls.length) 3)):=(new_below w _).alloc (by simp) _
 refine ⟨⟨(Blk.new w _ _).alloc _,h.below hb,hb⟩,⟨?_,h.below hb,Nat.zero_le _,fun s hs=>by cases hs⟩,by omega⟩
 have:=Blk.new (w.alloc (.cells #[nv,lv,rv] 73)) (zeroK ls.length) 3
 have e:(w.alloc (.cells #[nv,lv,rv] 73)).heap.size=w.heap.size+1:=by simp
 rw[e]at this
 exact this
theorem apart_start1{w:World}{nv lv rv:Value}{N:List PNode}{ls:List PLet}{rs:List PRule}(h:PolAt w nv lv rv N ls rs):Apart2 (w.heap.size+1) (w.heap.size+1) nv lv rv:=by
 have:=apart_start h
 exact ⟨⟨this.n.2,this.n.2⟩,⟨this.l.2,this.l.2⟩,⟨this.r.2,this.r.2⟩⟩
theorem PtU.put{w wr:World}{kb:Nat}{nv lv rv:Value}{sz:List Nat}{N:List PNode}{ls:List PLet}{rs:List PRule}(h:PtU w wr kb nv lv rv sz N ls rs)(ha:Apart2 kb kb nv lv rv)(hl:sz.length<ls.length)(k:Nat)(hkb:k≤150*(sz.length+1)+1):PtU w (wr.setCell ⟨kb,sz.length,none⟩ (.int .i64 k)) kb nv lv rv (sz++[k]) N ls rs:=by
 have hk:=h.hk
 have hp:PolAt (wr.setCell ⟨kb,sz.length,none⟩ (.int .i64 k)) nv lv rv N ls rs:=h.p.pa.set1 ha _ _
 refine ⟨⟨h.c.bp.other _ _ (by simp only;omega),hp,h.c.bl.setCell (p:=⟨kb,sz.length,none⟩) (by simp only;omega) _⟩,⟨?_,hp,by simp;omega, ?_⟩,hk⟩
 ·have:=h.p.row.set sz.length (.int .i64 k)
  have e:(cellsK (padK sz ls.length)).toArray.setIfInBounds sz.length (.int .i64 k)=(cellsK (padK (sz++[k]) ls.length)).toArray:=by
   rw[← padK_set sz ls.length k hl,List.setIfInBounds_toArray,cellsK,cellsK,List.map_set]
  rw[e]at this
  exact this
 ·intro s hs
  simp only[List.mem_append,List.mem_singleton,List.length_append,List.length_singleton]at hs ⊢
  rcases hs with hs | rfl
  ·have:=h.p.bd s hs;omega
  ·exact hkb
theorem PtAt.rowc{w:World}{kb:Nat}{nv lv rv:Value}{sz:List Nat}{N:List PNode}{ls:List PLet}{rs:List PRule}(h:PtAt w kb nv lv rv sz N ls rs){i:Nat}(hi:i<ls.length):∃ x:Int,w.cell? ⟨kb,i,none⟩=some (.int .i64 x)∧w.frozen? ⟨kb,i,none⟩=false:=by
 have hl:=padK_len sz ls.length h.le
 refine ⟨((padK sz ls.length)[i]'(by omega):Nat), ?_,h.row.free i⟩
 rw[h.row.cell]
 simp[cellsK,hl,hi]
theorem PtU.let3{w wr:World}{kb:Nat}{nv rv:Value}{la:Option Addr}{lc:Nat}{sz:List Nat}{N:List PNode}{ls:List PLet}{rs:List PRule}(h:PtU w wr kb nv (.slice la ls.length lc) rv sz N ls rs){i:Nat}(hi:i<ls.length){pl:PLet}(hp:ls[i]=pl):∃ g o,la=some ⟨g,o,none⟩∧g<wr.heap.size∧ls.length≤lc ∧
  wr.cell? ⟨g,o+i*6+3,none⟩=some (.int .i64 pl.val.place)∧wr.cell? ⟨g,o+i*6+4,none⟩=some (.int .i64 pl.val.fr)∧wr.cell? ⟨g,o+i*6+5,none⟩=some (.int .i64 pl.val.behind):=by
 subst hp
 obtain ⟨g,o,h1,h2,h3,_,_,_,h4,h5,h6⟩:=h.c.let6 hi
 exact ⟨g,o,h1,h2,h3,h4,h5,h6⟩
set_option maxHeartbeats 8000000 in
set_option maxRecDepth 100000 in
theorem parts_any(nv lv rv:Value)(N:List PNode)(ls:List PLet)(rs:List PRule)(w:World)(h:PolAt w nv lv rv N ls rs)(hx:ExpsOk N ls rs) :
  Calls Tryz.prog 73 #[polA nv lv rv] w fun e' w'=>e'=.returned (.int .i64 (pParts N ls rs:Nat))∧Below w.heap.size w w':=by
 obtain ⟨na,nc,rfl⟩:=h.n.shape
 obtain ⟨la,lc,rfl⟩:=h.l.shape
 obtain ⟨ra,rc,rfl⟩:=h.r.shape
 obtain ⟨i0,hin,hz0,hz1,hz2⟩:=info_parts Tryz.infoInt3
 have hnb:=h.nb
 have hlb:=h.lb
 have hrb:=h.rb
 have hmk:∀ wx:World,(Instr.makeSlice 120 (.int .i64 ls.length) (.int .i64 ls.length)).run Tryz.prog wx=.ok (.slice (some ⟨wx.heap.size,0,none⟩) ls.length ls.length) (wx.alloc (.cells (zeroK ls.length) 3)):=by
  intro wx
  have:=run_make (P:=Tryz.prog) wx 120 3 i0 _ Tryz.underlying120 hin hz0 .i64 .i64 ls.length ls.length (by omega) (by omega) (by rw[hz2];omega) (by omega)
  rw[this,hz1,Int.toNat_natCast,made_zero2]
 have HK:=hideP (ptu_start h)
 have HA:=hideP (apart_start1 h)
 have HX:=hideP hx
 clear h hx
 unfold polA
 go_enter Tryz.func73,Tryz.ntmps73
 go_wp2
 generalize ((w.alloc (.cells #[.slice na N.length nc,.slice la ls.length lc,.slice ra rs.length rc] 73)).alloc (.cells (zeroK ls.length) 3))=w1 at HK ⊢
 generalize w.heap.size+1=kb at HK HA ⊢
 go_loopw [4] (fun vi wr=>∃ (i:Nat) (sz:List Nat),i≤ls.length∧sz.length=i∧vi=.int .i64 i∧PtU w wr kb (.slice na N.length nc) (.slice la ls.length lc) (.slice ra rs.length rc) sz N ls rs∧sizesL ls N [] ls=sizesL ls N sz (ls.drop i)) (fun i _=>1000-(intOf i).toNat)
 case atStart=>exact ⟨0,[],Nat.zero_le _,rfl,rfl,HK.out,rfl⟩
 case round =>
  obtain ⟨i,sz,hi,hsl,rfl,hk,hgo⟩:=hrel
  clear HK
  have HK:=hideP hk
  have HGO:=hideP hgo
  have HSL:=hideP hsl
  have hB:=hk.c.bp.lt
  have p0:=hk.c.bp.cell 0
  have p1:=hk.c.bp.cell 1
  have p2:=hk.c.bp.cell 2
  simp only[List.getElem?_toArray,List.getElem?_cons_zero,List.getElem?_cons_succ]at p0 p1 p2
  clear hgo
  by_cases hlt:i<ls.length
  ·have hdrop:=List.drop_eq_getElem_cons hlt
   obtain ⟨pl,hpl⟩:∃ pl,ls[i]=pl:=⟨_,rfl⟩
   obtain ⟨g,o,rfl,hg,hcap,d3,d4,d5⟩:=hk.let3 hlt hpl
   have hg2:=HGO.out
   rw[hdrop,hpl]at hg2
   have HG2:Hid (sizesL ls N [] ls=sizesL ls N (sz++[countGo ls sz 0 (segE N pl.val)]) (ls.drop (i+1))):=hg2
   have hex:=HX.out.l ls[i] (List.getElem_mem hlt)
   rw[hpl]at hex
   have HEX:=hideP hex
   have hcb:=countGo_le (ls:=ls) hk.p.bd (by omega) (segE N pl.val) 0 (by omega)
   rw[hsl]at hcb
   obtain ⟨cn,hcn⟩:∃ cn,countGo ls sz 0 (segE N pl.val)=cn:=⟨_,rfl⟩
   have HCN:=hideP hcn
   rw[hcn]at hcb HG2
   have HPL:=hideP hpl
   have hkl:=hk.p.row.lt
   obtain ⟨x0,r0,r1⟩:=hk.p.rowc hlt
   clear hdrop hpl hex hg2 hcn hk HGO hsl
   go_wp2
   go_region_with ((go_at_call 109;refine (partsOf_any HK.out.drew.p pl.val HEX.out).mono ?_;rintro e' w5 ⟨rfl,hb5⟩;rw[HCN.out];have HK5:=hideP (HK.out.drew.below hb5);clear hb5;obtain ⟨x5,z0,z1⟩:=HK5.out.p.rowc hlt;have hkl5:=HK5.out.p.row.lt))
   all_goals
    have hfin:=HK5.out.put HA.out (by rw[HSL.out];exact hlt) cn (by rw[HSL.out];omega)
    rw[HSL.out]at hfin
    have HKF:=hideP hfin
    clear hfin
    go_wp2
    go_roundw
    case rel=>exact ⟨i+1,sz++[cn],by omega,by simp[HSL.out],by go_num,HKF.out,HG2.out⟩
    case measure=>simp[intOf];omega
  ·have HSZ:Hid (sizesL ls N [] ls=sz):=by rw[Hid,HGO.out,List.drop_eq_nil_of_le (by omega)];rfl
   have hbd:∀ s∈sz,s≤60151:=fun s hs=>by have:=hk.p.bd s hs;omega
   have HBD:=hideP hbd
   clear HGO hk hsl HSL hbd
   go_wp2
   go_loopw [5,6] (fun va vi wr=>∃ (a j:Nat),j≤rs.length∧a≤j*200000∧va=.int .i64 a∧vi=.int .i64 j∧PtU w wr kb (.slice na N.length nc) (.slice la ls.length lc) (.slice ra rs.length rc) sz N ls rs∧partsR ls N sz 0 rs=partsR ls N sz a (rs.drop j)) (fun _ i _=>1000-(intOf i).toNat)
   case atStart=>exact ⟨0,0,Nat.zero_le _,by omega,rfl,rfl,HK.out,rfl⟩
   case round =>
    obtain ⟨a,j,hj,hab,rfl,rfl,hk,hgo⟩:=hrel
    clear HK
    have HK:=hideP hk
    have HGO:=hideP hgo
    have hB:=hk.c.bp.lt
    have p0:=hk.c.bp.cell 0
    have p1:=hk.c.bp.cell 1
    have p2:=hk.c.bp.cell 2
    simp only[List.getElem?_toArray,List.getElem?_cons_zero,List.getElem?_cons_succ]at p0 p1 p2
    clear hgo
    by_cases hlt:j<rs.length
    ·have hdrop:=List.drop_eq_getElem_cons hlt
     obtain ⟨pr,hpr⟩:∃ pr,rs[j]=pr:=⟨_,rfl⟩
     obtain ⟨g,o,rfl,hg,hcap,d0,d1,d2,d3,d4,d5,d6,d7⟩:=hk.c.rule8p hlt hpr
     have hg2:=HGO.out
     rw[hdrop,hpr]at hg2
     have HG2:Hid (partsR ls N sz 0 rs=partsR ls N sz (a+countGo ls sz 0 (segE N pr.when)+countGo ls sz 0 (segE N pr.score)) (rs.drop (j+1))):=hg2
     have hew:=HX.out.w rs[j] (List.getElem_mem hlt)
     have hes:=HX.out.s rs[j] (List.getElem_mem hlt)
     rw[hpr]at hew hes
     have HEW:=hideP hew
     have HES:=hideP hes
     have hb1:=countGo_le (ls:=ls) HBD.out (by omega) (segE N pr.when) 0 (by omega)
     have hb2:=countGo_le (ls:=ls) HBD.out (by omega) (segE N pr.score) 0 (by omega)
     obtain ⟨c1,hc1⟩:∃ c1,countGo ls sz 0 (segE N pr.when)=c1:=⟨_,rfl⟩
     obtain ⟨c2,hc2⟩:∃ c2,countGo ls sz 0 (segE N pr.score)=c2:=⟨_,rfl⟩
     have HC1:=hideP hc1
     have HC2:=hideP hc2
     rw[hc1]at hb1 HG2
     rw[hc2]at hb2 HG2
     have HPR:=hideP hpr
     have hw1:IntKind.i64.wrap ((a:Int)+(c1:Int))=((a+c1:Nat):Int):=by rw[IntWalk.i64_in _ ⟨by omega,by omega⟩];rfl
     have hw2:IntKind.i64.wrap (((a+c1:Nat):Int)+(c2:Int))=((a+c1+c2:Nat):Int):=by rw[IntWalk.i64_in _ ⟨by omega,by omega⟩];rfl
     have HW1:=hideP hw1
     have HW2:=hideP hw2
     clear hdrop hpr hew hes hg2 hc1 hc2 hk HGO hw1 hw2
     go_wp2
     go_region_held3 (fun w'=>w'.cell? ⟨w.heap.size,0,none⟩=some (.slice na N.length nc)∧w'.cell? ⟨w.heap.size,1,none⟩=some (.slice la ls.length lc)∧w'.cell? ⟨w.heap.size,2,none⟩=some (.slice (some ⟨g,o,none⟩) rs.length rc)∧w'.cell? ⟨g,o+j*8+1,none⟩=some (.int .i64 pr.when.place)∧w'.cell? ⟨g,o+j*8+2,none⟩=some (.int .i64 pr.when.fr)∧w'.cell? ⟨g,o+j*8+3,none⟩=some (.int .i64 pr.when.behind)) (go_keep) ((go_at_call 109;refine (partsOf_any HK.out.drew.p pr.when HEW.out).mono ?_;rintro e' w5 ⟨rfl,hb5⟩;rw[HC1.out];replace HK:=hideP (HK.out.drew.below hb5);clear hb5;have p0':=HK.out.c.bp.cell 0;have p1':=HK.out.c.bp.cell 1;have p2':=HK.out.c.bp.cell 2;obtain ⟨g',o',he',hg',_,c0,c1',c2',c3,c4,c5,c6,c7⟩:=HK.out.c.rule8p hlt HPR.out;cases he'))
     try rw[HW1.out]
     go_wp2
     go_region_held3 (fun w'=>w'.cell? ⟨w.heap.size,0,none⟩=some (.slice na N.length nc)∧w'.cell? ⟨w.heap.size,1,none⟩=some (.slice la ls.length lc)∧w'.cell? ⟨w.heap.size,2,none⟩=some (.slice (some ⟨g,o,none⟩) rs.length rc)∧w'.cell? ⟨g,o+j*8+5,none⟩=some (.int .i64 pr.score.place)∧w'.cell? ⟨g,o+j*8+6,none⟩=some (.int .i64 pr.score.fr)∧w'.cell? ⟨g,o+j*8+7,none⟩=some (.int .i64 pr.score.behind)) (go_keep) ((go_at_call 109;refine (partsOf_any HK.out.drew.p pr.score HES.out).mono ?_;rintro e' w6 ⟨rfl,hb6⟩;rw[HC2.out];replace HK:=hideP (HK.out.drew.below hb6);clear hb6;have p0'':=HK.out.c.bp.cell 0;have p1'':=HK.out.c.bp.cell 1;have p2'':=HK.out.c.bp.cell 2;obtain ⟨g'',o'',he'',hg'',_,e0,e1',e2',e3,e4,e5,e6,e7⟩:=HK.out.c.rule8p hlt HPR.out;cases he''))
     try rw[HW2.out]
     go_wp2
     go_roundw
     case rel=>exact ⟨a+c1+c2,j+1,by omega,by omega,sum_wrap (a+c1) c2 (by omega),by go_num,HK.out,HG2.out⟩
     case measure=>simp[intOf];omega
    ·have HRES:Hid (pParts N ls rs=a):=by rw[Hid,pParts,HSZ.out,HGO.out,List.drop_eq_nil_of_le (by omega)];rfl
     clear HGO hk
     go_wp2
     go_ret
     exact ⟨ret_int (by rw[HRES.out]),HK.out.c.bl⟩
theorem flat_ok(t:Tr)(hw:t.wf):∀ b,∀ n∈t.flat b,n.tok∈t.toks∧n.left≤b+t.num∧n.right≤b+t.num:=by
 refine Tr.ind (P:=fun t=>∀ b,∀ n∈t.flat b,n.tok∈t.toks∧n.left≤b+t.num∧n.right≤b+t.num) t hw ?_ ?_ ?_ ?_
 ·intro a _ b n hn
  rw[Tr.flat_leaf,List.mem_singleton]at hn
  subst hn
  exact ⟨by rw[Tr.toks_leaf];simp,Nat.zero_le _,Nat.zero_le _⟩
 ·intro op e _ ih b n hn
  rw[Tr.flat_un,List.mem_append,List.mem_singleton]at hn
  rw[Tr.toks_un,Tr.num_un]
  rcases hn with hn | rfl
  ·obtain ⟨h1,h2,h3⟩:=ih b n hn
   exact ⟨by simp[h1],by omega,by omega⟩
  ·exact ⟨by simp,by simp only;omega,Nat.zero_le _⟩
 ·intro op l r _ ih1 ih2 b n hn
  rw[Tr.flat_bin,List.mem_append,List.mem_append,List.mem_singleton]at hn
  rw[Tr.toks_bin,Tr.num_bin]
  rcases hn with (hn | hn) | rfl
  ·obtain ⟨h1,h2,h3⟩:=ih1 b n hn
   exact ⟨by simp[h1],by omega,by omega⟩
  ·obtain ⟨h1,h2,h3⟩:=ih2 _ n hn
   exact ⟨by simp[h1],by omega,by omega⟩
  ·exact ⟨by simp,by simp only;omega,by simp only;omega⟩
 ·intro o e c _ ih b n hn
  rw[Tr.flat_par]at hn
  rw[Tr.toks_par,Tr.num_par]
  obtain ⟨h1,h2,h3⟩:=ih b n hn
  exact ⟨by simp[h1],h2,h3⟩
theorem opt_ok(o:Option Tr)(hw:∀ e,o=some e→e.wf)(b:Nat):∀ n∈optNodes b o,n.tok∈optToks o∧n.left≤b+optNum o∧n.right≤b+optNum o:=by
 cases o with
 | none=>intro n hn;cases hn
 | some e=>exact flat_ok e (hw e rfl) b
theorem wh_wf{wh:Option (RTok×Tr)}(h:∀ k e,wh=some (k,e)→k.text=cWhen∧e.wf):∀ e,wh.map Prod.snd=some e→e.wf:=by
 intro e he
 cases wh with
 | none=>cases he
 | some p =>
  obtain ⟨k,e'⟩:=p
  cases he
  exact (h k _ rfl).2
theorem wh_toks(wh:Option (RTok×Tr)):∀ x∈optToks (wh.map Prod.snd),x∈whToks wh:=by
 intro x hx
 cases wh with
 | none=>cases hx
 | some p =>
  obtain ⟨k,e⟩:=p
  exact List.mem_cons_of_mem _ hx
theorem nodes_ok:∀ (l:List RSt),(∀ s∈l,s.wf)→∀ b,∀ n∈nodesS b l,n.tok∈toksL l∧n.left≤b+numS l∧n.right≤b+numS l
 | [],_,b,n,hn=>by cases hn
 | s :: r,hw,b,n,hn=>by
  rw[nodesS,List.mem_append]at hn
  rw[toksL_cons,numS]
  rcases hn with hn | hn
  ·have hws:=hw s List.mem_cons_self
   rcases s.cases with ⟨kw,name,eq,e,semi,rfl⟩ | ⟨wh,act,sc,semi,rfl⟩
   ·rw[RSt.nodes_let]at hn
    obtain ⟨h1,h2,h3⟩:=flat_ok e hws.2.2.2.1 b n hn
    rw[RSt.toks,RSt.body_let,RSt.num_let]
    exact ⟨by simp[h1],by omega,by omega⟩
   ·rw[RSt.nodes_rule,List.mem_append]at hn
    rw[RSt.toks,RSt.body_rule,RSt.num_rule]
    rcases hn with hn | hn
    ·obtain ⟨h1,h2,h3⟩:=opt_ok (wh.map Prod.snd) (wh_wf hws.1) b n hn
     have:=wh_toks wh _ h1
     exact ⟨by simp[this],by omega,by omega⟩
    ·obtain ⟨h1,h2,h3⟩:=opt_ok sc hws.2.2.1 _ n hn
     exact ⟨by simp[h1],by omega,by omega⟩
  ·obtain ⟨h1,h2,h3⟩:=nodes_ok r (fun x hx=>hw x (by simp[hx])) _ n hn
   exact ⟨by simp[h1],by omega,by omega⟩
theorem lets_ok:∀ (l:List RSt) (b:Nat),∀ p∈letsS b l,p.val.fr≤p.val.behind∧p.val.behind≤b+numS l
 | [],b,p,hp=>by cases hp
 | s :: r,b,p,hp=>by
  rw[letsS,List.mem_append]at hp
  rw[numS]
  rcases hp with hp | hp
  ·rcases s.cases with ⟨kw,name,eq,e,semi,rfl⟩ | ⟨wh,act,sc,semi,rfl⟩
   ·rw[RSt.lets_let,List.mem_singleton]at hp
    subst hp
    rw[RSt.num_let]
    exact ⟨by simp[layE],by simp only[layE];omega⟩
   ·cases hp
  ·have:=lets_ok r _ p hp
   omega
theorem optE_ok(o:Option Tr)(b:Nat):(optE b o).fr≤(optE b o).behind∧(optE b o).behind≤b+optNum o:=by
 cases o with
 | none=>exact ⟨Nat.le_refl _,Nat.zero_le _⟩
 | some e=>exact ⟨by simp[optE,layE],by simp[optE,layE,optNum]⟩
theorem rules_ok:∀ (l:List RSt) (b:Nat),∀ p∈rulesS b l,(p.when.fr≤p.when.behind∧p.when.behind≤b+numS l)∧(p.score.fr≤p.score.behind∧p.score.behind≤b+numS l)
 | [],b,p,hp=>by cases hp
 | s :: r,b,p,hp=>by
  rw[rulesS,List.mem_append]at hp
  rw[numS]
  rcases hp with hp | hp
  ·rcases s.cases with ⟨kw,name,eq,e,semi,rfl⟩ | ⟨wh,act,sc,semi,rfl⟩
   ·cases hp
   ·rw[RSt.rules_rule,List.mem_singleton]at hp
    subst hp
    rw[RSt.num_rule]
    have h1:=optE_ok (wh.map Prod.snd) b
    have h2:=optE_ok sc (b+optNum (wh.map Prod.snd))
    simp only
    omega
  ·have:=rules_ok r _ p hp
   omega
theorem fits_of{s:Txt}{L R:List RSt}(h:PolicyOf s L R)(hN:(nodesS 0 (L++R)).length≤401):Fits (nodesS 0 (L++R)) (letsS 0 (L++R)) (rulesS 0 (L++R)):=by
 have hn:=nodesS_len (L++R) h.wf 0
 have h1:letsS 0 (L++R)=letsS 0 L:=by rw[letsS_append,lets_none R h.rules,List.append_nil]
 have h2:rulesS 0 (L++R)=rulesS (numS L) R:=by rw[rulesS_append,rules_none L h.lets,List.nil_append,Nat.zero_add]
 have hc:=cons_lets L (fun x hx=>h.wf x (by simp[hx])) h.lets 0
 have hr:=cons_rules R (fun x hx=>h.wf x (by simp[hx])) h.rules (numS L)
 have ho:=nodes_ok (L++R) h.wf 0
 have hl:=lets_ok (L++R) 0
 have hu:=rules_ok (L++R) 0
 rw[Nat.zero_add,← hn]at hl hu
 refine ⟨⟨fun n hx=>h.may _ (ho n hx).1,fun p hp=>⟨(hl p hp).1,(hl p hp).2⟩,fun p hp=>⟨(hu p hp).1.1,(hu p hp).1.2⟩,fun p hp=>⟨(hu p hp).2.1,(hu p hp).2.2⟩⟩, ?_, ?_,fun n hx=>?_⟩
 ·rw[h1];exact hc.1
 ·rw[h1,h2,hc.2,Nat.zero_add];exact hr
 ·have:=ho n hx
  omega
def errsOf(N:List PNode)(ls:List PLet)(rs:List PRule):Nat×Nat:=match pNames N ls rs with
 | some p=>(4,p)
 | none=>match pKinds N ls rs with
  | some p=>(5,p)
  | none=>if pParts N ls rs>150 then (6,0) else (0,0)
set_option maxHeartbeats 2000000 in
set_option maxRecDepth 100000 in
theorem Errors_any(nv lv rv:Value)(N:List PNode)(ls:List PLet)(rs:List PRule)(w:World)(h:PolAt w nv lv rv N ls rs)(hx:Fits N ls rs) :
  Calls Tryz.prog 46 #[polA nv lv rv] w fun e' w'=>e'=.returned (.tuple #[.int .i64 ((errsOf N ls rs).1:Nat),.int .i64 ((errsOf N ls rs).2:Nat)])∧Below w.heap.size w w':=by
 have HC:=hideP (chk1_start h)
 have HX:=hideP hx
 clear h hx
 unfold polA
 cases hn:pNames N ls rs with
 | some q =>
  have HE:Hid (errsOf N ls rs=(4,q)):=by rw[Hid,errsOf,hn]
  have HN:=hideP hn
  clear hn
  rw[HE.out]
  go_enter Tryz.func46,Tryz.ntmps46
  go_wp2_with (go_at_call 71;refine (names_any _ _ _ N ls rs _ HC.out.pa HX.out.x).mono ?_;rintro e' w1 ⟨rfl,hb1⟩;rw[HN.out];simp only[resN];have HC1:=hideP (HC.out.below hb1);clear hb1)
  go_ret2
  exact ⟨rfl,HC1.out.bl⟩
 | none =>
  have HN:=hideP hn
  cases hk:pKinds N ls rs with
  | some q =>
   have HE:Hid (errsOf N ls rs=(5,q)):=by rw[Hid,errsOf,hn,hk]
   have HKI:=hideP hk
   clear hn hk
   rw[HE.out]
   go_enter Tryz.func46,Tryz.ntmps46
   go_wp2_with (first | (go_at_call 71;refine (names_any _ _ _ N ls rs _ HC.out.pa HX.out.x).mono ?_;rintro e' w1 ⟨rfl,hb1⟩;rw[HN.out];simp only[resN];have HC1:=hideP (HC.out.below hb1);clear hb1;have p0:=HC1.out.bp.cell 0;have p1:=HC1.out.bp.cell 1;have p2:=HC1.out.bp.cell 2;have hB1:=HC1.out.bp.lt) | (go_at_call 72;refine (kinds_any _ _ _ N ls rs _ HC1.out.pa HX.out).mono ?_;rintro e' w2 ⟨rfl,hb2⟩;rw[HKI.out];simp only[resN];have HC2:=hideP (HC1.out.below hb2);clear hb2))
   go_ret2
   exact ⟨rfl,HC2.out.bl⟩
  | none =>
   have HKI:=hideP hk
   by_cases hp:pParts N ls rs>150
   ·have HE:Hid (errsOf N ls rs=(6,0)):=by rw[Hid,errsOf,hn,hk];simp only[if_pos hp]
    obtain ⟨pn,hpn⟩:∃ pn,pParts N ls rs=pn:=⟨_,rfl⟩
    have HPN:=hideP hpn
    rw[hpn]at hp
    have hp':decide ((pn:Int)>150)=true:=by simp;omega
    clear hn hk hpn
    rw[HE.out]
    go_enter Tryz.func46,Tryz.ntmps46
    go_wp2_with (first | (go_at_call 71;refine (names_any _ _ _ N ls rs _ HC.out.pa HX.out.x).mono ?_;rintro e' w1 ⟨rfl,hb1⟩;rw[HN.out];simp only[resN];have HC1:=hideP (HC.out.below hb1);clear hb1;have p0:=HC1.out.bp.cell 0;have p1:=HC1.out.bp.cell 1;have p2:=HC1.out.bp.cell 2;have hB1:=HC1.out.bp.lt) | (go_at_call 72;refine (kinds_any _ _ _ N ls rs _ HC1.out.pa HX.out).mono ?_;rintro e' w2 ⟨rfl,hb2⟩;rw[HKI.out];simp only[resN];have HC2:=hideP (HC1.out.below hb2);clear hb2;have q0:=HC2.out.bp.cell 0;have q1:=HC2.out.bp.cell 1;have q2:=HC2.out.bp.cell 2;have hB2:=HC2.out.bp.lt) | (go_at_call 73;refine (parts_any _ _ _ N ls rs _ HC2.out.pa HX.out.x).mono ?_;rintro e' w3 ⟨rfl,hb3⟩;rw[HPN.out];have HC3:=hideP (HC2.out.below hb3);clear hb3))
    go_ret2
    exact ⟨rfl,HC3.out.bl⟩
   ·have HE:Hid (errsOf N ls rs=(0,0)):=by rw[Hid,errsOf,hn,hk];simp only[if_neg hp]
    obtain ⟨pn,hpn⟩:∃ pn,pParts N ls rs=pn:=⟨_,rfl⟩
    have HPN:=hideP hpn
    rw[hpn]at hp
    have hp':decide ((pn:Int)>150)=false:=by simp;omega
    clear hn hk hpn
    rw[HE.out]
    go_enter Tryz.func46,Tryz.ntmps46
    go_wp2_with (first | (go_at_call 71;refine (names_any _ _ _ N ls rs _ HC.out.pa HX.out.x).mono ?_;rintro e' w1 ⟨rfl,hb1⟩;rw[HN.out];simp only[resN];have HC1:=hideP (HC.out.below hb1);clear hb1;have p0:=HC1.out.bp.cell 0;have p1:=HC1.out.bp.cell 1;have p2:=HC1.out.bp.cell 2;have hB1:=HC1.out.bp.lt) | (go_at_call 72;refine (kinds_any _ _ _ N ls rs _ HC1.out.pa HX.out).mono ?_;rintro e' w2 ⟨rfl,hb2⟩;rw[HKI.out];simp only[resN];have HC2:=hideP (HC1.out.below hb2);clear hb2;have q0:=HC2.out.bp.cell 0;have q1:=HC2.out.bp.cell 1;have q2:=HC2.out.bp.cell 2;have hB2:=HC2.out.bp.lt) | (go_at_call 73;refine (parts_any _ _ _ N ls rs _ HC2.out.pa HX.out.x).mono ?_;rintro e' w3 ⟨rfl,hb3⟩;rw[HPN.out];have HC3:=hideP (HC2.out.below hb3);clear hb3))
    go_ret2
    exact ⟨rfl,HC3.out.bl⟩
def SoundAs(s:Txt)(c:Int)(p:Nat):Prop :=
 (tokened s=.bad c p∧c≠0)∨∃ (L R:List RSt) (n:Nat),PolicyOf s L R∧errsOf (nodesS 0 (L++R)) (letsS 0 (L++R)) (rulesS 0 (L++R))=(n,p)∧c=n
theorem Read_bad(s:ByteArray)(w:World)(hg:GlobT w)(hz:s.size≤maxLen){c:Int}{p:Nat}(h:tokened s.toList=.bad c p) :
  Calls Tryz.prog 22 #[.string s] w fun e w'=>Below w.heap.size w w'∧c≠0∧e=.returned (.tuple #[.agg #[nilS,nilS,nilS],.int .i64 c,.int .i64 (p:Nat)]):=by
 refine (Read_any s w hg hz).mono ?_
 rintro e w' ⟨hb,⟨c',p',ht,hc,rfl⟩ | ⟨L,R,nv,lv,rv,hp,_⟩⟩
 ·rw[h]at ht;cases ht;exact ⟨hb,hc,rfl⟩
 ·have:=hp.fine;rw[h]at this;cases this
theorem Read_fine(s:ByteArray)(w:World)(hg:GlobT w)(hz:s.size≤maxLen){l:List RTok}(h:tokened s.toList=.fine l) :
  Calls Tryz.prog 22 #[.string s] w fun e w'=>Below w.heap.size w w'∧∃ L R na nc la lc ra rc,PolicyOf s.toList L R∧e=.returned (.tuple #[.agg #[.slice na (nodesS 0 (L++R)).length nc,.slice la (letsS 0 (L++R)).length lc,.slice ra (rulesS 0 (L++R)).length rc],.int .i64 0,.int .i64 0])∧PolAt w' (.slice na (nodesS 0 (L++R)).length nc) (.slice la (letsS 0 (L++R)).length lc) (.slice ra (rulesS 0 (L++R)).length rc) (nodesS 0 (L++R)) (letsS 0 (L++R)) (rulesS 0 (L++R)):=by
 refine (Read_any s w hg hz).mono ?_
 rintro e w' ⟨hb,⟨c',p',ht,hc,rfl⟩ | ⟨L,R,nv,lv,rv,hp,rfl,hm⟩⟩
 ·rw[h]at ht;cases ht
 ·have hpa:=PolAt.of hm hp
  obtain ⟨na,nc,rfl⟩:=hpa.n.shape
  obtain ⟨la,lc,rfl⟩:=hpa.l.shape
  obtain ⟨ra,rc,rfl⟩:=hpa.r.shape
  exact ⟨hb,L,R,na,nc,la,lc,ra,rc,hp,rfl,hpa⟩
theorem errs_zero{N:List PNode}{ls:List PLet}{rs:List PRule}{p:Nat}(h:errsOf N ls rs=(0,p)):p=0:=by
 unfold errsOf at h
 split at h
 ·cases h
 ·split at h
  ·cases h
  ·split at h
   ·cases h
   ·cases h;rfl
theorem three_sets{w w1:World}(h:Below w.heap.size w w1)(a b c:Value):Below w.heap.size w (((w1.setCell ⟨w.heap.size,0,none⟩ a).setCell ⟨w.heap.size,1,none⟩ b).setCell ⟨w.heap.size,2,none⟩ c) :=
 ((h.setCell (p:=⟨w.heap.size,0,none⟩) (Nat.le_refl _) a).setCell (p:=⟨w.heap.size,1,none⟩) (Nat.le_refl _) b).setCell (p:=⟨w.heap.size,2,none⟩) (Nat.le_refl _) c
set_option maxHeartbeats 2000000 in
set_option maxRecDepth 100000 in
theorem readSound_any(s:ByteArray)(w:World)(hg:GlobT w)(hz:s.size≤maxLen) :
  Calls Tryz.prog 24 #[.string s] w fun e w'=>Below w.heap.size w w'∧∃ c p,SoundAs s.toList c p∧∃ a1 l1 c1 a2 l2 c2 a3 l3 c3,e=.returned (.tuple #[.agg #[.slice a1 l1 c1,.slice a2 l2 c2,.slice a3 l3 c3],.int .i64 c,.int .i64 (p:Nat)]):=by
 have hbz:=new_below w (.cells #[nilS,nilS,nilS] 73)
 have HG:=hideP (hg.below hbz)
 have HZ:=hideP (Blk.new w #[nilS,nilS,nilS] 73)
 have HBZ:=hideP hbz
 have HSZ:=hideP hz
 clear hg hbz hz
 cases htk:tokened s.toList with
 | error cp =>
  obtain ⟨c,p⟩:=cp
  have HTK:Hid (tokened s.toList=.bad c p):=htk
  clear htk
  go_enter Tryz.func24,Tryz.ntmps24
  go_wp2_with (go_at_call 22;refine (Read_bad s _ HG.out HSZ.out HTK.out).mono ?_;rintro e w1 ⟨hb1,hc,rfl⟩;have HZ1:=hideP (HZ.out.below hb1 HZ.out.lt);have HB1:=hideP hb1;have hz1:=HZ1.out.lt;have z0:=HZ1.out.cell 0;have z1:=HZ1.out.cell 1;have z2:=HZ1.out.cell 2;have f0:=HZ1.out.free 0;have f1:=HZ1.out.free 1;have f2:=HZ1.out.free 2;clear hb1)
  have hfb:=(((HZ1.out.set 0 (.slice none 0 0)).set 1 (.slice none 0 0)).set 2 (.slice none 0 0)).alloc (.cells #[.slice none 0 0,.slice none 0 0,.slice none 0 0] 73)
  have g0:=hfb.cell 0
  have g1:=hfb.cell 1
  have g2:=hfb.cell 2
  have hbl:=(three_sets (HBZ.out.trans (HB1.out.mono HBZ.out.size)) (.slice none 0 0) (.slice none 0 0) (.slice none 0 0)).trans ((new_below _ (.cells #[.slice none 0 0,.slice none 0 0,.slice none 0 0] 73)).mono (by simp;omega))
  exact bodyPost_ret (v:=.tuple #[.agg #[.slice none 0 0,.slice none 0 0,.slice none 0 0],.int .i64 c,.int .i64 p]) (by simp[results,Tryz.results24,go_sem,g0,g1,g2]) rfl ⟨hbl,c,p,Or.inl ⟨HTK.out,hc⟩,_,_,_,_,_,_,_,_,_,rfl⟩
 | ok l =>
  have HTK:Hid (tokened s.toList=.fine l):=htk
  clear htk
  go_enter Tryz.func24,Tryz.ntmps24
  go_wp2_with (first | (go_at_call 22;refine (Read_fine s _ HG.out HSZ.out HTK.out).mono ?_;rintro e w1 ⟨hb1,L,R,na,nc,la,lc,ra,rc,hp,rfl,hpa⟩;have HZ1:=hideP (HZ.out.below hb1 HZ.out.lt);have HB1:=hideP (HBZ.out.trans (hb1.mono HBZ.out.size));have hz1:=HZ1.out.lt;have HP:=hideP hp;have HPA:=hideP hpa;clear hb1 hp hpa) | (go_at_call 46;refine (Errors_any _ _ _ _ _ _ _ (HPA.out.below (new_below w1 _)) (fits_of HP.out HPA.out.nb)).mono ?_;rintro e w3 ⟨rfl,hb3⟩;obtain ⟨np,hnp⟩:∃ np,errsOf (nodesS 0 (L++R)) (letsS 0 (L++R)) (rulesS 0 (L++R))=np:=⟨_,rfl⟩;obtain ⟨n,p⟩:=np;rw[hnp];dsimp only;have HNP:=hideP hnp;have HZ3:=hideP ((HZ1.out.alloc (.cells #[.slice na (nodesS 0 (L++R)).length nc,.slice la (letsS 0 (L++R)).length lc,.slice ra (rulesS 0 (L++R)).length rc] 73)).below hb3 (HZ1.out.alloc (.cells #[.slice na (nodesS 0 (L++R)).length nc,.slice la (letsS 0 (L++R)).length lc,.slice ra (rulesS 0 (L++R)).length rc] 73)).lt);have HV3:=hideP ((Blk.new w1 #[.slice na (nodesS 0 (L++R)).length nc,.slice la (letsS 0 (L++R)).length lc,.slice ra (rulesS 0 (L++R)).length rc] 73).below hb3 (Blk.new w1 #[.slice na (nodesS 0 (L++R)).length nc,.slice la (letsS 0 (L++R)).length lc,.slice ra (rulesS 0 (L++R)).length rc] 73).lt);have HB3:=hideP ((HB1.out.trans ((new_below w1 (.cells #[.slice na (nodesS 0 (L++R)).length nc,.slice la (letsS 0 (L++R)).length lc,.slice ra (rulesS 0 (L++R)).length rc] 73)).mono HB1.out.size)).trans (hb3.mono (by simp;omega)));have hz3:=HZ3.out.lt;have hv3:=HV3.out.lt;have z0:=HZ3.out.cell 0;have z1:=HZ3.out.cell 1;have z2:=HZ3.out.cell 2;have f0:=HZ3.out.free 0;have f1:=HZ3.out.free 1;have f2:=HZ3.out.free 2;have v0:=HV3.out.cell 0;have v1:=HV3.out.cell 1;have v2:=HV3.out.cell 2;clear hb3 hnp))
  ·rename_i hn0
   have hfb:=((HZ3.out.set 0 (.slice none 0 0)).set 1 (.slice none 0 0)).set 2 (.slice none 0 0)
   have g0:=hfb.cell 0
   have g1:=hfb.cell 1
   have g2:=hfb.cell 2
   have hbl:=three_sets HB3.out (.slice none 0 0) (.slice none 0 0) (.slice none 0 0)
   exact bodyPost_ret (v:=.tuple #[.agg #[.slice none 0 0,.slice none 0 0,.slice none 0 0],.int .i64 n,.int .i64 p]) (by simp[results,Tryz.results24,go_sem,g0,g1,g2]) rfl ⟨hbl,n,p,Or.inr ⟨L,R,n,HP.out,HNP.out,rfl⟩,_,_,_,_,_,_,_,_,_,rfl⟩
  ·rename_i hn0
   have hn1:n=0:=by simpa using hn0
   subst hn1
   have hp0:=errs_zero HNP.out
   subst hp0
   have hfb:=((HZ3.out.set 0 (.slice na (nodesS 0 (L++R)).length nc)).set 1 (.slice la (letsS 0 (L++R)).length lc)).set 2 (.slice ra (rulesS 0 (L++R)).length rc)
   have g0:=hfb.cell 0
   have g1:=hfb.cell 1
   have g2:=hfb.cell 2
   have hbl:=three_sets HB3.out (.slice na (nodesS 0 (L++R)).length nc) (.slice la (letsS 0 (L++R)).length lc) (.slice ra (rulesS 0 (L++R)).length rc)
   exact bodyPost_ret (v:=.tuple #[.agg #[.slice na (nodesS 0 (L++R)).length nc,.slice la (letsS 0 (L++R)).length lc,.slice ra (rulesS 0 (L++R)).length rc],.int .i64 0,.int .i64 0]) (by simp[results,Tryz.results24,go_sem,g0,g1,g2]) rfl ⟨hbl,0,0,Or.inr ⟨L,R,0,HP.out,HNP.out,rfl⟩,_,_,_,_,_,_,_,_,_,rfl⟩
set_option maxHeartbeats 1000000 in
theorem Check_prog(s:ByteArray)(w:World)(hg:GlobT w)(hz:s.size≤maxLen) :
  Calls Tryz.prog 8 #[.string s] w fun e w'=>Below w.heap.size w w'∧∃ c p,SoundAs s.toList c p∧e=.returned (.tuple #[.int .i64 c,.int .i64 (p:Nat)]):=by
 have HG:=hideP hg
 have HSZ:=hideP hz
 clear hg hz
 go_enter Tryz.func8,Tryz.ntmps8
 go_wp2_with (go_at_call 24;refine (readSound_any s _ HG.out HSZ.out).mono ?_;rintro e w1 ⟨hb1,c,p,hs,a1,l1,c1,a2,l2,c2,a3,l3,c3,rfl⟩;have HB1:=hideP hb1;have HS:=hideP hs;clear hb1 hs)
 go_ret2
 exact ⟨HB1.out.trans ((new_below w1 _).mono HB1.out.size),c,p,HS.out,rfl⟩
theorem RSt.toks_two(s:RSt):2≤s.toks.length:=by
 have:=s.body_pos
 rw[s.toks_length];omega
end Go.Proofs.YtpcjadaeolkngaaGreatDoor
