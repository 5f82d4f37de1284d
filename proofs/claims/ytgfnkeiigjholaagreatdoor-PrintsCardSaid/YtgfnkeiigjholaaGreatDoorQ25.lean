/-
  The program's reader: readExpr.
-/
import Derived.Test.YtgfnkeiigjholaaGreatDoorQ24
set_option linter.unusedVariables false
set_option linter.unusedSimpArgs false
namespace Go.Proofs.YtgfnkeiigjholaaGreatDoor
open Go.RowKit Go.Deep
theorem Und.nodes{B:Nat}{S:RS}{w wr:World}{p:Spot}{l:List RTok}{G:Nat→List PNode→Prop}(h:Und B S w wr p l G):∃ N a c,wr.cell? ⟨B,4,none⟩=some (.slice a N c)∧N≤401∧Und B S w wr p l (fun j ns=>G j ns∧ns.length=N):=by
 have key:∀ S':RS,RdAt wr B S'→∃ a c,wr.cell? ⟨B,4,none⟩=some (.slice a S'.ns.length c)∧S'.ns.length≤401:=by
  intro S' hR
  have c4:=hR.blk.cell 4
  simp only[List.getElem?_toArray,List.getElem?_cons_zero,List.getElem?_cons_succ]at c4
  have h1:=hR.nk
  have h2:=hR.kt
  have h3:=hR.tl
  obtain ⟨a,c,e⟩:=(reads_of_own hR.ond).shape
  exact ⟨a,c,by rw[c4,e],by omega⟩
 rcases h.st with ⟨j,nv,ns,hG,hR⟩ | ⟨j,nv,ns,hB,hn,hR⟩
 ·obtain ⟨a,c,h1,h2⟩:=key _ hR
  exact ⟨ns.length,a,c,h1,h2,h.kp,.inl ⟨j,nv,ns,⟨hG,rfl⟩,hR⟩⟩
 ·obtain ⟨a,c,h1,h2⟩:=key _ hR
  exact ⟨ns.length,a,c,h1,h2,h.kp,.inr ⟨j,nv,ns,hB,hn,hR⟩⟩
theorem firstAt_head{d j:Nat}{l rest:List RTok}{t:Tr}(h:GotO d (l.drop j) t rest):∃ a,l[j]?=some a∧firstAt t=a.at':=by
 have hp:=t.toks_pos
 have h0:=congrArg (fun x=>x[0]?) h.eq
 simp only[List.getElem?_drop,Nat.add_zero]at h0
 rw[List.getElem?_append_left (by omega)]at h0
 refine ⟨t.toks[0]'hp,h0.trans (List.getElem?_eq_getElem hp), ?_⟩
 unfold firstAt
 rw[List.getElem?_eq_getElem hp]
 rfl
theorem KeepN.setNew{B:Nat}{w w':World}(h:KeepN B w w'){b i:Nat}{v:Value}(hb:w.heap.size≤b):KeepN B w (w'.setCell ⟨b,i,none⟩ v):=by
 have g:=(Below.refl b w').setCell (p:=⟨b,i,none⟩) (Nat.le_refl _) v
 refine ⟨g.os.trans h.os,g.tape.trans h.tape,g.output.trans h.output,Nat.le_trans h.size g.size,fun b' o h1 h2 h3=>?_⟩
 have hlt:=(Array.getElem?_eq_some_iff.1 h1).1
 rw[Below.heap_setCell _ _ _ _ (by simp only;omega)]
 exact h.block b' o h1 h2 h3
theorem own_set2{w:World}{base b i s n:Nat}{e:TypeId}{v u:Value}{xs:List Value}(h:w.ownsRow base e s v n xs)(hne:v.ownBlock≠some b):(w.setCell ⟨b,i,none⟩ u).ownsRow base e s v n xs:=by
 refine ⟨h.1, ?_⟩
 rcases h.2 with hn | ⟨g,cap,cur,rfl,hbg,hg,r⟩
 ·exact .inl hn
 ·refine .inr ⟨g,cap,cur,rfl,hbg, ?_,r⟩
  have hgb:g≠b:=fun e=>hne (by rw[e];rfl)
  rw[Below.heap_setCell _ _ _ _ hgb]
  exact hg
theorem RdAt.other{w:World}{B:Nat}{S:RS}(h:RdAt w B S){b i:Nat}{cs:Array Value}{t:TypeId}(hb:Blk w b cs t)(hne:b≠B)(ht:t≠107∧t≠175∧t≠113)(hr:S.rv.ownBlock≠some b)(v:Value):RdAt (w.setCell ⟨b,i,none⟩ v) B S :=
 ⟨h.blk.other _ _ (by simp only;exact fun e=>hne e.symm),own_set h.otk hb ht.1,own_set h.ond hb ht.2.1,own_set h.olt hb ht.2.2,own_set2 h.orl hr,h.kt,h.tl,h.nk,h.dl⟩
theorem Und.other{B:Nat}{S:RS}{w wr:World}{p:Spot}{l:List RTok}{G:Nat→List PNode→Prop}(h:Und B S w wr p l G){b i:Nat}{cs:Array Value}{t:TypeId}(hb:Blk wr b cs t)(hne:b≠B)(ht:t≠107∧t≠175∧t≠113)(hr:S.rv.ownBlock≠some b)(hw:w.heap.size≤b)(v:Value):Und B S w (wr.setCell ⟨b,i,none⟩ v) p l G:=by
 refine ⟨h.kp.setNew hw, ?_⟩
 rcases h.st with ⟨j,nv,ns,hG,hR⟩ | ⟨j,nv,ns,hB,hn,hR⟩
 ·exact .inl ⟨j,nv,ns,hG,hR.other hb hne ht hr v⟩
 ·exact .inr ⟨j,nv,ns,hB,hn,hR.other hb hne ht hr v⟩
set_option maxHeartbeats 1000000 in
set_option maxRecDepth 100000 in
theorem readExpr_und{B:Nat}{S:RS}{w w1:World}{p:Spot}{l:List RTok}{G:Nat→List PNode→Prop}{G':PExp→Nat→List PNode→Prop}(hrv:∀ b,S.rv.ownBlock=some b→b<w.heap.size)(hf:S.f=false)(hd:S.d=0)(hl:LeftR S l)(h:Und B S w w1 p l G)
  (H:∀ j ns,G j ns→j≤l.length∧ns.length≤S.ns.length+j∧(∀ t rest,GotO 0 (l.drop j) t rest→stops 1 rest→G' (layE ns.length t) (j+t.toks.length) (ns++t.flat ns.length))∧(∀ i,BadV 0 (l.drop j) i→BadS p l (j+i))) :
  Calls Tryz.prog 137 #[.pointer (some ⟨B,0,none⟩)] w1 fun e w2=>∃ pe,e=.returned (expA pe)∧Und B S w w2 p l (G' pe)∧KeepN B w1 w2:=by
 have hB:=h.lt
 have HRV:Hid (S.rv.ownBlock≠some w1.heap.size):=fun e=>by have:=hrv _ e;have:=h.kp.size;omega
 have hws:=h.kp.size
 clear hrv
 have HF:=hideP hf
 have HD:=hideP hd
 have HL:=hideP hl
 have HH:=hideP H
 have HU:=hideP (h.below (new_below w1 (.cells #[.int .i64 0,.int .i64 0,.int .i64 0] 111)))
 have HX:=hideP (Blk.new w1 #[.int .i64 0,.int .i64 0,.int .i64 0] 111)
 have HK:=hideP (KeepN.of (B:=B) (new_below w1 (.cells #[.int .i64 0,.int .i64 0,.int .i64 0] 111)))
 have hne:w1.heap.size≠B:=by omega
 clear h hf hd hl H
 go_enter Tryz.func137,Tryz.ntmps137
 go_wp2_with (go_at_call 55;refine (current_und HL.out HU.out (fun j ns hG=>(HH.out j ns hG).1)).mono ?_;rintro e w2 ⟨tk,rfl,hb2,hu2⟩;unfold tokA;replace HK:=hideP (HK.out.trans (KeepN.of hb2));replace HX:=hideP (HX.out.below hb2 HX.out.lt);obtain ⟨N,na,nc,c4,hN,hu4⟩:=hu2.nodes;have HU4:=hideP (hu4.below (new_below w2 (.cells #[.int .i64 (kindP tk.text),.int .i64 tk.at',.string (bsOf tk.text)] 107)));have hB2:=hu2.lt;have HT:=hideP (Blk.new w2 #[.int .i64 (kindP tk.text),.int .i64 tk.at',.string (bsOf tk.text)] 107);replace HX:=hideP (HX.out.alloc (.cells #[.int .i64 (kindP tk.text),.int .i64 tk.at',.string (bsOf tk.text)] 107));replace HK:=hideP (HK.out.trans (KeepN.of (new_below w2 (.cells #[.int .i64 (kindP tk.text),.int .i64 tk.at',.string (bsOf tk.text)] 107))));clear hb2 hu2 hu4 HU)
 have hne2:w2.heap.size≠B:=by omega
 have HG:Hid (∀ j ns,((G j ns∧∀ a,l[j]?=some a→a=tk)∧ns.length=N)→j≤l.length∧ns.length≤S.ns.length+j∧(∀ t rest,GotO 0 (l.drop j) t rest→stops 1 rest→(fun m j ns=>G' ⟨tk.at',N,m⟩ j ns) (ns.length+t.num) (j+t.toks.length) (ns++t.flat ns.length))∧(∀ i,BadV 0 (l.drop j) i→BadS p l (j+i))):=by
  rintro j ns ⟨⟨hG,ht⟩,hn⟩
  obtain ⟨h1,h2,h3,h4⟩:=HH.out j ns hG
  refine ⟨h1,h2,fun t rest g1 g2=>?_,h4⟩
  have:=h3 t rest g1 g2
  obtain ⟨a,ha,hfa⟩:=firstAt_head g1
  rw[layE,hfa,ht a ha,hn]at this
  simp only[hn]
  exact this
 go_wp2_with (go_at_call 160;refine (binding_und (G':=fun m j ns=>G' ⟨tk.at',N,m⟩ j ns) HF.out HD.out HL.out HU4.out 0 HG.out).mono ?_;rintro e w3 ⟨⟨v3,rfl⟩,hu3,hk3⟩;have HT3:=hideP (HT.out.keepN hk3 hne2 (by decide));have HX3:=hideP (HX.out.keepN hk3 hne (by decide));have HK3:=hideP (HK.out.trans hk3);have t1:=HT3.out.cell 1;have x0:=HX3.out.cell 0;have x1:=HX3.out.cell 1;have x2:=HX3.out.cell 2;have xf:=HX3.out.free;obtain ⟨N2,na2,nc2,c42,hN2,hu5⟩:=hu3.nodes;have HU5:=hideP hu5;have hB3:=hu3.lt;clear hu3 hu5 hk3 c4;simp only[List.getElem?_toArray,List.getElem?_cons_zero,List.getElem?_cons_succ]at t1 x0 x1 x2)
 go_region
 all_goals
  have U1:=HU5.out.other (i:=0) HX3.out hne ⟨by decide,by decide,by decide⟩ HRV.out hws (.int .i64 tk.at')
  have U2:=U1.other (i:=1) (HX3.out.set 0 (.int .i64 tk.at')) hne ⟨by decide,by decide,by decide⟩ HRV.out hws (.int .i64 N)
  have U3:=U2.other (i:=2) ((HX3.out.set 0 (.int .i64 tk.at')).set 1 (.int .i64 N)) hne ⟨by decide,by decide,by decide⟩ HRV.out hws (.int .i64 N2)
  have HE:=hideP (U3.below (below_drewN (Below.refl _ _) 1))
  have HE2:=hideP ((((HK3.out.setNew (i:=0) (v:=.int .i64 tk.at') (Nat.le_refl _)).setNew (i:=1) (v:=.int .i64 N) (Nat.le_refl _)).setNew (i:=2) (v:=.int .i64 N2) (Nat.le_refl _)).trans (KeepN.of (below_drewN (Below.refl _ _) 1)))
  clear U1 U2 U3
  have hbx:=(((HX3.out.set 0 (.int .i64 tk.at')).set 1 (.int .i64 N)).set 2 (.int .i64 N2)).drew
  have g0:=hbx.cell 0
  have g1:=hbx.cell 1
  have g2:=hbx.cell 2
  clear hbx
  go_wp2
  exact bodyPost_ret (v:=.agg #[.int .i64 tk.at',.int .i64 N,.int .i64 N2]) (by simp[results,Tryz.results137,go_sem,g0,g1,g2]) rfl ⟨⟨tk.at',N,N2⟩,rfl,HE.out.mono (fun j ns ⟨h1,h2⟩=>by rw[h2]at h1;exact h1),HE2.out⟩
end Go.Proofs.YtgfnkeiigjholaaGreatDoor
