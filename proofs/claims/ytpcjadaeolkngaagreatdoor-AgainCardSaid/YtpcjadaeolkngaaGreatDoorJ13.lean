/-
  The program's reader: Read.
-/
import Derived.Test.YtpcjadaeolkngaaGreatDoorJ12
set_option linter.unusedVariables false
set_option linter.unusedSimpArgs false
namespace Go.Proofs.YtpcjadaeolkngaaGreatDoor
open Go.RowKit Go.Deep
theorem toks_may_aux:∀ (n:Nat) (s:Txt) (p:Nat) (l:List RTok),s.length≤n→toksR s p=.ok l→∀ t∈l,mayT t.text=true
  | n,[],p,l,_,h=>by
    rw[toksR_nil]at h
    cases h
    simp
  | 0,c :: r,_,_,hn,_=>by simp at hn
  | n+1,c :: r,p,l,hn,h=>by
    rw[toksR_cons]at h
    split at h
    · exact toks_may_aux n r (p+1) l (by simpa using hn) h
    · split at h
      · rename_i hm
        have hp:=runLen_pos c r
        split at h
        · rename_i l' he
          cases h
          intro t ht
          simp only[List.mem_cons]at ht
          rcases ht with rfl | ht
          · exact hm
          · refine toks_may_aux n _ _ l' ?_ he t ht
            simp at hn ⊢
            omega
        · cases h
      · cases h
theorem toks_may{s:Txt}{p:Nat}{l:List RTok}(h:toksR s p=.ok l):∀ t∈l,mayT t.text=true:=toks_may_aux s.length s p l (Nat.le_refl _) h
theorem goS_error{p q:Spot}{l:List RTok}{k:Nat}(h:goS p (l.take k)=.ok q)(hk:k<l.length)(hs:(stepS q l[k].text).2=false):goS p l=.error l[k].at':=by
  have e:l=l.take k++l[k] :: l.drop (k+1):=by rw[List.getElem_cons_drop,List.take_append_drop]
  conv=>lhs;rw[e]
  rw[goS_ok h]
  simp only[goS,hs]
  rfl
theorem tokened_bad{s:Txt}{l:List RTok}{j:Nat}{t:RTok}(hn:s.length≤400)(hl:toksR s 0=.ok l)(hb:BadS ⟨0,0,0⟩ l j)(ht:(l++[(⟨[],s.length⟩:RTok)])[j]?=some t):tokened s=.bad 3 t.at':=by
  obtain ⟨hle,q,h1,h2,h3⟩:=hb
  unfold tokened
  rw[if_neg (by omega),hl]
  simp only
  by_cases hk:j<l.length
  · rw[goS_error h1 hk (h3 hk)]
    rw[List.getElem?_append_left hk,List.getElem?_eq_getElem hk]at ht
    cases ht
    rfl
  · have hj:j=l.length:=by omega
    subst hj
    rw[List.take_length]at h1
    rw[h1]
    simp only
    rw[if_neg (h2 (Nat.le_refl _))]
    rw[List.getElem?_append_right (Nat.le_refl _),Nat.sub_self]at ht
    cases ht
    rfl
theorem tokened_fine{s:Txt}{l:List RTok}{q:Spot}(hn:s.length≤400)(hl:toksR s 0=.ok l)(hg:goS ⟨0,0,0⟩ l=.ok q)(h6:q.next=6):tokened s=.fine l:=by
  unfold tokened
  rw[if_neg (by omega),hl]
  simp only
  rw[hg]
  simp only
  rw[if_pos h6]
structure PolicyOf(s:Txt)(L R:List RSt):Prop where
  fine:tokened s=.fine (toksL (L++R))
  lets:isLetL' L
  rules:isRuleL' R
  wf:∀ x∈L++R,x.wf
  may:∀ t∈toksL (L++R),mayT t.text=true
  ne:R≠[]
  short:(toksL (L++R)).length≤400
structure PolMem(w:World)(base:Nat)(nv lv rv:Value)(L R:List RSt):Prop where
  ond:w.ownsRow base 154 6 nv (nodesS 0 (L++R)).length (cellsN (nodesS 0 (L++R)))
  olt:w.ownsRow base 107 6 lv (letsS 0 (L++R)).length (cellsLt (letsS 0 (L++R)))
  orl:w.ownsRow base 110 8 rv (rulesS 0 (L++R)).length (cellsU (rulesS 0 (L++R)))
theorem own_base{w:World}{base base':Nat}{e:TypeId}{s n:Nat}{v:Value}{xs:List Value}(h:w.ownsRow base e s v n xs)(hb:base'≤base):w.ownsRow base' e s v n xs:=by
  refine ⟨h.1, ?_⟩
  rcases h.2 with hn | ⟨g,cap,cur,rfl,hbg,r⟩
  · exact .inl hn
  · exact .inr ⟨g,cap,cur,rfl,by omega,r⟩
theorem PolMem.below{w w':World}{base:Nat}{nv lv rv:Value}{L R:List RSt}(h:PolMem w base nv lv rv L R)(hb:Below w.heap.size w w'):PolMem w' base nv lv rv L R:=⟨own_below h.ond hb,own_below h.olt hb,own_below h.orl hb⟩
abbrev nilS:Value:=.slice none 0 0
theorem own_nil(w:World)(base:Nat)(e:TypeId)(s:Nat):w.ownsRow base e s nilS 0 []:=World.ownsRow_nil _ _ _ _
theorem rd_start{w1:World}{v:Value}{T:List RTok}{b n:Nat}{xs:List Value}(ho:w1.ownsRow b 101 3 v n xs)(hn:n=T.length)(hx:xs=cellsT T)(h1:0<T.length)(h2:T.length≤401) :
    RdAt (w1.alloc (.cells #[v,.int .i64 0,.int .i64 0,.bool false,nilS,nilS,nilS] 99)) w1.heap.size (RS.zero v T):=by
  subst hn hx
  exact ⟨Blk.new _ _ _,own_base (ho.alloc _) (Nat.zero_le _),own_nil _ _ _ _,own_nil _ _ _ _,own_nil _ _ _ _,h1,h2,Nat.le_refl _,Nat.zero_le _⟩
theorem lp_eq{s:Txt}{lp:List PTok}(h1:toksP s 0=.ok lp)(h2:toksP s 0=outP s.length (toksR s 0)):∃ l,toksR s 0=.ok l∧lp=(l++[(⟨[],s.length⟩:RTok)]).map toP:=by
  rw[h1]at h2
  cases h:toksR s 0 with
  | error e=>rw[h]at h2;cases h2
  | ok l =>
    rw[h]at h2
    simp only[outP,Except.ok.injEq]at h2
    refine ⟨l,rfl, ?_⟩
    rw[h2,List.map_append]
    simp only[List.map_cons,List.map_nil,toP]
    rw[show kindP []=0 by decide]
theorem Scan_two(s:ByteArray)(hs:s.size≤400)(w:World)(hg:GlobT w)(hsm:toksP s.toList 0=outP s.toList.length (toksR s.toList 0)) :
    Calls Tryz.prog 41 #[.string s] w fun e w'=>Below w.heap.size w w' ∧
      ((∃ l va vc,toksR s.toList 0=.ok l∧l.length≤400∧e=.returned (.tuple #[.slice va (l.length+1) vc,.bool true,.int .i64 0])∧w'.ownsRow w.heap.size 101 3 (.slice va (l.length+1) vc) (l.length+1) (cellsT (l++[(⟨[],s.toList.length⟩:RTok)]))) ∨
       (∃ p,toksR s.toList 0=.error p∧e=.returned (.tuple #[.slice none 0 0,.bool false,.int .i64 p]))):=by
  refine (Scan_any s hs w hg).mono ?_
  rintro e w1 ⟨hb1,⟨lp,v,hlp,hlen,rfl,hown⟩ | ⟨p,hlp,rfl⟩⟩
  · obtain ⟨l,hl,rfl⟩:=lp_eq hlp hsm
    rw[cellsT_toP]at hown
    have hlen':((l++[(⟨[],s.toList.length⟩:RTok)]).map toP).length=l.length+1:=by simp
    rw[hlen']at hown hlen
    obtain ⟨va,vc,rfl⟩:=(reads_of_own hown).shape
    exact ⟨hb1,.inl ⟨l,va,vc,hl,by omega,rfl,hown⟩⟩
  · refine ⟨hb1,.inr ⟨p, ?_,rfl⟩⟩
    rw[hlp]at hsm
    cases h:toksR s.toList 0 with
    | ok l=>rw[h]at hsm;cases hsm
    | error q=>rw[h]at hsm;cases hsm;rfl
theorem own_three{w:World}{base b s n:Nat}{e t:TypeId}{v x y z:Value}{xs:List Value}{cs:Array Value}(h:w.ownsRow base e s v n xs)(hb:Blk w b cs t)(hne:t≠e):(((w.setCell ⟨b,0,none⟩ x).setCell ⟨b,1,none⟩ y).setCell ⟨b,2,none⟩ z).ownsRow base e s v n xs :=
  own_set (own_set (own_set h hb hne) (hb.set 0 x) hne) ((hb.set 0 x).set 1 y) hne
theorem three_cells{w W:World}{b:Nat}{cs:Array Value}{t:TypeId}(h:Blk W b cs t)(hs:cs.size=3)(x y z:Value):Blk (((W.setCell ⟨b,0,none⟩ x).setCell ⟨b,1,none⟩ y).setCell ⟨b,2,none⟩ z) b #[x,y,z] t:=by
  have:=((h.set 0 x).set 1 y).set 2 z
  rcases cs with ⟨l⟩
  match l,hs with
  | [a,b',c],_=>exact this
set_option maxHeartbeats 1000000 in
set_option maxRecDepth 100000 in
theorem Read_any(s:ByteArray)(w:World)(hg:GlobT w)(hz:s.size≤maxLen) :
    Calls Tryz.prog 22 #[.string s] w fun e w'=>Below w.heap.size w w' ∧
      ((∃ c p,tokened s.toList=.bad c p∧c≠0∧e=.returned (.tuple #[.agg #[nilS,nilS,nilS],.int .i64 c,.int .i64 (p:Nat)])) ∨
       (∃ L R nv lv rv,PolicyOf s.toList L R∧e=.returned (.tuple #[.agg #[nv,lv,rv],.int .i64 0,.int .i64 0])∧PolMem w' w.heap.size nv lv rv L R)):=by
  unfold maxLen at hz
  by_cases hlong:400<s.size
  · have ht:Hid (tokened s.toList=.bad 1 0):=by rw[Hid,tokened,if_pos (by rw[toList_length];omega)]
    have hl2:(400:Int)<s.size:=by omega
    go_enter Tryz.func22,Tryz.ntmps22
    go_wp2
    exact bodyPost_ret (v:=.tuple #[.agg #[nilS,nilS,nilS],.int .i64 1,.int .i64 0]) (by simp[results,Tryz.results22,go_sem]) rfl ⟨by first | exact new_below w _ | exact tok_end (new_below w _) _ _ _,.inl ⟨1,0,ht.out,by decide,rfl⟩⟩
  · have hs4:s.size≤400:=by omega
    have hl2:¬ ((400:Int)<s.size):=by omega
    have hsl:s.toList.length≤400:=by rw[toList_length];exact hs4
    have HSL:=hideP hsl
    have HG:=hideP (hg.below (new_below w (.cells #[nilS,nilS,nilS] 73)))
    have hsame:=toks_same s.toList.length s.toList 0 (Nat.le_refl _)
    rw[Nat.zero_add]at hsame
    have HSM:=hideP hsame
    clear hg hlong hsl hsame
    go_enter Tryz.func22,Tryz.ntmps22
    go_upto_region 4 with (go_at_call 41;refine (Scan_two s hs4 _ HG.out HSM.out).mono ?_;rintro e w1 ⟨hb1,⟨l,va,vc,hl,hll,rfl,hown⟩ | ⟨p,hl,rfl⟩⟩)
    · have HLt:=hideP hl
      have HWh:Hid (Whole (l++[(⟨[],s.toList.length⟩:RTok)]) l):=⟨⟨_,rfl⟩,toks_may hl⟩
      have HRD:=hideP (rd_start (T:=l++[(⟨[],s.toList.length⟩:RTok)]) hown (by simp) rfl (by simp) (by simp;omega))
      have hb0:Below w.heap.size w w1:=(new_below w _).trans (hb1.mono (by simp))
      have HB1:=hideP (hb0.trans ((new_below w1 (.cells #[.slice va (l.length+1) vc,.int .i64 0,.int .i64 0,.bool false,nilS,nilS,nilS] 99)).mono hb0.size))
      have HRB:=hideP (((Blk.new w #[nilS,nilS,nilS] 73).below hb1 (by simp)).alloc (.cells #[.slice va (l.length+1) vc,.int .i64 0,.int .i64 0,.bool false,nilS,nilS,nilS] 99))
      have hlt1:w.heap.size<w1.heap.size:=by have:=hb1.size;simp at this;omega
      clear hl hown hb1 hb0 HG HSM
      go_upto_region 8 with (go_at_call 42;refine (readPolicy_any HWh.out HRD.out).mono ?_;rintro e w2 ⟨rfl,hb2,⟨L,R,q,hne,hok⟩ | hbad⟩)
      · have HOK:=hideP hok
        have HNE:=hideP hne
        obtain ⟨nv,lv,rv,hR⟩:=hok.rd
        obtain ⟨na,nc,hnv⟩:=(reads_of_own hR.ond).shape
        obtain ⟨la,lc,hlv⟩:=(reads_of_own hR.olt).shape
        obtain ⟨ra,rc,hrv⟩:=(reads_of_own hR.orl).shape
        simp only at hnv hlv hrv
        subst hnv hlv hrv
        have HR:=hideP hR
        have hB2:=hR.blk.lt
        have c3:=hR.blk.cell 3
        have c4:=hR.blk.cell 4
        have c5:=hR.blk.cell 5
        have c6:=hR.blk.cell 6
        simp only[List.getElem?_toArray,List.getElem?_cons_zero,List.getElem?_cons_succ]at c3 c4 c5 c6
        have HB2:=hideP (HB1.out.trans (hb2.mono (Nat.le_of_lt hlt1)))
        have HRB2:=hideP (HRB.out.below hb2 hlt1)
        have x0:=HRB2.out.cell 0
        have x1:=HRB2.out.cell 1
        have x2:=HRB2.out.cell 2
        have xf:=HRB2.out.free
        simp only[List.getElem?_toArray,List.getElem?_cons_zero,List.getElem?_cons_succ]at x0 x1 x2
        have hPO:Hid (PolicyOf s.toList L R):=by
          have heq:=HOK.out.eq
          rw[List.append_nil]at heq
          exact ⟨by rw[← heq];exact tokened_fine HSL.out HLt.out (by rw[heq];exact HOK.out.go) (HOK.out.q6 HNE.out),HOK.out.lets,HOK.out.rules,HOK.out.wf,by rw[← heq];exact HWh.out.may,HNE.out,by rw[← heq];exact hll⟩
        clear hok hne hR hb2 HRD HRB
        have hbx:=three_cells (w:=w) HRB2.out rfl (.slice na (nodesS 0 (L++R)).length nc) (.slice la (letsS 0 (L++R)).length lc) (.slice ra (rulesS 0 (L++R)).length rc)
        have g0:=hbx.cell 0
        have g1:=hbx.cell 1
        have g2:=hbx.cell 2
        clear hbx
        go_wp2
        exact bodyPost_ret (v:=.tuple #[.agg #[.slice na (nodesS 0 (L++R)).length nc,.slice la (letsS 0 (L++R)).length lc,.slice ra (rulesS 0 (L++R)).length rc],.int .i64 0,.int .i64 0]) (by simp[results,Tryz.results22,go_sem,g0,g1,g2]) rfl ⟨tok_end HB2.out _ _ _,.inr ⟨L,R,_,_,_,hPO.out,rfl,own_three (own_base HR.out.ond (by omega)) HRB2.out (by decide),own_three (own_base HR.out.olt (by omega)) HRB2.out (by decide),own_three (own_base HR.out.orl (by omega)) HRB2.out (by decide)⟩⟩
      · obtain ⟨j,nv,lv,rv,ns,ls,rs,h1,h2,h3,hR⟩:=hbad.rd
        obtain ⟨tk,htk⟩:=hR.cur
        have HTK:=hideP htk
        have HTB:Hid (tokened s.toList=.bad 3 tk.at'):=tokened_bad HSL.out HLt.out h1 htk
        have HR:=hideP hR
        have hB2:=hR.blk.lt
        have c3:=hR.blk.cell 3
        simp only[List.getElem?_toArray,List.getElem?_cons_zero,List.getElem?_cons_succ]at c3
        have HB2:=hideP (HB1.out.trans (hb2.mono (Nat.le_of_lt hlt1)))
        have HRB2:=hideP (HRB.out.below hb2 hlt1)
        clear hbad h1 h2 h3 hR hb2 HRD HRB htk
        go_wp2_with (go_at_call 43;refine (current_at HR.out HTK.out).mono ?_;rintro e w3 ⟨rfl,hb3⟩;unfold tokA;have HB3:=hideP (HB2.out.trans ((hb3.trans ((new_below w3 (.cells #[.int .i64 (kindP tk.text),.int .i64 tk.at',.string (bsOf tk.text)] 101)).mono hb3.size)).mono HB2.out.size));have HRB3:=hideP ((HRB2.out.below hb3 HRB2.out.lt).alloc (.cells #[.int .i64 (kindP tk.text),.int .i64 tk.at',.string (bsOf tk.text)] 101));have HY3:=hideP (HRB2.out.below hb3 HRB2.out.lt);have HZ3:=hideP (HB2.out.trans (hb3.mono HB2.out.size));have hlt3:w.heap.size<w3.heap.size:=(HRB2.out.below hb3 HRB2.out.lt).lt;have y0:=(HRB2.out.below hb3 HRB2.out.lt).cell 0;have y1:=(HRB2.out.below hb3 HRB2.out.lt).cell 1;have y2:=(HRB2.out.below hb3 HRB2.out.lt).cell 2;have yf:=(HRB2.out.below hb3 HRB2.out.lt).free;simp only[List.getElem?_toArray,List.getElem?_cons_zero,List.getElem?_cons_succ]at y0 y1 y2;clear hb3)
        go_region
        all_goals
          have hbx:=((three_cells (w:=w) HY3.out rfl nilS nilS nilS).alloc (.cells #[.int .i64 (kindP tk.text),.int .i64 tk.at',.string (bsOf tk.text)] 101)).drew
          have g0:=hbx.cell 0
          have g1:=hbx.cell 1
          have g2:=hbx.cell 2
          clear hbx
          go_wp2
          exact bodyPost_ret (v:=.tuple #[.agg #[nilS,nilS,nilS],.int .i64 3,.int .i64 (tk.at':Nat)]) (by simp[results,Tryz.results22,go_sem,g0,g1,g2]) rfl ⟨below_drewN ((tok_end HZ3.out nilS nilS nilS).alloc (by simp;omega) _) 1,.inl ⟨3,tk.at',HTB.out,by decide,rfl⟩⟩
    · have HTB:Hid (tokened s.toList=.bad 2 p):=by
        have:=HSL.out
        rw[Hid,tokened,if_neg (by omega),hl]
      have hb0:Below w.heap.size w w1:=(new_below w _).trans (hb1.mono (by simp))
      have HB1:=hideP hb0
      have HRB:=hideP ((Blk.new w #[nilS,nilS,nilS] 73).below hb1 (by simp))
      have y0:=HRB.out.cell 0
      have y1:=HRB.out.cell 1
      have y2:=HRB.out.cell 2
      have yf:=HRB.out.free
      simp only[List.getElem?_toArray,List.getElem?_cons_zero,List.getElem?_cons_succ]at y0 y1 y2
      have hbx:=three_cells (w:=w) HRB.out rfl nilS nilS nilS
      have g0:=hbx.cell 0
      have g1:=hbx.cell 1
      have g2:=hbx.cell 2
      clear hbx hl hb1 hb0 HG HSM
      go_wp2
      exact bodyPost_ret (v:=.tuple #[.agg #[nilS,nilS,nilS],.int .i64 2,.int .i64 (p:Nat)]) (by simp[results,Tryz.results22,go_sem,g0,g1,g2]) rfl ⟨tok_end HB1.out _ _ _,.inl ⟨2,p,HTB.out,by decide,rfl⟩⟩
theorem flat_get{α:Type}(f:α→List Value)(m:Nat)(hf:∀ a,(f a).length=m):∀ (l:List α) (k:Nat) (h:k<l.length) (j:Nat),j<m→(l.flatMap f)[k*m+j]?=(f l[k])[j]?
 | [],k,h,_,_=>by simp at h
 | a :: r,0,h,j,hj=>by
  rw[List.flatMap_cons,Nat.zero_mul,Nat.zero_add,List.getElem?_append_left (by rw[hf];exact hj)];rfl
 | a :: r,k+1,h,j,hj=>by
  have ih:=flat_get f m hf r k (by simpa using h) j hj
  rw[List.flatMap_cons,show (k+1)*m+j=m+(k*m+j) by rw[Nat.succ_mul];omega,List.getElem?_append_right (by rw[hf];omega),hf,Nat.add_sub_cancel_left,ih]
  rfl
structure PolAt(w:World)(nv lv rv:Value)(N:List PNode)(ls:List PLet)(rs:List PRule):Prop where
 n:Reads w nv N.length (cellsN N)
 l:Reads w lv ls.length (cellsLt ls)
 r:Reads w rv rs.length (cellsU rs)
 nb:N.length≤401
 lb:ls.length≤401
 rb:rs.length≤401
theorem PolAt.below{w w':World}{nv lv rv:Value}{N:List PNode}{ls:List PLet}{rs:List PRule}(h:PolAt w nv lv rv N ls rs)(hb:Below w.heap.size w w'):PolAt w' nv lv rv N ls rs :=
 ⟨h.n.below hb,h.l.below hb,h.r.below hb,h.nb,h.lb,h.rb⟩
theorem PolAt.of{w:World}{base:Nat}{nv lv rv:Value}{L R:List RSt}{s:Txt}(h:PolMem w base nv lv rv L R)(hp:PolicyOf s L R):PolAt w nv lv rv (nodesS 0 (L++R)) (letsS 0 (L++R)) (rulesS 0 (L++R)):=by
 have h1:=letsS_le (L++R) 0
 have h2:=rulesS_le (L++R) 0
 have h3:=toksL_le (L++R)
 have h4:=hp.short
 refine ⟨reads_of_own h.ond,reads_of_own h.olt,reads_of_own h.orl, ?_,by omega,by omega⟩
 rw[nodesS_len _ hp.wf]
 have:∀ l:List RSt,(∀ s∈l,s.wf)→numS l≤(toksL l).length:=by
  intro l
  induction l with
  | nil=>intro _;exact Nat.le_refl _
  | cons s r ih =>
   intro hw
   have i1:=ih (fun x hx=>hw x (by simp[hx]))
   have i2:s.num≤s.body.length:=by
    rcases s.cases with ⟨kw,name,eq,e,semi,rfl⟩ | ⟨wh,act,sc,semi,rfl⟩
    ·have:=e.num_le (hw _ List.mem_cons_self).2.2.2.1
     rw[RSt.num_let,RSt.body_let];simp;omega
    ·have hws:=hw _ List.mem_cons_self
     have k1:=(whNodes_le wh hws.1 0).2
     have k2:=optNodes_le sc hws.2.2.1 0
     rw[optNodes_len sc hws.2.2.1]at k2
     rw[RSt.num_rule,RSt.body_rule,List.length_append,List.length_cons];omega
   rw[numS,toksL_cons,List.length_append,RSt.toks_length];omega
 have:=this (L++R) hp.wf
 omega
theorem letIx_step(ls:List PLet)(t:Txt)(i:Nat)(hi:i<ls.length)(h:∀ j (hj:j<i),(ls[j]'(by omega)).name.text≠t)(he:ls[i].name.text=t):letIx ls t=i:=by
 unfold letIx
 rw[List.findIdx_eq hi]
 refine ⟨by simpa using he,fun j hj=>?_⟩
 simpa using h j hj
theorem letIx_none(ls:List PLet)(t:Txt)(h:∀ j (hj:j<ls.length),ls[j].name.text≠t):letIx ls t=ls.length:=by
 unfold letIx
 rw[List.findIdx_eq_length]
 intro x hx
 obtain ⟨j,hj,rfl⟩:=List.getElem_of_mem hx
 simpa using h j hj
set_option maxHeartbeats 1000000 in
theorem LetOf_any(ls:List PLet)(lv:Value)(d:ByteArray)(w:World)(h:Reads w lv ls.length (cellsLt ls))(hb:ls.length≤401) :
  Calls Tryz.prog 105 #[lv,.string d] w fun e w'=>e=.returned (.int .i64 (letIx ls d.toList:Nat))∧w'=w:=by
 obtain ⟨a,c,rfl⟩:=h.shape
 have HH:=hideP h
 clear h
 go_enter Tryz.func105,Tryz.ntmps105
 go_wp2
 go_loop [5] (fun vi=>∃ i:Nat,i≤ls.length∧vi=.int .i64 i∧∀ j (hj:j<i) (hl:j<ls.length),ls[j].name.text≠d.toList) (fun i=>ls.length-(intOf i).toNat)
 case atStart=>exact ⟨0,Nat.zero_le _,rfl,fun j hj=>by omega⟩
 case round =>
  obtain ⟨i,hi,rfl,hall⟩:=hrel
  have HA:=hideP hall
  clear hall
  by_cases hlt:i<ls.length
  ·obtain ⟨g,o,cap,hcut,hcap,hg,hc⟩:=HH.out.pos (by omega)
   cases hcut
   have c2:=hc (i*6+2) _ (flat_get cellL 6 (fun _=>rfl) ls i hlt 2 (by omega))
   obtain ⟨x,hx⟩:∃ x,x=bsOf ls[i].name.text:=⟨_,rfl⟩
   have HX:Hid (ls[i].name.text=x.toList):=by rw[Hid,hx,bsOf_toList]
   have c2':w.cell? ⟨g,o+i*6+2,none⟩=some (.string x):=by rw[hx,Nat.add_assoc];exact c2
   clear hx c2 hc
   cases heq:(x.toList==d.toList)
   ·go_wp2
    go_round
    case rel =>
     refine ⟨i+1,by omega,by go_num,fun j hj hl=>?_⟩
     by_cases hji:j<i
     ·exact HA.out j hji hl
     ·have:j=i:=by omega
      subst this
      rw[HX.out]
      simpa using heq
    case measure=>simp[intOf];omega
   ·go_wp2
    go_ret
    exact ⟨ret_int (by rw[letIx_step ls d.toList i hlt (fun j hj=>HA.out j hj (by omega)) (by rw[HX.out];simpa using heq)]),rfl⟩
  ·go_wp2
   go_ret
   exact ⟨ret_int (by rw[letIx_none ls d.toList (fun j hj=>HA.out j (by omega) hj)]),rfl⟩
def cellsK(l:List Nat):List Value:=l.map (fun n:Nat=>.int .i64 (n:Int))
def atN(ks:List Nat)(i:Int):Nat:=if i<0 then 0 else ks.getD i.toNat 0
theorem atN_neg{ks:List Nat}{i:Int}(h:i<0):atN ks i=0:=if_pos h
theorem atN_nat(ks:List Nat)(n:Nat):atN ks (n:Int)=ks.getD n 0:=by
 rw[atN,if_neg (by omega),Int.toNat_natCast]
set_option maxHeartbeats 1000000 in
theorem at_any(ks:List Nat)(kv:Value)(i:Int)(w:World)(h:Reads w kv ks.length (cellsK ks))(hb:ks.length≤401)(hi:-2≤i∧i≤1000) :
  Calls Tryz.prog 145 #[kv,.int .i64 i] w fun e w'=>e=.returned (.int .i64 (atN ks i:Nat))∧w'=w:=by
 obtain ⟨a,c,rfl⟩:=h.shape
 have HH:=hideP h
 clear h
 by_cases h0:i<0
 ·have hd:decide (i<0)=true:=by simpa using h0
  have HN:=hideP (atN_neg (ks:=ks) h0)
  go_enter Tryz.func145,Tryz.ntmps145
  go_wp2
  go_ret
  exact ⟨ret_int (by rw[HN.out];rfl),rfl⟩
 ·obtain ⟨n,rfl⟩:∃ n:Nat,i=n:=⟨i.toNat,by omega⟩
  rw[atN_nat]
  by_cases hn:n<ks.length
  ·obtain ⟨g,o,cap,hcut,hcap,hg,hc⟩:=HH.out.pos (by omega)
   cases hcut
   have c0:=hc n (.int .i64 (ks[n]:Int)) (by simp[cellsK,hn])
   have HN:Hid (ks.getD n 0=ks[n]):=by simp[Hid,hn]
   clear hc
   rw[HN.out]
   generalize ks[n]=x at *
   go_enter Tryz.func145,Tryz.ntmps145
   go_wp2
   go_ret
   exact ⟨rfl,rfl⟩
  ·have HN:Hid (ks.getD n 0=0):=by rw[Hid,List.getD_eq_getElem?_getD,List.getElem?_eq_none (by omega)];rfl
   rw[HN.out]
   go_enter Tryz.func145,Tryz.ntmps145
   go_wp2
   go_ret
   exact ⟨rfl,rfl⟩
def resN:Option Nat→Value
 | none=>.tuple #[.bool true,.int .i64 0]
 | some p=>.tuple #[.bool false,.int .i64 (p:Nat)]
def polA(nv lv rv:Value):Value:=.agg #[nv,lv,rv]
structure Chk2(w wr:World)(nv lv rv:Value)(e:PExp)(N:List PNode)(ls:List PLet)(rs:List PRule):Prop where
 bp:Blk wr w.heap.size #[nv,lv,rv] 73
 be:Blk wr (w.heap.size+1) #[.int .i64 e.place,.int .i64 e.fr,.int .i64 e.behind] 105
 pa:PolAt wr nv lv rv N ls rs
 bl:Below w.heap.size w wr
theorem Chk2.below{w wr w':World}{nv lv rv:Value}{e:PExp}{N:List PNode}{ls:List PLet}{rs:List PRule}(h:Chk2 w wr nv lv rv e N ls rs)(hb:Below wr.heap.size wr w'):Chk2 w w' nv lv rv e N ls rs :=
 ⟨h.bp.below hb h.bp.lt,h.be.below hb h.be.lt,h.pa.below hb,h.bl.trans (hb.mono h.bl.size)⟩
theorem chk2_start{w:World}{nv lv rv:Value}{e:PExp}{N:List PNode}{ls:List PLet}{rs:List PRule}(h:PolAt w nv lv rv N ls rs):Chk2 w ((w.alloc (.cells #[nv,lv,rv] 73)).alloc (.cells #[.int .i64 e.place,.int .i64 e.fr,.int .i64 e.behind] 105)) nv lv rv e N ls rs:=by
 have hb:Below w.heap.size w ((w.alloc (.cells #[nv,lv,rv] 73)).alloc (.cells #[.int .i64 e.place,.int .i64 e.fr,.int .i64 e.behind] 105)):=(new_below w _).alloc (by simp) _
 refine ⟨(Blk.new w _ _).alloc _, ?_,h.below hb,hb⟩
 have:=Blk.new (w.alloc (.cells #[nv,lv,rv] 73)) #[.int .i64 e.place,.int .i64 e.fr,.int .i64 e.behind] 105
 simpa using this
theorem seg_at(N:List PNode)(i b:Nat)(h1:i<b)(h2:i<N.length):(N.drop i).take (b-i)=N[i] :: (N.drop (i+1)).take (b-(i+1)):=by
 rw[List.drop_eq_getElem_cons h2,show b-i=(b-(i+1))+1 by omega,List.take_succ_cons]
theorem seg_none(N:List PNode)(i b:Nat)(h:b≤i):(N.drop i).take (b-i)=[]:=by
 rw[show b-i=0 by omega,List.take_zero]
set_option maxHeartbeats 1000000 in
set_option maxRecDepth 100000 in
theorem namesOf_any(nv lv rv:Value)(e:PExp)(ahead:Nat)(N:List PNode)(ls:List PLet)(rs:List PRule)(w:World)(h:PolAt w nv lv rv N ls rs)(hm:∀ n∈N,mayT n.tok.text=true)(he1:e.fr≤e.behind)(he2:e.behind≤N.length)(ha:ahead≤401) :
  Calls Tryz.prog 106 #[polA nv lv rv,expA e,.int .i64 ahead] w fun e' w'=>e'=.returned (resN (namesE ls ahead (segE N e)))∧Below w.heap.size w w':=by
 obtain ⟨na,nc,rfl⟩:=h.n.shape
 obtain ⟨la,lc,rfl⟩:=h.l.shape
 obtain ⟨ra,rc,rfl⟩:=h.r.shape
 have hnb:=h.nb
 have hlb:=h.lb
 have hrb:=h.rb
 have HC:=hideP (chk2_start (e:=e) h)
 have HM:=hideP hm
 clear h hm
 unfold polA expA
 go_enter Tryz.func106,Tryz.ntmps106
 go_wp2
 go_loopw [8] (fun vi wr=>∃ i:Nat,e.fr≤i∧i≤e.behind∧vi=.int .i64 i∧Chk2 w wr (.slice na N.length nc) (.slice la ls.length lc) (.slice ra rs.length rc) e N ls rs∧namesE ls ahead (segE N e)=namesE ls ahead ((N.drop i).take (e.behind-i))) (fun i _=>1000-(intOf i).toNat)
 case atStart=>exact ⟨e.fr,Nat.le_refl _,he1,rfl,HC.out,rfl⟩
 case round =>
  obtain ⟨i,hi1,hi2,rfl,hc,hgo⟩:=hrel
  clear HC
  have HC:=hideP hc
  have HGO:=hideP hgo
  have hB:=hc.bp.lt
  have hB2:=hc.be.lt
  have p0:=hc.bp.cell 0
  have p1:=hc.bp.cell 1
  have e2:=hc.be.cell 2
  simp only[List.getElem?_toArray,List.getElem?_cons_zero,List.getElem?_cons_succ]at p0 p1 e2
  clear hc hgo
  by_cases hlt:i<e.behind
  ·have hiN:i<N.length:=by omega
   obtain ⟨g,o,cap,hcut,hcap,hg,hcl⟩:=HC.out.pa.n.pos (by omega)
   cases hcut
   have d0:=hcl (i*6+0) _ (flat_get cellN 6 (fun _=>rfl) N i hiN 0 (by omega))
   have d1:=hcl (i*6+1) _ (flat_get cellN 6 (fun _=>rfl) N i hiN 1 (by omega))
   have d2:=hcl (i*6+2) _ (flat_get cellN 6 (fun _=>rfl) N i hiN 2 (by omega))
   have hseg:=seg_at N i e.behind hlt hiN
   have HSG:Hid (namesE ls ahead (segE N e)=if nameT N[i].tok.text&&decide (ahead≤letIx ls N[i].tok.text) then some N[i].tok.at' else namesE ls ahead ((N.drop (i+1)).take (e.behind-(i+1)))):=by
    rw[Hid,HGO.out,hseg];rfl
   have hmi:=HM.out N[i] (List.getElem_mem hiN)
   have K:=kindOf _ hmi
   obtain ⟨tk,htk⟩:∃ tk,tk=N[i].tok:=⟨_,rfl⟩
   rw[← htk]at HSG K
   have f0:wr.cell? ⟨g,o+i*6,none⟩=some (.int .i64 (kindP tk.text)):=by rw[htk];exact d0
   have f1:wr.cell? ⟨g,o+i*6+1,none⟩=some (.int .i64 tk.at'):=by rw[htk,Nat.add_assoc];exact d1
   have f2:wr.cell? ⟨g,o+i*6+2,none⟩=some (.string (bsOf tk.text)):=by rw[htk,Nat.add_assoc];exact d2
   have hix:=letIx_le ls tk.text
   have HIX:=hideP hix
   clear d0 d1 d2 hcl hseg hmi htk HGO
   have HB4:=hideP (HC.out.below (new_below wr (.cells #[.int .i64 (kindP tk.text),.int .i64 tk.at',.string (bsOf tk.text)] 101)))
   by_cases hk:kindP tk.text=2
   ·have hk':((kindP tk.text:Int)==2)=true:=by rw[hk];rfl
    have hnm:nameT tk.text=true:=K.kname.1 hk
    have HNM:=hideP hnm
    obtain ⟨ix,hixe⟩:∃ ix,ix=letIx ls tk.text:=⟨_,rfl⟩
    have HIE:Hid (letIx ls (bsOf tk.text).toList=ix):=by rw[Hid,bsOf_toList,hixe]
    rw[← hixe]at HSG hix
    clear K hk hnm hixe HIX
    by_cases hge:ahead≤ix
    ·have hge':decide ((ahead:Int)≤(ix:Int))=true:=by simp;omega
     go_wp2_with (go_at_call 105;refine (LetOf_any ls _ (bsOf tk.text) _ HB4.out.pa.l hlb).mono ?_;rintro e' w4 ⟨rfl,rfl⟩;rw[HIE.out])
     go_quiet (fail)
     go_wp2
     go_ret2
     exact ⟨by rw[HSG.out,HNM.out,decide_eq_true hge];rfl,below_drewN HB4.out.bl _⟩
    ·have hge':decide ((ahead:Int)≤(ix:Int))=false:=by simp;omega
     have hgd:decide (ahead≤ix)=false:=by simpa using hge
     have HGD:=hideP hgd
     clear hgd
     go_wp2_with (go_at_call 105;refine (LetOf_any ls _ (bsOf tk.text) _ HB4.out.pa.l hlb).mono ?_;rintro e' w4 ⟨rfl,rfl⟩;rw[HIE.out])
     go_roundw
     case rel=>exact ⟨i+1,by omega,by omega,by go_num,HB4.out,by rw[HSG.out,HGD.out];simp⟩
     case measure=>simp[intOf];omega
   ·have hk':((kindP tk.text:Int)==2)=false:=by simp;omega
    have hnm:nameT tk.text=false:=by
     cases hx:nameT tk.text
     ·rfl
     ·exact absurd (K.kname.2 hx) hk
    have HNM:=hideP hnm
    clear K hnm
    go_wp2
    go_roundw
    case rel=>exact ⟨i+1,by omega,by omega,by go_num,HB4.out,by rw[HSG.out,HNM.out];simp⟩
    case measure=>simp[intOf];omega
  ·have hsn:=seg_none N i e.behind (by omega)
   have HRES:Hid (namesE ls ahead (segE N e)=none):=by rw[Hid,HGO.out,hsn];rfl
   clear hsn HGO
   go_wp2
   go_ret2
   exact ⟨by rw[HRES.out];rfl,HC.out.bl⟩
end Go.Proofs.YtpcjadaeolkngaaGreatDoor
