/-
  Compile and Load, of a text of which is known how it is read.
-/
import Derived.Test.YtldfkcpbjooemaaGreatDoorG35
set_option linter.unusedVariables false
set_option linter.unusedSimpArgs false
namespace Go.Proofs.YtldfkcpbjooemaaGreatDoor
open Go.RowKit Go.Deep
structure KnownP (s:Txt) (N:List PNode) (ls:List PLet) (rs:List PRule):Prop where
 ex:∃ L R,PolicyOf s L R∧nodesS 0 (L++R)=N∧letsS 0 (L++R)=ls∧rulesS 0 (L++R)=rs
 ok:errsOf N ls rs=(0,0)
 len:(rulesH (factsP ls N) ls N rs [] 0).1.length≤60000
 high:(rulesH (factsP ls N) ls N rs [] 0).2 < 100000
theorem KnownP.all {s:Txt} {N:List PNode} {ls:List PLet} {rs:List PRule} (h:KnownP s N ls rs) {L R:List RSt} (hp:PolicyOf s L R):nodesS 0 (L++R)=N∧letsS 0 (L++R)=ls∧rulesS 0 (L++R)=rs:=by
 obtain ⟨L',R',hp',h1,h2,h3⟩:=h.ex
 obtain ⟨rfl,rfl⟩:=hp.uniq hp'
 exact ⟨h1,h2,h3⟩
set_option maxHeartbeats 2000000 in
theorem Compile_known (s:ByteArray) (hz:s.size≤maxLen) {N:List PNode} {ls:List PLet} {rs:List PRule} (hk:KnownP s.toList N ls rs) (w:World) (hg:GlobT w) (hp:GlobB w) :
  Calls Tryz.prog 20 #[.string s] w fun e w'=>e=.returned (.tuple #[.string (bsN (imageC N ls rs)),.int .i64 0,.int .i64 0])∧Below w.heap.size w w':=by
 have HG:=Hid.mk2 hg
 have HP:=Hid.mk2 hp
 have HK:=Hid.mk2 hk
 obtain ⟨L0,R0,hp0,_⟩:=hk.ex
 have HRS:Hid (∀ wx,GlobT wx→Calls Tryz.prog 32 #[.string s] wx fun e w'=>Below wx.heap.size wx w'∧∃ na nc la lc ra rc,e=.returned (.tuple #[.agg #[.slice na N.length nc,.slice la ls.length lc,.slice ra rs.length rc],.int .i64 0,.int .i64 0])∧PolAt w' (.slice na N.length nc) (.slice la ls.length lc) (.slice ra rs.length rc) N ls rs∧CmpOk N ls rs (factsP ls N)):=fun wx hgx=>by
  refine (readSound_fine s wx hgx hz hp0.fine (fun L R h=>by obtain ⟨e1,e2,e3⟩:=hk.all h;rw[e1,e2,e3];exact hk.ok)).mono ?_
  rintro e w' ⟨hb,L,R,na,nc,la,lc,ra,rc,hpol,rfl,hm⟩
  obtain ⟨e1,e2,e3⟩:=hk.all hpol
  have hpa:=PolAt.of hm hpol
  have hok:=policy_ok hpol hpa.nb
  rw[e1,e2,e3] at hpa hok ⊢
  exact ⟨hb,na,nc,la,lc,ra,rc,rfl,hpa,hok⟩
 clear hg hp hk hp0
 go_enter Tryz.func20,Tryz.ntmps20
 go_wp2_with (first
  | (go_at_call 32;refine (HRS.out _ HG.out).mono ?_;rintro e' w1 ⟨hb1,na,nc,la,lc,ra,rc,rfl,hpa,hok⟩;have HB1:=Hid.mk2 hb1;have hbx:=box3 w1 (.cells #[.slice na N.length nc,.slice la ls.length lc,.slice ra rs.length rc] 64);have HP1:=Hid.mk2 ((HP.out.below hb1).below hbx);have HPA:=Hid.mk2 (hpa.below hbx);have HOK:=Hid.mk2 hok;have HX:=Hid.mk2 hbx;clear hb1 hbx hpa hok)
  | (go_at_call 42;refine (Image_any (.slice na N.length nc) (.slice la ls.length lc) (.slice ra rs.length rc) N ls rs _ HPA.out HOK.out HP1.out _ _ rfl HK.out.len HK.out.high).mono ?_;rintro e w2 ⟨rfl,hb2⟩))
 go_ret3
 exact ⟨rfl,(HB1.out.trans (HX.out.mono HB1.out.size)).trans (hb2.mono (by have:=HB1.out.size;simp;omega))⟩
end Go.Proofs.YtldfkcpbjooemaaGreatDoor
namespace Go.Proofs.YtldfkcpbjooemaaGreatDoor
def pbI (fs:List Fact) (ls:List PLet) (N:List PNode) (x:Itm) (y:Bn):Nat→Int→PB
 | 0,_=>leafI 0
 | f+1,i =>
  match N[i.toNat]? with
  | none=>leafI 0
  | some n =>
   match atF fs i with
   | some v=>leafI v
   | none =>
    if n.ops=1 then oneP (opK (kindP n.tok.text) n.ops) (pbI fs ls N x y f n.left)
    else if isChK (kindP n.tok.text) then choiceP (leaK (kindP n.tok.text)) (pbI fs ls N x y f n.left) (pbI fs ls N x y f n.right) (leafI (decK (kindP n.tok.text)))
    else if n.ops=2 then twoP (opK (kindP n.tok.text) n.ops) (pbI fs ls N x y f n.left) (pbI fs ls N x y f n.right)
    else if kindP n.tok.text=2 then pbI fs ls N x y f (meantI ls n.tok.text)
    else leafA (kindP n.tok.text - 15) x y
structure RefOk (ls:List PLet) (fs:List Fact) (j:Nat) (n:PNode):Prop where
 one:n.ops=1→n.left < j
 two:n.ops≠1→(isChK (kindP n.tok.text)=true∨n.ops=2)→n.left < j∧n.right < j
 nam:n.ops=0→isChK (kindP n.tok.text)=false→kindP n.tok.text=2→0≤meantI ls n.tok.text∧meantI ls n.tok.text < (j:Int)
 att:n.ops=0→isChK (kindP n.tok.text)=false→kindP n.tok.text≠2→atF fs (j:Int)=none→15≤kindP n.tok.text∧kindP n.tok.text≤21
def RefsOk (ls:List PLet) (fs:List Fact) (N:List PNode):Prop:=∀ j n,N[j]?=some n→NodeOk n∧RefOk ls fs j n
theorem oneP_code (n:Nat) (p:PB):(oneP n p).code=p.code++[n]∧(oneP n p).high=p.high:=by
 unfold oneP
 (repeat' split) <;> exact ⟨rfl,rfl⟩
theorem twoP_code (n:Nat) (p q:PB):(twoP n p q).code=p.code++q.code++[n]∧(twoP n p q).high=maxN p.high (q.high+1):=by
 unfold twoP
 (repeat' split) <;> exact ⟨rfl,rfl⟩
theorem choiceP_code (n:Nat) (p a b:PB):(choiceP n p a b).code=choiceC n p a b∧(choiceP n p a b).high=choiceH p a b:=by
 unfold choiceP
 (repeat' split) <;> exact ⟨rfl,rfl⟩
theorem opC_bare {k:Nat} (v:Int) (h:behindN k=0):opC k v=[k]:=by unfold opC;rw[h];rfl
theorem opC_int (v:Int):opC 0 v=(leafI v).code:=rfl
theorem opC_jump {k:Nat} (h:behindN k=2) (d:Nat) (hd:d < 65536):opC k (d:Int)=jumpC k d:=by
 have e:((d:Int) % 18446744073709551616).toNat=d:=by omega
 unfold opC jumpC
 rw[h,e]
 simp only[bytesN]
 have:d / 256 % 256=d / 256:=by omega
 first | rw[this] | skip
theorem opC_attr {k:Nat} (h1:15≤k) (h2:k≤21) (x:Itm) (y:Bn):opC 1 ((k:Int) - 15)=(leafA (k - 15) x y).code:=by
 obtain rfl | rfl | rfl | rfl | rfl | rfl | rfl:k=15∨k=16∨k=17∨k=18∨k=19∨k=20∨k=21:=by omega
 all_goals rfl
theorem layH_max (below h:Nat):layH below h=max h (below+1):=by unfold layH;split <;> omega
theorem maxN_max (a b:Nat):maxN a b=max a b:=by unfold maxN;split <;> omega
theorem pb_ok {fs:List Fact} {ls:List PLet} {N:List PNode} {x:Itm} {y:Bn} (hx:x.Ok) (hy:y.Ok) (hfi:∀ i,FactIn (atF fs i)) (hR:RefsOk ls fs N):∀ (f:Nat) (i:Int),0≤i→(pbI fs ls N x y f i).code.length < 60000→(pbI fs ls N x y f i).Ok x y
 | 0,i,_,_=>leafI_ok (by decide)
 | f+1,i,hi0,hlen=>by
  rw[pbI] at hlen ⊢
  cases hn:N[i.toNat]? with
  | none=>exact leafI_ok (by decide)
  | some n =>
   obtain ⟨hok,hrf⟩:=hR i.toNat n hn
   rw[hn] at hlen
   simp only at hlen ⊢
   cases hfa:atF fs i with
   | some v=>exact leafI_ok (hfi i v hfa)
   | none =>
    rw[hfa] at hlen
    simp only at hlen ⊢
    by_cases h1:n.ops=1
    ·rw[if_pos h1] at hlen ⊢
     rw[(oneP_code _ _).1,List.length_append] at hlen
     exact oneP_ok (pb_ok hx hy hfi hR f n.left (by omega) (by omega)) (hok.one h1)
    ·rw[if_neg h1] at hlen ⊢
     cases hc:isChK (kindP n.tok.text) with
     | true =>
      rw[hc,if_pos rfl] at hlen
      rw[if_pos rfl]
      rw[(choiceP_code _ _ _ _).1] at hlen
      unfold choiceC at hlen
      simp only[List.length_append] at hlen
      exact choiceP_ok (pb_ok hx hy hfi hR f n.left (by omega) (by omega)) (pb_ok hx hy hfi hR f n.right (by omega) (by omega)) (leafI_ok (decK_in _)) (by unfold leaK;split <;> omega) (by omega) (by omega)
     | false =>
      rw[hc,if_neg (by simp)] at hlen
      rw[if_neg (by simp)]
      by_cases h2:n.ops=2
      ·rw[if_pos h2] at hlen ⊢
       rw[(twoP_code _ _ _).1,List.length_append,List.length_append] at hlen
       exact twoP_ok (pb_ok hx hy hfi hR f n.left (by omega) (by omega)) (pb_ok hx hy hfi hR f n.right (by omega) (by omega)) (hok.two hc h2)
      ·rw[if_neg h2] at hlen ⊢
       have h0:n.ops=0:=by have:=hok.ops;omega
       by_cases hk:kindP n.tok.text=2
       ·rw[if_pos hk] at hlen ⊢
        exact pb_ok hx hy hfi hR f _ (hrf.nam h0 hc hk).1 hlen
       ·rw[if_neg hk]
        have hfa2:atF fs ((i.toNat:Nat):Int)=none:=by rw[Int.toNat_of_nonneg hi0];exact hfa
        obtain ⟨hk1,hk2⟩:=hrf.att h0 hc hk hfa2
        exact leafA_ok hx hy (by omega)
end Go.Proofs.YtldfkcpbjooemaaGreatDoor
namespace Go.Proofs.YtldfkcpbjooemaaGreatDoor
def evI (ls:List PLet) (N:List PNode) (x:Itm) (y:Bn):Nat→Int→Int × Nat
  | 0,_=>(0,0)
  | f+1,i =>
    match N[i.toNat]? with
    | none=>(0,0)
    | some n =>
      if n.ops=1 then
        (if (evI ls N x y f n.left).2≠0 then (0,(evI ls N x y f n.left).2) else oneN (opK (kindP n.tok.text) n.ops) (evI ls N x y f n.left).1)
      else if isChK (kindP n.tok.text) then
        (if (evI ls N x y f n.left).2≠0 then (0,(evI ls N x y f n.left).2) else if (evI ls N x y f n.left).1=decK (kindP n.tok.text) then (decK (kindP n.tok.text),0) else evI ls N x y f n.right)
      else if n.ops=2 then
        (if (evI ls N x y f n.left).2≠0 then (0,(evI ls N x y f n.left).2) else if (evI ls N x y f n.right).2≠0 then (0,(evI ls N x y f n.right).2) else joinN (opK (kindP n.tok.text) n.ops) (evI ls N x y f n.left).1 (evI ls N x y f n.right).1)
      else if kindP n.tok.text=2 then evI ls N x y f (meantI ls n.tok.text)
      else match singleF n.tok with
        | some v=>(v,0)
        | none=>(attrN (kindP n.tok.text - 15:Nat) x y,0)
theorem evI_at {ls:List PLet} {N:List PNode} {x:Itm} {y:Bn} {f i:Nat} {n:PNode} (hn:N[i]?=some n):evI ls N x y (f+1) (i:Int) =
      if n.ops=1 then
        (if (evI ls N x y f n.left).2≠0 then (0,(evI ls N x y f n.left).2) else oneN (opK (kindP n.tok.text) n.ops) (evI ls N x y f n.left).1)
      else if isChK (kindP n.tok.text) then
        (if (evI ls N x y f n.left).2≠0 then (0,(evI ls N x y f n.left).2) else if (evI ls N x y f n.left).1=decK (kindP n.tok.text) then (decK (kindP n.tok.text),0) else evI ls N x y f n.right)
      else if n.ops=2 then
        (if (evI ls N x y f n.left).2≠0 then (0,(evI ls N x y f n.left).2) else if (evI ls N x y f n.right).2≠0 then (0,(evI ls N x y f n.right).2) else joinN (opK (kindP n.tok.text) n.ops) (evI ls N x y f n.left).1 (evI ls N x y f n.right).1)
      else if kindP n.tok.text=2 then evI ls N x y f (meantI ls n.tok.text)
      else match singleF n.tok with
        | some v=>(v,0)
        | none=>(attrN (kindP n.tok.text - 15:Nat) x y,0):=by
  rw[evI]
  simp only[Int.toNat_natCast,hn]
theorem factsG_pre (ls:List PLet):∀ (N:List PNode) (gs:List Fact) (j:Nat),j < gs.length→(factsG ls gs N).getD j none=gs.getD j none
  | [],gs,j,_=>rfl
  | n :: r,gs,j,h=>by
    rw[factsG,factsG_pre ls r _ j (by simp;omega)]
    simp only[List.getD_eq_getElem?_getD]
    rw[List.getElem?_append_left h]
theorem facts_at (ls:List PLet) (N:List PNode) (i:Nat) (n:PNode) (hn:N[i]?=some n):atF (factsP ls N) (i:Int)=factN ls (factsP ls (N.take i)) n∧∀ j:Int,j < (i:Int)→atF (factsP ls (N.take i)) j=atF (factsP ls N) j:=by
  obtain ⟨hlt,hni⟩:=List.getElem?_eq_some_iff.1 hn
  have hsplit:N=N.take i++(n :: N.drop (i+1)):=by
    conv=>lhs;rw[← List.take_append_drop i N]
    rw[List.drop_eq_getElem_cons hlt,hni]
  have hG:factsP ls N=factsG ls (factsP ls (N.take i)++[factN ls (factsP ls (N.take i)) n]) (N.drop (i+1)):=by
    conv=>lhs;rw[hsplit]
    unfold factsP
    rw[factsG_append]
    rfl
  have hl:(factsP ls (N.take i)).length=i:=by rw[factsP_length];simp;omega
  refine ⟨?_,fun j hj=>?_⟩
  · rw[atF_nat,hG,factsG_pre _ _ _ i (by simp[hl])]
    simp only[List.getD_eq_getElem?_getD]
    rw[List.getElem?_append_right (by omega),hl,Nat.sub_self]
    rfl
  · by_cases h0:j < 0
    · rw[atF_neg h0,atF_neg h0]
    · obtain ⟨k,rfl⟩:∃ k:Nat,j=(k:Int):=⟨j.toNat,by omega⟩
      rw[atF_nat,atF_nat,hG,factsG_pre _ _ _ k (by simp[hl];omega)]
      simp only[List.getD_eq_getElem?_getD]
      rw[List.getElem?_append_left (by omega)]
theorem fact_ev {ls:List PLet} {N:List PNode} (x:Itm) (y:Bn) (hR:RefsOk ls (factsP ls N) N):∀ (f i:Nat) (v:Int),i < f→atF (factsP ls N) (i:Int)=some v→evI ls N x y f (i:Int)=(v,0)
  | 0,i,_,h,_=>by omega
  | f+1,i,v,hif,hv=>by
    have hlt:i < N.length:=by
      rw[atF_nat] at hv
      rcases Nat.lt_or_ge i (factsP ls N).length with h | h
      · rwa [factsP_length] at h
      · simp only[List.getD_eq_getElem?_getD] at hv
        rw[List.getElem?_eq_none h] at hv
        cases hv
    obtain ⟨n,hn⟩:∃ n,N[i]?=some n:=⟨N[i],List.getElem?_eq_getElem hlt⟩
    obtain ⟨hok,hrf⟩:=hR i n hn
    obtain ⟨hfa,hpre⟩:=facts_at ls N i n hn
    rw[hfa] at hv
    rw[evI_at hn]
    unfold factN at hv
    by_cases h1:n.ops=1
    · rw[if_pos h1] at hv ⊢
      have hl:=hrf.one h1
      rw[hpre _ (by omega)] at hv
      cases ha:atF (factsP ls N) (n.left:Int) with
      | none=>rw[ha] at hv;cases hv
      | some a =>
        rw[ha] at hv
        simp only[oneF] at hv
        rw[fact_ev x y hR f n.left a (by omega) ha]
        simp only[ne_eq,not_true_eq_false,if_false]
        split at hv
        · rename_i h0
          have:=Option.some.inj hv
          exact Prod.ext this h0
        · cases hv
    · rw[if_neg h1] at hv ⊢
      cases hc:isChK (kindP n.tok.text) with
      | true =>
        rw[hc,if_pos rfl] at hv
        rw[if_pos rfl]
        obtain ⟨hl,hr⟩:=hrf.two h1 (.inl hc)
        rw[hpre _ (by omega),hpre _ (by omega)] at hv
        cases ha:atF (factsP ls N) (n.left:Int) with
        | none=>rw[ha] at hv;cases hv
        | some a =>
          rw[ha] at hv
          simp only[choiceF] at hv
          rw[fact_ev x y hR f n.left a (by omega) ha]
          simp only[ne_eq,not_true_eq_false,if_false]
          by_cases hd:a=decK (kindP n.tok.text)
          · rw[if_pos hd] at hv ⊢
            have:=Option.some.inj hv
            rw[← hd,this]
          · rw[if_neg hd] at hv ⊢
            exact fact_ev x y hR f n.right v (by omega) hv
      | false =>
        rw[hc] at hv
        simp only[Bool.false_eq_true,if_false] at hv ⊢
        by_cases h2:n.ops=2
        · rw[if_pos h2] at hv ⊢
          obtain ⟨hl,hr⟩:=hrf.two h1 (.inr h2)
          rw[hpre _ (by omega),hpre _ (by omega)] at hv
          cases ha:atF (factsP ls N) (n.left:Int) with
          | none=>rw[ha] at hv;cases hv
          | some a =>
            cases hb:atF (factsP ls N) (n.right:Int) with
            | none=>rw[ha,hb] at hv;cases hv
            | some b =>
              rw[ha,hb] at hv
              simp only[twoF] at hv
              rw[fact_ev x y hR f n.left a (by omega) ha,fact_ev x y hR f n.right b (by omega) hb]
              simp only[ne_eq,not_true_eq_false,if_false]
              split at hv
              · rename_i h0
                exact Prod.ext (Option.some.inj hv) h0
              · cases hv
        · rw[if_neg h2] at hv ⊢
          have h0:n.ops=0:=by have:=hok.ops;omega
          by_cases hk:kindP n.tok.text=2
          · rw[if_pos hk] at hv ⊢
            obtain ⟨hm0,hm1⟩:=hrf.nam h0 hc hk
            rw[hpre _ hm1] at hv
            obtain ⟨j,hj⟩:∃ j:Nat,meantI ls n.tok.text=(j:Int):=⟨(meantI ls n.tok.text).toNat,by omega⟩
            rw[hj] at hv hm1 ⊢
            exact fact_ev x y hR f j v (by omega) hv
          · rw[if_neg hk] at hv ⊢
            rw[hv]
def TruthsOk (ls:List PLet) (N:List PNode) (x:Itm) (y:Bn):Prop:=∀ (j:Nat) (n:PNode),N[j]?=some n→n.ops≠1→isChK (kindP n.tok.text)=true→∀ f,n.left < f→(evI ls N x y f n.left).2=0→(evI ls N x y f n.left).1=0∨(evI ls N x y f n.left).1=1
theorem isCh_cases {k:Nat} (h:isChK k=true):k=7∨k=8:=by unfold isChK at h;simpa using h
theorem pb_ev {ls:List PLet} {N:List PNode} (x:Itm) (y:Bn) (hR:RefsOk ls (factsP ls N) N) (hT:TruthsOk ls N x y):∀ (f i:Nat),i < f→i < N.length→(pbI (factsP ls N) ls N x y f (i:Int)).flt=(evI ls N x y f (i:Int)).2∧((evI ls N x y f (i:Int)).2=0→(pbI (factsP ls N) ls N x y f (i:Int)).v=(evI ls N x y f (i:Int)).1)
  | 0,i,h,_=>by omega
  | f+1,i,hif,hlt=>by
    obtain ⟨n,hn⟩:∃ n,N[i]?=some n:=⟨N[i],List.getElem?_eq_getElem hlt⟩
    obtain ⟨hok,hrf⟩:=hR i n hn
    have hpb:pbI (factsP ls N) ls N x y (f+1) (i:Int)=match atF (factsP ls N) (i:Int) with
      | some v=>leafI v
      | none =>
        if n.ops=1 then oneP (opK (kindP n.tok.text) n.ops) (pbI (factsP ls N) ls N x y f n.left)
        else if isChK (kindP n.tok.text) then choiceP (leaK (kindP n.tok.text)) (pbI (factsP ls N) ls N x y f n.left) (pbI (factsP ls N) ls N x y f n.right) (leafI (decK (kindP n.tok.text)))
        else if n.ops=2 then twoP (opK (kindP n.tok.text) n.ops) (pbI (factsP ls N) ls N x y f n.left) (pbI (factsP ls N) ls N x y f n.right)
        else if kindP n.tok.text=2 then pbI (factsP ls N) ls N x y f (meantI ls n.tok.text)
        else leafA (kindP n.tok.text - 15) x y:=by
      rw[pbI]
      simp only[Int.toNat_natCast,hn]
      first | done | (cases atF (factsP ls N) (i:Int) <;> rfl)
    cases hfa:atF (factsP ls N) (i:Int) with
    | some v =>
      rw[fact_ev x y hR (f+1) i v hif hfa,hpb,hfa]
      exact ⟨rfl,fun _=>rfl⟩
    | none =>
      rw[hpb,hfa,evI_at hn]
      simp only
      by_cases h1:n.ops=1
      · rw[if_pos h1,if_pos h1]
        have hl:=hrf.one h1
        obtain ⟨e1,e2⟩:=pb_ev x y hR hT f n.left (by omega) (by omega)
        have hop:=hok.one h1
        unfold oneP
        rw[e1]
        by_cases hf:(evI ls N x y f n.left).2=0
        · rw[e2 hf]
          simp only[hf,ne_eq,not_true_eq_false,if_false]
          unfold oneN
          rcases hop with ho | ho <;> rw[ho] <;> simp
        · simp only[ne_eq,hf,not_false_eq_true,if_true]
          exact ⟨trivial,fun h=>h.elim⟩
      · rw[if_neg h1,if_neg h1]
        cases hc:isChK (kindP n.tok.text) with
        | true =>
          simp only[if_true]
          obtain ⟨hl,hr⟩:=hrf.two h1 (.inl hc)
          obtain ⟨e1,e2⟩:=pb_ev x y hR hT f n.left (by omega) (by omega)
          obtain ⟨e3,e4⟩:=pb_ev x y hR hT f n.right (by omega) (by omega)
          have ht:=hT i n hn h1 hc f (by omega)
          unfold choiceP
          rw[e1]
          by_cases hf:(evI ls N x y f n.left).2=0
          · rw[e2 hf]
            simp only[hf,ne_eq,not_true_eq_false,if_false]
            rcases isCh_cases hc with hk | hk <;> rw[hk] <;> rcases ht hf with hv | hv <;> rw[hv] <;> simp[leaK,decK,leafI]
            all_goals first
              | done
              | (by_cases hq:(evI ls N x y f n.right).2=0
                 · rw[e3];simp only[hq,if_true];exact ⟨by first | rfl | trivial,fun _=>e4 hq⟩
                 · rw[e3];simp only[hq,if_false];exact ⟨by first | rfl | trivial,fun h=>by simp_all⟩)
              | skip
          · simp only[ne_eq,hf,not_false_eq_true,if_true]
            exact ⟨trivial,fun h=>h.elim⟩
        | false =>
          simp only[Bool.false_eq_true,if_false]
          by_cases h2:n.ops=2
          · rw[if_pos h2,if_pos h2]
            obtain ⟨hl,hr⟩:=hrf.two h1 (.inr h2)
            obtain ⟨e1,e2⟩:=pb_ev x y hR hT f n.left (by omega) (by omega)
            obtain ⟨e3,e4⟩:=pb_ev x y hR hT f n.right (by omega) (by omega)
            unfold twoP
            rw[e1,e3]
            by_cases hf:(evI ls N x y f n.left).2=0
            · by_cases hg:(evI ls N x y f n.right).2=0
              · rw[e2 hf,e4 hg]
                simp only[hf,hg,ne_eq,not_true_eq_false,if_false]
                exact ⟨trivial,fun _=>trivial⟩
              · simp only[hf,hg,ne_eq,not_true_eq_false,not_false_eq_true,if_false,if_true]
                exact ⟨trivial,fun _=>trivial⟩
            · simp only[ne_eq,hf,not_false_eq_true,if_true]
              exact ⟨trivial,fun _=>trivial⟩
          · rw[if_neg h2,if_neg h2]
            have h0:n.ops=0:=by have:=hok.ops;omega
            by_cases hk:kindP n.tok.text=2
            · rw[if_pos hk,if_pos hk]
              obtain ⟨hm0,hm1⟩:=hrf.nam h0 hc hk
              obtain ⟨j,hj⟩:∃ j:Nat,meantI ls n.tok.text=(j:Int):=⟨(meantI ls n.tok.text).toNat,by omega⟩
              rw[hj] at hm1 ⊢
              exact pb_ev x y hR hT f j (by omega) (by omega)
            · rw[if_neg hk,if_neg hk]
              have hs:singleF n.tok=none:=by
                have:=(facts_at ls N i n hn).1
                rw[hfa] at this
                unfold factN at this
                rw[if_neg h1,hc] at this
                simp only[Bool.false_eq_true,if_false] at this
                rw[if_neg h2,if_neg hk] at this
                exact this.symm
              rw[hs]
              exact ⟨rfl,fun _=>rfl⟩
end Go.Proofs.YtldfkcpbjooemaaGreatDoor
namespace Go.Proofs.YtldfkcpbjooemaaGreatDoor
def IdxOk (j:Nat) (n:PNode):Prop:=(n.ops=1→n.left < j)∧(n.ops=2→n.left < j∧n.right < j)
theorem get_append {α:Type} {a b:List α} {k:Nat} {n:α} (h:(a++b)[k]?=some n):(k < a.length∧a[k]?=some n)∨(a.length≤k∧b[k - a.length]?=some n):=by
 rcases Nat.lt_or_ge k a.length with hk | hk
 ·rw[List.getElem?_append_left hk] at h;exact .inl ⟨hk,h⟩
 ·rw[List.getElem?_append_right hk] at h;exact .inr ⟨hk,h⟩
theorem get_single {α:Type} {a n:α} {k:Nat} (h:[a][k]?=some n):k=0∧a=n:=by
 cases k with
 | zero=>exact ⟨rfl,by simpa using h⟩
 | succ k=>simp at h
theorem Tr.idx (t:Tr) (h:t.wf):∀ (b k:Nat) (n:PNode),(t.flat b)[k]?=some n→IdxOk (b+k) n:=by
 refine Tr.ind (P:=fun t=>∀ (b k:Nat) (n:PNode),(t.flat b)[k]?=some n→IdxOk (b+k) n) t h ?_ ?_ ?_ ?_
 ·intro a _ b k n hk
  rw[Tr.flat_leaf] at hk
  obtain ⟨rfl,rfl⟩:=get_single hk
  exact ⟨(fun h=>by cases h),(fun h=>by cases h)⟩
 ·intro op e hw ih b k n hk
  rw[Tr.flat_un] at hk
  rcases get_append hk with ⟨_,h1⟩ | ⟨h1,h2⟩
  ·exact ih b k n h1
  ·obtain ⟨h3,rfl⟩:=get_single h2
   have hl:=e.flat_len (Tr.wf_un hw).2.2 b
   have hp:=e.num_pos (Tr.wf_un hw).2.2
   refine ⟨fun _=>?_,(fun h=>by cases h)⟩
   simp only
   omega
 ·intro op l r hw ihl ihr b k n hk
  rw[Tr.flat_bin] at hk
  have hwb:=Tr.wf_bin hw
  have hl:=l.flat_len hwb.2.2.2.2.2.1 b
  have hr:=r.flat_len hwb.2.2.2.2.2.2 (b+l.num)
  have hpl:=l.num_pos hwb.2.2.2.2.2.1
  have hpr:=r.num_pos hwb.2.2.2.2.2.2
  rcases get_append hk with ⟨_,h1⟩ | ⟨h1,h2⟩
  ·rcases get_append h1 with ⟨_,h3⟩ | ⟨h3,h4⟩
   ·exact ihl b k n h3
   ·have:=ihr (b+l.num) (k - (l.flat b).length) n h4
    rw[show b+l.num+(k - (l.flat b).length)=b+k by omega] at this
    exact this
  ·obtain ⟨h3,rfl⟩:=get_single h2
   rw[List.length_append] at h1 h3
   refine ⟨(fun h=>by cases h),fun _=>?_⟩
   simp only
   omega
 ·intro o e c hw ih b k n hk
  rw[Tr.flat_par] at hk
  exact ih b k n hk
theorem optNodes_idx {o:Option Tr} (h:∀ e,o=some e→e.wf) (b:Nat):∀ (k:Nat) (n:PNode),(optNodes b o)[k]?=some n→IdxOk (b+k) n:=by
 cases o with
 | none=>intro k n hk;simp[optNodes] at hk
 | some e=>exact fun k n hk=>e.idx (h e rfl) b k n hk
theorem RSt.idx (s:RSt) (h:s.wf) (b:Nat):∀ (k:Nat) (n:PNode),(s.nodes b)[k]?=some n→IdxOk (b+k) n:=by
 rcases s.cases with ⟨kw,name,eq,e,semi,rfl⟩ | ⟨wh,act,sc,semi,rfl⟩
 ·exact fun k n hk=>e.idx h.2.2.2.1 b k n hk
 ·intro k n hk
  rw[RSt.nodes_rule] at hk
  have hwf:∀ e,wh.map Prod.snd=some e→e.wf:=fun e he=>by
   cases wh with
   | none=>cases he
   | some p=>cases he;exact (h.1 p.1 p.2 rfl).2
  have hl:=optNodes_len (wh.map Prod.snd) hwf b
  rcases get_append hk with ⟨_,h1⟩ | ⟨h1,h2⟩
  ·exact optNodes_idx hwf b k n h1
  ·have:=optNodes_idx (fun e he=>h.2.2.1 e he) (b+optNum (wh.map Prod.snd)) _ n h2
   rw[show b+optNum (wh.map Prod.snd)+(k - (optNodes b (wh.map Prod.snd)).length)=b+k by omega] at this
   exact this
theorem nodes_idx:∀ (l:List RSt),(∀ s∈l,s.wf)→∀ (b k:Nat) (n:PNode),(nodesS b l)[k]?=some n→IdxOk (b+k) n
 | [],_,_,k,n,hk=>by simp[nodesS] at hk
 | s :: r,h,b,k,n,hk=>by
  rw[nodesS] at hk
  have hl:=s.nodes_len (h s List.mem_cons_self) b
  rcases get_append hk with ⟨_,h1⟩ | ⟨h1,h2⟩
  ·exact s.idx (h s List.mem_cons_self) b k n h1
  ·have:=nodes_idx r (fun x hx=>h x (List.mem_cons_of_mem _ hx)) (b+s.num) _ n h2
   rw[show b+s.num+(k - (s.nodes b).length)=b+k by omega] at this
   exact this
def NamesAhead (ls:List PLet) (N:List PNode):Prop:=∀ (j:Nat) (n:PNode),N[j]?=some n→n.ops=0→kindP n.tok.text=2→0≤meantI ls n.tok.text∧meantI ls n.tok.text < (j:Int)
theorem refs_ok {s:Txt} {L R:List RSt} (h:PolicyOf s L R) (hN:(nodesS 0 (L++R)).length≤401) (hna:NamesAhead (letsS 0 (L++R)) (nodesS 0 (L++R))):RefsOk (letsS 0 (L++R)) (factsP (letsS 0 (L++R)) (nodesS 0 (L++R))) (nodesS 0 (L++R)):=by
 intro j n hn
 have hmem:=List.mem_of_getElem? hn
 have hok:=(policy_ok h hN).nd n hmem
 have hmay:=(fits_of h hN).x.may n hmem
 have K:=kindOf n.tok.text hmay
 have hsh:=nodes_shapes (L++R) h.wf 0 n hmem
 have hix:=nodes_idx (L++R) h.wf 0 j n hn
 rw[Nat.zero_add] at hix
 refine ⟨hok,hix.1,fun h1 hor=>?_,fun h0 hc hk=>hna j n hn h0 hk,fun h0 hc hk hfa=>?_⟩
 ·rcases hor with hc | h2
  ·rcases hsh with ⟨h0,hs⟩ | ⟨h0,_⟩ | ⟨h2,_⟩
   ·exfalso
    rw[← K.single] at hs
    rcases isCh_cases hc with hk | hk <;> rw[hk] at hs <;> exact absurd hs (by decide)
   ·exact absurd h0 h1
   ·exact hix.2 h2
  ·exact hix.2 h2
 ·have hf:=(facts_at (letsS 0 (L++R)) (nodesS 0 (L++R)) j n hn).1
  rw[hfa] at hf
  unfold factN at hf
  rw[if_neg (by omega),hc] at hf
  simp only[Bool.false_eq_true,if_false] at hf
  rw[if_neg (by omega),if_neg hk] at hf
  have hs:singleK (kindP n.tok.text)=true:=by
   rcases hsh with ⟨_,hs⟩ | ⟨h1,_⟩ | ⟨h1,_⟩
   ·rw[K.single];exact hs
   ·omega
   ·omega
  unfold singleF at hf
  unfold singleK at hs
  simp only[Bool.or_eq_true,Bool.and_eq_true,decide_eq_true_eq] at hs
  (repeat' split at hf) <;> first | (cases hf;done) | omega
end Go.Proofs.YtldfkcpbjooemaaGreatDoor
