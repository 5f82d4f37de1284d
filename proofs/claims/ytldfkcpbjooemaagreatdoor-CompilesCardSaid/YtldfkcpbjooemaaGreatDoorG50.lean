/-
  Check, held against the document: checked answers true.
-/
import Derived.Test.YtldfkcpbjooemaaGreatDoorG29
import Derived.Test.YtldfkcpbjooemaaGreatDoorG18
import Derived.Test.YtldfkcpbjooemaaGreatDoorG49
import Derived.Test.YtldfkcpbjooemaaGreatDoorG35
import Derived.Test.YtldfkcpbjooemaaGreatDoorG41
import Derived.Test.YtldfkcpbjooemaaGreatDoorG15
import Derived.Test.YtldfkcpbjooemaaGreatDoorG40
import Derived.Laws.AppendOwnNone
set_option linter.unusedVariables false
set_option linter.unusedSimpArgs false
namespace Go.Proofs.YtldfkcpbjooemaaGreatDoor
open Go.RowKit Go.Deep
theorem policy_may {s:Txt} {L R:List RSt} (h:PolicyOf s L R):∀ x∈L++R,x.wf∧x.may:=by
 intro x hx
 refine ⟨h.wf x hx,fun t ht=>h.may t ?_⟩
 rw[toksL,List.mem_flatMap]
 exact ⟨x,hx,by rw[RSt.toks];simp[ht]⟩
theorem check_same {s:Txt} {L R:List RSt} (h:PolicyOf s L R) {n p:Nat} (he:errsOf (nodesS 0 (L++R)) (letsS 0 (L++R)) (rulesS 0 (L++R))=(n,p)):checkOf L R=((n:Int),(p:Int)):=by
 have h1:=names_same L R h.lets h.rules h.wf
 unfold errsOf at he
 unfold checkOf
 rw[h1]
 cases hn:pNames (nodesS 0 (L++R)) (letsS 0 (L++R)) (rulesS 0 (L++R)) with
 | some q =>
  rw[hn] at he
  simp only[Prod.mk.injEq] at he
  obtain ⟨rfl,rfl⟩:=he
  rfl
 | none =>
  rw[hn] at he
  have h2:=kinds_same L R h.lets h.rules (policy_may h) hn
  have h3:=parts_same L R h.lets h.rules (policy_may h) hn
  simp only at he ⊢
  rw[← h2,← h3]
  cases hk:pKinds (nodesS 0 (L++R)) (letsS 0 (L++R)) (rulesS 0 (L++R)) with
  | some q =>
   rw[hk] at he
   simp only[Prod.mk.injEq] at he
   obtain ⟨rfl,rfl⟩:=he
   rfl
  | none =>
   rw[hk] at he
   simp only at he ⊢
   by_cases hp:pParts (nodesS 0 (L++R)) (letsS 0 (L++R)) (rulesS 0 (L++R)) > 150
   ·rw[if_pos hp] at he
    rw[if_pos (by simpa using hp)]
    cases he;rfl
   ·rw[if_neg hp] at he
    rw[if_neg (by simpa using hp)]
    cases he;rfl
theorem Check_ref (s:ByteArray) (w:World) {c:Int} {p:Nat} (h:SoundAs s.toList c p) :
  Calls Tryz.prog 14 #[.string s] w fun e w'=>(∃ a1 l1 c1 a2 l2 c2 a3 l3 c3,e=.returned (.tuple #[.agg #[.slice a1 l1 c1,.slice a2 l2 c2,.slice a3 l3 c3],.int .i64 c,.int .i64 p]))∧Below w.heap.size w w':=by
 rcases h with ⟨ht,hc⟩ | ⟨L,R,n,hp,he,hcn⟩
 ·exact Check_bad s w c p ht hc
 ·have hs:=check_same hp he
  have hne:0 < (toksL (L++R)).length:=by
   have h1:=toksL_le (L++R)
   cases hR:R with
   | nil=>exact absurd hR hp.ne
   | cons a r=>rw[toksL_append,toksL_cons,List.length_append,List.length_append,RSt.toks_length];omega
  have:=Check_fine s w L R ⟨hp.fine,hp.lets,hp.rules,hp.wf⟩ hne
  rw[hs] at this
  subst hcn
  exact this
end Go.Proofs.YtldfkcpbjooemaaGreatDoor
namespace Go.Proofs.YtldfkcpbjooemaaGreatDoor
open Go.RowKit Go.Deep
def lnames:List RSt→List Txt
 | []=>[]
 | s :: r=>Sum.elim (fun d:LetD=>[d.name.text]) (fun _:RuleD=>[]) s++lnames r
theorem names_split:∀ (A B:List RSt) (there:List Txt),isLetL' A→NamesS there (A++B)→NamesS there A∧NamesS (there++lnames A) B
 | [],B,there,_,h=>⟨trivial,by simpa[lnames] using h⟩
 | s :: A,B,there,hA,h=>by
  rcases s.cases with ⟨kw,name,eq,e,semi,rfl⟩ | ⟨wh,act,sc,semi,rfl⟩
  ·obtain ⟨h1,h2,h3⟩:=h
   obtain ⟨g1,g2⟩:=names_split A B (there++[name.text]) (fun z hz=>hA z (List.mem_cons_of_mem _ hz)) h3
   exact ⟨⟨h1,h2,g1⟩,by simpa[lnames,RSt.letS] using g2⟩
  ·have:=hA _ List.mem_cons_self;cases this
theorem sizes_names:∀ (L:List RSt) (ps:List (Txt × Nat)),isLetL' L→(sizesGo ps L).map Prod.fst=ps.map Prod.fst++lnames L
 | [],ps,_=>by simp[sizesGo,lnames]
 | s :: L,ps,hL=>by
  rcases s.cases with ⟨kw,name,eq,e,semi,rfl⟩ | ⟨wh,act,sc,semi,rfl⟩
  ·rw[sizesGo_let,sizes_names L _ (fun z hz=>hL z (List.mem_cons_of_mem _ hz))]
   simp[lnames,RSt.letS]
  ·have:=hL _ List.mem_cons_self;cases this
theorem names_rule:∀ (R:List RSt) (there:List Txt),isRuleL' R→NamesS there R→∀ wh act sc semi,RSt.rule wh act sc semi∈R→(∀ a∈optToks (wh.map Prod.snd),nameT a.text=true→a.text∈there)∧(∀ a∈optToks sc,nameT a.text=true→a.text∈there)
 | [],_,_,_,_,_,_,_,hm=>by cases hm
 | s :: R,there,hR,h,wh,act,sc,semi,hm=>by
  rcases s.cases with ⟨kw,name,eq,e,semi',rfl⟩ | ⟨wh',act',sc',semi',rfl⟩
  ·have:=hR _ List.mem_cons_self;cases this
  ·obtain ⟨h1,h2,h3⟩:=h
   rcases List.mem_cons.1 hm with he | hm
   ·have:=Sum.inr.inj he
    injection this with q1 q2 q3 q4
    rw[q1,q3]
    exact ⟨h1,h2⟩
   ·exact names_rule R there (fun z hz=>hR z (List.mem_cons_of_mem _ hz)) h3 wh act sc semi hm
theorem exprK_some {c:List (Txt × Nat)} {k:Nat} {e:Tr} (h:exprK c k (some e)=none):kindT c e=.ok k:=by
 simp only[exprK] at h
 cases hk:kindT c e with
 | error p=>rw[hk] at h;cases h
 | ok j =>
  rw[hk] at h
  simp only at h
  by_cases hj:j=k
  ·rw[hj]
  ·rw[if_neg hj] at h;cases h
theorem kinds_rule:∀ (R:List RSt) (c:List (Txt × Nat)),isRuleL' R→rulesK c R=none→∀ wh act sc semi,RSt.rule wh act sc semi∈R→exprK c 2 (wh.map Prod.snd)=none∧exprK c 1 sc=none
 | [],_,_,_,_,_,_,_,hm=>by cases hm
 | s :: R,c,hR,h,wh,act,sc,semi,hm=>by
  rcases s.cases with ⟨kw,name,eq,e,semi',rfl⟩ | ⟨wh',act',sc',semi',rfl⟩
  ·have:=hR _ List.mem_cons_self;cases this
  ·rw[rulesK_rule] at h
   cases h1:exprK c 2 (wh'.map Prod.snd) with
   | some p=>rw[h1] at h;cases h
   | none =>
    cases h2:exprK c 1 sc' with
    | some p=>rw[h1,h2] at h;cases h
    | none =>
     rw[h1,h2] at h
     rcases List.mem_cons.1 hm with he | hm
     ·have:=Sum.inr.inj he
      injection this with q1 q2 q3 q4
      rw[q1,q3]
      exact ⟨h1,h2⟩
     ·exact kinds_rule R c (fun z hz=>hR z (List.mem_cons_of_mem _ hz)) h wh act sc semi hm
theorem parts_rule:∀ (R:List RSt) (ps:List (Txt × Nat)),isRuleL' R→rulePartsGo ps R≤150→∀ wh act sc semi,RSt.rule wh act sc semi∈R→partSum ps (optToks (wh.map Prod.snd))≤150∧partSum ps (optToks sc)≤150
 | [],_,_,_,_,_,_,_,hm=>by cases hm
 | s :: R,ps,hR,h,wh,act,sc,semi,hm=>by
  rcases s.cases with ⟨kw,name,eq,e,semi',rfl⟩ | ⟨wh',act',sc',semi',rfl⟩
  ·have:=hR _ List.mem_cons_self;cases this
  ·rw[rulePartsGo_rule] at h
   rcases List.mem_cons.1 hm with he | hm
   ·have:=Sum.inr.inj he
    injection this with q1 q2 q3 q4
    rw[q1,q3]
    have h1:=partsGo_le_sum ps (optToks (wh'.map Prod.snd)) 0 (by omega)
    have h2:=partsGo_le_sum ps (optToks sc') 0 (by omega)
    omega
   ·exact parts_rule R ps (fun z hz=>hR z (List.mem_cons_of_mem _ hz)) (by omega) wh act sc semi hm
theorem mem_body {L:List RSt} {s:RSt} (hs:s∈L) {a:RTok} (ha:a∈s.body):a∈toksL L:=(mem_toksL hs).1 a ha
structure FineQ (s:Txt) (L R:List RSt):Prop where
 pol:PolicyOf s L R
 num:(nodesS 0 (L++R)).length≤401
 errs:errsOf (nodesS 0 (L++R)) (letsS 0 (L++R)) (rulesS 0 (L++R))=(0,0)
theorem num_of {s:Txt} {L R:List RSt} (h:PolicyOf s L R):(nodesS 0 (L++R)).length≤401:=by
 have h1:=stmts_num (L++R) h.wf
 have h2:=nodesS_len (L++R) h.wf 0
 have:=h.short
 omega
theorem tok_num {s:Txt} {L R:List RSt} (h:PolicyOf s L R):∀ a∈toksL (L++R),mayT a.text=true∧NumOk a:=fun a ha =>
 ⟨h.may a ha,fun hk=>⟨may_len (h.may a ha) (kind_one (h.may a ha) hk),fine_dig h.fine a ha (kind_one (h.may a ha) hk)⟩⟩
theorem fine_check {s:Txt} {L R:List RSt} (h:FineQ s L R):checkOf L R=(0,0):=by
 have:=check_same h.pol (n:=0) (p:=0) h.errs
 simpa using this
theorem fine_env {s:Txt} {L R:List RSt} (h:FineQ s L R) (x:Itm) (y:Bn) {w:World} {ls:List Stm} (hal:All2 (StmOk w) ls L):∃ E,LetsV ls L E x y∧RulesV E R∧vE E=envS x y [] L:=by
 have hc:=fine_check h
 have hp:=h.pol
 unfold checkOf at hc
 cases hn:namesGo [] [] [] (toksL (L++R)) with
 | some q=>rw[hn] at hc;cases hc
 | none =>
 rw[hn] at hc
 simp only at hc
 cases hw:wrongT L R with
 | some q=>rw[hw] at hc;cases hc
 | none =>
 rw[hw] at hc
 simp only at hc
 cases hb:bigT L R with
 | true=>rw[hb] at hc;cases hc
 | false =>
 clear hc
 have hNS:=names_S (L++R) hp.wf [] [] (by decide) hn
 obtain ⟨n1,n2⟩:=names_split L R [] hp.lets hNS
 cases hk:letsK [] L with
 | error p=>rw[wrongT_err hk] at hw;cases hw
 | ok c =>
 rw[wrongT_ok hk] at hw
 have hwL:∀ s∈[]++L,s.wf:=fun s hs=>hp.wf s (by simp at hs;simp[hs])
 have hmL:∀ s∈L,∀ a∈s.body,mayT a.text=true∧NumOk a:=fun s hs a ha=>tok_num hp a (mem_body (List.mem_append_left _ hs) ha)
 obtain ⟨E,hE,hcE,hpE,hvE⟩:=env_all (x:=x) (y:=y) L [] [] ⟨rfl,List.nodup_nil,(fun e he=>by cases he),(fun j kw name eq e semi hj=>by simp at hj)⟩ (fun s hs=>by cases hs) hp.lets hwL (fun s hs a ha=>(hmL s (by simpa using hs) a ha).1) n1 c hk
 rw[List.nil_append] at hE
 have hpE':pE E=sizesGo [] L:=hpE
 have hnE:nE E=lnames L:=by
  have:=sizes_names L [] hp.lets
  rw[← hpE'] at this
  have he:(pE E).map Prod.fst=nE E:=by unfold pE nE;rw[List.map_map];rfl
  rw[he] at this
  simpa using this
 have hshort:∀ s∈L++R,s.body.length≤400:=fun s hs=>Nat.le_trans (mem_toksL hs).2 hp.short
 refine ⟨E,⟨hE,hp.lets,fun s hs=>hp.wf s (List.mem_append_left _ hs),hmL,fun s hs=>hshort s (List.mem_append_left _ hs),hal.len,fun j kw name eq e semi hj hL=>?_⟩, ?_,hvE⟩
 ·obtain ⟨hjL,he⟩:=List.getElem?_eq_some_iff.1 hL
  have:=hal.get j hj hjL
  rw[he] at this
  exact this.1
 ·intro wh act sc semi hm
  have hmem:RSt.rule wh act sc semi∈L++R:=List.mem_append_right _ hm
  have hwf:=hp.wf _ hmem
  obtain ⟨w1,w2,w3,w4⟩:=hwf
  have hsh:=hshort _ hmem
  rw[RSt.body_rule] at hsh
  obtain ⟨a1,a2⟩:=names_rule R _ hp.rules n2 wh act sc semi hm
  rw[List.nil_append,← hnE] at a1 a2
  obtain ⟨b1,b2⟩:=kinds_rule R c hp.rules hw wh act sc semi hm
  rw[← hcE] at b1 b2
  have hbig:rulePartsGo (pE E) R≤150:=by
   have:bigT L R=decide (rulePartsGo (sizesGo [] L) R > 150):=rfl
   rw[hb,← hpE'] at this
   have:=of_decide_eq_false this.symm
   omega
  obtain ⟨p1,p2⟩:=parts_rule R (pE E) hp.rules hbig wh act sc semi hm
  refine ⟨fun kw e he=>?_,fun e he=>?_⟩
  ·subst he
   refine ⟨(w1 kw e rfl).2,fun a ha=>tok_num hp a (mem_body hmem (by rw[RSt.body_rule];simp[whToks,ha])),p1,a1,exprK_some b1, ?_⟩
   simp only[whToks,List.length_append,List.length_cons] at hsh
   omega
  ·subst he
   refine ⟨w3 e rfl,fun a ha=>tok_num hp a (mem_body hmem (by rw[RSt.body_rule];simp[optToks,ha])),p2,a2,exprK_some b2, ?_⟩
   simp only[optToks,List.length_append,List.length_cons] at hsh
   omega
theorem Says_pol (hAt:AtoiOk) {s:Txt} {L R:List RSt} (h:FineQ s L R) (x:Itm) (y:Bn) (hx:x.Ok∧y.Ok) {ls rs:List Stm} (lv kv rv:Value) (w:World) (hp:PolD w lv rv ls rs L R) :
  Calls Tryz.prog 24 #[.agg #[lv,kv,rv],itmA x,bnA y] w fun e w'=>e=.returned (resA (saysP x y L R))∧Below w.heap.size w w':=by
 obtain ⟨E,hV,hR,hE⟩:=fine_env h x y hp.al
 have hln:=lens h.pol.short
 have:=Says_any hAt ls L E rs R x y hx hV hR h.pol.rules (by rw[hp.ar.len];exact hln.2) lv kv rv w hp.lv ⟨hp.al.len,by rw[hp.al.len];exact hln.1,fun j hj hj'=>hp.al.get j hj hj'⟩ hp.rv hp.ar
 rw[hE] at this
 exact this
end Go.Proofs.YtldfkcpbjooemaaGreatDoor
namespace Go.Proofs.YtldfkcpbjooemaaGreatDoor
open Go.RowKit
theorem chain_pos {s:ByteArray} {l:List Ins} (hh:HeadOk s) (hc:Chain s 3 l s.size):0 < l.length:=by
  cases l with
  | nil=>have:3=s.size:=hc;have:=hh.1;omega
  | cons a r=>simp
theorem chain_same {s:ByteArray} {l l':List Ins} (h:Chain s 3 l s.size) (h':Chain s 3 l' s.size):l=l':=by
  obtain ⟨r,rfl,hr⟩:=h.pre h'
  cases r with
  | nil=>simp
  | cons o r=>have:=hr.1.1;omega
set_option maxHeartbeats 1000000 in
theorem Sound_any (s:ByteArray) (w:World) :
    Calls Tryz.prog 16 #[.string s] w fun e w'=>Below w.heap.size w w' ∧
      ((IsImg s∧∃ l v,Chain s 3 l s.size∧l.length≤4000∧e=.returned (.tuple #[v,.bool true])∧Reads w' v l.length (cellsV l)) ∨
       (¬ IsImg s∧∃ v,e=.returned (.tuple #[v,.bool false]))):=by
  by_cases h2:2 < s.size
  · have hix:=fun wx=>run_index_nat (P:=Tryz.prog) wx 9 s .i64 2 2 Tryz.underlying9 rfl h2
    have HB:Hid (s[2].toNat=bt s 2):=(bt_get s 2 h2).symm
    obtain ⟨c,hc⟩:∃ c,c=s[2].toNat:=⟨_,rfl⟩
    have hc256:c < 256:=by rw[hc];exact UInt8.toNat_lt _
    have HBC:Hid (bt s 2=c):=(by rw[hc,HB.out]:bt s 2=c)
    rw[← hc] at hix
    clear hc
    go_enter Tryz.func16,Tryz.ntmps16
    go_wp2_with (first | (go_at_call 37;refine (Operations_any s _).mono ?_;rintro e w1 ⟨hb1,⟨hh,l,v,hch,hl4,rfl,hown⟩ | ⟨hno,rfl⟩⟩) | (go_at_call 38;refine (Heights_any s hh.2.1 l hch (chain_pos hh hch) hl4 c hc256 _ _ (reads_of_own hown)).mono ?_;rintro e w2 ⟨hb2,⟨hG,u,rfl⟩ | ⟨hG,rfl⟩⟩))
    · go_ret2
      obtain ⟨G,hG⟩:=hG
      exact ⟨hb1.trans (hb2.mono hb1.size),.inl ⟨⟨hh,l,hch,G,by rw[HBC.out];exact hG⟩,l,_,hch,hl4,rfl,(reads_of_own hown).below hb2⟩⟩
    · go_ret2
      exact ⟨hb1.trans (hb2.mono hb1.size),.inr ⟨fun ⟨_,l',hc',G,hl⟩=>by
        have:=chain_same hch hc'
        subst this
        rw[HBC.out] at hl
        exact hG G hl,_,rfl⟩⟩
    · go_ret2
      exact ⟨hb1,.inr ⟨fun ⟨hh,l',hc',G,hl⟩=>by
        rcases hno with h | h
        · exact h hh
        · exact h l' hc',_,rfl⟩⟩
  · have hnh:Hid (¬ HeadOk s):=fun h=>by have:=h.1;omega
    go_enter Tryz.func16,Tryz.ntmps16
    go_wp2_with (go_at_call 37;refine (Operations_any s _).mono ?_;rintro e w1 ⟨hb1,hor⟩;obtain ⟨_,rfl⟩:=hor.resolve_left (fun h=>hnh.out h.1))
    go_ret2
    exact ⟨hb1,.inr ⟨fun h=>hnh.out h.1,_,rfl⟩⟩
end Go.Proofs.YtldfkcpbjooemaaGreatDoor
namespace Go.Proofs.YtldfkcpbjooemaaGreatDoor
open Go.RowKit
theorem AtStep.idx {s:ByteArray} {l:List Ins} {most:Nat} {G:Nat→Int} {q:Nat} {st:List Int} (h:AtStep s l most G q st):∃ k,k < l.length∧(nth l k).pos=q:=by
 obtain ⟨k,hk,he⟩:=mem_nth l _ h.here
 exact ⟨k,hk,by rw[he];rfl⟩
theorem AtStep.nextIdx {s:ByteArray} {l:List Ins} {most:Nat} {G:Nat→Int} {q i:Nat} {st:List Int} (h:AtStep s l most G q st) (hi:i < l.length) (hq:(nth l i).next=q):i+1 < l.length∧(nth l (i+1)).pos=q:=by
 have hf:=h.chain.follow i hi
 by_cases hl:i+1 < l.length
 ·exact ⟨hl,by rw[hf.1 hl,hq]⟩
 ·have h1:=hf.2 hl
  have h2:=h.ok.1
  omega
theorem nth_mk {s:ByteArray} {l:List Ins} {p q:Nat} (hc:Chain s p l q) {i:Nat} (hi:i < l.length):nth l i=mkIns s (nth l i).pos:=(hc.mem _ (nth_mem l i hi)).2.2.2
set_option maxHeartbeats 1000000 in
theorem attribute_any (k:Int) (hk:0≤k∧k≤6) (x:Itm) (y:Bn) (w:World) :
  Calls Tryz.prog 45 #[.int .i64 k,itmA x,bnA y] w fun e w'=>e=.returned (.int .i64 (attrN k x y))∧Below w.heap.size w w':=by
 unfold itmA bnA
 have hc:k=0∨k=1∨k=2∨k=3∨k=4∨k=5∨k=6:=by omega
 clear hk
 rcases hc with rfl | rfl | rfl | rfl | rfl | rfl | rfl
 all_goals
  go_enter Tryz.func45,Tryz.ntmps45
  go_wp2
  go_ret
  exact ⟨rfl,(((box3 _ _).trans ((box3 _ _).mono (by simp))).trans ((box3 _ _).mono (by simp;omega)))⟩
set_option maxHeartbeats 1000000 in
theorem sign_any (c:Nat) (hc:4≤c∧c≤12) (w:World) :
  Calls Tryz.prog 49 #[.int .i64 c] w fun e w'=>e=.returned (.string (signS c))∧Below w.heap.size w w':=by
 have hk:c=4∨c=5∨c=6∨c=7∨c=8∨c=9∨c=10∨c=11∨c=12:=by omega
 clear hc
 rcases hk with rfl | rfl | rfl | rfl | rfl | rfl | rfl | rfl | rfl
 all_goals
  go_enter Tryz.func49,Tryz.ntmps49
  go_wp2
  go_ret
  exact ⟨rfl,box3 _ _⟩
end Go.Proofs.YtldfkcpbjooemaaGreatDoor
namespace Go.Proofs.YtldfkcpbjooemaaGreatDoor
open Go.RowKit
theorem Tryz.szInt (w:World):(sizeOf 3).run Tryz.prog w=.ok 1 w:=by kernel_rfl
theorem Tryz.elInt:Tryz.prog.elem 40=3:=by kernel_rfl
theorem slh_int (g n cap hi:Nat) (h2:hi≤cap) (wx:World) :
  (Instr.slice 40 (.slice (some ⟨g,0,none⟩) n cap) none (some (.int .i64 hi)) none).run Tryz.prog wx=.ok (.slice (some ⟨g,0,none⟩) hi cap) wx:=by
 rw[run_slice_h wx _ _ _ _ (by rw[Tryz.elInt];exact Tryz.underlying40) .i64 _ (by omega) (by omega),Tryz.elInt,Tryz.szInt]
 simp[Result.andThen,sliced,Addr.add]
theorem sll_int (g n cap lo:Nat) (h1:lo≤n) (wx:World) :
  (Instr.slice 40 (.slice (some ⟨g,0,none⟩) n cap) (some (.int .i64 lo)) none none).run Tryz.prog wx=.ok (.slice (some ⟨g,if cap=lo then 0 else lo,none⟩) (n - lo) (cap - lo)) wx:=by
 rw[run_slice_l wx _ _ _ _ (by rw[Tryz.elInt];exact Tryz.underlying40) .i64 _ (by omega) (by omega),Tryz.elInt,Tryz.szInt]
 by_cases h:cap=lo
 ·simp[Result.andThen,sliced,Addr.add,h]
 ·simp[Result.andThen,sliced,Addr.add,h]
  exact fun h=>h.symm
structure RRun (s:ByteArray) (l:List Ins) (most:Nat) (G:Nat→Int) (x:Itm) (y:Bn) (R:Nat × Int × Nat) (st:List Int) (i n f:Nat):Prop where
 hi:i < l.length
 at':AtStep s l most G (nth l i).pos st
 run:R=runM s x y f (nth l i).pos st n
 fuel:s.size < f+(nth l i).pos
 steps:n≤(nth l i).pos
theorem RRun.ends {s:ByteArray} {l:List Ins} {most:Nat} {G:Nat→Int} {x:Itm} {y:Bn} {R:Nat × Int × Nat} {st:List Int} {i n f k:Nat} {v:Int} (h:RRun s l most G x y R st i n f) (hs:stepM x y (nth l i) st=.inl (k,v)):R=(k,v,n+1):=by
 have h1:=h.at'.ok.1
 have h2:=h.fuel
 obtain ⟨f',rfl⟩:∃ f',f=f'+1:=⟨f - 1,by omega⟩
 rw[nth_mk h.at'.chain h.hi] at hs
 rw[h.run]
 exact runM_end hs
theorem RRun.goes {s:ByteArray} {l:List Ins} {most:Nat} {G:Nat→Int} {x:Itm} {y:Bn} {R:Nat × Int × Nat} {st st':List Int} {i n f q:Nat} (h:RRun s l most G x y R st i n f) (hxy:x.Ok∧y.Ok) (hs:stepM x y (nth l i) st=.inr (q,st')) :
  ∃ k f',i < k∧(nth l k).pos=q∧RRun s l most G x y R st' k (n+1) f'∧(q=(nth l i).next→k=i+1):=by
 have h1:=h.at'.ok.1
 have h2:=h.fuel
 have h3:=h.steps
 obtain ⟨f',rfl⟩:∃ f',f=f'+1:=⟨f - 1,by omega⟩
 have hs':=hs
 rw[nth_mk h.at'.chain h.hi] at hs'
 obtain ⟨ha,hlt⟩:=h.at'.go hxy.1 hxy.2 hs'
 obtain ⟨k,hk,hp⟩:=ha.idx
 have hik:i < k:=by
  rcases Nat.lt_trichotomy i k with h4 | h4 | h4
  ·exact h4
  ·subst h4;omega
  ·have:=h.at'.chain.sorted k i h4 h.hi;omega
 refine ⟨k,f',hik,hp,⟨hk,by rw[hp];exact ha, ?_,by rw[hp];omega,by rw[hp];omega⟩,fun hq=>?_⟩
 ·rw[h.run,hp];exact runM_go hs'
 ·obtain ⟨h5,h6⟩:=ha.nextIdx h.hi hq.symm
  exact h.at'.chain.inj k (i+1) hk h5 (by rw[hp,h6])
theorem IsIndex.at {s:ByteArray} {l:List Ins} {p e:Nat} (hc:Chain s p l e) {k:Nat} (hk:k < l.length) {a r:Int} (ha:((nth l k).pos:Int)=a) (h:IsIndex l a r):r=k:=by
 rcases h with ⟨_,h⟩ | ⟨j,hj,rfl,hp⟩
 ·exact absurd ha (h k hk)
 ·have:=hc.inj j k hj hk (by omega)
  rw[this]
theorem rest_cells {w:World} {B g n cap tk:Nat} {st:List Int} (h:w.ownsRow B 3 1 (.slice (some ⟨g,0,none⟩) n cap) st.length (cellsZ st)) (htk:tk≤st.length):n=st.length∧n≤cap∧(∀ j u,(cellsZ st)[j]?=some u→w.cell? ⟨g,j,none⟩=some u)∧∀ j u,(cellsZ (st.drop tk))[j]?=some u→w.cell? ((⟨g,if cap=tk then 0 else tk,none⟩:Addr).add j)=some u:=by
 rcases h.2 with ⟨hv,_⟩ | ⟨g',cap',cur,hv,hg,hh,hn,hm,hs,ht⟩
 ·cases hv
 ·cases hv
  have hall:∀ j u,(cellsZ st)[j]?=some u→w.cell? ⟨g,j,none⟩=some u:=by
   intro j u hj
   rw[← ht,List.getElem?_take] at hj
   split at hj
   ·simp[World.cell?,hh]
    simpa using hj
   ·cases hj
  refine ⟨rfl,hn,hall,fun j u hj=>?_⟩
  have hj':(cellsZ st)[tk+j]?=some u:=by
   unfold cellsZ at hj ⊢
   rw[List.map_drop,List.getElem?_drop] at hj
   exact hj
  have hlt:tk+j < st.length:=by
   have:=(List.getElem?_eq_some_iff.1 hj').1
   simpa[cellsZ] using this
  rw[if_neg (by omega)]
  have e:(⟨g,tk,none⟩:Addr).add j=⟨g,tk+j,none⟩:=by
   unfold Addr.add
   by_cases h0:j=0 <;> simp[h0]
  rw[e]
  exact hall _ _ hj'
theorem one_cells (l:List Int):∀ u∈cellsZ l,u.oneCell'=true:=by
 intro u hu
 obtain ⟨n,_,rfl⟩:=List.mem_map.1 hu
 rfl
theorem fin_blk {w1:World} {rb:Nat} {T:TypeId} (h:Blk w1 rb #[.int .i64 0,.int .i64 0,.int .i64 0] T) (k v n:Value):Blk (((w1.setCell ⟨rb,0,none⟩ k).setCell ⟨rb,1,none⟩ v).setCell ⟨rb,2,none⟩ n) rb #[k,v,n] T:=((h.set 0 k).set 1 v).set 2 n
theorem fin_below {B rb:Nat} {w w1:World} (h:Below B w w1) (hB:B≤rb) (k v n:Value):Below B w (((w1.setCell ⟨rb,0,none⟩ k).setCell ⟨rb,1,none⟩ v).setCell ⟨rb,2,none⟩ n):=((h.setCell (p:=⟨rb,0,none⟩) hB k).setCell (p:=⟨rb,1,none⟩) hB v).setCell (p:=⟨rb,2,none⟩) hB n
theorem fst_of {st:List Int} {z:Int} (h:st[0]?=some z):fst st=z:=by
 cases st with
 | nil=>simp at h
 | cons a r=>simpa[fst] using h
theorem snd_of {st:List Int} {z:Int} (h:st[1]?=some z):snd st=z:=by
 cases st with
 | nil=>simp at h
 | cons a r=>cases r with
  | nil=>simp at h
  | cons b r=>simpa[snd] using h
theorem get_of {st:List Int} {k:Nat} (h:k < st.length):∃ z,st[k]?=some z∧z∈st:=⟨st[k],List.getElem?_eq_getElem h,List.getElem_mem h⟩
end Go.Proofs.YtldfkcpbjooemaaGreatDoor
