/-
  Small facts on blocks of cells that a call itself has made: what they hold, what they hold behind a store.
-/
import Derived.WalkKit
import Derived.WalkSpells
import Derived.WalkLawsBesides
import Derived.Deep.QuietTactic
import Derived.BigQuiet
import Derived.Test.YtgfnkeiigjholaaGreatDoorProg
import Derived.Test.YtgfnkeiigjholaaGreatDoorQ00
set_option linter.unusedVariables false
set_option linter.unusedSimpArgs false
namespace Go.Proofs.YtgfnkeiigjholaaGreatDoor
open Go.RowKit
def Blk(w:World)(b:Nat)(cs:Array Value)(t:TypeId):Prop:=w.heap[b]?=some (.cells cs t (0,0))
theorem Blk.cell{w:World}{b:Nat}{cs:Array Value}{t:TypeId}(h:Blk w b cs t)(i:Nat):w.cell? ⟨b,i,none⟩=cs[i]?:=by
 unfold Blk at h;simp[World.cell?,h]
theorem Blk.free{w:World}{b:Nat}{cs:Array Value}{t:TypeId}(h:Blk w b cs t)(i:Nat):w.frozen? ⟨b,i,none⟩=false:=by
 unfold Blk at h;simp[World.frozen?,h]
theorem Blk.lt{w:World}{b:Nat}{cs:Array Value}{t:TypeId}(h:Blk w b cs t):b<w.heap.size:=lt_of_block h
theorem Blk.set{w:World}{b:Nat}{cs:Array Value}{t:TypeId}(h:Blk w b cs t)(i:Nat)(v:Value):Blk (w.setCell ⟨b,i,none⟩ v) b (cs.setIfInBounds i v) t:=by
 have hlt:=h.lt
 have h':w.heap[b]=.cells cs t (0,0):=by unfold Blk at h;simpa[Array.getElem?_eq_getElem hlt] using h
 show (w.heap.modify b _)[b]?=_
 rw[Array.getElem?_eq_getElem (by simpa using hlt),Array.getElem_modify_self,h']
 rfl
theorem Blk.other{w:World}{b:Nat}{cs:Array Value}{t:TypeId}(h:Blk w b cs t)(a:Addr)(v:Value)(hne:b≠a.block):Blk (w.setCell a v) b cs t:=by
 unfold Blk;rw[Below.heap_setCell _ _ _ _ hne];exact h
theorem Blk.below{w w':World}{b B:Nat}{cs:Array Value}{t:TypeId}(h:Blk w b cs t)(hb:Below B w w')(hB:b<B):Blk w' b cs t:=by
 unfold Blk;rw[hb.block b hB];exact h
theorem Blk.alloc{w:World}{b:Nat}{cs:Array Value}{t:TypeId}(h:Blk w b cs t)(o:Obj):Blk (w.alloc o) b cs t :=
 h.below ((Below.refl w.heap.size w).alloc (Nat.le_refl _) o) h.lt
theorem Blk.new(w:World)(cs:Array Value)(t:TypeId):Blk (w.alloc (.cells cs t)) w.heap.size cs t:=heap_alloc_new w _
theorem Blk.drew{w:World}{b:Nat}{cs:Array Value}{t:TypeId}(h:Blk w b cs t):Blk w.drew b cs t:=h
theorem below_setCell{w:World}(b i:Nat)(v:Value):Below b w (w.setCell ⟨b,i,none⟩ v):=(Below.refl b w).setCell (p:=⟨b,i,none⟩) (Nat.le_refl _) v
theorem ret_bool{a b:Bool}(h:a=b):Ending.returned (.bool a)=.returned (.bool b):=by rw[h]
theorem ret_int{k:IntKind}{a b:Int}(h:a=b):Ending.returned (.int k a)=.returned (.int k b):=by rw[h]
def Reads(w:World)(v:Value)(n:Nat)(xs:List Value):Prop :=
 (v=.slice none 0 0∧n=0∧xs=[])∨∃ b o cap,v=.slice (some ⟨b,o,none⟩) n cap∧n≤cap∧b<w.heap.size∧∀ j u,xs[j]?=some u→w.cell? ⟨b,o+j,none⟩=some u
theorem Reads.below{w w':World}{v:Value}{n:Nat}{xs:List Value}(h:Reads w v n xs)(hb:Below w.heap.size w w'):Reads w' v n xs:=by
 rcases h with h | ⟨b,o,cap,rfl,hn,hlt,hc⟩
 ·exact .inl h
 ·exact .inr ⟨b,o,cap,rfl,hn,Nat.lt_of_lt_of_le hlt hb.size,fun j u hj=>(hb.cell (p:=⟨b,o+j,none⟩) hlt).trans (hc j u hj)⟩
theorem Reads.pos{w:World}{v:Value}{n:Nat}{xs:List Value}(h:Reads w v n xs)(hn:0<n) :
  ∃ g o cap,v=.slice (some ⟨g,o,none⟩) n cap∧n≤cap∧g<w.heap.size∧∀ j u,xs[j]?=some u→w.cell? ⟨g,o+j,none⟩=some u:=by
 rcases h with ⟨_,h,_⟩ | h
 ·omega
 ·exact h
theorem Reads.alloc{w:World}{v:Value}{n:Nat}{xs:List Value}(h:Reads w v n xs)(o:Obj):Reads (w.alloc o) v n xs:=h.below ((Below.refl _ _).alloc (Nat.le_refl _) o)
theorem Reads.drew{w:World}{v:Value}{n:Nat}{xs:List Value}(h:Reads w v n xs):Reads w.drew v n xs:=h
theorem Reads.shape{w:World}{v:Value}{n:Nat}{xs:List Value}(h:Reads w v n xs):∃ a c,v=.slice a n c:=by
 rcases h with ⟨rfl,h,_⟩ | ⟨g,o,cap,rfl,_⟩
 ·exact ⟨none,0,by rw[h]⟩
 ·exact ⟨_,_,rfl⟩
theorem run_index_nat{P:Program}(w:World)(t:TypeId)(s:ByteArray)(k:IntKind)(i:Int)(n:Nat)(h:P.underlying t=some .string)(hi:i=(n:Int))(hn:n<s.size) :
  (Instr.index t (.string s) (.int k i)).run P w=.ok (.int .u8 s[n].toNat) w:=by
 subst hi
 rw[run_index_string w t s k _ h,dif_pos ⟨by omega,by omega⟩]
 simp
theorem below_drewN{B:Nat}{a w:World}(h:Below B a w)(n:Nat):Below B a (w.drewN n):=h.trans ⟨rfl,rfl,rfl,Nat.le_refl _,fun _ _=>rfl⟩
theorem own_below{w w':World}{base:Nat}{e:TypeId}{size:Nat}{v:Value}{n:Nat}{xs:List Value}(h:w.ownsRow base e size v n xs)(hb:Below w.heap.size w w'):w'.ownsRow base e size v n xs:=by
 refine ⟨h.1, ?_⟩
 rcases h.2 with hn | ⟨g,cap,cur,rfl,hbg,hg,r⟩
 ·exact .inl hn
 ·exact .inr ⟨g,cap,cur,rfl,hbg,by rw[hb.block g (Array.getElem?_eq_some_iff.1 hg).1];exact hg,r⟩
theorem own_belowB{w w':World}{B base:Nat}{e:TypeId}{size:Nat}{v:Value}{n:Nat}{xs:List Value}(h:w.ownsRow base e size v n xs)(hb:Below B w w')(hv:∀ k,v.ownBlock=some k→k<B):w'.ownsRow base e size v n xs:=by
 refine ⟨h.1, ?_⟩
 rcases h.2 with hn | ⟨g,cap,cur,rfl,hbg,hg,r⟩
 ·exact .inl hn
 ·exact .inr ⟨g,cap,cur,rfl,hbg,by rw[hb.block g (hv g rfl)];exact hg,r⟩
theorem reads_of_own{w:World}{base:Nat}{e:TypeId}{size:Nat}{v:Value}{n:Nat}{xs:List Value}(h:w.ownsRow base e size v n xs):Reads w v n xs:=by
 rcases h.2 with ⟨rfl,rfl⟩ | ⟨g,cap,cur,rfl,hb,hg,hnc,hcm,hcs,htk⟩
 ·refine .inl ⟨rfl,rfl, ?_⟩
  have:=h.1
  simpa using this
 ·refine .inr ⟨g,0,cap,rfl,hnc,lt_of_block hg,fun j u hj=>?_⟩
  have hlt:j<n*size:=by
   have:=h.1
   rw[List.getElem?_eq_some_iff]at hj
   obtain ⟨h1,_⟩:=hj
   omega
  rw[Nat.zero_add,h.cellAt j hlt]
  exact hj
theorem own_grown{w w':World}{base:Nat}{e:TypeId}{size:Nat}{v:Value}{n:Nat}{xs:List Value}{o:Obj}{row:Option Nat}(h:w.ownsRow base e size v n xs)(hg:(w.alloc o).grownBy w' row)(hne:v.ownBlock=none∨v.ownBlock≠row):w'.ownsRow base e size v n xs :=
 (h.alloc o).kept hg hne
theorem own_ne{w:World}{b1 b2:Nat}{e1 e2:TypeId}{s1 s2:Nat}{v1 v2:Value}{n1 n2:Nat}{x1 x2:List Value}(h1:w.ownsRow b1 e1 s1 v1 n1 x1)(h2:w.ownsRow b2 e2 s2 v2 n2 x2)(he:e1≠e2):v1.ownBlock=none∨v1.ownBlock≠v2.ownBlock:=by
 rcases h1.2 with ⟨rfl,_⟩ | ⟨g1,c1,cur1,rfl,_,hg1,_⟩
 ·exact .inl rfl
 ·right
  rcases h2.2 with ⟨rfl,_⟩ | ⟨g2,c2,cur2,rfl,_,hg2,_⟩
  ·simp[Value.ownBlock]
  ·intro e
   simp only[Value.ownBlock,Option.some.injEq]at e
   rw[e,hg2]at hg1
   simp only[Option.some.injEq,Obj.cells.injEq]at hg1
   exact he hg1.2.1.symm
set_option maxHeartbeats 400000 in
theorem isDigit_any(c:UInt8)(w:World) :
  Calls Tryz.prog 66 #[.int .u8 c.toNat] w fun e w'=>e=.returned (.bool (isDig c))∧w'=w:=by
 rw[isDig_int]
 go_enter Tryz.func66,Tryz.ntmps66
 go_wp2
 all_goals go_ret
 all_goals exact ⟨ret_bool (by simp;omega),rfl⟩
set_option maxHeartbeats 400000 in
theorem isLetter_any(c:UInt8)(w:World) :
  Calls Tryz.prog 103 #[.int .u8 c.toNat] w fun e w'=>e=.returned (.bool (isLet c))∧w'=w:=by
 rw[isLet_int]
 go_enter Tryz.func103,Tryz.ntmps103
 go_wp2
 all_goals go_ret
 all_goals exact ⟨ret_bool (by simp;omega),rfl⟩
theorem sameC_int(a b:UInt8):sameC a b=((isDig a&&isDig b)||(isLet a&&isLet b)||(((a.toNat:Int)==60||(a.toNat:Int)==33)&&(b.toNat:Int)==61)):=by
 unfold sameC
 rw[show ((a.toNat:Int)==60)=(a==60) from beq_decide_u8 a 60 (by omega),show ((a.toNat:Int)==33)=(a==33) from beq_decide_u8 a 33 (by omega),show ((b.toNat:Int)==61)=(b==61) from beq_decide_u8 b 61 (by omega)]
set_option maxHeartbeats 1000000 in
theorem same_any(a b:UInt8)(w:World) :
  Calls Tryz.prog 95 #[.int .u8 a.toNat,.int .u8 b.toNat] w fun e w'=>e=.returned (.bool (sameC a b))∧w'=w:=by
 rw[sameC_int]
 cases h1:isDig a <;> cases h2:isLet a
 all_goals
  go_enter Tryz.func95,Tryz.ntmps95
  go_wp2_with (first | (go_at_call 66;refine (isDigit_any _ _).mono ?_;rintro e w' ⟨rfl,rfl⟩) | (go_at_call 103;refine (isLetter_any _ _).mono ?_;rintro e w' ⟨rfl,rfl⟩))
  all_goals go_ret
 all_goals exact ⟨ret_bool (by simp_all),rfl⟩
def inL(t:ByteArray)(l:List ByteArray):Bool:=l.any fun x=>x.toList==t.toList
theorem inL_hit{t:ByteArray}{l:List ByteArray}{k:Nat}(h:k<l.length)(he:(l[k].toList==t.toList)=true):inL t l=true:=by
 simp only[inL,List.any_eq_true]
 exact ⟨l[k],List.getElem_mem h,he⟩
theorem inL_miss{t:ByteArray}{l:List ByteArray}{k:Nat}(h:k<l.length)(hi:inL t (l.take k)=false)(he:(l[k].toList==t.toList)=false):inL t (l.take (k+1))=false:=by
 rw[List.take_succ_eq_append_getElem h]
 simp only[inL,List.any_append,List.any_cons,List.any_nil,Bool.or_false,he]at hi ⊢
 simp[hi]
set_option maxHeartbeats 1000000 in
theorem in_any(t:ByteArray)(l:List ByteArray)(v:Value)(w:World)(hv:Reads w v l.length (l.map .string))(hl:l.length≤1000000) :
  Calls Tryz.prog 68 #[.string t,v] w fun e w'=>e=.returned (.bool (inL t l))∧w'=w:=by
 rcases hv with ⟨rfl,hn,hx⟩ | ⟨b,o,cap,rfl,_,hlt,hc⟩
 ·have:l=[]:=by simpa using hx
  subst this
  go_enter Tryz.func68,Tryz.ntmps68
  go_wp2
  refine wp_loop_rounds 1 ?_;rw[rounds_succ]
  go_wp2
  go_ret
  exact ⟨rfl,rfl⟩
 ·go_enter Tryz.func68,Tryz.ntmps68
  go_wp2
  go_loop [5] (fun i=>∃ k:Nat,k≤l.length∧i=.int .i64 k∧inL t (l.take k)=false) (fun i=>l.length-(intOf i).toNat)
  case atStart=>exact ⟨0,Nat.zero_le _,rfl,rfl⟩
  case round =>
   obtain ⟨k,hk,rfl,hin⟩:=hrel
   by_cases hlt:k<l.length
   ·have hck:w.cell? ⟨b,o+k,none⟩=some (.string l[k]):=hc k _ (by simp[hlt])
    have HI:Hid (inL t (l.take k)=false):=hin
    clear hin hc
    go_wp2
    ·go_ret
     exact ⟨ret_bool (inL_hit hlt (by assumption)).symm,rfl⟩
    ·go_round
     case rel=>exact ⟨k+1,by omega,by go_num,inL_miss hlt HI.out (by assumption)⟩
     case measure=>simp[intOf];omega
   ·go_wp2
    go_ret
    exact ⟨ret_bool (by rw[List.take_of_length_le (by omega)]at hin;exact hin.symm),rfl⟩
theorem reads_lit(w:World)(l:List ByteArray)(cs:Array Value)(e:TypeId)(cap:Nat)(hcs:cs.toList=l.map .string)(hcap:l.length≤cap):Reads (w.alloc (.cells cs e)) (.slice (some ⟨w.heap.size,0,none⟩) l.length cap) l.length (l.map .string):=by
 refine .inr ⟨_,_,_,rfl,hcap,by simp,fun j u hj=>?_⟩
 rw[← hcs]at hj
 simp at hj
 simp[hj]
def wLeaf:List ByteArray:=[⟨#[116,114,117,101]⟩,⟨#[102,97,108,115,101]⟩,⟨#[100,114,121]⟩,⟨#[99,111,108,100]⟩,⟨#[115,97,102,101]⟩,⟨#[115,105,122,101]⟩,⟨#[115,112,101,101,100]⟩,⟨#[110,101,101,100]⟩,⟨#[122,111,110,101]⟩,⟨#[99,97,112]⟩,⟨#[117,115,101,100]⟩,⟨#[104,97,115]⟩]
def wOwn:List ByteArray:=[⟨#[108,101,116]⟩,⟨#[119,104,101,110]⟩,⟨#[115,99,111,114,101]⟩,⟨#[114,101,106,101,99,116]⟩,⟨#[97,110,100]⟩,⟨#[111,114]⟩,⟨#[110,111,116]⟩]
def wJoint:List ByteArray:=[⟨#[111,114]⟩,⟨#[97,110,100]⟩,⟨#[61]⟩,⟨#[33,61]⟩,⟨#[60]⟩,⟨#[60,61]⟩,⟨#[43]⟩,⟨#[45]⟩,⟨#[42]⟩,⟨#[47]⟩,⟨#[37]⟩]
def wSign:List ByteArray:=[⟨#[59]⟩,⟨#[61]⟩,⟨#[33,61]⟩,⟨#[60]⟩,⟨#[60,61]⟩,⟨#[43]⟩,⟨#[45]⟩,⟨#[42]⟩,⟨#[47]⟩,⟨#[37]⟩,⟨#[40]⟩,⟨#[41]⟩]
theorem inL_eq(t:ByteArray)(l:List ByteArray)(m:List Txt)(h:l=m.map bsOf):inL t l=m.contains t.toList:=by
 subst h
 rw[Bool.eq_iff_iff]
 simp[inL,List.any_eq_true,bsOf_toList]
set_option maxHeartbeats 1000000 in
theorem isLeaf_any(t:ByteArray)(w:World) :
  Calls Tryz.prog 64 #[.string t] w fun e w'=>e=.returned (.bool (leafT t.toList))∧Below w.heap.size w w':=by
 go_enter Tryz.func64,Tryz.ntmps64
 go_wp2_with (go_at_call 68;refine (in_any t wLeaf _ _ (reads_lit _ wLeaf _ _ _ rfl (by decide)) (by decide)).mono ?_;rintro e w' ⟨rfl,rfl⟩)
 go_ret
 exact ⟨ret_bool (inL_eq t wLeaf tLeaf rfl),(Below.refl _ _).alloc (Nat.le_refl _) _⟩
set_option maxHeartbeats 1000000 in
theorem isJoint_any(t:ByteArray)(w:World) :
  Calls Tryz.prog 140 #[.string t] w fun e w'=>e=.returned (.bool (jointT t.toList))∧Below w.heap.size w w':=by
 go_enter Tryz.func140,Tryz.ntmps140
 go_wp2_with (go_at_call 68;refine (in_any t wJoint _ _ (reads_lit _ wJoint _ _ _ rfl (by decide)) (by decide)).mono ?_;rintro e w' ⟨rfl,rfl⟩)
 go_ret
 exact ⟨ret_bool (inL_eq t wJoint tJoint rfl),(Below.refl _ _).alloc (Nat.le_refl _) _⟩
theorem head_getElem(t:ByteArray)(h:0<t.size):headC t.toList=t[0]:=by
 have:=getElem_toList t 0 h
 unfold headC
 cases hl:t.toList with
 | nil=>rw[hl]at this;simp at this
 | cons a r=>rw[hl]at this;simpa using this
set_option maxHeartbeats 1000000 in
theorem isName_any(t:ByteArray)(h0:0<t.size)(w:World) :
  Calls Tryz.prog 65 #[.string t] w fun e w'=>e=.returned (.bool (nameT t.toList))∧Below w.heap.size w w':=by
 have hh:=head_getElem t h0
 have hn:nameT t.toList=(isLet t[0]&&!leafT t.toList&&!ownT t.toList):=by rw[← hh];rfl
 rw[hn];clear hn hh
 cases hl:isLet t[0] <;> cases hf:leafT t.toList
 all_goals
  go_enter Tryz.func65,Tryz.ntmps65
  go_wp2_with (first | (go_at_call 103;refine (isLetter_any _ _).mono ?_;rintro e w' ⟨rfl,rfl⟩) | (go_at_call 64;refine (isLeaf_any _ _).mono ?_;rintro e w1 ⟨rfl,hb1⟩) | (go_at_call 68;refine (in_any t wOwn _ _ (reads_lit _ wOwn _ _ _ rfl (by decide)) (by decide)).mono ?_;rintro e w' ⟨rfl,rfl⟩))
  all_goals go_ret
 ·exact ⟨rfl,Below.refl _ _⟩
 ·exact ⟨rfl,Below.refl _ _⟩
 ·exact ⟨ret_bool (by rw[inL_eq t wOwn tOwn rfl];simp[ownT]),hb1.alloc hb1.size _⟩
 ·exact ⟨ret_bool (by simp),hb1.alloc hb1.size _⟩
end Go.Proofs.YtgfnkeiigjholaaGreatDoor
