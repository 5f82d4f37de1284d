/-
  The feed with its bytes: the text of a piece hangs on the raw bytes alone.
-/
import Derived.Test.YtpcjadaeolkngaaGreatDoorJ41
import Derived.Test.YtpcjadaeolkngaaGreatDoorJ43
import Derived.Test.YtpcjadaeolkngaaGreatDoorJ44
set_option linter.unusedVariables false
set_option linter.unusedSimpArgs false
namespace Go.Proofs.YtpcjadaeolkngaaGreatDoor
open Go.RowKit
structure Fd where
 s:ByteArray
 k:Nat
abbrev PT:=ByteArray×Nat×Fd
def nx(n:Int)(g:Fd):Int×Fd:=if h:g.k<g.s.size then ((g.s[g.k].toNat:Int) % n,⟨g.s,g.k+1⟩) else (0,g)
structure FedAt(w:World)(fb:Nat)(g:Fd):Prop where
 blk:Blk w fb #[.string g.s,.int .i64 g.k] 59
 le:g.k≤g.s.size
 max:g.s.size≤maxLen
theorem FedAt.below{w w':World}{fb:Nat}{g:Fd}(h:FedAt w fb g)(hb:Below w.heap.size w w'):FedAt w' fb g:=⟨h.blk.below hb h.blk.lt,h.le,h.max⟩
theorem FedAt.other{w:World}{fb:Nat}{g:Fd}(h:FedAt w fb g)(b i:Nat)(v:Value)(hb:b≠fb):FedAt (w.setCell ⟨b,i,none⟩ v) fb g:=⟨h.blk.other _ _ (by simp only;omega),h.le,h.max⟩
theorem FedAt.lt{w:World}{fb:Nat}{g:Fd}(h:FedAt w fb g):fb<w.heap.size:=h.blk.lt
set_option maxHeartbeats 1000000 in
theorem next_fed(n:Int)(hn:0<n∧n≤2000)(fb:Nat)(w:World)(g:Fd)(h:FedAt w fb g) :
  Calls Tryz.prog 19 #[.pointer (some ⟨fb,0,none⟩),.int .i64 n] w fun e w'=>∃ r g',(nx n g=(r,g')∧0≤r∧r<n∧e=.returned (.int .i64 r))∧FedAt w' fb g'∧But fb w w':=by
 obtain ⟨s,k⟩:=g
 obtain ⟨hb,hk,hs⟩:=h
 simp only at hb hk hs
 have HB:=mH hb
 have c0:=hb.cell 0
 have c1:=hb.cell 1
 have f1:=hb.free 1
 have hs':(s.size:Int)≤9223372036854775807:=by have h:=hs;simp[maxLen]at h;omega
 obtain ⟨h3,h4⟩:=hn
 have en:(n==0)=false:=by simp;omega
 have HSm:=mH hs
 clear hb hs
 by_cases hlt:k<s.size
 ·have hix:=fun wx=>run_index_nat (P:=Tryz.prog) wx 9 s .i64 (k:Int) k Tryz.underlying9 rfl hlt
  obtain ⟨c,hc⟩:∃ c,c=s[k].toNat:=⟨_,rfl⟩
  have hc256:c<256:=by rw[hc];exact UInt8.toNat_lt _
  rw[← hc]at hix
  have hm:=Int.emod_nonneg (c:Int) (b:=n) (by omega)
  have hl:=Int.emod_lt_of_pos (c:Int) h3
  have HM:=mH hm
  have HL:=mH hl
  have HNX:Hid (nx n ⟨s,k⟩=((c:Int) % n,⟨s,k+1⟩)):=by
   show nx n ⟨s,k⟩=_
   unfold nx
   rw[dif_pos hlt,hc]
  have dk:decide ((s.size:Int)≤(k:Int))=false:=by simp;omega
  clear hc hm hl
  go_enter Tryz.func19,Tryz.ntmps19
  go_wp2
  go_quiet (fail)
  go_wp2
  go_quiet (fail)
  go_wp2
  go_ret
  exact ⟨_,_,⟨HNX.out,HM.out,HL.out,rfl⟩,⟨(HB.out.drewN _).set 1 _,by simp only;omega,HSm.out⟩,(But.of (below_drewN (Below.refl _ w) _)).trans (But.set fb 1 _ HB.out.lt)⟩
 ·have HNX:Hid (nx n ⟨s,k⟩=(0,⟨s,k⟩)):=by
   show nx n ⟨s,k⟩=_
   unfold nx
   rw[dif_neg hlt]
  have dk:decide ((s.size:Int)≤(k:Int))=true:=by simp;omega
  go_enter Tryz.func19,Tryz.ntmps19
  go_wp2
  go_quiet (fail)
  go_wp2
  go_ret
  exact ⟨0,_,⟨HNX.out,Int.le_refl _,h3,rfl⟩,⟨HB.out.drewN _,hk,HSm.out⟩,But.of (below_drewN (Below.refl _ w) _)⟩
def turnG(op:ByteArray)(p:PT):PT:=if (nx 5 p.2.2).1=1 then (op++tiedT p.1 p.2.1 6,6,(nx 5 p.2.2).2) else (p.1,p.2.1,(nx 5 p.2.2).2)
def looseG(p:PT):PT:=if (nx 5 p.2.2).1=1 then (looseT p.1,6,(nx 5 p.2.2).2) else (p.1,p.2.1,(nx 5 p.2.2).2)
theorem turnG_yes{op t:ByteArray}{b:Nat}{g g':Fd}(h:nx 5 g=(1,g')):turnG op (t,b,g)=(op++tiedT t b 6,6,g'):=by
 unfold turnG
 simp only[h]
 rw[if_pos trivial]
theorem turnG_no{op t:ByteArray}{b:Nat}{r:Int}{g g':Fd}(h:nx 5 g=(r,g'))(hr:r≠1):turnG op (t,b,g)=(t,b,g'):=by
 unfold turnG
 simp only[h]
 rw[if_neg hr]
theorem looseG_yes{t:ByteArray}{b:Nat}{g g':Fd}(h:nx 5 g=(1,g')):looseG (t,b,g)=(looseT t,6,g'):=by
 unfold looseG
 simp only[h]
 rw[if_pos trivial]
theorem looseG_no{t:ByteArray}{b:Nat}{r:Int}{g g':Fd}(h:nx 5 g=(r,g'))(hr:r≠1):looseG (t,b,g)=(t,b,g'):=by
 unfold looseG
 simp only[h]
 rw[if_neg hr]
structure FeDuG(w wx:World)(fb:Nat)(g:Fd)(c1 c2:Array Value):Prop where
 box:Blk wx w.heap.size c1 62
 res:Blk wx (w.heap.size+1) c2 62
 fed:FedAt wx fb g
 bl:But fb w wx
 lt:fb<w.heap.size
theorem FeDuG.next{w wx w':World}{fb:Nat}{g g':Fd}{c1 c2:Array Value}(h:FeDuG w wx fb g c1 c2)(hF:FedAt w' fb g')(hB:But fb wx w'):FeDuG w w' fb g' c1 c2 :=
 ⟨h.box.but hB (by have:=h.lt;omega),h.res.but hB (by have:=h.lt;omega),hF,h.bl.trans hB,h.lt⟩
theorem FeDuG.setB{w wx:World}{fb:Nat}{g:Fd}{c1 c2:Array Value}(h:FeDuG w wx fb g c1 c2)(i:Nat)(v:Value):FeDuG w (wx.setCell ⟨w.heap.size,i,none⟩ v) fb g (c1.setIfInBounds i v) c2 :=
 ⟨h.box.set i v,h.res.other _ _ (by simp only;omega),h.fed.other _ _ _ (by have:=h.lt;omega),h.bl.st _ _ (Nat.le_refl _) v,h.lt⟩
theorem FeDuG.setO{w wx:World}{fb:Nat}{g:Fd}{c1 c2:Array Value}(h:FeDuG w wx fb g c1 c2)(i:Nat)(v:Value):FeDuG w (wx.setCell ⟨w.heap.size+1,i,none⟩ v) fb g c1 (c2.setIfInBounds i v) :=
 ⟨h.box.other _ _ (by simp only;omega),h.res.set i v,h.fed.other _ _ _ (by have:=h.lt;omega),h.bl.st _ _ (by omega) v,h.lt⟩
theorem FeDuG.fin{w wx:World}{fb:Nat}{g:Fd}{c1:Array Value}{z0 z1 z2 z3 z4 z5:Value}(h:FeDuG w wx fb g c1 #[z0,z1,z2,z3,z4,z5])(a b c d e f:Value):Blk (finP w wx a b c d e f) (w.heap.size+1) #[a,b,c,d,e,f] 62∧FedAt (finP w wx a b c d e f) fb g∧But fb w (finP w wx a b c d e f):=by
 have g:=(((((h.setO 0 a).setO 1 b).setO 2 c).setO 3 d).setO 4 e).setO 5 f
 exact ⟨g.res,g.fed,g.bl⟩
theorem fedug_start{w:World}{fb:Nat}{g:Fd}(h:FedAt w fb g)(hlt:fb<w.heap.size)(c1 c2:Array Value):FeDuG w ((w.alloc (.cells c1 62)).alloc (.cells c2 62)) fb g c1 c2:=by
 have D:=duo_startP w c1 c2
 exact ⟨D.box,D.res,h.below D.bl,But.of D.bl,hlt⟩
set_option maxHeartbeats 2000000 in
set_option maxRecDepth 100000 in
theorem loose_fed(t:ByteArray)(b:Nat)(k:Wo)(hz:t.size≤1000)(fb:Nat)(w:World)(g:Fd)(h:FedAt w fb g)(hlt:fb<w.heap.size) :
  Calls Tryz.prog 39 #[.pointer (some ⟨fb,0,none⟩),pcV t b k] w fun e w'=>∃ t' b' g',(looseG (t,b,g)=(t',b',g')∧e=.returned (pcV t' b' k))∧FedAt w' fb g'∧But fb w w':=by
 obtain ⟨v,flt,steps,fix⟩:=k
 have z1:(9223372036854775807<(⟨#[40,32]⟩:ByteArray).size+t.size)=False:=by
  have:(⟨#[40,32]⟩:ByteArray).size=2:=rfl
  simp;omega
 have z2:(9223372036854775807<((⟨#[40,32]⟩:ByteArray)++t).size+(⟨#[41]⟩:ByteArray).size)=False:=by
  have:(⟨#[40,32]⟩:ByteArray).size=2:=rfl
  have:(⟨#[41]⟩:ByteArray).size=1:=rfl
  rw[ByteArray.size_append]
  simp;omega
 have HD:=mH (fedug_start h hlt #[.string t,.int .i64 b,.int .i64 v,.int .i64 flt,.int .i64 steps,.bool fix] #[.string { data:=#[] },.int .i64 0,.int .i64 0,.int .i64 0,.int .i64 0,.bool false])
 clear h hlt
 unfold pcV pcA
 simp only
 go_enter Tryz.func39,Tryz.ntmps39
 go_wp2_with (go_at_call 19;refine (next_fed 5 (by omega) _ _ _ HD.out.fed).mono ?_;rintro e w1 ⟨r,gq,⟨hg,hr0,hr5,rfl⟩,hF,hB⟩;have HG:=mH hg;replace HD:=mH (HD.out.next hF hB);clear hF hB hg;have c0:=HD.out.box.cell 0;have o0:=HD.out.res.cell 0;have q0:=HD.out.res.free 0;have c1:=HD.out.box.cell 1;have o1:=HD.out.res.cell 1;have q1:=HD.out.res.free 1;have c2:=HD.out.box.cell 2;have o2:=HD.out.res.cell 2;have q2:=HD.out.res.free 2;have c3:=HD.out.box.cell 3;have o3:=HD.out.res.cell 3;have q3:=HD.out.res.free 3;have c4:=HD.out.box.cell 4;have o4:=HD.out.res.cell 4;have q4:=HD.out.res.free 4;have c5:=HD.out.box.cell 5;have o5:=HD.out.res.cell 5;have q5:=HD.out.res.free 5;have b0:=HD.out.box.free 0;have b1:=HD.out.box.free 1;rcases (show r=1∨(r==1)=false by by_cases h:r=1;exact .inl h;right;simpa using h) with rfl | hr1)
 ·obtain ⟨hfb,hfe,hbl⟩:=((HD.out.setB 0 (.string (⟨#[40,32]⟩++t++⟨#[41]⟩))).setB 1 (.int .i64 6)).fin (.string (⟨#[40,32]⟩++t++⟨#[41]⟩)) (.int .i64 6) (.int .i64 v) (.int .i64 flt) (.int .i64 steps) (.bool fix)
  have g0:=hfb.cell 0
  have g1:=hfb.cell 1
  have g2:=hfb.cell 2
  have g3:=hfb.cell 3
  have g4:=hfb.cell 4
  have g5:=hfb.cell 5
  unfold finP at g0 g1 g2 g3 g4 g5 hbl hfe
  exact bodyPost_ret (v:=.agg #[.string ((⟨#[40,32]⟩:ByteArray)++t++(⟨#[41]⟩:ByteArray)),.int .i64 6,.int .i64 v,.int .i64 flt,.int .i64 steps,.bool fix]) (by simp[results,Tryz.results39,go_sem,g0,g1,g2,g3,g4,g5]) rfl ⟨_,_,gq,⟨looseG_yes HG.out,rfl⟩,hfe,hbl⟩
 ·obtain ⟨hfb,hfe,hbl⟩:=HD.out.fin (.string t) (.int .i64 b) (.int .i64 v) (.int .i64 flt) (.int .i64 steps) (.bool fix)
  have g0:=hfb.cell 0
  have g1:=hfb.cell 1
  have g2:=hfb.cell 2
  have g3:=hfb.cell 3
  have g4:=hfb.cell 4
  have g5:=hfb.cell 5
  unfold finP at g0 g1 g2 g3 g4 g5 hbl hfe
  exact bodyPost_ret (v:=.agg #[.string t,.int .i64 b,.int .i64 v,.int .i64 flt,.int .i64 steps,.bool fix]) (by simp[results,Tryz.results39,go_sem,g0,g1,g2,g3,g4,g5]) rfl ⟨_,_,gq,⟨looseG_no HG.out (by simpa using hr1),rfl⟩,hfe,hbl⟩
open Go.Deep
section
variable {C:Ctx→Prop} {t t1 t2:ByteArray} {b b1 b2:Nat} {k k1 k2:Wo} {kd L D P S:Nat} {fx:Bool}
theorem joinedG_num{o:ByteArray}{op:Txt}{lv n j:Nat}(ho:o.toList=op)(hop:op=cPlus∨op=cMinus∨op=cTimes∨op=cDiv∨op=cMod)(hlv:bindsT op=lv)(hn:kindP op=n)(hj:opK n 2=j)(hsz:o.size≤10)
  (hcc:∀ v1 v2:Int,In64 v1→In64 v2→∀ wx,Calls Tryz.prog 61 #[.string o,.int .i64 v1,.int .i64 v2] wx fun e w'=>e=.returned (.tuple #[.int .i64 (joinN j v1 v2).1,.int .i64 (joinN j v1 v2).2])∧Below wx.heap.size wx w')
  (hC:∀ E,C E→E.Ok) (h1:Pc C t1 b1 k1 1 L D P S fx) (h2:Pc C t2 b2 k2 1 L D P S fx) (hL:L≤400) (hS:S≤4000) (w:World) :
  Calls Tryz.prog 37 #[pcV t1 b1 k1,.string o,.int .i64 lv,pcV t2 b2 k2] w fun e w'=>(∃ t b k,(Pc C t b k 1 (L+L+5) (D+1) (P+P+1) (S+S+2) fx∧t=joinT o t1 b1 t2 b2 lv∧b=lv)∧e=.returned (pcV t b k))∧Below w.heap.size w w':=by
 have J:=Pc.arith ho hop hC h1 h2
 rw[hlv,hn]at J
 have hl5:lv≤5:=by rw[← hlv];exact bindsT_le op
 have hT:=twoT_of o t1 t2 b1 b2 k1 k2 lv hsz (by have:=h1.size;omega) (by have:=h2.size;omega) hl5
 have q1:=h1.steps
 have q2:=h2.steps
 have hcx:=hcc k1.v k2.v h1.fit.in64 h2.fit.in64
 have e1:(o.toList==[60])=false:=by rw[ho];rcases hop with rfl | rfl | rfl | rfl | rfl <;> decide
 have e2:(o.toList==[60,61])=false:=by rw[ho];rcases hop with rfl | rfl | rfl | rfl | rfl <;> decide
 have e3:(o.toList==[61])=false:=by rw[ho];rcases hop with rfl | rfl | rfl | rfl | rfl <;> decide
 have e4:(o.toList==[33,61])=false:=by rw[ho];rcases hop with rfl | rfl | rfl | rfl | rfl <;> decide
 obtain ⟨v1,f1,s1,x1⟩:=k1
 obtain ⟨v2,f2,s2,x2⟩:=k2
 simp only at q1 q2 hcx
 cases x1 with
 | true=>exact (joined_ar_t o t1 t2 _ _ b1 v1 f1 s1 b2 v2 f2 s2 x2 n lv hT (by omega) (by omega) e1 e2 e3 e4 _ _ (by rw[hj]) hcx w).mono (fun e w' h=>⟨⟨_,_,_,⟨J,rfl,rfl⟩,h.1⟩,h.2⟩)
 | false=>exact (joined_ar_f o t1 t2 _ _ b1 v1 f1 s1 b2 v2 f2 s2 x2 n lv hT (by omega) (by omega) e1 e2 e3 e4 _ _ (by rw[hj]) hcx w).mono (fun e w' h=>⟨⟨_,_,_,⟨J,rfl,rfl⟩,h.1⟩,h.2⟩)
theorem joinedG_cmp{o:ByteArray}{op:Txt}{n:Nat}(ho:o.toList=op)(hop:op=cLess∨op=cMost∨op=cEq∨op=cNeq)(hkd:kd=1∨(kd=3∧(op=cEq∨op=cNeq)))(hn:kindP op=n)(hsz:o.size≤10)
  (hC:∀ E,C E→E.Ok) (h1:Pc C t1 b1 k1 kd L D P S fx) (h2:Pc C t2 b2 k2 kd L D P S fx) (hL:L≤400) (hS:S≤4000) (w:World) :
  Calls Tryz.prog 37 #[pcV t1 b1 k1,.string o,.int .i64 3,pcV t2 b2 k2] w fun e w'=>(∃ t b k,(Pc C t b k 2 (L+L+6) (D+1) (P+P+1) (S+S+2) fx∧t=joinT o t1 b1 t2 b2 3∧b=3)∧e=.returned (pcV t b k))∧Below w.heap.size w w':=by
 have J:=Pc.compare ho hop hkd hC h1 h2
 rw[hn]at J
 have hT:=twoT_of o t1 t2 b1 b2 k1 k2 3 hsz (by have:=h1.size;omega) (by have:=h2.size;omega) (by omega)
 have q1:=h1.steps
 have q2:=h2.steps
 obtain ⟨v1,f1,s1,x1⟩:=k1
 obtain ⟨v2,f2,s2,x2⟩:=k2
 simp only at q1 q2
 obtain ⟨yes,hj,hsel⟩:∃ yes,joinN (opK n 2) v1 v2=(bitN yes,0)∧(((o.toList==[60])=true∧decide (v1<v2)=yes)∨((o.toList==[60])=false∧(o.toList==[60,61])=true∧decide (v1≤v2)=yes)∨((o.toList==[60])=false∧(o.toList==[60,61])=false∧(o.toList==[61])=true∧(v1==v2)=yes)∨((o.toList==[60])=false∧(o.toList==[60,61])=false∧(o.toList==[61])=false∧(o.toList==[33,61])=true∧(v1 != v2)=yes)):=by
  rw[ho,← hn]
  rcases hop with rfl | rfl | rfl | rfl
  ·exact ⟨_,rfl,.inl ⟨by decide,rfl⟩⟩
  ·exact ⟨_,rfl,.inr (.inl ⟨by decide,by decide,rfl⟩)⟩
  ·refine ⟨_, ?_,.inr (.inr (.inl ⟨by decide,by decide,by decide,rfl⟩))⟩
   show (bitN (decide (v1=v2)),0)=_
   congr 2
  ·refine ⟨_, ?_,.inr (.inr (.inr ⟨by decide,by decide,by decide,by decide,rfl⟩))⟩
   show (bitN (decide (v1≠v2)),0)=_
   congr 2
   by_cases h:v1=v2 <;> simp[h]
 cases x1 with
 | true=>exact (joined_cp_t o t1 t2 _ _ b1 v1 f1 s1 b2 v2 f2 s2 x2 n 3 hT (by omega) (by omega) yes hj hsel w).mono (fun e w' h=>⟨⟨_,_,_,⟨J,rfl,rfl⟩,h.1⟩,h.2⟩)
 | false=>exact (joined_cp_f o t1 t2 _ _ b1 v1 f1 s1 b2 v2 f2 s2 x2 n 3 hT (by omega) (by omega) yes hj hsel w).mono (fun e w' h=>⟨⟨_,_,_,⟨J,rfl,rfl⟩,h.1⟩,h.2⟩)
theorem eitherG_mk{o:ByteArray}{op:Txt}{lv n:Nat}(ho:o.toList=op)(hop:op=cAnd∨op=cOr)(hlv:bindsT op=lv)(hn:kindP op=n)(hsz:o.size≤10)
  (hC:∀ E,C E→E.Ok) (h1:Pc C t1 b1 k1 2 L D P S fx) (h2:Pc C t2 b2 k2 2 L D P S fx) (hL:L≤400) (hS:S≤4000) (w:World) :
  Calls Tryz.prog 64 #[pcV t1 b1 k1,.string o,.int .i64 lv,pcV t2 b2 k2] w fun e w'=>(∃ t b k,(Pc C t b k 2 (L+L+7) (D+1) (P+P+1) (S+S+2) fx∧t=joinT o t1 b1 t2 b2 lv∧b=lv)∧e=.returned (pcV t b k))∧Below w.heap.size w w':=by
 have J:=Pc.choose ho hop hC h1 h2
 rw[hlv,hn]at J
 have hl5:lv≤5:=by rw[← hlv];exact bindsT_le op
 have hT:=twoT_of o t1 t2 b1 b2 k1 k2 lv hsz (by have:=h1.size;omega) (by have:=h2.size;omega) hl5
 have q1:=h1.steps
 have q2:=h2.steps
 have u1:=h1.fit.truth rfl
 have n1:=h1.fit.nul
 have n2:=h2.fit.nul
 obtain ⟨v1,f1,s1,x1⟩:=k1
 obtain ⟨v2,f2,s2,x2⟩:=k2
 simp only at q1 q2 u1 n1 n2
 have hsel:(((o.toList==[97,110,100])==(v1==1))=true∧v1≠decK n)∨(((o.toList==[97,110,100])==(v1==1))=false∧v1=decK n):=by
  rw[ho,← hn]
  rcases hop with rfl | rfl <;> rcases u1 with rfl | rfl
  ·right;decide
  ·left;decide
  ·left;decide
  ·right;decide
 rcases hsel with ⟨a,d⟩ | ⟨a,d⟩ <;> cases x1
 ·exact (either_a_f o t1 t2 _ _ b1 v1 f1 s1 b2 v2 f2 s2 x2 n lv hT (by omega) (by omega) n1 n2 (fun _=>d) a w).mono (fun e w' h=>⟨⟨_,_,_,⟨J,rfl,rfl⟩,h.1⟩,h.2⟩)
 ·exact (either_a_t o t1 t2 _ _ b1 v1 f1 s1 b2 v2 f2 s2 x2 n lv hT (by omega) (by omega) n1 n2 (fun _=>d) a w).mono (fun e w' h=>⟨⟨_,_,_,⟨J,rfl,rfl⟩,h.1⟩,h.2⟩)
 ·exact (either_b_f o t1 t2 _ _ b1 v1 f1 s1 b2 v2 f2 s2 x2 n lv hT (by omega) (by omega) n1 n2 d a w).mono (fun e w' h=>⟨⟨_,_,_,⟨J,rfl,rfl⟩,h.1⟩,h.2⟩)
 ·exact (either_b_t o t1 t2 _ _ b1 v1 f1 s1 b2 v2 f2 s2 x2 n lv hT (by omega) (by omega) n1 n2 d a w).mono (fun e w' h=>⟨⟨_,_,_,⟨J,rfl,rfl⟩,h.1⟩,h.2⟩)
theorem joinedG_plus(hC:∀ E,C E→E.Ok)(h1:Pc C t1 b1 k1 1 L D P S fx)(h2:Pc C t2 b2 k2 1 L D P S fx)(hL:L≤400)(hS:S≤4000)(w:World) :
  Calls Tryz.prog 37 #[pcV t1 b1 k1,.string ⟨#[43]⟩,.int .i64 4,pcV t2 b2 k2] w fun e w'=>(∃ t b k,(Pc C t b k 1 (L+L+5) (D+1) (P+P+1) (S+S+2) fx∧t=joinT ⟨#[43]⟩ t1 b1 t2 b2 4∧b=4)∧e=.returned (pcV t b k))∧Below w.heap.size w w' :=
 joinedG_num (op:=cPlus) (lv:=4) (j:=4) (toL_mk _) (.inl rfl) (by decide) rfl (by decide) (by decide) (fun v1 v2 i1 i2 wx=>counted_any 4 ⟨by omega,by omega⟩ v1 v2 i1 i2 wx) hC h1 h2 hL hS w
theorem joinedG_less1(hC:∀ E,C E→E.Ok)(h1:Pc C t1 b1 k1 1 L D P S fx)(h2:Pc C t2 b2 k2 1 L D P S fx)(hL:L≤400)(hS:S≤4000)(w:World) :
  Calls Tryz.prog 37 #[pcV t1 b1 k1,.string ⟨#[45]⟩,.int .i64 4,pcV t2 b2 k2] w fun e w'=>(∃ t b k,(Pc C t b k 1 (L+L+5) (D+1) (P+P+1) (S+S+2) fx∧t=joinT ⟨#[45]⟩ t1 b1 t2 b2 4∧b=4)∧e=.returned (pcV t b k))∧Below w.heap.size w w' :=
 joinedG_num (op:=cMinus) (lv:=4) (j:=5) (toL_mk _) (.inr (.inl rfl)) (by decide) rfl (by decide) (by decide) (fun v1 v2 i1 i2 wx=>counted_any 5 ⟨by omega,by omega⟩ v1 v2 i1 i2 wx) hC h1 h2 hL hS w
theorem joinedG_times(hC:∀ E,C E→E.Ok)(h1:Pc C t1 b1 k1 1 L D P S fx)(h2:Pc C t2 b2 k2 1 L D P S fx)(hL:L≤400)(hS:S≤4000)(w:World) :
  Calls Tryz.prog 37 #[pcV t1 b1 k1,.string ⟨#[42]⟩,.int .i64 5,pcV t2 b2 k2] w fun e w'=>(∃ t b k,(Pc C t b k 1 (L+L+5) (D+1) (P+P+1) (S+S+2) fx∧t=joinT ⟨#[42]⟩ t1 b1 t2 b2 5∧b=5)∧e=.returned (pcV t b k))∧Below w.heap.size w w' :=
 joinedG_num (op:=cTimes) (lv:=5) (j:=6) (toL_mk _) (.inr (.inr (.inl rfl))) (by decide) rfl (by decide) (by decide) (fun v1 v2 i1 i2 wx=>counted_any 6 ⟨by omega,by omega⟩ v1 v2 i1 i2 wx) hC h1 h2 hL hS w
theorem joinedG_quot(hC:∀ E,C E→E.Ok)(h1:Pc C t1 b1 k1 1 L D P S fx)(h2:Pc C t2 b2 k2 1 L D P S fx)(hL:L≤400)(hS:S≤4000)(w:World) :
  Calls Tryz.prog 37 #[pcV t1 b1 k1,.string ⟨#[47]⟩,.int .i64 5,pcV t2 b2 k2] w fun e w'=>(∃ t b k,(Pc C t b k 1 (L+L+5) (D+1) (P+P+1) (S+S+2) fx∧t=joinT ⟨#[47]⟩ t1 b1 t2 b2 5∧b=5)∧e=.returned (pcV t b k))∧Below w.heap.size w w' :=
 joinedG_num (op:=cDiv) (lv:=5) (j:=7) (toL_mk _) (.inr (.inr (.inr (.inl rfl)))) (by decide) rfl (by decide) (by decide) (fun v1 v2 i1 i2 wx=>counted_any 7 ⟨by omega,by omega⟩ v1 v2 i1 i2 wx) hC h1 h2 hL hS w
theorem joinedG_rest(hC:∀ E,C E→E.Ok)(h1:Pc C t1 b1 k1 1 L D P S fx)(h2:Pc C t2 b2 k2 1 L D P S fx)(hL:L≤400)(hS:S≤4000)(w:World) :
  Calls Tryz.prog 37 #[pcV t1 b1 k1,.string ⟨#[37]⟩,.int .i64 5,pcV t2 b2 k2] w fun e w'=>(∃ t b k,(Pc C t b k 1 (L+L+5) (D+1) (P+P+1) (S+S+2) fx∧t=joinT ⟨#[37]⟩ t1 b1 t2 b2 5∧b=5)∧e=.returned (pcV t b k))∧Below w.heap.size w w' :=
 joinedG_num (op:=cMod) (lv:=5) (j:=8) (toL_mk _) (.inr (.inr (.inr (.inr rfl)))) (by decide) rfl (by decide) (by decide) (fun v1 v2 i1 i2 wx=>counted_any 8 ⟨by omega,by omega⟩ v1 v2 i1 i2 wx) hC h1 h2 hL hS w
theorem joinedG_lt(hkd:kd=1)(hC:∀ E,C E→E.Ok)(h1:Pc C t1 b1 k1 kd L D P S fx)(h2:Pc C t2 b2 k2 kd L D P S fx)(hL:L≤400)(hS:S≤4000)(w:World) :
  Calls Tryz.prog 37 #[pcV t1 b1 k1,.string ⟨#[60]⟩,.int .i64 3,pcV t2 b2 k2] w fun e w'=>(∃ t b k,(Pc C t b k 2 (L+L+6) (D+1) (P+P+1) (S+S+2) fx∧t=joinT ⟨#[60]⟩ t1 b1 t2 b2 3∧b=3)∧e=.returned (pcV t b k))∧Below w.heap.size w w' :=
 joinedG_cmp (op:=cLess) (toL_mk _) (.inl rfl) (.inl hkd) rfl (by decide) hC h1 h2 hL hS w
theorem joinedG_le(hkd:kd=1)(hC:∀ E,C E→E.Ok)(h1:Pc C t1 b1 k1 kd L D P S fx)(h2:Pc C t2 b2 k2 kd L D P S fx)(hL:L≤400)(hS:S≤4000)(w:World) :
  Calls Tryz.prog 37 #[pcV t1 b1 k1,.string ⟨#[60,61]⟩,.int .i64 3,pcV t2 b2 k2] w fun e w'=>(∃ t b k,(Pc C t b k 2 (L+L+6) (D+1) (P+P+1) (S+S+2) fx∧t=joinT ⟨#[60,61]⟩ t1 b1 t2 b2 3∧b=3)∧e=.returned (pcV t b k))∧Below w.heap.size w w' :=
 joinedG_cmp (op:=cMost) (toL_mk _) (.inr (.inl rfl)) (.inl hkd) rfl (by decide) hC h1 h2 hL hS w
theorem joinedG_eq(hkd:kd=1∨kd=3)(hC:∀ E,C E→E.Ok)(h1:Pc C t1 b1 k1 kd L D P S fx)(h2:Pc C t2 b2 k2 kd L D P S fx)(hL:L≤400)(hS:S≤4000)(w:World) :
  Calls Tryz.prog 37 #[pcV t1 b1 k1,.string ⟨#[61]⟩,.int .i64 3,pcV t2 b2 k2] w fun e w'=>(∃ t b k,(Pc C t b k 2 (L+L+6) (D+1) (P+P+1) (S+S+2) fx∧t=joinT ⟨#[61]⟩ t1 b1 t2 b2 3∧b=3)∧e=.returned (pcV t b k))∧Below w.heap.size w w' :=
 joinedG_cmp (op:=cEq) (toL_mk _) (.inr (.inr (.inl rfl))) (hkd.imp id (fun h=>⟨h,.inl rfl⟩)) rfl (by decide) hC h1 h2 hL hS w
theorem joinedG_ne(hkd:kd=1∨kd=3)(hC:∀ E,C E→E.Ok)(h1:Pc C t1 b1 k1 kd L D P S fx)(h2:Pc C t2 b2 k2 kd L D P S fx)(hL:L≤400)(hS:S≤4000)(w:World) :
  Calls Tryz.prog 37 #[pcV t1 b1 k1,.string ⟨#[33,61]⟩,.int .i64 3,pcV t2 b2 k2] w fun e w'=>(∃ t b k,(Pc C t b k 2 (L+L+6) (D+1) (P+P+1) (S+S+2) fx∧t=joinT ⟨#[33,61]⟩ t1 b1 t2 b2 3∧b=3)∧e=.returned (pcV t b k))∧Below w.heap.size w w' :=
 joinedG_cmp (op:=cNeq) (toL_mk _) (.inr (.inr (.inr rfl))) (hkd.imp id (fun h=>⟨h,.inr rfl⟩)) rfl (by decide) hC h1 h2 hL hS w
theorem eitherG_and(hC:∀ E,C E→E.Ok)(h1:Pc C t1 b1 k1 2 L D P S fx)(h2:Pc C t2 b2 k2 2 L D P S fx)(hL:L≤400)(hS:S≤4000)(w:World) :
  Calls Tryz.prog 64 #[pcV t1 b1 k1,.string ⟨#[97,110,100]⟩,.int .i64 2,pcV t2 b2 k2] w fun e w'=>(∃ t b k,(Pc C t b k 2 (L+L+7) (D+1) (P+P+1) (S+S+2) fx∧t=joinT ⟨#[97,110,100]⟩ t1 b1 t2 b2 2∧b=2)∧e=.returned (pcV t b k))∧Below w.heap.size w w' :=
 eitherG_mk (op:=cAnd) (lv:=2) (toL_mk _) (.inl rfl) (by decide) rfl (by decide) hC h1 h2 hL hS w
theorem eitherG_or(hC:∀ E,C E→E.Ok)(h1:Pc C t1 b1 k1 2 L D P S fx)(h2:Pc C t2 b2 k2 2 L D P S fx)(hL:L≤400)(hS:S≤4000)(w:World) :
  Calls Tryz.prog 64 #[pcV t1 b1 k1,.string ⟨#[111,114]⟩,.int .i64 1,pcV t2 b2 k2] w fun e w'=>(∃ t b k,(Pc C t b k 2 (L+L+7) (D+1) (P+P+1) (S+S+2) fx∧t=joinT ⟨#[111,114]⟩ t1 b1 t2 b2 1∧b=1)∧e=.returned (pcV t b k))∧Below w.heap.size w w' :=
 eitherG_mk (op:=cOr) (lv:=1) (toL_mk _) (.inr rfl) (by decide) rfl (by decide) hC h1 h2 hL hS w
theorem turnedG_neg(hC:∀ E,C E→E.Ok)(h:Pc C t b k 1 L D P S fx)(hL:L≤400)(hS:S≤4000)(w:World) :
  Calls Tryz.prog 38 #[.string ⟨#[45]⟩,pcV t b k] w fun e w'=>(∃ t' b' k',(Pc C t' b' k' 1 (L+1) D (P+1) (S+1) fx∧t'=⟨#[45]⟩++tiedT t b 6∧b'=6)∧e=.returned (pcV t' b' k'))∧Below w.heap.size w w':=by
 have J:=Pc.minus hC h
 have z1:=h.size
 have q1:=h.steps
 have i1:=h.fit.in64
 obtain ⟨v,f,s,x⟩:=k
 simp only at q1 i1
 have hob:((⟨#[45]⟩:ByteArray).toList==[110,111,116,32])=false:=by rw[show (⟨#[45]⟩:ByteArray).toList=[45] from toL_mk _];decide
 by_cases hl:v=-9223372036854775808
 ·subst hl
  exact (turned_least ⟨#[45]⟩ t b f s x (by decide) (by omega) (by omega) hob w).mono (fun e w' h=>⟨⟨_,_,_,⟨J,rfl,rfl⟩,h.1⟩,h.2⟩)
 ·exact (turned_minus ⟨#[45]⟩ t b v i1 hl f s x (by decide) (by omega) (by omega) hob w).mono (fun e w' h=>⟨⟨_,_,_,⟨J,rfl,rfl⟩,h.1⟩,h.2⟩)
theorem turnedG_nott(hC:∀ E,C E→E.Ok)(h:Pc C t b k 2 L D P S fx)(hL:L≤400)(hS:S≤4000)(w:World) :
  Calls Tryz.prog 38 #[.string ⟨#[110,111,116,32]⟩,pcV t b k] w fun e w'=>(∃ t' b' k',(Pc C t' b' k' 2 (L+4) D (P+1) (S+1) fx∧t'=⟨#[110,111,116,32]⟩++tiedT t b 6∧b'=6)∧e=.returned (pcV t' b' k'))∧Below w.heap.size w w':=by
 have J:=Pc.nott hC h
 have z1:=h.size
 have q1:=h.steps
 have u1:=h.fit.truth rfl
 obtain ⟨v,f,s,x⟩:=k
 simp only at q1 u1
 have hob:((⟨#[110,111,116,32]⟩:ByteArray).toList==[110,111,116,32])=true:=by rw[show (⟨#[110,111,116,32]⟩:ByteArray).toList=[110,111,116,32] from toL_mk _];decide
 rcases u1 with rfl | rfl
 ·exact (turned_not0 ⟨#[110,111,116,32]⟩ t b f s x (by decide) (by omega) (by omega) hob w).mono (fun e w' h=>⟨⟨_,_,_,⟨J,rfl,rfl⟩,h.1⟩,h.2⟩)
 ·exact (turned_not1 ⟨#[110,111,116,32]⟩ t b f s x (by decide) (by omega) (by omega) hob w).mono (fun e w' h=>⟨⟨_,_,_,⟨J,rfl,rfl⟩,h.1⟩,h.2⟩)
theorem looseG_made(hC:∀ E,C E→E.Ok)(h:Pc C t b k kd L D P S fx)(hL:L≤400)(fb:Nat)(w:World)(g:Fd)(hF:FedAt w fb g) :
  Calls Tryz.prog 39 #[.pointer (some ⟨fb,0,none⟩),pcV t b k] w fun e w'=>∃ t' b' k' g',(Pc C t' b' k' kd (L+3) (D+1) P S fx∧looseG (t,b,g)=(t',b',g')∧e=.returned (pcV t' b' k'))∧FedAt w' fb g'∧But fb w w':=by
 have J:=Pc.loosed hC h
 have z1:=h.size
 refine (loose_fed t b k (by omega) fb w g hF hF.lt).mono fun e w' h'=>?_
 obtain ⟨t',b',g',⟨hg,he⟩,h1,h2⟩:=h'
 refine ⟨t',b',k,g',⟨?_,hg,he⟩,h1,h2⟩
 unfold looseG at hg
 split at hg
 ·simp only[Prod.mk.injEq]at hg
  obtain ⟨rfl,rfl,_⟩:=hg
  exact J
 ·simp only[Prod.mk.injEq]at hg
  obtain ⟨rfl,rfl,_⟩:=hg
  exact h.mono (by omega) (by omega) (Nat.le_refl _) (Nat.le_refl _)
end
theorem leaf_pc{C:Ctx→Prop}{x:Itm}{y:Bn}(hC:∀ E,C E→E.Ok∧E.x=x∧E.y=y){t:ByteArray}{u:Txt}{kd len:Nat}{k:Wo}{fx:Bool}(hu:t.toList=u)(hlen:u.length≤len)(h0:u≠[])(hbl:blankC (headC u)=false)(hl:runLen u=u.length)(hm:mayT u=true)(hs:singleT u=true)(ho:u≠cOpen)(hc:u≠cClose)(hun:unT u=false)(hb:bindsT u=0)
  (hn:nameT u=false) (hk:leafKindT u=kd) (hw:∀ env,leafW env x y ⟨u,0⟩=k) (hf:FitW k kd) (h1:k.steps=1) (hfx:fx=true→k.fix=true):Pc C t 6 k kd len 0 1 1 fx:=by
 refine ⟨⟨0,by simp[brB],fun E hE=>?_⟩, ?_,by omega,by omega,hf,by omega,by omega,hfx⟩
 ·obtain ⟨e1,e2,e3⟩:=hC E hE
  rw[hu]
  have:=IsP.leaf e1 h0 hbl hl hm hs ho hc hun hb hn hk
  rw[e2,e3,hw]at this
  exact this
 ·rw[← toList_length,hu]
  rw[brB6]
  omega
theorem fit_const(v:Int)(kd:Nat)(h:In64 v)(hk:kd≠2)(f:Bool):FitW ⟨v,0,1,f⟩ kd:=⟨⟨h,by simp,fun h=>absurd rfl h,fun h=>absurd h hk⟩,fun _ _=>rfl⟩
def NumP(st:Bool)(x:Itm)(y:Bn)(lt:ByteArray)(lk:Wo)(t:ByteArray)(k:Wo):Prop :=
 ((t=⟨#[48]⟩∧k=⟨0,0,1,true⟩)∨(t=⟨#[49]⟩∧k=⟨1,0,1,true⟩)∨(t=⟨#[50]⟩∧k=⟨2,0,1,true⟩)∨(t=⟨#[55]⟩∧k=⟨7,0,1,true⟩)∨(t=⟨#[49,50]⟩∧k=⟨12,0,1,true⟩)∨(t=⟨#[49,48,48]⟩∧k=⟨100,0,1,true⟩)∨(t=⟨#[52,48,48,48,48,48,48,48,48,48]⟩∧k=⟨4000000000,0,1,true⟩)∨(t=⟨#[48,48,55]⟩∧k=⟨7,0,1,true⟩))∨(st=false∧((t=⟨#[115,105,122,101]⟩∧k=⟨x.size,0,1,false⟩)∨(t=⟨#[115,112,101,101,100]⟩∧k=⟨x.speed,0,1,false⟩)∨(t=⟨#[122,111,110,101]⟩∧k=⟨y.zone,0,1,false⟩)∨(t=⟨#[99,97,112]⟩∧k=⟨y.cap,0,1,false⟩)∨(t=⟨#[117,115,101,100]⟩∧k=⟨y.used,0,1,false⟩)∨(lt.size≠0∧t=lt∧k=lk)))
theorem num_pc{C:Ctx→Prop}{x:Itm}{y:Bn}(hC:∀ E,C E→E.Ok∧E.x=x∧E.y=y)(hx:x.Ok)(hy:y.Ok){st:Bool}{lt:ByteArray}{lk:Wo}{P S:Nat}(hP:1≤P)(hS:1≤S)(hlet:lt.size≠0→Pc C lt 6 lk 1 10 0 P S st){t:ByteArray}{k:Wo}(h:NumP st x y lt lk t k):Pc C t 6 k 1 10 0 P S st:=by
 rcases h with h | ⟨rfl,h⟩
 ·rcases h with ⟨rfl,rfl⟩ | ⟨rfl,rfl⟩ | ⟨rfl,rfl⟩ | ⟨rfl,rfl⟩ | ⟨rfl,rfl⟩ | ⟨rfl,rfl⟩ | ⟨rfl,rfl⟩ | ⟨rfl,rfl⟩
  ·exact (leaf_pc hC (u:=[48]) (toL_mk _) (by simp) (by decide) (by decide) (by decide) (by decide) (by decide) (by decide) (by decide) (by decide) (by decide) (by decide) (by decide) (fun env=>by rfl) (fit_const _ _ ⟨by omega,by omega⟩ (by decide) _) rfl (fun _=>rfl)).mono (Nat.le_refl _) (Nat.le_refl _) hP hS
  ·exact (leaf_pc hC (u:=[49]) (toL_mk _) (by simp) (by decide) (by decide) (by decide) (by decide) (by decide) (by decide) (by decide) (by decide) (by decide) (by decide) (by decide) (fun env=>by rfl) (fit_const _ _ ⟨by omega,by omega⟩ (by decide) _) rfl (fun _=>rfl)).mono (Nat.le_refl _) (Nat.le_refl _) hP hS
  ·exact (leaf_pc hC (u:=[50]) (toL_mk _) (by simp) (by decide) (by decide) (by decide) (by decide) (by decide) (by decide) (by decide) (by decide) (by decide) (by decide) (by decide) (fun env=>by rfl) (fit_const _ _ ⟨by omega,by omega⟩ (by decide) _) rfl (fun _=>rfl)).mono (Nat.le_refl _) (Nat.le_refl _) hP hS
  ·exact (leaf_pc hC (u:=[55]) (toL_mk _) (by simp) (by decide) (by decide) (by decide) (by decide) (by decide) (by decide) (by decide) (by decide) (by decide) (by decide) (by decide) (fun env=>by rfl) (fit_const _ _ ⟨by omega,by omega⟩ (by decide) _) rfl (fun _=>rfl)).mono (Nat.le_refl _) (Nat.le_refl _) hP hS
  ·exact (leaf_pc hC (u:=[49,50]) (toL_mk _) (by simp) (by decide) (by decide) (by decide) (by decide) (by decide) (by decide) (by decide) (by decide) (by decide) (by decide) (by decide) (fun env=>by rfl) (fit_const _ _ ⟨by omega,by omega⟩ (by decide) _) rfl (fun _=>rfl)).mono (Nat.le_refl _) (Nat.le_refl _) hP hS
  ·exact (leaf_pc hC (u:=[49,48,48]) (toL_mk _) (by simp) (by decide) (by decide) (by decide) (by decide) (by decide) (by decide) (by decide) (by decide) (by decide) (by decide) (by decide) (fun env=>by rfl) (fit_const _ _ ⟨by omega,by omega⟩ (by decide) _) rfl (fun _=>rfl)).mono (Nat.le_refl _) (Nat.le_refl _) hP hS
  ·exact (leaf_pc hC (u:=[52,48,48,48,48,48,48,48,48,48]) (toL_mk _) (by simp) (by decide) (by decide) (by decide) (by decide) (by decide) (by decide) (by decide) (by decide) (by decide) (by decide) (by decide) (fun env=>by rfl) (fit_const _ _ ⟨by omega,by omega⟩ (by decide) _) rfl (fun _=>rfl)).mono (Nat.le_refl _) (Nat.le_refl _) hP hS
  ·exact (leaf_pc hC (u:=[48,48,55]) (toL_mk _) (by simp) (by decide) (by decide) (by decide) (by decide) (by decide) (by decide) (by decide) (by decide) (by decide) (by decide) (by decide) (fun env=>by rfl) (fit_const _ _ ⟨by omega,by omega⟩ (by decide) _) rfl (fun _=>rfl)).mono (Nat.le_refl _) (Nat.le_refl _) hP hS
 ·rcases h with ⟨rfl,rfl⟩ | ⟨rfl,rfl⟩ | ⟨rfl,rfl⟩ | ⟨rfl,rfl⟩ | ⟨rfl,rfl⟩ | ⟨h0,rfl,rfl⟩
  ·exact (leaf_pc hC (u:=[115,105,122,101]) (toL_mk _) (by simp) (by decide) (by decide) (by decide) (by decide) (by decide) (by decide) (by decide) (by decide) (by decide) (by decide) (by decide) (fun env=>by rfl) (fit_const _ _ (by unfold In64;have:=hx;have:=hy;unfold Itm.Ok Bn.Ok at *;omega) (by decide) _) rfl (fun h=>by cases h)).mono (Nat.le_refl _) (Nat.le_refl _) hP hS
  ·exact (leaf_pc hC (u:=[115,112,101,101,100]) (toL_mk _) (by simp) (by decide) (by decide) (by decide) (by decide) (by decide) (by decide) (by decide) (by decide) (by decide) (by decide) (by decide) (fun env=>by rfl) (fit_const _ _ (by unfold In64;have:=hx;have:=hy;unfold Itm.Ok Bn.Ok at *;omega) (by decide) _) rfl (fun h=>by cases h)).mono (Nat.le_refl _) (Nat.le_refl _) hP hS
  ·exact (leaf_pc hC (u:=[122,111,110,101]) (toL_mk _) (by simp) (by decide) (by decide) (by decide) (by decide) (by decide) (by decide) (by decide) (by decide) (by decide) (by decide) (by decide) (fun env=>by rfl) (fit_const _ _ (by unfold In64;have:=hx;have:=hy;unfold Itm.Ok Bn.Ok at *;omega) (by decide) _) rfl (fun h=>by cases h)).mono (Nat.le_refl _) (Nat.le_refl _) hP hS
  ·exact (leaf_pc hC (u:=[99,97,112]) (toL_mk _) (by simp) (by decide) (by decide) (by decide) (by decide) (by decide) (by decide) (by decide) (by decide) (by decide) (by decide) (by decide) (fun env=>by rfl) (fit_const _ _ (by unfold In64;have:=hx;have:=hy;unfold Itm.Ok Bn.Ok at *;omega) (by decide) _) rfl (fun h=>by cases h)).mono (Nat.le_refl _) (Nat.le_refl _) hP hS
  ·exact (leaf_pc hC (u:=[117,115,101,100]) (toL_mk _) (by simp) (by decide) (by decide) (by decide) (by decide) (by decide) (by decide) (by decide) (by decide) (by decide) (by decide) (by decide) (fun env=>by rfl) (fit_const _ _ (by unfold In64;have:=hx;have:=hy;unfold Itm.Ok Bn.Ok at *;omega) (by decide) _) rfl (fun h=>by cases h)).mono (Nat.le_refl _) (Nat.le_refl _) hP hS
  ·exact hlet h0
def ClassP(st:Bool)(x:Itm)(y:Bn)(t:ByteArray)(k:Wo):Prop :=
 (t=⟨#[100,114,121]⟩∧k=⟨0,0,1,true⟩)∨(t=⟨#[99,111,108,100]⟩∧k=⟨1,0,1,true⟩)∨(t=⟨#[115,97,102,101]⟩∧k=⟨2,0,1,true⟩)∨(st=false∧t=⟨#[110,101,101,100]⟩∧k=⟨x.need,0,1,false⟩)∨(st=false∧t=⟨#[104,97,115]⟩∧k=⟨y.has,0,1,false⟩)
theorem class_pc{C:Ctx→Prop}{x:Itm}{y:Bn}(hC:∀ E,C E→E.Ok∧E.x=x∧E.y=y)(hx:x.Ok)(hy:y.Ok){st:Bool}{t:ByteArray}{k:Wo}(h:ClassP st x y t k):Pc C t 6 k 3 4 0 1 1 st:=by
 rcases h with ⟨rfl,rfl⟩ | ⟨rfl,rfl⟩ | ⟨rfl,rfl⟩ | ⟨rfl,rfl,rfl⟩ | ⟨rfl,rfl,rfl⟩
 ·exact leaf_pc hC (u:=[100,114,121]) (toL_mk _) (by simp) (by decide) (by decide) (by decide) (by decide) (by decide) (by decide) (by decide) (by decide) (by decide) (by decide) (by decide) (fun env=>by rfl) (fit_const _ _ ⟨by omega,by omega⟩ (by decide) _) rfl (fun _=>rfl)
 ·exact leaf_pc hC (u:=[99,111,108,100]) (toL_mk _) (by simp) (by decide) (by decide) (by decide) (by decide) (by decide) (by decide) (by decide) (by decide) (by decide) (by decide) (by decide) (fun env=>by rfl) (fit_const _ _ ⟨by omega,by omega⟩ (by decide) _) rfl (fun _=>rfl)
 ·exact leaf_pc hC (u:=[115,97,102,101]) (toL_mk _) (by simp) (by decide) (by decide) (by decide) (by decide) (by decide) (by decide) (by decide) (by decide) (by decide) (by decide) (by decide) (fun env=>by rfl) (fit_const _ _ ⟨by omega,by omega⟩ (by decide) _) rfl (fun _=>rfl)
 ·exact leaf_pc hC (u:=[110,101,101,100]) (toL_mk _) (by simp) (by decide) (by decide) (by decide) (by decide) (by decide) (by decide) (by decide) (by decide) (by decide) (by decide) (by decide) (fun env=>by rfl) (fit_const _ _ (by unfold In64;have:=hx;have:=hy;unfold Itm.Ok Bn.Ok at *;omega) (by decide) _) rfl (fun h=>by cases h)
 ·exact leaf_pc hC (u:=[104,97,115]) (toL_mk _) (by simp) (by decide) (by decide) (by decide) (by decide) (by decide) (by decide) (by decide) (by decide) (by decide) (by decide) (by decide) (fun env=>by rfl) (fit_const _ _ (by unfold In64;have:=hx;have:=hy;unfold Itm.Ok Bn.Ok at *;omega) (by decide) _) rfl (fun h=>by cases h)
theorem true_pc{C:Ctx→Prop}{x:Itm}{y:Bn}(hC:∀ E,C E→E.Ok∧E.x=x∧E.y=y)(st:Bool):Pc C ⟨#[116,114,117,101]⟩ 6 ⟨1,0,1,true⟩ 2 5 0 1 1 st :=
 leaf_pc hC (u:=[116,114,117,101]) (toL_mk _) (by simp) (by decide) (by decide) (by decide) (by decide) (by decide) (by decide) (by decide) (by decide) (by decide) (by decide) (by decide) (fun env=>by rfl) ⟨⟨in64_1,by simp,fun h=>absurd rfl h,fun _=>.inr rfl⟩,fun _ _=>rfl⟩ rfl (fun _=>rfl)
theorem false_pc{C:Ctx→Prop}{x:Itm}{y:Bn}(hC:∀ E,C E→E.Ok∧E.x=x∧E.y=y)(st:Bool):Pc C ⟨#[102,97,108,115,101]⟩ 6 ⟨0,0,1,true⟩ 2 5 0 1 1 st :=
 leaf_pc hC (u:=[102,97,108,115,101]) (toL_mk _) (by simp) (by decide) (by decide) (by decide) (by decide) (by decide) (by decide) (by decide) (by decide) (by decide) (by decide) (by decide) (fun env=>by rfl) ⟨⟨in64_0,by simp,fun h=>absurd rfl h,fun _=>.inl rfl⟩,fun _ _=>rfl⟩ rfl (fun _=>rfl)
end Go.Proofs.YtpcjadaeolkngaaGreatDoor
