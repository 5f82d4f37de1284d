/-
  The program's plain form of a LET and a RULE: letLine, ruleLine.
-/
import Derived.Test.YtpcjadaeolkngaaGreatDoorJ35
set_option linter.unusedVariables false
set_option linter.unusedSimpArgs false
namespace Go.Proofs.YtpcjadaeolkngaaGreatDoor
open Go.RowKit Go.Deep
def letLA(p:PLet):Value:=.agg #[.int .i64 (kindP p.name.text),.int .i64 p.name.at',.string (bsOf p.name.text),.int .i64 p.val.place,.int .i64 p.val.fr,.int .i64 p.val.behind]
def ruleLA(u:PRule):Value:=.agg #[.bool u.hw,.int .i64 u.when.place,.int .i64 u.when.fr,.int .i64 u.when.behind,.bool u.hs,.int .i64 u.score.place,.int .i64 u.score.fr,.int .i64 u.score.behind]
set_option maxHeartbeats 2000000 in
theorem letLine_any(nv:Value)(N:List PNode)(p:PLet)(X:Txt)(hm:p.name.text.length≤18)(hX:X.length≤15000)(hE:ExprIs nv N p.val X)(w:World)(hr:Reads w nv N.length (cellsN N)) :
  Calls Tryz.prog 44 #[nv,letLA p] w fun e w'=>e=.returned (.string (bsOf (cLet++32 :: (p.name.text++32 :: (cEq++32 :: (X++[59]))))))∧Below w.heap.size w w':=by
 have HIH:Hid (∀ wx,Reads wx nv N.length (cellsN N)→Calls Tryz.prog 70 #[nv,.agg #[.int .i64 p.val.place,.int .i64 p.val.fr,.int .i64 p.val.behind]] wx fun e w'=>e=.returned (.string (bsOf X))∧Below wx.heap.size wx w'):=hE
 have HR:=mH (hr.alloc (.cells #[.int .i64 (kindP p.name.text),.int .i64 p.name.at',.string (bsOf p.name.text),.int .i64 p.val.place,.int .i64 p.val.fr,.int .i64 p.val.behind] 107))
 have HB:=mH (Blk.new w #[.int .i64 (kindP p.name.text),.int .i64 p.name.at',.string (bsOf p.name.text),.int .i64 p.val.place,.int .i64 p.val.fr,.int .i64 p.val.behind] 107)
 have HBL:=mH (box3 w (.cells #[.int .i64 (kindP p.name.text),.int .i64 p.name.at',.string (bsOf p.name.text),.int .i64 p.val.place,.int .i64 p.val.fr,.int .i64 p.val.behind] 107))
 have HX:Hid (bsOf (cLet++32 :: (p.name.text++32 :: (cEq++32 :: (X++[59]))))=⟨#[108,101,116,32]⟩++bsOf p.name.text++⟨#[32,61,32]⟩++bsOf X++⟨#[59]⟩):=by
  have e1:(⟨#[108,101,116,32]⟩:ByteArray)=bsOf [108,101,116,32]:=rfl
  have e2:(⟨#[32,61,32]⟩:ByteArray)=bsOf [32,61,32]:=rfl
  have e3:(⟨#[59]⟩:ByteArray)=bsOf [59]:=rfl
  rw[Hid,e1,e2,e3,← bsOf_app,← bsOf_app,← bsOf_app,← bsOf_app]
  congr 1
  simp[cLet,cEq]
 have he1:(bsOf X).size≤15000:=by rw[bsOf_size];exact hX
 have he2:(bsOf p.name.text).size≤18:=by rw[bsOf_size];exact hm
 unfold letLA
 generalize bsOf (cLet++32 :: (p.name.text++32 :: (cEq++32 :: (X++[59]))))=XX at *
 generalize kindP p.name.text=kk at *
 generalize bsOf p.name.text=tx at *
 generalize bsOf X=ex at *
 clear hr hE hm hX
 have y1:(⟨#[108,101,116,32]⟩:ByteArray).size=4:=rfl
 have y2:(⟨#[32,61,32]⟩:ByteArray).size=3:=rfl
 have y3:(⟨#[59]⟩:ByteArray).size=1:=rfl
 have z1:(9223372036854775807<4+tx.size)=False:=by simp;omega
 have z2:(9223372036854775807<4+tx.size+3)=False:=by simp;omega
 have z3:(9223372036854775807<4+tx.size+3+ex.size)=False:=by simp;omega
 have z4:(9223372036854775807<4+tx.size+3+ex.size+1)=False:=by simp;omega
 go_enter Tryz.func44,Tryz.ntmps44
 go_upto_region 1 with fail
 generalize w.alloc (.cells #[.int .i64 kk,.int .i64 p.name.at',.string tx,.int .i64 p.val.place,.int .i64 p.val.fr,.int .i64 p.val.behind] 107)=W at HR HB HBL ⊢
 have c:=HB.out.cell
 go_wp2_with (go_at_call 70;refine (HIH.out _ HR.out).mono ?_;rintro e w2 ⟨rfl,hb⟩;replace HBL:=mH (ag_step HBL.out hb);replace HB:=mH (HB.out.below hb HB.out.lt);clear hb c;have c:=HB.out.cell)
 go_ret
 exact ⟨by rw[HX.out];rfl,HBL.out⟩
set_option maxHeartbeats 2000000 in
theorem ruleLine_ws(nv:Value)(N:List PNode)(u:PRule)(h1:u.hw=true)(h2:u.hs=true)(X:Txt)(hX:X.length≤15000)(hE:ExprIs nv N u.when X)(Y:Txt)(hY:Y.length≤15000)(hF:ExprIs nv N u.score Y)(w:World)(hr:Reads w nv N.length (cellsN N)) :
  Calls Tryz.prog 45 #[nv,ruleLA u] w fun e w'=>e=.returned (.string (bsOf ((cWhen++32 :: (X++[32]))++(cScore++32 :: (Y++[59])))))∧Below w.heap.size w w':=by
 have HI1:Hid (∀ wx,Reads wx nv N.length (cellsN N)→Calls Tryz.prog 70 #[nv,.agg #[.int .i64 u.when.place,.int .i64 u.when.fr,.int .i64 u.when.behind]] wx fun e w'=>e=.returned (.string (bsOf X))∧Below wx.heap.size wx w'):=hE
 have HI2:Hid (∀ wx,Reads wx nv N.length (cellsN N)→Calls Tryz.prog 70 #[nv,.agg #[.int .i64 u.score.place,.int .i64 u.score.fr,.int .i64 u.score.behind]] wx fun e w'=>e=.returned (.string (bsOf Y))∧Below wx.heap.size wx w'):=hF
 unfold ruleLA
 rw[h1,h2]
 have HR:=mH (hr.alloc (.cells #[.bool true,.int .i64 u.when.place,.int .i64 u.when.fr,.int .i64 u.when.behind,.bool true,.int .i64 u.score.place,.int .i64 u.score.fr,.int .i64 u.score.behind] 110))
 have HB:=mH (Blk.new w #[.bool true,.int .i64 u.when.place,.int .i64 u.when.fr,.int .i64 u.when.behind,.bool true,.int .i64 u.score.place,.int .i64 u.score.fr,.int .i64 u.score.behind] 110)
 have HBL:=mH (box3 w (.cells #[.bool true,.int .i64 u.when.place,.int .i64 u.when.fr,.int .i64 u.when.behind,.bool true,.int .i64 u.score.place,.int .i64 u.score.fr,.int .i64 u.score.behind] 110))
 have HX:Hid (bsOf ((cWhen++32 :: (X++[32]))++(cScore++32 :: (Y++[59])))=⟨#[119,104,101,110,32]⟩++bsOf X++⟨#[32]⟩++⟨#[115,99,111,114,101,32]⟩++bsOf Y++⟨#[59]⟩):=by
  have e0:(⟨#[119,104,101,110,32]⟩:ByteArray)=bsOf [119,104,101,110,32]:=rfl
  have e1:(⟨#[32]⟩:ByteArray)=bsOf [32]:=rfl
  have e2:(⟨#[115,99,111,114,101,32]⟩:ByteArray)=bsOf [115,99,111,114,101,32]:=rfl
  have e3:(⟨#[59]⟩:ByteArray)=bsOf [59]:=rfl
  rw[Hid,e0,e1,e2,e3,← bsOf_app,← bsOf_app,← bsOf_app,← bsOf_app,← bsOf_app]
  congr 1
  all_goals simp[cWhen,cScore,cReject]
 have he1:(bsOf X).size≤15000:=by rw[bsOf_size];exact hX
 have he2:(bsOf Y).size≤15000:=by rw[bsOf_size];exact hY
 generalize bsOf ((cWhen++32 :: (X++[32]))++(cScore++32 :: (Y++[59])))=XX at *
 generalize bsOf X=ex at *
 generalize bsOf Y=fx at *
 clear hr h1 h2 hE hX hF hY
 have y0:(⟨#[119,104,101,110,32]⟩:ByteArray).size=5:=rfl
 have y1:(⟨#[32]⟩:ByteArray).size=1:=rfl
 have y2:(⟨#[115,99,111,114,101,32]⟩:ByteArray).size=6:=rfl
 have y3:(⟨#[59]⟩:ByteArray).size=1:=rfl
 have y9:({ data:=#[] }:ByteArray).size=0:=rfl
 have z0:(9223372036854775807<5+ex.size)=False:=by simp;omega
 have z1:(9223372036854775807<5+ex.size+1)=False:=by simp;omega
 have z2:(9223372036854775807<5+ex.size+1+6)=False:=by simp;omega
 have z3:(9223372036854775807<5+ex.size+1+6+fx.size)=False:=by simp;omega
 have z4:(9223372036854775807<5+ex.size+1+6+fx.size+1)=False:=by simp;omega
 have t1:Hid True:=trivial
 have t2:Hid True:=trivial
 go_enter Tryz.func45,Tryz.ntmps45
 go_upto_region 1 with fail
 generalize w.alloc (.cells #[.bool true,.int .i64 u.when.place,.int .i64 u.when.fr,.int .i64 u.when.behind,.bool true,.int .i64 u.score.place,.int .i64 u.score.fr,.int .i64 u.score.behind] 110)=W at HR HB HBL ⊢
 have c:=HB.out.cell
 go_wp2_with (first | (go_at_call 70;have u1:=t1;clear t1;refine (HI1.out _ HR.out).mono ?_;rintro e w2 ⟨rfl,hb⟩;replace HBL:=mH (ag_step HBL.out hb);replace HB:=mH (HB.out.below hb HB.out.lt);replace HR:=mH (HR.out.below hb);clear hb c;have c:=HB.out.cell) | (go_at_call 70;have u2:=t2;clear t2;refine (HI2.out _ HR.out).mono ?_;rintro e w3 ⟨rfl,hb⟩;replace HBL:=mH (ag_step HBL.out hb);replace HB:=mH (HB.out.below hb HB.out.lt);replace HR:=mH (HR.out.below hb);clear hb c;have c:=HB.out.cell))
 go_ret
 exact ⟨by rw[HX.out];rfl,HBL.out⟩
set_option maxHeartbeats 2000000 in
theorem ruleLine_wr(nv:Value)(N:List PNode)(u:PRule)(h1:u.hw=true)(h2:u.hs=false)(X:Txt)(hX:X.length≤15000)(hE:ExprIs nv N u.when X)(w:World)(hr:Reads w nv N.length (cellsN N)) :
  Calls Tryz.prog 45 #[nv,ruleLA u] w fun e w'=>e=.returned (.string (bsOf ((cWhen++32 :: (X++[32]))++(cReject++[59]))))∧Below w.heap.size w w':=by
 have HI1:Hid (∀ wx,Reads wx nv N.length (cellsN N)→Calls Tryz.prog 70 #[nv,.agg #[.int .i64 u.when.place,.int .i64 u.when.fr,.int .i64 u.when.behind]] wx fun e w'=>e=.returned (.string (bsOf X))∧Below wx.heap.size wx w'):=hE
 unfold ruleLA
 rw[h1,h2]
 have HR:=mH (hr.alloc (.cells #[.bool true,.int .i64 u.when.place,.int .i64 u.when.fr,.int .i64 u.when.behind,.bool false,.int .i64 u.score.place,.int .i64 u.score.fr,.int .i64 u.score.behind] 110))
 have HB:=mH (Blk.new w #[.bool true,.int .i64 u.when.place,.int .i64 u.when.fr,.int .i64 u.when.behind,.bool false,.int .i64 u.score.place,.int .i64 u.score.fr,.int .i64 u.score.behind] 110)
 have HBL:=mH (box3 w (.cells #[.bool true,.int .i64 u.when.place,.int .i64 u.when.fr,.int .i64 u.when.behind,.bool false,.int .i64 u.score.place,.int .i64 u.score.fr,.int .i64 u.score.behind] 110))
 have HX:Hid (bsOf ((cWhen++32 :: (X++[32]))++(cReject++[59]))=⟨#[119,104,101,110,32]⟩++bsOf X++⟨#[32]⟩++⟨#[114,101,106,101,99,116,59]⟩):=by
  have e0:(⟨#[119,104,101,110,32]⟩:ByteArray)=bsOf [119,104,101,110,32]:=rfl
  have e1:(⟨#[32]⟩:ByteArray)=bsOf [32]:=rfl
  have e2:(⟨#[114,101,106,101,99,116,59]⟩:ByteArray)=bsOf [114,101,106,101,99,116,59]:=rfl
  rw[Hid,e0,e1,e2,← bsOf_app,← bsOf_app,← bsOf_app]
  congr 1
  all_goals simp[cWhen,cScore,cReject]
 have he1:(bsOf X).size≤15000:=by rw[bsOf_size];exact hX
 generalize bsOf ((cWhen++32 :: (X++[32]))++(cReject++[59]))=XX at *
 generalize bsOf X=ex at *
 clear hr h1 h2 hE hX
 have y0:(⟨#[119,104,101,110,32]⟩:ByteArray).size=5:=rfl
 have y1:(⟨#[32]⟩:ByteArray).size=1:=rfl
 have y2:(⟨#[114,101,106,101,99,116,59]⟩:ByteArray).size=7:=rfl
 have y9:({ data:=#[] }:ByteArray).size=0:=rfl
 have z0:(9223372036854775807<5+ex.size)=False:=by simp;omega
 have z1:(9223372036854775807<5+ex.size+1)=False:=by simp;omega
 have z2:(9223372036854775807<5+ex.size+1+7)=False:=by simp;omega
 have t1:Hid True:=trivial
 have t2:Hid True:=trivial
 go_enter Tryz.func45,Tryz.ntmps45
 go_upto_region 1 with fail
 generalize w.alloc (.cells #[.bool true,.int .i64 u.when.place,.int .i64 u.when.fr,.int .i64 u.when.behind,.bool false,.int .i64 u.score.place,.int .i64 u.score.fr,.int .i64 u.score.behind] 110)=W at HR HB HBL ⊢
 have c:=HB.out.cell
 go_wp2_with (first | (go_at_call 70;have u1:=t1;clear t1;refine (HI1.out _ HR.out).mono ?_;rintro e w2 ⟨rfl,hb⟩;replace HBL:=mH (ag_step HBL.out hb);replace HB:=mH (HB.out.below hb HB.out.lt);replace HR:=mH (HR.out.below hb);clear hb c;have c:=HB.out.cell))
 go_ret
 exact ⟨by rw[HX.out];rfl,HBL.out⟩
set_option maxHeartbeats 2000000 in
theorem ruleLine_ns(nv:Value)(N:List PNode)(u:PRule)(h1:u.hw=false)(h2:u.hs=true)(Y:Txt)(hY:Y.length≤15000)(hF:ExprIs nv N u.score Y)(w:World)(hr:Reads w nv N.length (cellsN N)) :
  Calls Tryz.prog 45 #[nv,ruleLA u] w fun e w'=>e=.returned (.string (bsOf (([]:Txt)++(cScore++32 :: (Y++[59])))))∧Below w.heap.size w w':=by
 have HI2:Hid (∀ wx,Reads wx nv N.length (cellsN N)→Calls Tryz.prog 70 #[nv,.agg #[.int .i64 u.score.place,.int .i64 u.score.fr,.int .i64 u.score.behind]] wx fun e w'=>e=.returned (.string (bsOf Y))∧Below wx.heap.size wx w'):=hF
 unfold ruleLA
 rw[h1,h2]
 have HR:=mH (hr.alloc (.cells #[.bool false,.int .i64 u.when.place,.int .i64 u.when.fr,.int .i64 u.when.behind,.bool true,.int .i64 u.score.place,.int .i64 u.score.fr,.int .i64 u.score.behind] 110))
 have HB:=mH (Blk.new w #[.bool false,.int .i64 u.when.place,.int .i64 u.when.fr,.int .i64 u.when.behind,.bool true,.int .i64 u.score.place,.int .i64 u.score.fr,.int .i64 u.score.behind] 110)
 have HBL:=mH (box3 w (.cells #[.bool false,.int .i64 u.when.place,.int .i64 u.when.fr,.int .i64 u.when.behind,.bool true,.int .i64 u.score.place,.int .i64 u.score.fr,.int .i64 u.score.behind] 110))
 have HX:Hid (bsOf (([]:Txt)++(cScore++32 :: (Y++[59])))=({ data:=#[] }:ByteArray)++⟨#[115,99,111,114,101,32]⟩++bsOf Y++⟨#[59]⟩):=by
  have e0:(⟨#[115,99,111,114,101,32]⟩:ByteArray)=bsOf [115,99,111,114,101,32]:=rfl
  have e1:(⟨#[59]⟩:ByteArray)=bsOf [59]:=rfl
  have e9:({ data:=#[] }:ByteArray)=bsOf []:=rfl
  rw[Hid,e0,e1,e9,← bsOf_app,← bsOf_app,← bsOf_app]
  congr 1
  all_goals simp[cWhen,cScore,cReject]
 have he2:(bsOf Y).size≤15000:=by rw[bsOf_size];exact hY
 generalize bsOf (([]:Txt)++(cScore++32 :: (Y++[59])))=XX at *
 generalize bsOf Y=fx at *
 clear hr h1 h2 hF hY
 have y0:(⟨#[115,99,111,114,101,32]⟩:ByteArray).size=6:=rfl
 have y1:(⟨#[59]⟩:ByteArray).size=1:=rfl
 have y9:({ data:=#[] }:ByteArray).size=0:=rfl
 have z1:(9223372036854775807<0+6+fx.size)=False:=by simp;omega
 have z2:(9223372036854775807<0+6+fx.size+1)=False:=by simp;omega
 have z7:(9223372036854775807<6+fx.size)=False:=by simp;omega
 have z8:(9223372036854775807<6+fx.size+1)=False:=by simp;omega
 have t1:Hid True:=trivial
 have t2:Hid True:=trivial
 go_enter Tryz.func45,Tryz.ntmps45
 go_upto_region 1 with fail
 generalize w.alloc (.cells #[.bool false,.int .i64 u.when.place,.int .i64 u.when.fr,.int .i64 u.when.behind,.bool true,.int .i64 u.score.place,.int .i64 u.score.fr,.int .i64 u.score.behind] 110)=W at HR HB HBL ⊢
 have c:=HB.out.cell
 go_wp2_with (first | (go_at_call 70;have u2:=t2;clear t2;refine (HI2.out _ HR.out).mono ?_;rintro e w3 ⟨rfl,hb⟩;replace HBL:=mH (ag_step HBL.out hb);replace HB:=mH (HB.out.below hb HB.out.lt);replace HR:=mH (HR.out.below hb);clear hb c;have c:=HB.out.cell))
 go_ret
 exact ⟨by rw[HX.out];rfl,HBL.out⟩
set_option maxHeartbeats 2000000 in
theorem ruleLine_nr(nv:Value)(N:List PNode)(u:PRule)(h1:u.hw=false)(h2:u.hs=false)(w:World)(hr:Reads w nv N.length (cellsN N)) :
  Calls Tryz.prog 45 #[nv,ruleLA u] w fun e w'=>e=.returned (.string (bsOf (([]:Txt)++(cReject++[59]))))∧Below w.heap.size w w':=by
 unfold ruleLA
 rw[h1,h2]
 have HR:=mH (hr.alloc (.cells #[.bool false,.int .i64 u.when.place,.int .i64 u.when.fr,.int .i64 u.when.behind,.bool false,.int .i64 u.score.place,.int .i64 u.score.fr,.int .i64 u.score.behind] 110))
 have HB:=mH (Blk.new w #[.bool false,.int .i64 u.when.place,.int .i64 u.when.fr,.int .i64 u.when.behind,.bool false,.int .i64 u.score.place,.int .i64 u.score.fr,.int .i64 u.score.behind] 110)
 have HBL:=mH (box3 w (.cells #[.bool false,.int .i64 u.when.place,.int .i64 u.when.fr,.int .i64 u.when.behind,.bool false,.int .i64 u.score.place,.int .i64 u.score.fr,.int .i64 u.score.behind] 110))
 have HX:Hid (bsOf (([]:Txt)++(cReject++[59]))=({ data:=#[] }:ByteArray)++⟨#[114,101,106,101,99,116,59]⟩):=by
  have e0:(⟨#[114,101,106,101,99,116,59]⟩:ByteArray)=bsOf [114,101,106,101,99,116,59]:=rfl
  have e9:({ data:=#[] }:ByteArray)=bsOf []:=rfl
  rw[Hid,e0,e9,← bsOf_app]
  congr 1
  all_goals simp[cWhen,cScore,cReject]
 generalize bsOf (([]:Txt)++(cReject++[59]))=XX at *
 clear hr h1 h2
 have y0:(⟨#[114,101,106,101,99,116,59]⟩:ByteArray).size=7:=rfl
 have y9:({ data:=#[] }:ByteArray).size=0:=rfl
 have t1:Hid True:=trivial
 have t2:Hid True:=trivial
 go_enter Tryz.func45,Tryz.ntmps45
 go_upto_region 1 with fail
 generalize w.alloc (.cells #[.bool false,.int .i64 u.when.place,.int .i64 u.when.fr,.int .i64 u.when.behind,.bool false,.int .i64 u.score.place,.int .i64 u.score.fr,.int .i64 u.score.behind] 110)=W at HR HB HBL ⊢
 have c:=HB.out.cell
 go_wp2
 go_ret
 exact ⟨by rw[HX.out];rfl,HBL.out⟩
def catL(l:List Txt):Txt:=l.flatMap (fun x=>x++[10])
def joinR:List Txt→Txt
 | []=>[]
 | x :: r=>x++r.flatMap (fun y=>10 :: y)
theorem catL_snoc(l:List Txt)(x:Txt):catL (l++[x])=catL l++(x++[10]):=by simp[catL]
theorem joinR_snoc(l:List Txt)(x:Txt):joinR (l++[x])=joinR l++((if l.length=0 then [] else [10])++x):=by
 cases l with
 | nil=>simp[joinR]
 | cons a r=>simp[joinR]
theorem catL_len:∀ (l:List Txt),(∀ x∈l,x.length≤40000)→(catL l).length≤40001*l.length
 | [],_=>by simp[catL]
 | x :: r,h=>by
  have ih:=catL_len r (fun y hy=>h y (List.mem_cons_of_mem _ hy))
  have h1:=h x List.mem_cons_self
  have e:catL (x :: r)=(x++[10])++catL r:=rfl
  rw[e,List.length_append,List.length_append,List.length_cons]
  simp only[List.length_cons,List.length_nil]
  omega
theorem joinR_len:∀ (l:List Txt),(∀ x∈l,x.length≤40000)→(joinR l).length≤40001*l.length:=by
 intro l h
 cases l with
 | nil=>simp[joinR]
 | cons a r =>
  have h1:=h a List.mem_cons_self
  have h2:(r.flatMap (fun y=>10 :: y)).length≤40001*r.length:=by
   have hr:∀ x∈r,x.length≤40000:=fun y hy=>h y (List.mem_cons_of_mem _ hy)
   clear h h1
   induction r with
   | nil=>simp
   | cons y r ih =>
    have i1:=ih (fun z hz=>hr z (List.mem_cons_of_mem _ hz))
    have i2:=hr y List.mem_cons_self
    rw[List.flatMap_cons,List.length_append]
    simp only[List.length_cons]
    omega
  show (a++r.flatMap (fun y=>10 :: y)).length≤_
  rw[List.length_append,List.length_cons]
  omega
structure TxM(w wx:World)(nv lv rv:Value)(N:List PNode)(ls:List PLet)(rs:List PRule):Prop where
 box:Blk wx w.heap.size #[nv,lv,rv] 73
 n:Reads wx nv N.length (cellsN N)
 l:Reads wx lv ls.length (cellsLt ls)
 r:Reads wx rv rs.length (cellsU rs)
 bl:Below w.heap.size w wx
theorem TxM.below{w wx w':World}{nv lv rv:Value}{N:List PNode}{ls:List PLet}{rs:List PRule}(h:TxM w wx nv lv rv N ls rs)(hb:Below wx.heap.size wx w'):TxM w w' nv lv rv N ls rs:=⟨h.box.below hb h.box.lt,h.n.below hb,h.l.below hb,h.r.below hb,h.bl.trans (hb.mono h.bl.size)⟩
theorem let_cells{w:World}{v:Value}{ls:List PLet}(h:Reads w v ls.length (cellsLt ls)){i:Nat}(hi:i<ls.length):∃ g o cap,v=.slice (some ⟨g,o,none⟩) ls.length cap∧ls.length≤cap∧g<w.heap.size∧w.cell? ⟨g,o+i*6,none⟩=some (.int .i64 (kindP ls[i].name.text))∧w.cell? ⟨g,o+i*6+1,none⟩=some (.int .i64 ls[i].name.at')∧w.cell? ⟨g,o+i*6+2,none⟩=some (.string (bsOf ls[i].name.text))∧w.cell? ⟨g,o+i*6+3,none⟩=some (.int .i64 ls[i].val.place)∧w.cell? ⟨g,o+i*6+4,none⟩=some (.int .i64 ls[i].val.fr)∧w.cell? ⟨g,o+i*6+5,none⟩=some (.int .i64 ls[i].val.behind):=by
 obtain ⟨g,o,cap,hv,hcap,hg,hc⟩:=h.pos (by omega)
 have f:=fun j (hj:j<6) u (hu:(cellL ls[i])[j]?=some u)=>hc (i*6+j) u ((flat_get cellL 6 (fun _=>rfl) ls i hi j hj).trans hu)
 refine ⟨g,o,cap,hv,hcap,hg,f 0 (by omega) _ rfl, ?_, ?_, ?_, ?_, ?_⟩
 ·rw[Nat.add_assoc];exact f 1 (by omega) _ rfl
 ·rw[Nat.add_assoc];exact f 2 (by omega) _ rfl
 ·rw[Nat.add_assoc];exact f 3 (by omega) _ rfl
 ·rw[Nat.add_assoc];exact f 4 (by omega) _ rfl
 ·rw[Nat.add_assoc];exact f 5 (by omega) _ rfl
theorem rul_cells{w:World}{v:Value}{rs:List PRule}(h:Reads w v rs.length (cellsU rs)){i:Nat}(hi:i<rs.length):∃ g o cap,v=.slice (some ⟨g,o,none⟩) rs.length cap∧rs.length≤cap∧g<w.heap.size∧w.cell? ⟨g,o+i*8,none⟩=some (.bool rs[i].hw)∧w.cell? ⟨g,o+i*8+1,none⟩=some (.int .i64 rs[i].when.place)∧w.cell? ⟨g,o+i*8+2,none⟩=some (.int .i64 rs[i].when.fr)∧w.cell? ⟨g,o+i*8+3,none⟩=some (.int .i64 rs[i].when.behind)∧w.cell? ⟨g,o+i*8+4,none⟩=some (.bool rs[i].hs)∧w.cell? ⟨g,o+i*8+5,none⟩=some (.int .i64 rs[i].score.place)∧w.cell? ⟨g,o+i*8+6,none⟩=some (.int .i64 rs[i].score.fr)∧w.cell? ⟨g,o+i*8+7,none⟩=some (.int .i64 rs[i].score.behind):=by
 obtain ⟨g,o,cap,hv,hcap,hg,hc⟩:=h.pos (by omega)
 have f:=fun j (hj:j<8) u (hu:(cellU rs[i])[j]?=some u)=>hc (i*8+j) u ((flat_get cellU 8 (fun _=>rfl) rs i hi j hj).trans hu)
 refine ⟨g,o,cap,hv,hcap,hg,f 0 (by omega) _ rfl, ?_, ?_, ?_, ?_, ?_, ?_, ?_⟩
 ·rw[Nat.add_assoc];exact f 1 (by omega) _ rfl
 ·rw[Nat.add_assoc];exact f 2 (by omega) _ rfl
 ·rw[Nat.add_assoc];exact f 3 (by omega) _ rfl
 ·rw[Nat.add_assoc];exact f 4 (by omega) _ rfl
 ·rw[Nat.add_assoc];exact f 5 (by omega) _ rfl
 ·rw[Nat.add_assoc];exact f 6 (by omega) _ rfl
 ·rw[Nat.add_assoc];exact f 7 (by omega) _ rfl
set_option maxHeartbeats 8000000 in
set_option maxRecDepth 100000 in
theorem Text_any(nv lv rv:Value)(N:List PNode)(ls:List PLet)(rs:List PRule)(lx rx:List Txt)(hl4:ls.length≤401)(hr4:rs.length≤401)(hlx:lx.length=ls.length)(hrx:rx.length=rs.length)(zl:∀ x∈lx,x.length≤40000)(zr:∀ x∈rx,x.length≤40000)
  (hL:∀ i (h:i<ls.length),∀ w,Reads w nv N.length (cellsN N)→Calls Tryz.prog 44 #[nv,letLA ls[i]] w fun e w'=>e=.returned (.string (bsOf (lx[i]'(by omega))))∧Below w.heap.size w w')
  (hR:∀ i (h:i<rs.length),∀ w,Reads w nv N.length (cellsN N)→Calls Tryz.prog 45 #[nv,ruleLA rs[i]] w fun e w'=>e=.returned (.string (bsOf (rx[i]'(by omega))))∧Below w.heap.size w w')
  (w:World) (hn:Reads w nv N.length (cellsN N)) (hl:Reads w lv ls.length (cellsLt ls)) (hr:Reads w rv rs.length (cellsU rs)) :
  Calls Tryz.prog 23 #[.agg #[nv,lv,rv]] w fun e w'=>e=.returned (.string (bsOf (catL lx++joinR rx)))∧Below w.heap.size w w':=by
 have HM:Hid (TxM w (w.alloc (.cells #[nv,lv,rv] 73)) nv lv rv N ls rs):=⟨Blk.new w _ _,hn.alloc _,hl.alloc _,hr.alloc _,box3 w _⟩
 obtain ⟨la,lc,rfl⟩:=hl.shape
 obtain ⟨ra,rc,rfl⟩:=hr.shape
 obtain ⟨na,nc,rfl⟩:=hn.shape
 have HL:=mH hL
 have HR:=mH hR
 have HZL:=mH zl
 have HZR:=mH zr
 clear hn hl hr hL hR zl zr
 go_enter Tryz.func23,Tryz.ntmps23
 go_upto_region 1 with fail
 generalize w.alloc (.cells #[.slice na N.length nc,.slice la ls.length lc,.slice ra rs.length rc] 73)=W at HM ⊢
 go_wp2
 go_loopw [3,4] (fun v3 vi wr=>∃ i:Nat,i≤ls.length∧v3=.string (bsOf (catL (lx.take i)))∧vi=.int .i64 i∧TxM w wr (.slice na N.length nc) (.slice la ls.length lc) (.slice ra rs.length rc) N ls rs) (fun _ i _=>1000-(intOf i).toNat)
 case atStart=>exact ⟨0,Nat.zero_le _,rfl,rfl,HM.out⟩
 case round =>
  obtain ⟨i,hi,rfl,rfl,hm⟩:=hrel
  clear HM
  have HM:=mH hm
  clear hm
  by_cases hlt:i<ls.length
  ·have e1:decide ((i:Int)<(ls.length:Int))=true:=decide_eq_true (by omega)
   have HTK:Hid (catL (lx.take (i+1))=catL (lx.take i)++(lx[i]'(by omega)++[10])):=by rw[Hid,List.take_succ_eq_append_getElem (by omega),catL_snoc]
   have hzi:=HZL.out (lx[i]'(by omega)) (List.getElem_mem _)
   have hzt:=catL_len (lx.take i) (fun x hx=>HZL.out x (List.mem_of_mem_take hx))
   have hti:(lx.take i).length≤401:=by simp;omega
   obtain ⟨g,o,cap,hcut,hcap,hg,d0,d1,d2,d3,d4,d5⟩:=let_cells HM.out.l hlt
   cases hcut
   obtain ⟨p,hp⟩:∃ p,ls[i]=p:=⟨_,rfl⟩
   have HLN:=mH (HL.out i hlt)
   rw[hp]at d0 d1 d2 d3 d4 d5 HLN
   have HCELL:Hid (∀ wx,Below wr.heap.size wr wx→wx.cell? ⟨w.heap.size,0,none⟩=some (.slice na N.length nc)∧wx.cell? ⟨w.heap.size,1,none⟩=some (.slice (some ⟨g,o,none⟩) ls.length lc)∧wx.cell? ⟨w.heap.size,2,none⟩=some (.slice ra rs.length rc)∧wx.cell? ⟨g,o+i*6,none⟩=some (.int .i64 (kindP p.name.text))∧wx.cell? ⟨g,o+i*6+1,none⟩=some (.int .i64 p.name.at')∧wx.cell? ⟨g,o+i*6+2,none⟩=some (.string (bsOf p.name.text))∧wx.cell? ⟨g,o+i*6+3,none⟩=some (.int .i64 p.val.place)∧wx.cell? ⟨g,o+i*6+4,none⟩=some (.int .i64 p.val.fr)∧wx.cell? ⟨g,o+i*6+5,none⟩=some (.int .i64 p.val.behind)):=fun wx hb=>by
    have hh:=(HM.out.below hb).box.cell
    exact ⟨hh 0,hh 1,hh 2,(hb.cell (p:=⟨g,o+i*6,none⟩) hg).trans d0,(hb.cell (p:=⟨g,o+i*6+1,none⟩) hg).trans d1,(hb.cell (p:=⟨g,o+i*6+2,none⟩) hg).trans d2,(hb.cell (p:=⟨g,o+i*6+3,none⟩) hg).trans d3,(hb.cell (p:=⟨g,o+i*6+4,none⟩) hg).trans d4,(hb.cell (p:=⟨g,o+i*6+5,none⟩) hg).trans d5⟩
   clear hp d0 d1 d2 d3 d4 d5
   have HQ:=mH (Below.refl wr.heap.size wr)
   obtain ⟨b0,b1,b2,c0,c1,c2,c3,c4,c5⟩:=HCELL.out _ HQ.out
   have b1':=HM.out.box.cell 1
   go_upto_region 5 with fail
   go_cut [5] from 8 to 26 (fun s5 wx=>s5=.string (bsOf (lx[i]'(by omega)))∧Below wr.heap.size wr wx)
   case first =>
    clear b1'
    go_region_held3 (fun w'=>w'.cell? ⟨w.heap.size,0,none⟩=some (.slice na N.length nc)∧w'.cell? ⟨w.heap.size,1,none⟩=some (.slice (some ⟨g,o,none⟩) ls.length lc)∧w'.cell? ⟨w.heap.size,2,none⟩=some (.slice ra rs.length rc)∧w'.cell? ⟨g,o+i*6,none⟩=some (.int .i64 (kindP p.name.text))∧w'.cell? ⟨g,o+i*6+1,none⟩=some (.int .i64 p.name.at')∧w'.cell? ⟨g,o+i*6+2,none⟩=some (.string (bsOf p.name.text))∧w'.cell? ⟨g,o+i*6+3,none⟩=some (.int .i64 p.val.place)∧w'.cell? ⟨g,o+i*6+4,none⟩=some (.int .i64 p.val.fr)∧w'.cell? ⟨g,o+i*6+5,none⟩=some (.int .i64 p.val.behind)) (first | with_reducible exact HCELL.out _ HQ.out | with_reducible exact HCELL.out _ (ag_dr HQ.out)) (first | (go_at_call 44;refine (HLN.out _ (HM.out.n.below (by first | with_reducible exact HQ.out | with_reducible exact ag_dr HQ.out))).mono ?_;rintro e w2 ⟨rfl,hb⟩;replace HQ:=mH (show Below wr.heap.size wr w2 by first | with_reducible exact ag_step HQ.out hb | with_reducible exact ag_step (ag_dr HQ.out) hb);clear hb b0 b1 b2 c0 c1 c2 c3 c4 c5;obtain ⟨b0,b1,b2,c0,c1,c2,c3,c4,c5⟩:=HCELL.out _ HQ.out))
    all_goals
     go_wp2_with fail
     go_meet
     case rel=>exact ⟨rfl,HQ.out⟩
   case rest =>
    obtain ⟨rfl,hb⟩:=hcut
    clear HQ HCELL b1' b0 b1 b2 c0 c1 c2 c3 c4 c5
    replace HM:=mH (HM.out.below hb)
    clear hb
    obtain ⟨X,hX⟩:∃ X,lx[i]'(by omega)=X:=⟨_,rfl⟩
    rw[hX]at HTK hzi ⊢
    obtain ⟨Y,hY⟩:∃ Y,catL (lx.take i)=Y:=⟨_,rfl⟩
    rw[hY]at HTK hzt ⊢
    have HXX:Hid (bsOf (Y++(X++[10]))=bsOf Y++bsOf X++⟨#[10]⟩):=by
     have q1:(⟨#[10]⟩:ByteArray)=bsOf [10]:=rfl
     rw[Hid,q1,← bsOf_app,← bsOf_app,List.append_assoc]
    have y1:(bsOf X).size≤40000:=by rw[bsOf_size];exact hzi
    have y2:(bsOf Y).size≤40000*500:=by rw[bsOf_size];omega
    clear hX hY hzi hzt hti HLN
    generalize bsOf X=bx at *
    generalize bsOf Y=by' at *
    have y3:(⟨#[10]⟩:ByteArray).size=1:=rfl
    have z1:(9223372036854775807<by'.size+bx.size)=False:=by simp;omega
    have z2:(9223372036854775807<by'.size+bx.size+1)=False:=by simp;omega
    go_wp2
    go_roundw
    case rel=>exact ⟨i+1,by omega,by rw[HTK.out,HXX.out],by go_num,HM.out⟩
    case measure=>simp[intOf];omega
  ·have e1:decide ((i:Int)<(ls.length:Int))=false:=decide_eq_false (by omega)
   have hil:lx.take i=lx:=List.take_of_length_le (by omega)
   rw[hil]
   have hzt:=catL_len lx HZL.out
   have hti:lx.length≤401:=by omega
   have b1:=HM.out.box.cell 1
   obtain ⟨T0,hT0⟩:∃ T0,catL lx=T0:=⟨_,rfl⟩
   rw[hT0]at hzt ⊢
   have HT0:=mH hT0
   clear hT0 hil
   have b2:=HM.out.box.cell 2
   go_wp2
   clear b1 b2
   go_loopw [3,6] (fun v3 vi wr=>∃ i:Nat,i≤rs.length∧v3=.string (bsOf (T0++joinR (rx.take i)))∧vi=.int .i64 i∧TxM w wr (.slice na N.length nc) (.slice la ls.length lc) (.slice ra rs.length rc) N ls rs) (fun _ i _=>1000-(intOf i).toNat)
   case atStart=>exact ⟨0,Nat.zero_le _,by simp[joinR],rfl,HM.out⟩
   case round =>
    obtain ⟨i,hi,rfl,rfl,hm⟩:=hrel
    clear HM
    have HM:=mH hm
    clear hm
    have b2:=HM.out.box.cell 2
    by_cases hlt:i<rs.length
    ·have e1:decide ((i:Int)<(rs.length:Int))=true:=decide_eq_true (by omega)
     have HTK:Hid (T0++joinR (rx.take (i+1))=(T0++joinR (rx.take i))++((if i=0 then [] else [10])++rx[i]'(by omega))):=by
      rw[Hid,List.take_succ_eq_append_getElem (by omega),joinR_snoc,List.length_take,List.append_assoc,show min i rx.length=i by omega]
     have hzi:=HZR.out (rx[i]'(by omega)) (List.getElem_mem _)
     have hzj:=joinR_len (rx.take i) (fun x hx=>HZR.out x (List.mem_of_mem_take hx))
     have hti2:(rx.take i).length≤401:=by simp;omega
     have hY2:(T0++joinR (rx.take i)).length≤40000*1100:=by rw[List.length_append];omega
     obtain ⟨X,hX⟩:∃ X,rx[i]'(by omega)=X:=⟨_,rfl⟩
     have HLN0:=mH (HR.out i hlt)
     rw[hX]at HTK hzi HLN0
     obtain ⟨Y,hY⟩:∃ Y,T0++joinR (rx.take i)=Y:=⟨_,rfl⟩
     rw[hY]at HTK hY2 ⊢
     have y1:(bsOf X).size≤40000:=by rw[bsOf_size];exact hzi
     have y2:(bsOf Y).size≤40000*1100:=by rw[bsOf_size];exact hY2
     have y3:(⟨#[10]⟩:ByteArray).size=1:=rfl
     have z1:(9223372036854775807<(bsOf Y).size+1)=False:=by simp;omega
     clear hX hY hzi hzj hti2 hY2
     obtain ⟨Z,hZ⟩:∃ Z,Y++(if i=0 then [] else [10])=Z:=⟨_,rfl⟩
     have HZ:=mH hZ
     have HTK2:Hid (T0++joinR (rx.take (i+1))=Z++X):=by rw[Hid,HTK.out,← List.append_assoc,hZ]
     have y4:(bsOf Z).size≤40000*1101:=by
      rw[bsOf_size,← hZ,List.length_append]
      rw[bsOf_size]at y2
      split
      ·simp;omega
      ·simp;omega
     clear hZ HTK
     go_upto_if 35 with fail
     go_cut [3] (fun s3 wx=>s3=.string (bsOf Z)∧TxM w wx (.slice na N.length nc) (.slice la ls.length lc) (.slice ra rs.length rc) N ls rs)
     case first =>
      by_cases hi0:i=0
      ·have HE:Hid (Z=Y):=by rw[Hid,← HZ.out,if_pos hi0,List.append_nil]
       subst hi0
       go_wp2
       go_meet
       case rel=>exact ⟨by rw[HE.out],HM.out⟩
      ·have HE:Hid (bsOf Z=bsOf Y++⟨#[10]⟩):=by rw[Hid,← HZ.out,if_neg hi0,bsOf_app];rfl
       have f3:0<i:=by omega
       have f1:decide ((0:Int)<(i:Int))=true:=decide_eq_true (by omega)
       clear hi0
       go_wp2
       go_meet
       case rel=>exact ⟨by rw[HE.out],HM.out⟩
     case rest =>
      obtain ⟨rfl,hm⟩:=hcut
      clear z1 y2 HZ HM b2
      have HM:=mH hm
      clear hm
      obtain ⟨g,o,cap,hcut,hcap,hg,d0,d1,d2,d3,d4,d5,d6,d7⟩:=rul_cells HM.out.r hlt
      cases hcut
      obtain ⟨u,hu⟩:∃ u,rs[i]=u:=⟨_,rfl⟩
      have HU:=mH hu
      have HLN:=mH (HR.out i hlt)
      rw[hu]at d0 d1 d2 d3 d4 d5 d6 d7 HLN
      have HCELL:Hid (∀ wx,Below wc.heap.size wc wx→wx.cell? ⟨w.heap.size,0,none⟩=some (.slice na N.length nc)∧wx.cell? ⟨w.heap.size,1,none⟩=some (.slice la ls.length lc)∧wx.cell? ⟨w.heap.size,2,none⟩=some (.slice (some ⟨g,o,none⟩) rs.length rc)∧wx.cell? ⟨g,o+i*8,none⟩=some (.bool u.hw)∧wx.cell? ⟨g,o+i*8+1,none⟩=some (.int .i64 u.when.place)∧wx.cell? ⟨g,o+i*8+2,none⟩=some (.int .i64 u.when.fr)∧wx.cell? ⟨g,o+i*8+3,none⟩=some (.int .i64 u.when.behind)∧wx.cell? ⟨g,o+i*8+4,none⟩=some (.bool u.hs)∧wx.cell? ⟨g,o+i*8+5,none⟩=some (.int .i64 u.score.place)∧wx.cell? ⟨g,o+i*8+6,none⟩=some (.int .i64 u.score.fr)∧wx.cell? ⟨g,o+i*8+7,none⟩=some (.int .i64 u.score.behind)):=fun wx hb=>by
       have hh:=(HM.out.below hb).box.cell
       exact ⟨hh 0,hh 1,hh 2,(hb.cell (p:=⟨g,o+i*8,none⟩) hg).trans d0,(hb.cell (p:=⟨g,o+i*8+1,none⟩) hg).trans d1,(hb.cell (p:=⟨g,o+i*8+2,none⟩) hg).trans d2,(hb.cell (p:=⟨g,o+i*8+3,none⟩) hg).trans d3,(hb.cell (p:=⟨g,o+i*8+4,none⟩) hg).trans d4,(hb.cell (p:=⟨g,o+i*8+5,none⟩) hg).trans d5,(hb.cell (p:=⟨g,o+i*8+6,none⟩) hg).trans d6,(hb.cell (p:=⟨g,o+i*8+7,none⟩) hg).trans d7⟩
      clear hu d0 d1 d2 d3 d4 d5 d6 d7
      have HQ:=mH (Below.refl wc.heap.size wc)
      obtain ⟨b0,b1,b2,c0,c1,c2,c3,c4,c5,c6,c7⟩:=HCELL.out _ HQ.out
      replace HLN:=HLN0
      rw[HU.out]at HLN
      go_upto_region 12 with fail
      go_cut [7] from 27 to 48 (fun s7 wx=>s7=.string (bsOf X)∧Below wc.heap.size wc wx)
      case first =>
       go_region_held3 (fun w'=>w'.cell? ⟨w.heap.size,0,none⟩=some (.slice na N.length nc)∧w'.cell? ⟨w.heap.size,1,none⟩=some (.slice la ls.length lc)∧w'.cell? ⟨w.heap.size,2,none⟩=some (.slice (some ⟨g,o,none⟩) rs.length rc)∧w'.cell? ⟨g,o+i*8,none⟩=some (.bool u.hw)∧w'.cell? ⟨g,o+i*8+1,none⟩=some (.int .i64 u.when.place)∧w'.cell? ⟨g,o+i*8+2,none⟩=some (.int .i64 u.when.fr)∧w'.cell? ⟨g,o+i*8+3,none⟩=some (.int .i64 u.when.behind)∧w'.cell? ⟨g,o+i*8+4,none⟩=some (.bool u.hs)∧w'.cell? ⟨g,o+i*8+5,none⟩=some (.int .i64 u.score.place)∧w'.cell? ⟨g,o+i*8+6,none⟩=some (.int .i64 u.score.fr)∧w'.cell? ⟨g,o+i*8+7,none⟩=some (.int .i64 u.score.behind)) (first | with_reducible exact HCELL.out _ HQ.out | with_reducible exact HCELL.out _ (ag_dr HQ.out)) (first | (go_at_call 45;refine (HLN.out _ (HM.out.n.below (by first | with_reducible exact HQ.out | with_reducible exact ag_dr HQ.out))).mono ?_;rintro e w2 ⟨rfl,hb⟩;replace HQ:=mH (show Below wc.heap.size wc w2 by first | with_reducible exact ag_step HQ.out hb | with_reducible exact ag_step (ag_dr HQ.out) hb);clear hb b0 b1 b2 c0 c1 c2 c3 c4 c5 c6 c7;obtain ⟨b0,b1,b2,c0,c1,c2,c3,c4,c5,c6,c7⟩:=HCELL.out _ HQ.out))
       all_goals
        go_wp2_with fail
        go_meet
        case rel=>exact ⟨rfl,HQ.out⟩
      case rest =>
       obtain ⟨rfl,hb⟩:=hcut
       clear HQ HCELL b0 b1 b2 c0 c1 c2 c3 c4 c5 c6 c7
       replace HM:=mH (HM.out.below hb)
       clear hb
       have HXX:Hid (bsOf (Z++X)=bsOf Z++bsOf X):=bsOf_app Z X
       generalize bsOf X=bx at *
       generalize bsOf Z=bz at *
       have z1:(9223372036854775807<bz.size+bx.size)=False:=by simp;omega
       go_wp2
       go_roundw
       case rel=>exact ⟨i+1,by omega,by rw[HTK2.out,HXX.out],by go_num,HM.out⟩
       case measure=>simp[intOf];omega
    ·have e1:decide ((i:Int)<(rs.length:Int))=false:=decide_eq_false (by omega)
     have hil:rx.take i=rx:=List.take_of_length_le (by omega)
     rw[hil]
     clear hil
     go_wp2
     go_ret
     exact ⟨by rw[HT0.out];rfl,HM.out.bl⟩
end Go.Proofs.YtpcjadaeolkngaaGreatDoor
