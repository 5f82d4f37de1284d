/-
  The program's plain form of a LET and a RULE: letLine, ruleLine.
-/
import Derived.Test.YtgfnkeiigjholaaGreatDoorQ40
set_option linter.unusedVariables false
set_option linter.unusedSimpArgs false
namespace Go.Proofs.YtgfnkeiigjholaaGreatDoor
open Go.RowKit Go.Deep
def letLA(p:PLet):Value:=.agg #[.int .i64 (kindP p.name.text),.int .i64 p.name.at',.string (bsOf p.name.text),.int .i64 p.val.place,.int .i64 p.val.fr,.int .i64 p.val.behind]
def ruleLA(u:PRule):Value:=.agg #[.bool u.hw,.int .i64 u.when.place,.int .i64 u.when.fr,.int .i64 u.when.behind,.bool u.hs,.int .i64 u.score.place,.int .i64 u.score.fr,.int .i64 u.score.behind]
set_option maxHeartbeats 2000000 in
theorem letLine_any(nv:Value)(N:List PNode)(p:PLet)(X:Txt)(hm:p.name.text.length≤18)(hX:X.length≤15000)(hE:ExprIs nv N p.val X)(w:World)(hr:Reads w nv N.length (cellsN N)) :
  Calls Tryz.prog 56 #[nv,letLA p] w fun e w'=>e=.returned (.string (bsOf (cLet++32 :: (p.name.text++32 :: (cEq++32 :: (X++[59]))))))∧Below w.heap.size w w':=by
 have HIH:Hid (∀ wx,Reads wx nv N.length (cellsN N)→Calls Tryz.prog 94 #[nv,.agg #[.int .i64 p.val.place,.int .i64 p.val.fr,.int .i64 p.val.behind]] wx fun e w'=>e=.returned (.string (bsOf X))∧Below wx.heap.size wx w'):=hE
 have HR:=mH (hr.alloc (.cells #[.int .i64 (kindP p.name.text),.int .i64 p.name.at',.string (bsOf p.name.text),.int .i64 p.val.place,.int .i64 p.val.fr,.int .i64 p.val.behind] 113))
 have HB:=mH (Blk.new w #[.int .i64 (kindP p.name.text),.int .i64 p.name.at',.string (bsOf p.name.text),.int .i64 p.val.place,.int .i64 p.val.fr,.int .i64 p.val.behind] 113)
 have HBL:=mH (box3 w (.cells #[.int .i64 (kindP p.name.text),.int .i64 p.name.at',.string (bsOf p.name.text),.int .i64 p.val.place,.int .i64 p.val.fr,.int .i64 p.val.behind] 113))
 have HX:Hid (bsOf (cLet++32 :: (p.name.text++32 :: (cEq++32 :: (X++[59]))))=⟨#[108,101,116,32]⟩++bsOf p.name.text++⟨#[32,61,32]⟩++bsOf X++⟨#[59]⟩):=by
  have e1:(⟨#[108,101,116,32]⟩:ByteArray)=bsOf [108,101,116,32]:=rfl
  have e2:(⟨#[32,61,32]⟩:ByteArray)=bsOf [32,61,32]:=rfl
  have e3:(⟨#[59]⟩:ByteArray)=bsOf [59]:=rfl
  rw[Hid,e1,e2,e3,← bsOf_app,← bsOf_app,← bsOf_app,← bsOf_app]
  congr 1
  simp[cLet,cEq]
 have he1:(bsOf X).size≤15000:=by rw[bsOf_size];exact hX
 have he2:(bsOf p.name.text).size≤18:=by rw[bsOf_size];exact hm
 unfold letLA
 generalize bsOf (cLet++32 :: (p.name.text++32 :: (cEq++32 :: (X++[59]))))=XX at *
 generalize kindP p.name.text=kk at *
 generalize bsOf p.name.text=tx at *
 generalize bsOf X=ex at *
 clear hr hE hm hX
 have y1:(⟨#[108,101,116,32]⟩:ByteArray).size=4:=rfl
 have y2:(⟨#[32,61,32]⟩:ByteArray).size=3:=rfl
 have y3:(⟨#[59]⟩:ByteArray).size=1:=rfl
 have z1:(9223372036854775807<4+tx.size)=False:=by simp;omega
 have z2:(9223372036854775807<4+tx.size+3)=False:=by simp;omega
 have z3:(9223372036854775807<4+tx.size+3+ex.size)=False:=by simp;omega
 have z4:(9223372036854775807<4+tx.size+3+ex.size+1)=False:=by simp;omega
 go_enter Tryz.func56,Tryz.ntmps56
 go_upto_region 1 with fail
 generalize w.alloc (.cells #[.int .i64 kk,.int .i64 p.name.at',.string tx,.int .i64 p.val.place,.int .i64 p.val.fr,.int .i64 p.val.behind] 113)=W at HR HB HBL ⊢
 have c:=HB.out.cell
 go_wp2_with (go_at_call 94;refine (HIH.out _ HR.out).mono ?_;rintro e w2 ⟨rfl,hb⟩;replace HBL:=mH (ag_step HBL.out hb);replace HB:=mH (HB.out.below hb HB.out.lt);clear hb c;have c:=HB.out.cell)
 go_ret
 exact ⟨by rw[HX.out];rfl,HBL.out⟩
set_option maxHeartbeats 2000000 in
theorem ruleLine_ws(nv:Value)(N:List PNode)(u:PRule)(h1:u.hw=true)(h2:u.hs=true)(X:Txt)(hX:X.length≤15000)(hE:ExprIs nv N u.when X)(Y:Txt)(hY:Y.length≤15000)(hF:ExprIs nv N u.score Y)(w:World)(hr:Reads w nv N.length (cellsN N)) :
  Calls Tryz.prog 57 #[nv,ruleLA u] w fun e w'=>e=.returned (.string (bsOf ((cWhen++32 :: (X++[32]))++(cScore++32 :: (Y++[59])))))∧Below w.heap.size w w':=by
 have HI1:Hid (∀ wx,Reads wx nv N.length (cellsN N)→Calls Tryz.prog 94 #[nv,.agg #[.int .i64 u.when.place,.int .i64 u.when.fr,.int .i64 u.when.behind]] wx fun e w'=>e=.returned (.string (bsOf X))∧Below wx.heap.size wx w'):=hE
 have HI2:Hid (∀ wx,Reads wx nv N.length (cellsN N)→Calls Tryz.prog 94 #[nv,.agg #[.int .i64 u.score.place,.int .i64 u.score.fr,.int .i64 u.score.behind]] wx fun e w'=>e=.returned (.string (bsOf Y))∧Below wx.heap.size wx w'):=hF
 unfold ruleLA
 rw[h1,h2]
 have HR:=mH (hr.alloc (.cells #[.bool true,.int .i64 u.when.place,.int .i64 u.when.fr,.int .i64 u.when.behind,.bool true,.int .i64 u.score.place,.int .i64 u.score.fr,.int .i64 u.score.behind] 116))
 have HB:=mH (Blk.new w #[.bool true,.int .i64 u.when.place,.int .i64 u.when.fr,.int .i64 u.when.behind,.bool true,.int .i64 u.score.place,.int .i64 u.score.fr,.int .i64 u.score.behind] 116)
 have HBL:=mH (box3 w (.cells #[.bool true,.int .i64 u.when.place,.int .i64 u.when.fr,.int .i64 u.when.behind,.bool true,.int .i64 u.score.place,.int .i64 u.score.fr,.int .i64 u.score.behind] 116))
 have HX:Hid (bsOf ((cWhen++32 :: (X++[32]))++(cScore++32 :: (Y++[59])))=⟨#[119,104,101,110,32]⟩++bsOf X++⟨#[32]⟩++⟨#[115,99,111,114,101,32]⟩++bsOf Y++⟨#[59]⟩):=by
  have e0:(⟨#[119,104,101,110,32]⟩:ByteArray)=bsOf [119,104,101,110,32]:=rfl
  have e1:(⟨#[32]⟩:ByteArray)=bsOf [32]:=rfl
  have e2:(⟨#[115,99,111,114,101,32]⟩:ByteArray)=bsOf [115,99,111,114,101,32]:=rfl
  have e3:(⟨#[59]⟩:ByteArray)=bsOf [59]:=rfl
  rw[Hid,e0,e1,e2,e3,← bsOf_app,← bsOf_app,← bsOf_app,← bsOf_app,← bsOf_app]
  congr 1
  all_goals simp[cWhen,cScore,cReject]
 have he1:(bsOf X).size≤15000:=by rw[bsOf_size];exact hX
 have he2:(bsOf Y).size≤15000:=by rw[bsOf_size];exact hY
 generalize bsOf ((cWhen++32 :: (X++[32]))++(cScore++32 :: (Y++[59])))=XX at *
 generalize bsOf X=ex at *
 generalize bsOf Y=fx at *
 clear hr h1 h2 hE hX hF hY
 have y0:(⟨#[119,104,101,110,32]⟩:ByteArray).size=5:=rfl
 have y1:(⟨#[32]⟩:ByteArray).size=1:=rfl
 have y2:(⟨#[115,99,111,114,101,32]⟩:ByteArray).size=6:=rfl
 have y3:(⟨#[59]⟩:ByteArray).size=1:=rfl
 have y9:({ data:=#[] }:ByteArray).size=0:=rfl
 have z0:(9223372036854775807<5+ex.size)=False:=by simp;omega
 have z1:(9223372036854775807<5+ex.size+1)=False:=by simp;omega
 have z2:(9223372036854775807<5+ex.size+1+6)=False:=by simp;omega
 have z3:(9223372036854775807<5+ex.size+1+6+fx.size)=False:=by simp;omega
 have z4:(9223372036854775807<5+ex.size+1+6+fx.size+1)=False:=by simp;omega
 have t1:Hid True:=trivial
 have t2:Hid True:=trivial
 go_enter Tryz.func57,Tryz.ntmps57
 go_upto_region 1 with fail
 generalize w.alloc (.cells #[.bool true,.int .i64 u.when.place,.int .i64 u.when.fr,.int .i64 u.when.behind,.bool true,.int .i64 u.score.place,.int .i64 u.score.fr,.int .i64 u.score.behind] 116)=W at HR HB HBL ⊢
 have c:=HB.out.cell
 go_wp2_with (first | (go_at_call 94;have u1:=t1;clear t1;refine (HI1.out _ HR.out).mono ?_;rintro e w2 ⟨rfl,hb⟩;replace HBL:=mH (ag_step HBL.out hb);replace HB:=mH (HB.out.below hb HB.out.lt);replace HR:=mH (HR.out.below hb);clear hb c;have c:=HB.out.cell) | (go_at_call 94;have u2:=t2;clear t2;refine (HI2.out _ HR.out).mono ?_;rintro e w3 ⟨rfl,hb⟩;replace HBL:=mH (ag_step HBL.out hb);replace HB:=mH (HB.out.below hb HB.out.lt);replace HR:=mH (HR.out.below hb);clear hb c;have c:=HB.out.cell))
 go_ret
 exact ⟨by rw[HX.out];rfl,HBL.out⟩
set_option maxHeartbeats 2000000 in
theorem ruleLine_wr(nv:Value)(N:List PNode)(u:PRule)(h1:u.hw=true)(h2:u.hs=false)(X:Txt)(hX:X.length≤15000)(hE:ExprIs nv N u.when X)(w:World)(hr:Reads w nv N.length (cellsN N)) :
  Calls Tryz.prog 57 #[nv,ruleLA u] w fun e w'=>e=.returned (.string (bsOf ((cWhen++32 :: (X++[32]))++(cReject++[59]))))∧Below w.heap.size w w':=by
 have HI1:Hid (∀ wx,Reads wx nv N.length (cellsN N)→Calls Tryz.prog 94 #[nv,.agg #[.int .i64 u.when.place,.int .i64 u.when.fr,.int .i64 u.when.behind]] wx fun e w'=>e=.returned (.string (bsOf X))∧Below wx.heap.size wx w'):=hE
 unfold ruleLA
 rw[h1,h2]
 have HR:=mH (hr.alloc (.cells #[.bool true,.int .i64 u.when.place,.int .i64 u.when.fr,.int .i64 u.when.behind,.bool false,.int .i64 u.score.place,.int .i64 u.score.fr,.int .i64 u.score.behind] 116))
 have HB:=mH (Blk.new w #[.bool true,.int .i64 u.when.place,.int .i64 u.when.fr,.int .i64 u.when.behind,.bool false,.int .i64 u.score.place,.int .i64 u.score.fr,.int .i64 u.score.behind] 116)
 have HBL:=mH (box3 w (.cells #[.bool true,.int .i64 u.when.place,.int .i64 u.when.fr,.int .i64 u.when.behind,.bool false,.int .i64 u.score.place,.int .i64 u.score.fr,.int .i64 u.score.behind] 116))
 have HX:Hid (bsOf ((cWhen++32 :: (X++[32]))++(cReject++[59]))=⟨#[119,104,101,110,32]⟩++bsOf X++⟨#[32]⟩++⟨#[114,101,106,101,99,116,59]⟩):=by
  have e0:(⟨#[119,104,101,110,32]⟩:ByteArray)=bsOf [119,104,101,110,32]:=rfl
  have e1:(⟨#[32]⟩:ByteArray)=bsOf [32]:=rfl
  have e2:(⟨#[114,101,106,101,99,116,59]⟩:ByteArray)=bsOf [114,101,106,101,99,116,59]:=rfl
  rw[Hid,e0,e1,e2,← bsOf_app,← bsOf_app,← bsOf_app]
  congr 1
  all_goals simp[cWhen,cScore,cReject]
 have he1:(bsOf X).size≤15000:=by rw[bsOf_size];exact hX
 generalize bsOf ((cWhen++32 :: (X++[32]))++(cReject++[59]))=XX at *
 generalize bsOf X=ex at *
 clear hr h1 h2 hE hX
 have y0:(⟨#[119,104,101,110,32]⟩:ByteArray).size=5:=rfl
 have y1:(⟨#[32]⟩:ByteArray).size=1:=rfl
 have y2:(⟨#[114,101,106,101,99,116,59]⟩:ByteArray).size=7:=rfl
 have y9:({ data:=#[] }:ByteArray).size=0:=rfl
 have z0:(9223372036854775807<5+ex.size)=False:=by simp;omega
 have z1:(9223372036854775807<5+ex.size+1)=False:=by simp;omega
 have z2:(9223372036854775807<5+ex.size+1+7)=False:=by simp;omega
 have t1:Hid True:=trivial
 have t2:Hid True:=trivial
 go_enter Tryz.func57,Tryz.ntmps57
 go_upto_region 1 with fail
 generalize w.alloc (.cells #[.bool true,.int .i64 u.when.place,.int .i64 u.when.fr,.int .i64 u.when.behind,.bool false,.int .i64 u.score.place,.int .i64 u.score.fr,.int .i64 u.score.behind] 116)=W at HR HB HBL ⊢
 have c:=HB.out.cell
 go_wp2_with (first | (go_at_call 94;have u1:=t1;clear t1;refine (HI1.out _ HR.out).mono ?_;rintro e w2 ⟨rfl,hb⟩;replace HBL:=mH (ag_step HBL.out hb);replace HB:=mH (HB.out.below hb HB.out.lt);replace HR:=mH (HR.out.below hb);clear hb c;have c:=HB.out.cell))
 go_ret
 exact ⟨by rw[HX.out];rfl,HBL.out⟩
set_option maxHeartbeats 2000000 in
theorem ruleLine_ns(nv:Value)(N:List PNode)(u:PRule)(h1:u.hw=false)(h2:u.hs=true)(Y:Txt)(hY:Y.length≤15000)(hF:ExprIs nv N u.score Y)(w:World)(hr:Reads w nv N.length (cellsN N)) :
  Calls Tryz.prog 57 #[nv,ruleLA u] w fun e w'=>e=.returned (.string (bsOf (([]:Txt)++(cScore++32 :: (Y++[59])))))∧Below w.heap.size w w':=by
 have HI2:Hid (∀ wx,Reads wx nv N.length (cellsN N)→Calls Tryz.prog 94 #[nv,.agg #[.int .i64 u.score.place,.int .i64 u.score.fr,.int .i64 u.score.behind]] wx fun e w'=>e=.returned (.string (bsOf Y))∧Below wx.heap.size wx w'):=hF
 unfold ruleLA
 rw[h1,h2]
 have HR:=mH (hr.alloc (.cells #[.bool false,.int .i64 u.when.place,.int .i64 u.when.fr,.int .i64 u.when.behind,.bool true,.int .i64 u.score.place,.int .i64 u.score.fr,.int .i64 u.score.behind] 116))
 have HB:=mH (Blk.new w #[.bool false,.int .i64 u.when.place,.int .i64 u.when.fr,.int .i64 u.when.behind,.bool true,.int .i64 u.score.place,.int .i64 u.score.fr,.int .i64 u.score.behind] 116)
 have HBL:=mH (box3 w (.cells #[.bool false,.int .i64 u.when.place,.int .i64 u.when.fr,.int .i64 u.when.behind,.bool true,.int .i64 u.score.place,.int .i64 u.score.fr,.int .i64 u.score.behind] 116))
 have HX:Hid (bsOf (([]:Txt)++(cScore++32 :: (Y++[59])))=({ data:=#[] }:ByteArray)++⟨#[115,99,111,114,101,32]⟩++bsOf Y++⟨#[59]⟩):=by
  have e0:(⟨#[115,99,111,114,101,32]⟩:ByteArray)=bsOf [115,99,111,114,101,32]:=rfl
  have e1:(⟨#[59]⟩:ByteArray)=bsOf [59]:=rfl
  have e9:({ data:=#[] }:ByteArray)=bsOf []:=rfl
  rw[Hid,e0,e1,e9,← bsOf_app,← bsOf_app,← bsOf_app]
  congr 1
  all_goals simp[cWhen,cScore,cReject]
 have he2:(bsOf Y).size≤15000:=by rw[bsOf_size];exact hY
 generalize bsOf (([]:Txt)++(cScore++32 :: (Y++[59])))=XX at *
 generalize bsOf Y=fx at *
 clear hr h1 h2 hF hY
 have y0:(⟨#[115,99,111,114,101,32]⟩:ByteArray).size=6:=rfl
 have y1:(⟨#[59]⟩:ByteArray).size=1:=rfl
 have y9:({ data:=#[] }:ByteArray).size=0:=rfl
 have z1:(9223372036854775807<0+6+fx.size)=False:=by simp;omega
 have z2:(9223372036854775807<0+6+fx.size+1)=False:=by simp;omega
 have z7:(9223372036854775807<6+fx.size)=False:=by simp;omega
 have z8:(9223372036854775807<6+fx.size+1)=False:=by simp;omega
 have t1:Hid True:=trivial
 have t2:Hid True:=trivial
 go_enter Tryz.func57,Tryz.ntmps57
 go_upto_region 1 with fail
 generalize w.alloc (.cells #[.bool false,.int .i64 u.when.place,.int .i64 u.when.fr,.int .i64 u.when.behind,.bool true,.int .i64 u.score.place,.int .i64 u.score.fr,.int .i64 u.score.behind] 116)=W at HR HB HBL ⊢
 have c:=HB.out.cell
 go_wp2_with (first | (go_at_call 94;have u2:=t2;clear t2;refine (HI2.out _ HR.out).mono ?_;rintro e w3 ⟨rfl,hb⟩;replace HBL:=mH (ag_step HBL.out hb);replace HB:=mH (HB.out.below hb HB.out.lt);replace HR:=mH (HR.out.below hb);clear hb c;have c:=HB.out.cell))
 go_ret
 exact ⟨by rw[HX.out];rfl,HBL.out⟩
set_option maxHeartbeats 2000000 in
theorem ruleLine_nr(nv:Value)(N:List PNode)(u:PRule)(h1:u.hw=false)(h2:u.hs=false)(w:World)(hr:Reads w nv N.length (cellsN N)) :
  Calls Tryz.prog 57 #[nv,ruleLA u] w fun e w'=>e=.returned (.string (bsOf (([]:Txt)++(cReject++[59]))))∧Below w.heap.size w w':=by
 unfold ruleLA
 rw[h1,h2]
 have HR:=mH (hr.alloc (.cells #[.bool false,.int .i64 u.when.place,.int .i64 u.when.fr,.int .i64 u.when.behind,.bool false,.int .i64 u.score.place,.int .i64 u.score.fr,.int .i64 u.score.behind] 116))
 have HB:=mH (Blk.new w #[.bool false,.int .i64 u.when.place,.int .i64 u.when.fr,.int .i64 u.when.behind,.bool false,.int .i64 u.score.place,.int .i64 u.score.fr,.int .i64 u.score.behind] 116)
 have HBL:=mH (box3 w (.cells #[.bool false,.int .i64 u.when.place,.int .i64 u.when.fr,.int .i64 u.when.behind,.bool false,.int .i64 u.score.place,.int .i64 u.score.fr,.int .i64 u.score.behind] 116))
 have HX:Hid (bsOf (([]:Txt)++(cReject++[59]))=({ data:=#[] }:ByteArray)++⟨#[114,101,106,101,99,116,59]⟩):=by
  have e0:(⟨#[114,101,106,101,99,116,59]⟩:ByteArray)=bsOf [114,101,106,101,99,116,59]:=rfl
  have e9:({ data:=#[] }:ByteArray)=bsOf []:=rfl
  rw[Hid,e0,e9,← bsOf_app]
  congr 1
  all_goals simp[cWhen,cScore,cReject]
 generalize bsOf (([]:Txt)++(cReject++[59]))=XX at *
 clear hr h1 h2
 have y0:(⟨#[114,101,106,101,99,116,59]⟩:ByteArray).size=7:=rfl
 have y9:({ data:=#[] }:ByteArray).size=0:=rfl
 have t1:Hid True:=trivial
 have t2:Hid True:=trivial
 go_enter Tryz.func57,Tryz.ntmps57
 go_upto_region 1 with fail
 generalize w.alloc (.cells #[.bool false,.int .i64 u.when.place,.int .i64 u.when.fr,.int .i64 u.when.behind,.bool false,.int .i64 u.score.place,.int .i64 u.score.fr,.int .i64 u.score.behind] 116)=W at HR HB HBL ⊢
 have c:=HB.out.cell
 go_wp2
 go_ret
 exact ⟨by rw[HX.out];rfl,HBL.out⟩
end Go.Proofs.YtgfnkeiigjholaaGreatDoor
