/-
  The program's plain form of an EXPR: bareText, nodeText.
-/
import Derived.Test.YtgfnkeiigjholaaGreatDoorQ39
import Derived.Deep.RegionHeld3
set_option linter.unusedVariables false
set_option linter.unusedSimpArgs false
namespace Go.Proofs.YtgfnkeiigjholaaGreatDoor
open Go.RowKit Go.Deep
set_option maxHeartbeats 2000000 in
set_option maxRecDepth 100000 in
theorem node_of(g o cap m:Nat)(N:List PNode)(n:PNode)(r lv:Nat)(X:Txt)(hr:N[r]?=some n)(hrm:r<m)(hmN:m≤N.length)(hNl:N.length≤401)(hlv:lv≤6)(hm:mayT n.tok.text=true)(h2:n.ops≤2)(hX:X.length≤15000)(ih:BareIs g o cap r N n X):NodeIs g o cap m N r lv (brk (decide (bindN n<lv)) X):=by
 intro w h
 obtain ⟨hlt,hg,hcap,c0,c1,c2,c3,c4,c5⟩:=h.at hr
 have HBI:Hid (∀ wx,Calls Tryz.prog 162 #[.agg #[.int .i64 (kindP n.tok.text),.int .i64 n.tok.at',.string (bsOf n.tok.text),.int .i64 n.ops,.int .i64 n.left,.int .i64 n.right]] wx fun e w'=>e=.returned (.int .i64 (bindN n))∧Below wx.heap.size wx w'):=mH (fun wx=>Binding_any n hm h2 wx)
 have HIH:Hid (∀ wx,NdsAt wx g o cap N→Calls Tryz.prog 161 #[.slice (some ⟨g,o,none⟩) r cap,.agg #[.int .i64 (kindP n.tok.text),.int .i64 n.tok.at',.string (bsOf n.tok.text),.int .i64 n.ops,.int .i64 n.left,.int .i64 n.right]] wx fun e w'=>e=.returned (.string (bsOf X))∧Below wx.heap.size wx w'):=ih
 have hsl:=fun wx=>sliceN g o m cap r (by omega) (by omega) wx
 have HN:=mH h
 have he1:(bsOf X).size≤15000:=by rw[bsOf_size];exact hX
 have hb6:bindN n≤6:=by unfold bindN;split;have:=bindsT_le n.tok.text;omega;omega
 have e0:decide ((r:Int)<0)=false:=decide_eq_false (by omega)
 have e1:decide ((m:Int)≤(r:Int))=false:=decide_eq_false (by omega)
 have HX1:Hid (bsOf (brk true X)=⟨#[40]⟩++bsOf X++⟨#[41]⟩):=by
  have q1:(⟨#[40]⟩:ByteArray)=bsOf [40]:=rfl
  have q2:(⟨#[41]⟩:ByteArray)=bsOf [41]:=rfl
  rw[Hid,q1,q2,← bsOf_app,← bsOf_app]
  congr 1
 clear h ih hX hr
 generalize kindP n.tok.text=kk at *
 generalize bsOf n.tok.text=tx at *
 obtain ⟨bn,hbn⟩:∃ bn,bindN n=bn:=⟨_,rfl⟩
 rw[hbn]at HBI hb6 ⊢
 clear hbn
 obtain ⟨XX,hXX⟩:∃ XX,bsOf (brk (decide (bn<lv)) X)=XX:=⟨_,rfl⟩
 rw[hXX]
 have HXX:=mH hXX
 clear hXX
 have z0:(⟨#[40]⟩:ByteArray).size=1:=rfl
 have z3:(⟨#[41]⟩:ByteArray).size=1:=rfl
 have z1:(9223372036854775807<1+(bsOf X).size)=False:=by simp;omega
 have z2:(9223372036854775807<1+(bsOf X).size+1)=False:=by simp;omega
 have HB:=mH (Blk.new w #[.int .i64 kk,.int .i64 n.tok.at',.string tx,.int .i64 n.ops,.int .i64 n.left,.int .i64 n.right] 175)
 have HBL:=mH (box3 w (.cells #[.int .i64 kk,.int .i64 n.tok.at',.string tx,.int .i64 n.ops,.int .i64 n.left,.int .i64 n.right] 175))
 replace HN:=mH (HN.out.below (box3 w (.cells #[.int .i64 kk,.int .i64 n.tok.at',.string tx,.int .i64 n.ops,.int .i64 n.left,.int .i64 n.right] 175)))
 go_enter Tryz.func138,Tryz.ntmps138
 go_upto_region 4 with fail
 clear c0 c1 c2 c3 c4 c5
 generalize w.alloc (.cells #[.int .i64 kk,.int .i64 n.tok.at',.string tx,.int .i64 n.ops,.int .i64 n.left,.int .i64 n.right] 175)=W at HN HB HBL ⊢
 have HCELL:Hid (∀ wx,Below W.heap.size W wx→wx.cell? ⟨w.heap.size,0,none⟩=some (.int .i64 kk)∧wx.cell? ⟨w.heap.size,1,none⟩=some (.int .i64 n.tok.at')∧wx.cell? ⟨w.heap.size,2,none⟩=some (.string tx)∧wx.cell? ⟨w.heap.size,3,none⟩=some (.int .i64 n.ops)∧wx.cell? ⟨w.heap.size,4,none⟩=some (.int .i64 n.left)∧wx.cell? ⟨w.heap.size,5,none⟩=some (.int .i64 n.right)):=fun wx hb=>by
  have hh:=(HB.out.below hb HB.out.lt).cell
  exact ⟨hh 0,hh 1,hh 2,hh 3,hh 4,hh 5⟩
 have HQ:=mH (Below.refl W.heap.size W)
 obtain ⟨d0,d1,d2,d3,d4,d5⟩:=HCELL.out _ HQ.out
 go_region_held3 (fun w'=>w'.cell? ⟨w.heap.size,0,none⟩=some (.int .i64 kk)∧w'.cell? ⟨w.heap.size,1,none⟩=some (.int .i64 n.tok.at')∧w'.cell? ⟨w.heap.size,2,none⟩=some (.string tx)∧w'.cell? ⟨w.heap.size,3,none⟩=some (.int .i64 n.ops)∧w'.cell? ⟨w.heap.size,4,none⟩=some (.int .i64 n.left)∧w'.cell? ⟨w.heap.size,5,none⟩=some (.int .i64 n.right)) (first | with_reducible exact HCELL.out _ HQ.out | with_reducible exact HCELL.out _ (ag_dr HQ.out)) (first | (go_at_call 161;refine (HIH.out _ (HN.out.below (by first | with_reducible exact HQ.out | with_reducible exact ag_dr HQ.out))).mono ?_;rintro e w2 ⟨rfl,hb⟩;replace HQ:=mH (show Below W.heap.size W w2 by first | with_reducible exact ag_step HQ.out hb | with_reducible exact ag_step (ag_dr HQ.out) hb);clear hb d0 d1 d2 d3 d4 d5;obtain ⟨d0,d1,d2,d3,d4,d5⟩:=HCELL.out _ HQ.out))
 all_goals
  replace HBL:=mH (HBL.out.trans (HQ.out.mono HBL.out.size))
  by_cases hlt2:bn<lv
  ·have f1:decide ((bn:Int)<(lv:Int))=true:=decide_eq_true (by omega)
   have HD:Hid (decide (bn<lv)=true):=decide_eq_true hlt2
   have f2:=HD.out
   go_wp2_with (go_at_call 162;refine (HBI.out _).mono ?_;rintro e w3 ⟨rfl,hb⟩;replace HBL:=mH (HBL.out.trans (hb.mono HBL.out.size));clear hb)
   go_ret
   exact ⟨by rw[← HXX.out,HD.out,HX1.out];rfl,HBL.out⟩
  ·have f1:decide ((bn:Int)<(lv:Int))=false:=decide_eq_false (by omega)
   have HD:Hid (decide (bn<lv)=false):=decide_eq_false hlt2
   have f2:=HD.out
   go_wp2_with (go_at_call 162;refine (HBI.out _).mono ?_;rintro e w3 ⟨rfl,hb⟩;replace HBL:=mH (HBL.out.trans (hb.mono HBL.out.size));clear hb)
   go_ret
   exact ⟨by rw[← HXX.out,HD.out];rfl,HBL.out⟩
theorem single_pos{t:Txt}(h:singleT t=true):1≤t.length:=by
 cases t with
 | nil=>exact absurd h (by decide)
 | cons a r=>simp
theorem lies_last{N:List PNode}{b:Nat}{l:List PNode}{n:PNode}(h:LiesAt N b (l++[n])):N[b+l.length]?=some n:=h l.length n (by simp)
theorem brk_false(t:Txt):brk false t=t:=rfl
theorem node_tree(g o cap:Nat)(N:List PNode)(hNl:N.length≤401)(t:Tr)(h:t.wf):∀ b m lv,LiesAt N b (t.flat b)→b+t.num≤m→m≤N.length→lv≤6→(∀ a∈t.toks,mayT a.text=true)→t.toks.length≤400→NodeIs g o cap m N (b+t.num-1) lv (t.plainT lv):=by
 refine Tr.ind (P:=fun t=>∀ b m lv,LiesAt N b (t.flat b)→b+t.num≤m→m≤N.length→lv≤6→(∀ a∈t.toks,mayT a.text=true)→t.toks.length≤400→NodeIs g o cap m N (b+t.num-1) lv (t.plainT lv)) t h ?_ ?_ ?_ ?_
 ·intro a hw b m lv hl hm hN hlv hmay hlen
  have hma:=hmay a (by rw[Tr.toks_leaf];simp)
  have h1:=single_pos (Tr.wf_leaf hw).1
  rw[Tr.flat_leaf]at hl
  have hr:N[b]?=some ⟨a,0,0,0⟩:=by have:=hl 0 _ rfl;simpa using this
  rw[Tr.num_leaf]at hm ⊢
  rw[plainT_leaf,show b+1-1=b by omega]
  have hb:=bare_leaf g o cap b N ⟨a,0,0,0⟩ hma h1 rfl
  have hx:=shortN_le a.text
  have h18:=may_18 hma
  have:=node_of g o cap m N ⟨a,0,0,0⟩ b lv _ hr (by omega) hN hNl hlv hma (by simp) (by show (shortN a.text).length≤15000;omega) hb
  rw[show decide (bindN ⟨a,0,0,0⟩<lv)=false from decide_eq_false (by show ¬ (6<lv);omega),brk_false]at this
  exact this
 ·intro op e hw ih b m lv hl hm hN hlv hmay hlen
  obtain ⟨hu,hl6,hwe⟩:=Tr.wf_un hw
  have hmo:=hmay op (by rw[Tr.toks_un];simp)
  have hme:∀ a∈e.toks,mayT a.text=true:=fun a ha=>hmay a (by rw[Tr.toks_un];simp[ha])
  have hp:=e.num_pos hwe
  have hle:e.toks.length≤400:=by rw[Tr.toks_un,List.length_cons]at hlen;omega
  rw[Tr.flat_un]at hl
  have hr:=lies_last hl
  rw[e.flat_len hwe]at hr
  rw[Tr.num_un]at hm ⊢
  rw[show b+(e.num+1)-1=b+e.num by omega]
  have hz:=plainT_len e hwe (fun a ha=>may_18 (hme a ha)) 6
  have hb:=bare_un g o cap (b+e.num) N ⟨op,1,b+e.num-1,0⟩ (e.plainT 6) hmo rfl (by omega) (ih b (b+e.num) 6 hl.left (Nat.le_refl _) (by omega) (Nat.le_refl _) hme hle)
  have h18:=may_18 hmo
  have hX:((if op.text==cMinus then cMinus else op.text++[32])++e.plainT 6).length≤15000:=by
   rw[List.length_append]
   split
   ·have:cMinus.length=1:=rfl
    omega
   ·rw[List.length_append];simp only[List.length_cons,List.length_nil];omega
  have:=node_of g o cap m N ⟨op,1,b+e.num-1,0⟩ (b+e.num) lv _ hr (by omega) hN hNl hlv hmo (by simp) hX hb
  rw[show decide (bindN ⟨op,1,b+e.num-1,0⟩<lv)=false from decide_eq_false (by show ¬ (6<lv);omega),brk_false]at this
  rw[plainT_un]
  exact this
 ·intro op l r hw ihl ihr b m lv hl hm hN hlv hmay hlen
  obtain ⟨hb0,_,_,_,_,hwl,hwr⟩:=Tr.wf_bin hw
  have hmo:=hmay op (by rw[Tr.toks_bin];simp)
  have hml:∀ a∈l.toks,mayT a.text=true:=fun a ha=>hmay a (by rw[Tr.toks_bin];simp[ha])
  have hmr:∀ a∈r.toks,mayT a.text=true:=fun a ha=>hmay a (by rw[Tr.toks_bin];simp[ha])
  have hpl:=l.num_pos hwl
  have hpr:=r.num_pos hwr
  have hle:l.toks.length+r.toks.length+1≤400:=by rw[Tr.toks_bin,List.length_append,List.length_cons]at hlen;omega
  have hb5:=bindsT_le op.text
  rw[Tr.flat_bin]at hl
  have hr:=lies_last hl
  rw[List.length_append,l.flat_len hwl,r.flat_len hwr]at hr
  have hll:=hl.left.left
  have hlr:=hl.left.right
  rw[l.flat_len hwl]at hlr
  rw[Tr.num_bin]at hm ⊢
  rw[show b+(l.num+r.num+1)-1=b+(l.num+r.num) by omega]
  have hzl:=plainT_len l hwl (fun a ha=>may_18 (hml a ha)) (bindsT op.text)
  have hzr:=plainT_len r hwr (fun a ha=>may_18 (hmr a ha)) (bindsT op.text+1)
  have h18:=may_18 hmo
  have i1:=ihl b (b+(l.num+r.num)) (bindsT op.text) hll (by omega) (by omega) (by omega) hml (by omega)
  have i2:=ihr (b+l.num) (b+(l.num+r.num)) (bindsT op.text+1) hlr (by omega) (by omega) (by omega) hmr (by omega)
  have hb:=bare_bin g o cap (b+(l.num+r.num)) N ⟨op,2,b+l.num-1,b+l.num+r.num-1⟩ (bindsT op.text) (l.plainT (bindsT op.text)) (r.plainT (bindsT op.text+1)) hmo rfl rfl (by omega) (by omega) i1 i2
  have hX:(l.plainT (bindsT op.text)++32 :: (op.text++32 :: r.plainT (bindsT op.text+1))).length≤15000:=by
   simp only[List.length_append,List.length_cons]
   omega
  have:=node_of g o cap m N ⟨op,2,b+l.num-1,b+l.num+r.num-1⟩ (b+(l.num+r.num)) lv _ hr (by omega) hN hNl hlv hmo (by simp) hX hb
  rw[plainT_bin]
  exact this
 ·intro o' e c hw ih b m lv hl hm hN hlv hmay hlen
  rw[Tr.flat_par]at hl
  rw[Tr.num_par]at hm ⊢
  rw[plainT_par]
  exact ih b m lv hl hm hN hlv (fun a ha=>hmay a (by rw[Tr.toks_par];simp[ha])) (by rw[Tr.toks_par,List.length_cons,List.length_append]at hlen;omega)
def ExprIs(nv:Value)(N:List PNode)(e:PExp)(X:Txt):Prop:=∀ w,Reads w nv N.length (cellsN N)→Calls Tryz.prog 94 #[nv,expA e] w fun e w'=>e=.returned (.string (bsOf X))∧Below w.heap.size w w'
set_option maxHeartbeats 1000000 in
theorem expr_tree(nv:Value)(N:List PNode)(hNl:N.length≤401)(t:Tr)(h:t.wf)(b:Nat)(hl:LiesAt N b (t.flat b))(hm:b+t.num≤N.length)(hmay:∀ a∈t.toks,mayT a.text=true)(hlen:t.toks.length≤400):ExprIs nv N (layE b t) (t.plainT 1):=by
 intro w hr
 have hp:=t.num_pos h
 obtain ⟨g,o,cap,rfl,hcap,hg,hcl⟩:=hr.pos (by omega)
 have HIH:Hid (∀ wx,NdsAt wx g o cap N→Calls Tryz.prog 138 #[.slice (some ⟨g,o,none⟩) N.length cap,.int .i64 ((b+t.num-1:Nat)),.int .i64 1] wx fun e w'=>e=.returned (.string (bsOf (t.plainT 1)))∧Below wx.heap.size wx w'):=node_tree g o cap N hNl t h b N.length 1 hl hm (Nat.le_refl _) (by omega) hmay hlen
 have HN:Hid (NdsAt (w.alloc (.cells #[.int .i64 (layE b t).place,.int .i64 (layE b t).fr,.int .i64 (layE b t).behind] 111)) g o cap N):=⟨hr.alloc _⟩
 have HB:=mH (Blk.new w #[.int .i64 (layE b t).place,.int .i64 (layE b t).fr,.int .i64 (layE b t).behind] 111)
 have HBL:=mH (box3 w (.cells #[.int .i64 (layE b t).place,.int .i64 (layE b t).fr,.int .i64 (layE b t).behind] 111))
 have hsub:(((b+t.num:Nat):Int))-1=((b+t.num-1:Nat):Int):=by omega
 have hbe:(layE b t).behind=b+t.num:=rfl
 rw[hbe]at HN HB HBL
 unfold expA
 rw[hbe]
 clear hr hcl hl hmay hlen
 generalize b+t.num=bn at *
 go_enter Tryz.func94,Tryz.ntmps94
 go_upto_region 1 with fail
 generalize w.alloc (.cells #[.int .i64 (layE b t).place,.int .i64 (layE b t).fr,.int .i64 bn] 111)=W at HN HB HBL ⊢
 have c:=HB.out.cell
 go_wp2_with (go_at_call 138;refine (HIH.out _ HN.out).mono ?_;rintro e w2 ⟨rfl,hb⟩;replace HBL:=mH (ag_step HBL.out hb);clear hb)
 go_ret
 exact ⟨rfl,HBL.out⟩
end Go.Proofs.YtgfnkeiigjholaaGreatDoor
