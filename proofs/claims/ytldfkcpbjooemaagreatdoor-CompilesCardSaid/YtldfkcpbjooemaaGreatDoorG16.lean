/-
  The document's parts, called on tokens that can be read.
-/
import Derived.Test.YtldfkcpbjooemaaGreatDoorG06
import Derived.Test.YtldfkcpbjooemaaGreatDoorG08
set_option linter.unusedVariables false
set_option linter.unusedSimpArgs false
namespace Go.Proofs.YtldfkcpbjooemaaGreatDoor
open Go.RowKit
theorem partFold_drop (ns:List Txt) (ks:List Nat) (t:Txt) (j k:Nat) (h:j < ns.length) (h2:j < ks.length) :
  partFold ((ns.zip ks).drop j) k t=partFold ((ns.zip ks).drop (j+1)) (if ns[j]==t then ks[j] else k) t:=by
 rw[List.drop_eq_getElem_cons (by simp;omega)]
 simp[partFold]
set_option maxHeartbeats 1000000 in
set_option maxRecDepth 10000 in
theorem parts_none (l:List RTok) (hl4:l.length≤400) (a:Option Addr) (c0:Nat) (kv v:Value) (w:World) (hv:Reads w v l.length (cellsR l)) :
  Calls Tryz.prog 70 #[.slice a 0 c0,kv,v] w fun e w'=>e=.returned (.int .i64 (partsGo [] 0 l))∧w'=w:=by
 rcases hv with ⟨rfl,hn,_⟩ | ⟨g,o,cap,rfl,_,hlt,hc⟩
 ·have:l=[]:=List.eq_nil_of_length_eq_zero hn
  subst this
  go_enter Tryz.func70,Tryz.ntmps70
  go_wp2
  refine wp_loop_rounds 1 ?_;rw[rounds_succ]
  go_wp2
  go_ret
  exact ⟨rfl,rfl⟩
 go_enter Tryz.func70,Tryz.ntmps70
 go_wp2
 go_loop [7,8] (fun sn si=>∃ (i n:Nat),i≤l.length∧si=.int .i64 i∧sn=.int .i64 n∧n≤150∧partsGo [] 0 l=partsGo [] n (l.drop i)) (fun _ i=>l.length - (intOf i).toNat)
 case atStart=>exact ⟨0,0,Nat.zero_le _,rfl,rfl,by omega,rfl⟩
 case round =>
  obtain ⟨i,n,hil,rfl,rfl,hn150,hgo⟩:=hrel
  by_cases hi:i < l.length
  ·have cx:w.cell? ⟨g,o+i * 2,none⟩=some (.string (bsOf l[i].text)):=hc _ _ (cellsR_get l i hi).1
   have HG:Hid (partsGo [] 0 l=partsGo [] n (l[i] :: l.drop (i+1))):=(by rw[hgo,List.drop_eq_getElem_cons hi]:_=_)
   have HC:Hid (∀ j u,(cellsR l)[j]?=some u→w.cell? ⟨g,o+j,none⟩=some u):=hc
   clear hgo hc
   obtain ⟨c,hcd⟩:∃ c,c=bsOf l[i].text:=⟨_,rfl⟩
   rw[← hcd] at cx
   have HT:Hid (l[i].text=c.toList):=(by rw[hcd,bsOf_toList]:l[i].text=c.toList)
   clear hcd
   obtain ⟨k0,hk0⟩:∃ k0:Nat,k0=if (c.toList==[40])||(c.toList==[41]) then 0 else 1:=⟨_,rfl⟩
   have HP1:Hid (partOne [] c.toList=partFold [] k0 c.toList):=(by unfold partOne;rw[hk0];rfl:_=_)
   have hk01:k0≤1:=by rw[hk0];split <;> omega
   have hbr:((c.toList==[40])=true∧k0=0)∨((c.toList==[40])=false∧(c.toList==[41])=true∧k0=0)∨((c.toList==[40])=false∧(c.toList==[41])=false∧k0=1):=by
    cases h1:(c.toList==[40]) <;> cases h2:(c.toList==[41]) <;> simp[hk0,h1,h2]
   clear hk0
   rcases hbr with ⟨h1,rfl⟩ | ⟨h1,h2,rfl⟩ | ⟨h1,h2,rfl⟩
   ·go_wp2
    go_loop [10,11] (fun sk sj=>sj=.int .i64 0∧sk=.int .i64 0) (fun _ _=>0)
    case atStart=>exact ⟨rfl,rfl⟩
    case round =>
     obtain ⟨rfl,rfl⟩:=hrel
     go_wp2
     go_round
     case rel=>exact ⟨i+1,n,by omega,by go_num,by go_num,by omega,by rw[HG.out,partsGo,HT.out,HP1.out];exact if_neg (by simp[partFold];omega)⟩
     case measure=>simp[intOf];omega
   ·go_wp2
    go_loop [10,11] (fun sk sj=>sj=.int .i64 0∧sk=.int .i64 0) (fun _ _=>0)
    case atStart=>exact ⟨rfl,rfl⟩
    case round =>
     obtain ⟨rfl,rfl⟩:=hrel
     go_wp2
     go_round
     case rel=>exact ⟨i+1,n,by omega,by go_num,by go_num,by omega,by rw[HG.out,partsGo,HT.out,HP1.out];exact if_neg (by simp[partFold];omega)⟩
     case measure=>simp[intOf];omega
   ·by_cases hbig:n+1 > 150
    ·go_wp2
     go_loop [10,11] (fun sk sj=>sj=.int .i64 0∧sk=.int .i64 1) (fun _ _=>0)
     case atStart=>exact ⟨rfl,rfl⟩
     case round =>
      obtain ⟨rfl,rfl⟩:=hrel
      go_wp2
      go_ret
      exact ⟨ret_int (by rw[HG.out,partsGo,HT.out,HP1.out];rw[if_pos (by simp[partFold];omega)];rfl),rfl⟩
    ·go_wp2
     go_loop [10,11] (fun sk sj=>sj=.int .i64 0∧sk=.int .i64 1) (fun _ _=>0)
     case atStart=>exact ⟨rfl,rfl⟩
     case round =>
      obtain ⟨rfl,rfl⟩:=hrel
      go_wp2
      go_round
      case rel=>exact ⟨i+1,n+1,by omega,by go_num,by go_num,by omega,by rw[HG.out,partsGo,HT.out,HP1.out];exact if_neg (by simp[partFold];omega)⟩
      case measure=>simp[intOf];omega
  ·go_wp2
   go_ret
   exact ⟨ret_int (by rw[List.drop_eq_nil_of_le (by omega)];rfl),rfl⟩
set_option maxHeartbeats 1000000 in
set_option maxRecDepth 10000 in
theorem parts_ref (ns:List Txt) (ks:List Nat) (hk:ks.length=ns.length) (hks:∀ k∈ks,k≤151) (hn4:ns.length≤400) (l:List RTok) (hl4:l.length≤400) (nv kv v:Value) (w:World)
  (hnv:Reads w nv ns.length (cellsTr ns)) (hkv:Reads w kv ks.length (cellsI ks)) (hv:Reads w v l.length (cellsR l)) :
  Calls Tryz.prog 70 #[nv,kv,v] w fun e w'=>e=.returned (.int .i64 (partsGo (ns.zip ks) 0 l))∧w'=w:=by
 by_cases hns:ns.length=0
 ·have hns':ns=[]:=List.eq_nil_of_length_eq_zero hns
  subst hns'
  have hks':ks=[]:=List.eq_nil_of_length_eq_zero (by rw[hk];rfl)
  subst hks'
  rcases hnv with ⟨rfl,_,_⟩ | ⟨g2,o2,cap2,rfl,_,_,_⟩
  ·exact parts_none l hl4 none 0 kv v w hv
  ·exact parts_none l hl4 (some ⟨g2,o2,none⟩) cap2 kv v w hv
 have hns0:0 < ns.length:=by omega
 clear hns
 rcases hv with ⟨rfl,hn,_⟩ | ⟨g,o,cap,rfl,_,hlt,hc⟩
 ·have:l=[]:=List.eq_nil_of_length_eq_zero hn
  subst this
  go_enter Tryz.func70,Tryz.ntmps70
  go_wp2
  refine wp_loop_rounds 1 ?_;rw[rounds_succ]
  go_wp2
  go_ret
  exact ⟨rfl,rfl⟩
 have HKS:Hid (ks.length=ns.length):=hk
 have HPS:Hid (∀ t,partOne (ns.zip ks) t≤151):=partOne_le _ (fun p hp=>hks _ (List.of_mem_zip hp).2)
 have HKL:Hid (∀ k∈ks,k≤151):=hks
 rw[hk] at hkv
 clear hk hks
 go_enter Tryz.func70,Tryz.ntmps70
 go_wp2
 go_loop [7,8] (fun sn si=>∃ (i n:Nat),i≤l.length∧si=.int .i64 i∧sn=.int .i64 n∧n≤150∧partsGo (ns.zip ks) 0 l=partsGo (ns.zip ks) n (l.drop i)) (fun _ i=>l.length - (intOf i).toNat)
 case atStart=>exact ⟨0,0,Nat.zero_le _,rfl,rfl,by omega,rfl⟩
 case round =>
  obtain ⟨i,n,hil,rfl,rfl,hn150,hgo⟩:=hrel
  by_cases hi:i < l.length
  ·have cx:w.cell? ⟨g,o+i * 2,none⟩=some (.string (bsOf l[i].text)):=hc _ _ (cellsR_get l i hi).1
   have HG:Hid (partsGo (ns.zip ks) 0 l=partsGo (ns.zip ks) n (l[i] :: l.drop (i+1))):=(by rw[hgo,List.drop_eq_getElem_cons hi]:_=_)
   have HC:Hid (∀ j u,(cellsR l)[j]?=some u→w.cell? ⟨g,o+j,none⟩=some u):=hc
   clear hgo hc
   obtain ⟨c,hcd⟩:∃ c,c=bsOf l[i].text:=⟨_,rfl⟩
   rw[← hcd] at cx
   have HT:Hid (l[i].text=c.toList):=(by rw[hcd,bsOf_toList]:l[i].text=c.toList)
   clear hcd
   obtain ⟨k0,hk0⟩:∃ k0:Nat,k0=if (c.toList==[40])||(c.toList==[41]) then 0 else 1:=⟨_,rfl⟩
   have HP1:Hid (partOne (ns.zip ks) c.toList=partFold (ns.zip ks) k0 c.toList):=(by unfold partOne;rw[hk0];rfl:_=_)
   have hk01:k0≤1:=by rw[hk0];split <;> omega
   have hbr:((c.toList==[40])=true∧k0=0)∨((c.toList==[40])=false∧(c.toList==[41])=true∧k0=0)∨((c.toList==[40])=false∧(c.toList==[41])=false∧k0=1):=by
    cases h1:(c.toList==[40]) <;> cases h2:(c.toList==[41]) <;> simp[hk0,h1,h2]
   clear hk0
   obtain ⟨g2,o2,cap2,rfl,_,hlt2,hc2⟩:=hnv.pos hns0
   obtain ⟨g3,o3,cap3,rfl,_,hlt3,hc3⟩:=hkv.pos hns0
   have HC2:Hid (∀ j u,(cellsTr ns)[j]?=some u→w.cell? ⟨g2,o2+j,none⟩=some u):=hc2
   have HC3:Hid (∀ j u,(cellsI ks)[j]?=some u→w.cell? ⟨g3,o3+j,none⟩=some u):=hc3
   have hk0le:Hid (k0≤151):=(by omega:k0≤151)
   clear hc2 hc3
   rcases hbr with ⟨h1,rfl⟩ | ⟨h1,h2,rfl⟩ | ⟨h1,h2,rfl⟩
   all_goals
    go_wp2
    go_loop [10,11] (fun sk sj=>∃ (j kk:Nat),j≤ns.length∧sj=.int .i64 j∧sk=.int .i64 kk∧kk≤151∧partOne (ns.zip ks) c.toList=partFold ((ns.zip ks).drop j) kk c.toList) (fun _ j=>ns.length - (intOf j).toNat)
    case atStart=>exact ⟨0,_,Nat.zero_le _,rfl,rfl,hk0le.out,HP1.out⟩
    case round =>
     obtain ⟨j,kk,hjl,rfl,rfl,hkk,hpf⟩:=hrel
     have HPF:Hid (partOne (ns.zip ks) c.toList=partFold ((ns.zip ks).drop j) kk c.toList):=hpf
     clear hpf
     by_cases hj:j < ns.length
     ·have hj2:j < ks.length:=by rw[HKS.out];exact hj
      have cn:w.cell? ⟨g2,o2+j,none⟩=some (.string (bsOf ns[j])):=HC2.out _ _ (by simp[cellsTr,hj])
      have ck:w.cell? ⟨g3,o3+j,none⟩=some (.int .i64 ks[j]):=HC3.out _ _ (by simp[cellsI,hj2])
      have hkj:ks[j]≤151:=HKL.out _ (List.getElem_mem hj2)
      have HD:Hid (partOne (ns.zip ks) c.toList=partFold ((ns.zip ks).drop (j+1)) (if ns[j]==c.toList then ks[j] else kk) c.toList):=(by rw[HPF.out,partFold_drop ns ks c.toList j kk hj hj2]:_=_)
      obtain ⟨d,hd⟩:∃ d,d=bsOf ns[j]:=⟨_,rfl⟩
      rw[← hd] at cn
      have HDT:Hid (ns[j]=d.toList):=(by rw[hd,bsOf_toList]:ns[j]=d.toList)
      clear hd
      cases heq:(d.toList==c.toList)
      ·go_wp2
       go_round
       case rel=>exact ⟨j+1,kk,by omega,by go_num,rfl,hkk,by rw[HD.out,HDT.out,heq];simp⟩
       case measure=>simp[intOf];omega
      ·go_wp2
       go_round
       case rel=>exact ⟨j+1,ks[j],by omega,by go_num,rfl,hkj,by rw[HD.out,HDT.out,heq];simp⟩
       case measure=>simp[intOf];omega
     ·have HKK:Hid (partOne (ns.zip ks) c.toList=kk):=(by rw[HPF.out,List.drop_eq_nil_of_le (by simp;omega)];rfl:_=_)
      by_cases hbig:n+kk > 150
      ·go_wp2
       go_ret
       exact ⟨ret_int (by rw[HG.out,partsGo,HT.out,HKK.out,if_pos hbig];rfl),rfl⟩
      ·go_wp2
       go_round
       case rel=>exact ⟨i+1,n+kk,by omega,by go_num,by go_num,by omega,by rw[HG.out,partsGo,HT.out,HKK.out,if_neg hbig]⟩
       case measure=>simp[intOf];omega
  ·go_wp2
   go_ret
   exact ⟨ret_int (by rw[List.drop_eq_nil_of_le (by omega)];rfl),rfl⟩
end Go.Proofs.YtldfkcpbjooemaaGreatDoor
namespace Go.Proofs.YtldfkcpbjooemaaGreatDoor
open Go.RowKit Go.Deep
theorem Tryz.infoInt:(Tryz.prog.info? 3).map (fun i=>(i.zero,i.size,i.bytes))=some (some (.int .i64 0),1,8):=by kernel_rfl
def isLetL (L:List RSt):Prop:=∀ s∈L,s.isLet=true
def isRuleL (L:List RSt):Prop:=∀ s∈L,s.isLet=false
def RSt.short (s:RSt):Prop:=s.body.length≤400
structure BigRel (L:List RSt) (w:World) (vn vs:Value) (i:Nat) (ns:List Txt) (ks:List Nat) (wr:World):Prop where
 ln:ns.length=i
 lk:ks.length=i
 ownN:wr.ownsRow w.heap.size 9 1 vn ns.length (cellsTr ns)
 ownK:wr.ownsRow w.heap.size 3 1 vs ks.length (cellsI ks)
 le:∀ k∈ks,k≤151
 below:Below w.heap.size w wr
 go:sizesGo [] L=sizesGo (ns.zip ks) (L.drop i)
theorem one_int {k:IntKind} {n:Int}:∀ u∈[Value.int k n],u.oneCell'=true:=by
 intro u hu
 simp at hu
 subst hu
 rfl
theorem RdO.reads {w:World} {v:Value}:∀ {o:Option Tr},RdO w v o→Reads w v (optToks o).length (cellsR (optToks o))
 | none,h=>.inl ⟨h,rfl,rfl⟩
 | some _,h=>h
theorem zip_snoc (ns:List Txt) (ks:List Nat) (h:ks.length=ns.length) (n:Txt) (k:Nat):(ns++[n]).zip (ks++[k])=ns.zip ks++[(n,k)]:=by
 rw[List.zip_append h.symm];rfl
set_option maxHeartbeats 1000000 in
set_option maxRecDepth 10000 in
theorem big_any (ls rs:List Stm) (L R:List RSt) (hL:isLetL L) (hR:isRuleL R) (hLs:∀ s∈L,s.short) (hRs:∀ s∈R,s.short) (w:World) (lv rv:Value) (hal:All2 (StmOk w) ls L) (har:All2 (StmOk w) rs R) (hl4:ls.length≤400) (hr4:rs.length≤400)
  (hlv:Reads w lv ls.length (cellsS ls)) (hrv:Reads w rv rs.length (cellsS rs)) :
  Calls Tryz.prog 35 #[lv,rv] w fun e w'=>e=.returned (.bool (bigT L R))∧Below w.heap.size w w':=by
 obtain ⟨i0,hi,hz0,hz1,hz2⟩:=info_parts Tryz.infoStr
 obtain ⟨i1,hi1,hy0,hy1,hy2⟩:=info_parts Tryz.infoInt
 have HAL:Hid (All2 (StmOk w) ls L):=hal
 have HAR:Hid (All2 (StmOk w) rs R):=har
 have HLL:Hid (ls.length=L.length):=hal.len
 have HRL:Hid (rs.length=R.length):=har.len
 have HL:Hid (isLetL L):=hL
 have HR:Hid (isRuleL R):=hR
 have HLS:Hid (∀ s∈L,s.short):=hLs
 have HRS:Hid (∀ s∈R,s.short):=hRs
 have HLV:Hid (Reads w lv ls.length (cellsS ls)):=hlv
 have HRV:Hid (Reads w rv rs.length (cellsS rs)):=hrv
 have hlsh:∃ a c,lv=.slice a ls.length c:=by
  rcases hlv with ⟨rfl,h,_⟩ | ⟨g,o,cap,rfl,_⟩
  ·exact ⟨none,0,by rw[h]⟩
  ·exact ⟨_,_,rfl⟩
 have hrsh:∃ a c,rv=.slice a rs.length c:=by
  rcases hrv with ⟨rfl,h,_⟩ | ⟨g,o,cap,rfl,_⟩
  ·exact ⟨none,0,by rw[h]⟩
  ·exact ⟨_,_,rfl⟩
 obtain ⟨la,lc,rfl⟩:=hlsh
 obtain ⟨ra,rc,rfl⟩:=hrsh
 clear hal har hL hR hLs hRs hlv hrv
 go_enter Tryz.func35,Tryz.ntmps35
 go_wp2
 go_loopw [5,6,7] (fun vn vs vi wr=>∃ (i:Nat) (ns:List Txt) (ks:List Nat),i≤ls.length∧vi=.int .i64 i∧BigRel L w vn vs i ns ks wr) (fun _ _ i _=>ls.length - (intOf i).toNat)
 case atStart=>exact ⟨0,[],[],Nat.zero_le _,rfl,⟨rfl,rfl,World.ownsRow_nil _ _ _ _,World.ownsRow_nil _ _ _ _,by simp,Below.refl _ _,rfl⟩⟩
 case round =>
  obtain ⟨i,ns,ks,hil,rfl,hB⟩:=hrel
  have HB:Hid (BigRel L w u5 u6 i ns ks wr):=hB
  clear hB
  have hbel:=HB.out.below
  have hbs:=hbel.size
  by_cases hil2:i < ls.length
  ·obtain ⟨g,o,cap,hcut,_,hlt,hc⟩:=HLV.out.pos (by omega)
   cases hcut
   have hiL:i < L.length:=by rw[← HLL.out];exact hil2
   have hok:=All2.get HAL.out i hil2 hiL
   have hisl:=HL.out L[i] (List.getElem_mem hiL)
   have hsh:=HLS.out L[i] (List.getElem_mem hiL)
   have hdrop:=List.drop_eq_getElem_cons hiL
   rcases (L[i]).cases with ⟨kw,name,eq,e,semi,hLi⟩ | ⟨wh,act,sc,semi,hLi⟩
   rotate_left
   ·rw[hLi] at hisl;cases hisl
   ·rw[hLi] at hok hsh hdrop
    obtain ⟨ok1,ok2,ok3,ok4⟩:=hok
    have he4:e.toks.length≤400:=by simp[RSt.short,RSt.body_let] at hsh;omega
    have cn:wr.cell? ⟨g,o+i * 4,none⟩=some (.string (bsOf name.text)):=by rw[← ok1];exact (hbel.cell (p:=⟨g,o+i * 4,none⟩) hlt).trans (hc _ _ (cellsS_get ls i hil2).1)
    have ce:wr.cell? ⟨g,o+i * 4+1,none⟩=some ls[i].expr:=(hbel.cell (p:=⟨g,o+i * 4+1,none⟩) hlt).trans (hc _ _ (cellsS_get ls i hil2).2.1)
    obtain ⟨ev,hev⟩:∃ ev,ev=ls[i].expr:=⟨_,rfl⟩
    rw[← hev] at ce ok2
    have HE:Hid (Reads wr ev e.toks.length (cellsR e.toks)):=ok2.below hbel
    have HGO:Hid (sizesGo [] L=sizesGo (ns.zip ks++[(name.text,partsGo (ns.zip ks) 0 e.toks)]) (L.drop (i+1))):=(by rw[HB.out.go,hdrop];rfl:_=_)
    have hOK:=HB.out.ownK
    have hON:=HB.out.ownN
    have hln:=HB.out.ln
    have HN:Hid (ns.length=i):=hln
    have hns4:ns.length≤399:=by omega
    have hks4:ks.length≤399:=by have:=HB.out.lk;omega
    have hple:=partsGo_le (ns.zip ks) e.toks 0 (by omega)
    clear hsh hdrop hisl hLi hev ok1 ok2 ok3 ok4 hc hln
    obtain ⟨pk,hpk⟩:∃ pk,pk=partsGo (ns.zip ks) 0 e.toks:=⟨_,rfl⟩
    rw[← hpk] at hple
    have HPK:Hid (partsGo (ns.zip ks) 0 e.toks=pk):=hpk.symm
    clear hpk
    go_wp2_with (first | (go_at_call 70;refine (parts_ref ns ks (by rw[HB.out.lk,HN.out]) HB.out.le (by omega) e.toks he4 _ _ _ _ (reads_of_own hON) (reads_of_own hOK) HE.out).mono ?_;rintro e' _ ⟨rfl,rfl⟩;rw[HPK.out]) | (at_builtin;refine wpList_append_own _ rfl (.tmp 27) (.tmp 33) 127 rfl w.heap.size 9 i0 (.string ⟨#[]⟩) 1 16 Tryz.underlying127 hi hz0 hz1 hz2 rfl (by decide) _ _ _ rfl (hON.alloc _) ⟨_,0,none⟩ 1 1 [.string (bsOf name.text)] rfl rfl (cell_one_new _ _ _) one_one (by unfold maxLen;omega) (by omega) (by simp;omega) ?_;intro v2 w2 hown2 hgrow2 _;have hb2:=(hbel.alloc hbs _).grown hgrow2 (by simp;omega) (fun k hk=>(hON.lt k hk).1);have hOK2:=own_grown hOK hgrow2 (own_ne hOK hON (by decide));have hbs2:=hb2.size) | (at_builtin;refine wpList_append_own _ rfl (.tmp 35) (.tmp 37) 40 rfl w.heap.size 3 i1 (.int .i64 0) 1 8 Tryz.underlying40 hi1 hy0 hy1 hy2 rfl (by decide) _ _ _ rfl (hOK2.alloc _) ⟨w2.heap.size,0,none⟩ 1 1 [.int .i64 pk] rfl rfl (cell_one_new _ _ _) one_int (by unfold maxLen;omega) (by omega) (by simp;omega) ?_;intro v3 w3 hown3 hgrow3 _))
    have hb3:=(hb2.alloc hbs2 _).grown hgrow3 (by simp;omega) (fun k hk=>(hOK2.lt k hk).1)
    have hN3:=own_grown hown2 hgrow3 (own_ne hown2 hOK2 (by decide))
    go_roundw
    case rel=>exact ⟨i+1,ns++[name.text],ks++[pk],by omega,by go_num,⟨by simp[HN.out],by simp[HB.out.lk],by simpa[cellsTr] using hN3,by simpa[cellsI] using hown3,fun k hk=>by simp at hk;rcases hk with hk | rfl;exact HB.out.le k hk;exact hple,hb3,by rw[HGO.out,HPK.out,zip_snoc ns ks (by rw[HB.out.lk,HN.out])]⟩⟩
    case measure=>simp[intOf];omega
  ·have hps:sizesGo [] L=ns.zip ks:=by rw[HB.out.go,List.drop_eq_nil_of_le (by rw[← HLL.out];omega)];rfl
   have HPS:Hid (bigT L R=decide (rulePartsGo (ns.zip ks) R > 150)):=(by unfold bigT;rw[hps]:_=_)
   clear hps
   have hOK:=HB.out.ownK
   have hON:=HB.out.ownN
   have hns4:ns.length≤400:=by have:=HB.out.ln;omega
   have HKN:Hid (ks.length=ns.length):=(by rw[HB.out.lk,HB.out.ln]:ks.length=ns.length)
   go_wp2
   go_loop [9,10] (fun sn sj=>∃ (j n:Nat),j≤rs.length∧sj=.int .i64 j∧sn=.int .i64 n∧n≤302 * j∧rulePartsGo (ns.zip ks) R=n+rulePartsGo (ns.zip ks) (R.drop j)) (fun _ j=>rs.length - (intOf j).toNat)
   case atStart=>exact ⟨0,0,Nat.zero_le _,rfl,rfl,by omega,by simp⟩
   case round =>
    obtain ⟨j,n,hjl,rfl,rfl,hn,hgo⟩:=hrel
    have HGO:Hid (rulePartsGo (ns.zip ks) R=n+rulePartsGo (ns.zip ks) (R.drop j)):=hgo
    clear hgo
    by_cases hj:j < rs.length
    ·obtain ⟨g,o,cap,hcut,_,hlt,hc⟩:=HRV.out.pos (by omega)
     cases hcut
     have hjR:j < R.length:=by rw[← HRL.out];exact hj
     have hok:=All2.get HAR.out j hj hjR
     have hisl:=HR.out R[j] (List.getElem_mem hjR)
     have hsh:=HRS.out R[j] (List.getElem_mem hjR)
     have hdrop:=List.drop_eq_getElem_cons hjR
     rcases (R[j]).cases with ⟨kw,name,eq,e,semi,hRj⟩ | ⟨wh,act,sc,semi,hRj⟩
     ·rw[hRj] at hisl;cases hisl
     ·rw[hRj] at hok hsh hdrop
      obtain ⟨ok1,ok2,ok3,ok4⟩:=hok
      have cw:wr.cell? ⟨g,o+j * 4+2,none⟩=some rs[j].when:=(hbel.cell (p:=⟨g,o+j * 4+2,none⟩) hlt).trans (hc _ _ (cellsS_get rs j hj).2.2.1)
      have cs:wr.cell? ⟨g,o+j * 4+3,none⟩=some rs[j].score:=(hbel.cell (p:=⟨g,o+j * 4+3,none⟩) hlt).trans (hc _ _ (cellsS_get rs j hj).2.2.2)
      obtain ⟨wv,hwv⟩:∃ wv,wv=rs[j].when:=⟨_,rfl⟩
      obtain ⟨sv,hsv⟩:∃ sv,sv=rs[j].score:=⟨_,rfl⟩
      rw[← hwv] at cw ok3
      rw[← hsv] at cs ok4
      have hb1:(whToks wh).length≤400∧(optToks sc).length≤400:=by simp[RSt.short,RSt.body_rule] at hsh;omega
      have hwl:(optToks (wh.map Prod.snd)).length≤400:=by
       cases wh with
       | none=>simp[optToks]
       | some p=>obtain ⟨k,e⟩:=p;have:=hb1.1;simp[whToks] at this;simp[optToks];omega
      have HW:Hid (Reads wr wv (optToks (wh.map Prod.snd)).length (cellsR (optToks (wh.map Prod.snd)))):=(RdO.reads ok3).below hbel
      have HSC:Hid (Reads wr sv (optToks sc).length (cellsR (optToks sc))):=(RdO.reads ok4).below hbel
      have hp1:=partsGo_le (ns.zip ks) (optToks (wh.map Prod.snd)) 0 (by omega)
      have hp2:=partsGo_le (ns.zip ks) (optToks sc) 0 (by omega)
      have hsl:=hb1.2
      obtain ⟨pa,hpa⟩:∃ pa,pa=partsGo (ns.zip ks) 0 (optToks (wh.map Prod.snd)):=⟨_,rfl⟩
      obtain ⟨pb,hpb⟩:∃ pb,pb=partsGo (ns.zip ks) 0 (optToks sc):=⟨_,rfl⟩
      rw[← hpa] at hp1
      rw[← hpb] at hp2
      have HPA:Hid (partsGo (ns.zip ks) 0 (optToks (wh.map Prod.snd))=pa):=hpa.symm
      have HPB:Hid (partsGo (ns.zip ks) 0 (optToks sc)=pb):=hpb.symm
      have HST:Hid (rulePartsGo (ns.zip ks) R=(n+pa+pb)+rulePartsGo (ns.zip ks) (R.drop (j+1))):=(by rw[HGO.out,hdrop,rulePartsGo_rule,← hpa,← hpb];omega:_=_)
      clear hsh hdrop hisl hRj hwv hsv ok1 ok2 ok3 ok4 hc hb1 hpa hpb
      go_wp2_with (first | (go_at_call_of 70 wv;refine (parts_ref ns ks HKN.out HB.out.le hns4 _ hwl _ _ _ _ (reads_of_own hON) (reads_of_own hOK) HW.out).mono ?_;rintro e' w8 ⟨rfl,hw8⟩;subst hw8;rw[HPA.out]) | (go_at_call_of 70 sv;refine (parts_ref ns ks HKN.out HB.out.le hns4 _ hsl _ _ _ _ (reads_of_own hON) (reads_of_own hOK) HSC.out).mono ?_;rintro e' w9 ⟨rfl,hw9⟩;subst hw9;rw[HPB.out]))
      go_round
      case rel=>exact ⟨j+1,n+pa+pb,by omega,by go_num,by go_num,by omega,HST.out⟩
      case measure=>simp[intOf];omega
    ·go_wp2
     go_ret
     exact ⟨ret_bool (by rw[HPS.out,HGO.out,List.drop_eq_nil_of_le (by rw[← HRL.out];omega)];simp[rulePartsGo];omega),hbel⟩
end Go.Proofs.YtldfkcpbjooemaaGreatDoor
