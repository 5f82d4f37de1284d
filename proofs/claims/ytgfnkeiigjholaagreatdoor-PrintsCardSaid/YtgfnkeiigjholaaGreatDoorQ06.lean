/-
  The document's root, called in any world on tokens that can be read: the operator that is worked out last.
-/
import Derived.Test.YtgfnkeiigjholaaGreatDoorQ05
set_option linter.unusedVariables false
set_option linter.unusedSimpArgs false
namespace Go.Proofs.YtgfnkeiigjholaaGreatDoor
open Go.RowKit
def BestOk(l:List RTok)(k:Nat)(best:Int)(bb:Nat):Prop:=best=-1∨∃ m:Nat,∃ h:m<l.length,best=m∧m<k∧bindsT (l[m]).text=bb
def RootRel(l:List RTok)(sb so sw si:Value):Prop :=
 ∃ (k:Nat) (best:Int) (bb:Nat) (op:Int) (wants:Bool),k≤l.length∧si=.int .i64 k∧sb=.int .i64 best∧so=.int .i64 op∧sw=.bool wants∧BestOk l k best bb∧-(k:Int)≤op∧op≤k∧rootR l=rootGo k best bb op wants (l.drop k)
theorem BestOk.mono{l:List RTok}{k:Nat}{best:Int}{bb:Nat}(h:BestOk l k best bb):BestOk l (k+1) best bb:=by
 rcases h with h | ⟨m,hm,e,hk,hb⟩
 ·exact .inl h
 ·exact .inr ⟨m,hm,e,by omega,hb⟩
theorem rg_open{k:Nat}{best:Int}{bb:Nat}{op:Int}{wants:Bool}{t:RTok}{r:List RTok}(h:(t.text==cOpen)=true) :
  rootGo k best bb op wants (t :: r)=rootGo (k+1) best bb (op+1) true r:=by simp only[rootGo,h,if_true]
theorem rg_close{k:Nat}{best:Int}{bb:Nat}{op:Int}{wants:Bool}{t:RTok}{r:List RTok}(h:(t.text==cOpen)=false)(h2:(t.text==cClose)=true) :
  rootGo k best bb op wants (t :: r)=rootGo (k+1) best bb (op-1) false r:=by simp[rootGo,h,h2]
theorem rg_un{k:Nat}{best:Int}{bb:Nat}{op:Int}{t:RTok}{r:List RTok}(h:(t.text==cOpen)=false)(h2:(t.text==cClose)=false)(h3:unT t.text=true) :
  rootGo k best bb op true (t :: r)=rootGo (k+1) best bb op true r:=by simp[rootGo,h,h2,h3]
theorem rg_op{k:Nat}{best:Int}{bb:Nat}{op:Int}{wants:Bool}{t:RTok}{r:List RTok}(h:(t.text==cOpen)=false)(h2:(t.text==cClose)=false)(h3:(wants&&unT t.text)=false)(h4:0<bindsT t.text)(h5:op=0∧(best<0∨bindsT t.text≤bb)) :
  rootGo k best bb op wants (t :: r)=rootGo (k+1) k (bindsT t.text) op true r:=by simp only[rootGo,h,h2,h3];rw[if_neg (by simp),if_neg (by simp),if_neg (by simp),if_pos h4,if_pos h5]
theorem rg_no{k:Nat}{best:Int}{bb:Nat}{op:Int}{wants:Bool}{t:RTok}{r:List RTok}(h:(t.text==cOpen)=false)(h2:(t.text==cClose)=false)(h3:(wants&&unT t.text)=false)(h4:0<bindsT t.text)(h5:¬ (op=0∧(best<0∨bindsT t.text≤bb))) :
  rootGo k best bb op wants (t :: r)=rootGo (k+1) best bb op true r:=by simp only[rootGo,h,h2,h3];rw[if_neg (by simp),if_neg (by simp),if_neg (by simp),if_pos h4,if_neg h5]
theorem rg_leaf{k:Nat}{best:Int}{bb:Nat}{op:Int}{wants:Bool}{t:RTok}{r:List RTok}(h:(t.text==cOpen)=false)(h2:(t.text==cClose)=false)(h3:(wants&&unT t.text)=false)(h4:bindsT t.text=0) :
  rootGo k best bb op wants (t :: r)=rootGo (k+1) best bb op false r:=by simp only[rootGo,h,h2,h3,h4];simp
set_option maxHeartbeats 2000000 in
set_option maxRecDepth 10000 in
theorem root_any(l:List RTok)(v:Value)(w:World)(hl:0<l.length)(hl4:l.length≤400)(hv:Reads w v l.length (cellsR l)) :
  Calls Tryz.prog 101 #[v] w fun e w'=>e=.returned (.int .i64 (rootR l))∧w'=w:=by
 rcases hv with ⟨_,hn,_⟩ | ⟨g,o,cap,rfl,_,hlt,hc⟩
 ·omega
 go_enter Tryz.func101,Tryz.ntmps101
 go_wp2
 go_loop [3,4,5,6] (fun sb so sw si=>RootRel l sb so sw si) (fun _ _ _ i=>l.length-(intOf i).toNat)
 case atStart=>exact ⟨0,-1,0,0,true,Nat.zero_le _,rfl,rfl,rfl,rfl,.inl rfl,by omega,by omega,rfl⟩
 case round =>
  obtain ⟨k,best,bb,op,wants,hk,rfl,rfl,rfl,rfl,hbest,ho1,ho2,hroot⟩:=hrel
  by_cases hkl:k<l.length
  ·have hcell:w.cell? ⟨g,o+k*2,none⟩=some (.string (bsOf l[k].text)):=hc _ _ (cellsR_get l k hkl).1
   have HR:Hid (rootR l=rootGo k best bb op wants (l[k] :: l.drop (k+1))):=(by rw[hroot,List.drop_eq_getElem_cons hkl]:rootR l=_)
   have HB:Hid (BestOk l k best bb):=hbest
   have HC:Hid (∀ j u,(cellsR l)[j]?=some u→w.cell? ⟨g,o+j,none⟩=some u):=hc
   clear hroot hbest hc
   obtain ⟨c,hc⟩:∃ c,c=bsOf l[k].text:=⟨_,rfl⟩
   rw[← hc]at hcell
   have ht:c.toList=l[k].text:=by rw[hc,bsOf_toList]
   clear hc
   have hbt:=bindsT_le c.toList
   have HT:Hid (l[k].text=c.toList):=ht.symm
   clear ht
   have hb1:Hid (∀ x,(c.toList==x)=(l[k].text==x)):=(by rw[HT.out];exact fun _=>rfl:∀ x,(c.toList==x)=(l[k].text==x))
   cases h1:(c.toList==[40])
   ·have g1:Hid ((l[k].text==cOpen)=false):=(by rw[← hb1.out];exact h1:(l[k].text==cOpen)=false)
    cases h2:(c.toList==[41])
    ·have g2:Hid ((l[k].text==cClose)=false):=(by rw[← hb1.out];exact h2:(l[k].text==cClose)=false)
     have hun:Hid ((unT l[k].text)=((c.toList==[45])||(c.toList==[110,111,116]))):=(by rw[HT.out];rfl:unT l[k].text=((c.toList==[45])||(c.toList==[110,111,116])))
     have hbin:Hid (bindsT l[k].text=bindsT c.toList):=(by rw[HT.out]:bindsT l[k].text=bindsT c.toList)
     have fin:∀ (x y:Bool),(c.toList==[45])=x→(c.toList==[110,111,116])=y→wants=false∨(wants=true∧x=false∧y=false)→(wants&&unT l[k].text)=false:=by
      intro x y hx hy h
      rw[hun.out,hx,hy]
      rcases h with h | ⟨_,h,h'⟩
      ·simp[h]
      ·simp[h,h']
     have FIN:Hid _:=fin
     clear fin
     have main:∀ (x y:Bool),(c.toList==[45])=x→(c.toList==[110,111,116])=y→(wants=false∨(wants=true∧x=false∧y=false))∨(wants=true∧(x=true∨(x=false∧y=true))):=by
      intro x y _ _
      cases wants <;> cases x <;> cases y <;> simp
     rcases main _ _ rfl rfl with hw | ⟨rfl,hw⟩
     ·have F3:Hid ((wants&&unT l[k].text)=false):=FIN.out _ _ rfl rfl hw
      clear FIN
      rcases hw with rfl | ⟨rfl,h3,h4⟩
      all_goals
       by_cases hb0:bindsT c.toList=0
       ·go_wp2_with (go_at_call 141;refine (binds_any _ _).mono ?_;rintro e _ ⟨rfl,rfl⟩)
        go_round
        case rel=>exact ⟨k+1,best,bb,op,false,by omega,by go_num,rfl,rfl,rfl,HB.out.mono,by omega,by omega,by rw[HR.out];exact rg_leaf g1.out g2.out F3.out (by rw[hbin.out];exact hb0)⟩
        case measure=>simp[intOf];omega
       ·have hbp:0<bindsT c.toList:=by omega
        have hbp':(0:Int)<bindsT c.toList:=by omega
        by_cases hop:op=0
        ·subst hop
         rcases HB.out with rfl | ⟨m,hm,rfl,hmk,hmb⟩
         ·go_wp2_with (go_at_call 141;refine (binds_any _ _).mono ?_;rintro e _ ⟨rfl,rfl⟩)
          go_round
          case rel=>exact ⟨k+1,k,bindsT c.toList,0,true,by omega,by go_num,rfl,rfl,rfl,.inr ⟨k,hkl,rfl,by omega,hbin.out⟩,by omega,by omega,by rw[HR.out,← hbin.out];exact rg_op g1.out g2.out F3.out (by rw[hbin.out];exact hbp) ⟨rfl,.inl (by decide)⟩⟩
          case measure=>simp[intOf];omega
         ·have cm:w.cell? ⟨g,o+m*2,none⟩=some (.string (bsOf l[m].text)):=HC.out _ _ (cellsR_get l m hm).1
          have hbm:bindsT (bsOf l[m].text).toList=bb:=by rw[bsOf_toList];exact hmb
          have HM:Hid (bindsT l[m].text=bb):=hmb
          clear hmb
          by_cases hle:bindsT c.toList≤bb
          ·go_wp2_with (go_at_call 141;refine (binds_any _ _).mono ?_;rintro e _ ⟨rfl,rfl⟩)
           go_round
           case rel=>exact ⟨k+1,k,bindsT c.toList,0,true,by omega,by go_num,rfl,rfl,rfl,.inr ⟨k,hkl,rfl,by omega,hbin.out⟩,by omega,by omega,by rw[HR.out,← hbin.out];exact rg_op g1.out g2.out F3.out (by rw[hbin.out];exact hbp) ⟨rfl,.inr (by rw[hbin.out];exact hle)⟩⟩
           case measure=>simp[intOf];omega
          ·go_wp2_with (go_at_call 141;refine (binds_any _ _).mono ?_;rintro e _ ⟨rfl,rfl⟩)
           go_round
           case rel=>exact ⟨k+1,m,bb,0,true,by omega,by go_num,rfl,rfl,rfl,.inr ⟨m,hm,rfl,by omega,HM.out⟩,by omega,by omega,by rw[HR.out];exact rg_no g1.out g2.out F3.out (by rw[hbin.out];exact hbp) (by rw[hbin.out];omega)⟩
           case measure=>simp[intOf];omega
        ·go_wp2_with (go_at_call 141;refine (binds_any _ _).mono ?_;rintro e _ ⟨rfl,rfl⟩)
         go_round
         case rel=>exact ⟨k+1,best,bb,op,true,by omega,by go_num,rfl,rfl,rfl,HB.out.mono,by omega,by omega,by rw[HR.out];exact rg_no g1.out g2.out F3.out (by rw[hbin.out];exact hbp) (fun h=>hop h.1)⟩
         case measure=>simp[intOf];omega
     ·rcases hw with h3 | ⟨h3,h4⟩
      ·go_wp2_with (go_at_call 141;refine (binds_any _ _).mono ?_;rintro e _ ⟨rfl,rfl⟩)
       go_round
       case rel=>exact ⟨k+1,best,bb,op,true,by omega,by go_num,rfl,rfl,rfl,HB.out.mono,by omega,by omega,by rw[HR.out];exact rg_un g1.out g2.out (by rw[hun.out];simp[h3])⟩
       case measure=>simp[intOf];omega
      ·go_wp2_with (go_at_call 141;refine (binds_any _ _).mono ?_;rintro e _ ⟨rfl,rfl⟩)
       go_round
       case rel=>exact ⟨k+1,best,bb,op,true,by omega,by go_num,rfl,rfl,rfl,HB.out.mono,by omega,by omega,by rw[HR.out];exact rg_un g1.out g2.out (by rw[hun.out];simp[h4])⟩
       case measure=>simp[intOf];omega
    ·have g2:Hid ((l[k].text==cClose)=true):=(by rw[← hb1.out];exact h2:(l[k].text==cClose)=true)
     go_wp2_with (go_at_call 141;refine (binds_any _ _).mono ?_;rintro e _ ⟨rfl,rfl⟩)
     go_round
     case rel=>exact ⟨k+1,best,bb,op-1,false,by omega,by go_num,rfl,rfl,rfl,HB.out.mono,by omega,by omega,by rw[HR.out];exact rg_close g1.out g2.out⟩
     case measure=>simp[intOf];omega
   ·have g1:Hid ((l[k].text==cOpen)=true):=(by rw[← hb1.out];exact h1:(l[k].text==cOpen)=true)
    go_wp2_with (go_at_call 141;refine (binds_any _ _).mono ?_;rintro e _ ⟨rfl,rfl⟩)
    go_round
    case rel=>exact ⟨k+1,best,bb,op+1,true,by omega,by go_num,rfl,rfl,rfl,HB.out.mono,by omega,by omega,by rw[HR.out];exact rg_open g1.out⟩
    case measure=>simp[intOf];omega
  ·go_wp2
   go_ret
   exact ⟨ret_int (by rw[List.drop_eq_nil_of_le (by omega)];rfl),rfl⟩
end Go.Proofs.YtgfnkeiigjholaaGreatDoor
