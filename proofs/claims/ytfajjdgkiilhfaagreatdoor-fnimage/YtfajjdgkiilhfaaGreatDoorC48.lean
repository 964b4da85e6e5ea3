import Derived.Test.YtfajjdgkiilhfaaGreatDoorC47
import Derived.Deep.RegionHeld3
import Derived.Deep.DrawnRows
namespace Go.Proofs.YtfajjdgkiilhfaaGreatDoor
open Go.RowKit
attribute [local go_sem ↓] wp_at_zero wp_at_succ
theorem znR(nx:List Int)(wd:Nat):∀(n:Nat) (L:pI),mW nx wd n=some L->L.base.length=n/\L.bA.length=n/\L.next.length=L.az.length/\L.az.length<=60000
 |0,L,h=>by
  have h':some (⟨[],[],[],[]⟩:pI)=some L:=h;cases h';simp
 |n+1,L,h=>by
  have h':(mW nx wd n).bind (AY nx wd n)=some L:=h;cases hL:mW nx wd n with
  |none=>rw[hL]at h';cases h'
  |some L0=>
   rw[hL]at h';obtain⟨q1,q2,q3,q4⟩:=znR nx wd n L0 hL;have h2:AY nx wd n L0=some L:=h';have xf:AY nx wd n L0=if aK (a8 nx wd n) (dW (a8 nx wd n)) wd=[] then some ⟨L0.base++[0],L0.bA++[dW (a8 nx wd n)],L0.next,L0.az⟩ else if (aK (a8 nx wd n) (dW (a8 nx wd n)) wd).all (λc=>decide (oz L0.az (aK (a8 nx wd n) (dW (a8 nx wd n)) wd)+c<60000)) then some ⟨L0.base++[(oz L0.az (aK (a8 nx wd n) (dW (a8 nx wd n)) wd):Int)],L0.bA++[dW (a8 nx wd n)],di 0 L0.next (oz L0.az (aK (a8 nx wd n) (dW (a8 nx wd n)) wd)) (λc=>(a8 nx wd n).getD c 0) (aK (a8 nx wd n) (dW (a8 nx wd n)) wd),di (-1) L0.az (oz L0.az (aK (a8 nx wd n) (dW (a8 nx wd n)) wd)) (λ_=>(n:Int)) (aK (a8 nx wd n) (dW (a8 nx wd n)) wd)⟩ else none:=rfl
   rw[xf]at h2;split at h2
   ·cases h2
    exact⟨by simp[q1],by simp[q2],q3,q4⟩
   ·split at h2
    ·rename_i bm
     cases h2
     refine⟨by simp[q1],by simp[q2],OE _ _ _ _ _ _ _ _ q3,Iq _ _ _ _ _ _ q4 ?_⟩;intro c hc;rw[jR]at bm
     simpa using bm c hc
    ·cases h2
theorem zpm(d:aL)(hsm:zS d):∀i,i<7->(wK d i).length<=1048576:=by
 intro i hi
 by_cases h:jO d=0
 ·have hB:dH d=true:=by
   cases hB:dH d
   ·unfold jO at h;rw[af hB]at h;omega
   ·rfl
  obtain⟨L,hL⟩:∃L,yu d=some L:=by
   cases hN:yu d with
   |none=>unfold jO at h;rw[ab (by simp[hB]),af hN]at h;omega
   |some L=>exact⟨L,rfl⟩
  obtain⟨q1,q2,q3,q4⟩:=znR _ _ _ _ hL;have hn:=(C6 hB).n2;rw[(Z8 hB hL).2.2]
  match i,hi with
  |0,_=>exact hsm.1
  |1,_=>show L.base.length<=_;omega
  |2,_=>show L.bA.length<=_;omega
  |3,_=>exact hsm.2.2.1
  |4,_=>exact hsm.2.2.2
  |5,_=>show L.next.length<=_;omega
  |6,_=>show L.az.length<=_;omega
 ·rw[(OO rfl h).2];simp
theorem zmW{lo:Nat}(cv nv tv ev:Value)(d:aL)(w:World)(hs:dP lo w cv nv tv ev d)(hsm:zS d)(iz:∃ao cap,nv=.slice ao d.next.length cap/\d.next.length<=cap)(uF:Hid (Dg w)):
  Calls Tryz.prog 6 #[.agg #[cv,.int .i64 d.width,nv,tv,ev]] w λe w'=>yi w (yv d) (jO d) (wK d) e w':=by
 cases hB:dH d
 ·have h:jO d=1:=by unfold jO;rw[af hB]
  obtain⟨e1,e2⟩:=OO h (by decide);rw[e1,e2,h];exact zlf cv nv tv ev d w hs hsm hB
 ·have hw:=(C6 hB).w1;exact zoW cv nv tv ev d d.width.toNat w hs hsm (by omega) iz hB uF
end Go.Proofs.YtfajjdgkiilhfaaGreatDoor
