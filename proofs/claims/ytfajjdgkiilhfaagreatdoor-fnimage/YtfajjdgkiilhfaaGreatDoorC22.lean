import Derived.Test.YtfajjdgkiilhfaaGreatDoorC21
import Derived.MapKept
import Derived.Laws.StructEq
import Derived.Laws.Small
import Derived.RangeFuncNested
import Derived.RangeFuncBound
import Derived.RangeFuncCalls
import Derived.RangeFuncLeaves
import Derived.Shelf.Abstract
import Derived.Shelf.RegionOpen
import Derived.WalkKit
import Derived.OwnWalkIn
import Derived.TacticsInMore
import Derived.LoopNIn
import Derived.LoopIn
namespace Go.Proofs.YtfajjdgkiilhfaaGreatDoor
open Go.RowKit
attribute [local go_sem ↓] wp_at_zero wp_at_succ
abbrev Tr:=Nat×Nat×Nat×Nat×Nat
section
variable {gt:Nat} {W W':World} {p:Nat} {mv:Value} {m:Nat} {mi:Nat->Nat} {v:Nat->Value} {l:Nat->List Int} {N:Nat} {o wk:List Nat} {mem:Nat->List Nat}
end
section
variable {gt:Nat} {w:World} {p m gmv cm:Nat} {mi:Nat->Nat} {v0:Nat->Value} {l0:Nat->List Int} {N:Nat} {o wk:List Nat} {mem:Nat->List Nat} {rM:Nat} {K:List Tr} {G:Nat->List Nat} {g c:Nat} {v:Nat->Value} {l:Nat->List Int} {W W':World}
end
theorem aI.shrink{gt n:Nat}{W:World}{v:Nat->Value}{l:Nat->List Int}(h:aI gt n W v l){i:Nat}(hi:i<n){g m cap k:Nat}(hv:v i=.slice (some ⟨g,0,none⟩) m cap)(hm:(l i).length=m)(hk:k<=m):aI gt n W (upd v i (.slice (some ⟨g,0,none⟩) k cap)) (bG l i ((l i).take k)):=by
 refine⟨λj hj=>?_,λa b ha hb hne c hc=>?_⟩
 ·by_cases e:j=i
  ·subst e;rw[kI,jj];have ho:=h.own j hj;unfold bX at ho ⊢;have hl:((l j).take k).length=k:=by rw[rP];omega
   rw[hv,hm]at ho;rw[hl];refine⟨by rw[lX,hl];omega,?_⟩;rcases ho.2 with ⟨h0,_⟩|⟨g',cap',aZ,hv',hg,hh,sj,iz,hsz,ht⟩
   ·cases h0
   ·cases hv'
    refine .inr ⟨g,cap,aZ,rfl,hg,hh,by omega,iz,hsz,?_⟩;have:List.take (k*1) aZ.toList=(List.take (m*1) aZ.toList).take k:=by rw[List.take_take,Nat.mul_one,Nat.mul_one,Nat.min_eq_left hk]
    rw[this,ht,List.map_take]
  ·rw[eF _ _ e,eO _ _ e];exact h.own j hj
 ·have key:∀a c,(upd v i (.slice (some ⟨g,0,none⟩) k cap) a).ownBlock=some c↔(v a).ownBlock=some c:=λa c=>by
   by_cases e:a=i
   ·subst e;rw[kI,hv];rfl
   ·rw[eF _ _ e]
  rw[Ne,key];exact h.apart a b ha hb hne c ((key a c).1 hc)
end Go.Proofs.YtfajjdgkiilhfaaGreatDoor
