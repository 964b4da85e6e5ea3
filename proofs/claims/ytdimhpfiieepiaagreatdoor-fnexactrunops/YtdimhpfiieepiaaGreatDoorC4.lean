import Derived.Test.YtdimhpfiieepiaaGreatDoorC3
namespace Go.Proofs.YtdimhpfiieepiaaGreatDoor
open Go.RowKit
attribute [local go_sem ↓] wp_at_zero wp_at_succ
variable {k mn mx g:Int}{rs:List (Int×Int)}
theorem Tryz.zxT:(Tryz.prog.info? 184).map (λi=>(i.zero,i.size,i.bytes))=some (some .nilIface,1,16):=by kernel_rfl
theorem zmv(h:aY ⟨k,rs,mn,mx,g⟩=true)(hk:k=2\/k=3):rs=[]/\mn=0/\mx=0/\g=0:=by
 unfold aY at h;rw[ak (by simp only;omega),aC hk]at h;simp at h;exact⟨h.1.1,h.1.2.1,h.1.2.2,h.2⟩
theorem zrE(h:aY ⟨1,rs,mn,mx,g⟩=true):nz 0 rs=true/\mn=0/\mx=0/\g=0:=by
 simp[aY]at h;exact⟨h.1.1,h.1.2.1,h.1.2.2,h.2⟩
theorem XH(h:aY ⟨4,rs,mn,mx,g⟩=true):rs=[]/\fj mn mx=true/\g=0:=by
 simp[aY]at h;exact⟨h.1.1,h.1.2,h.2⟩
theorem zpC(h:aY ⟨5,rs,mn,mx,g⟩=true):rs=[]/\mn=0/\mx=0:=by
 simp[aY]at h;exact⟨h.1,h.2.1,h.2.2⟩
theorem XI(h:aY ⟨k,rs,mn,mx,g⟩=true):k=1\/k=2\/k=3\/k=4\/k=5:=by
 unfold aY at h
 by_cases h1:k=1
 ·exact .inl h1
 by_cases h2:k=2
 ·exact .inr (.inl h2)
 by_cases h3:k=3
 ·exact .inr (.inr (.inl h3))
 by_cases h4:k=4
 ·exact .inr (.inr (.inr (.inl h4)))
 by_cases h5:k=5
 ·exact .inr (.inr (.inr (.inr h5)))
 simp[h1,h2,h3,h4,h5]at h
theorem Jy(st:List Int)(m:Nat):(st.drop m).getD 0 0=st.getD m 0/\(st.drop m).getD 1 0=st.getD (m+1) 0:=by
 simp[List.getD_eq_getElem?_getD,List.getElem?_drop]
theorem QJ(st:List Int)(m:Nat):(st.drop m).getD 0 0=st.getD m 0:=by
 simp[List.getD_eq_getElem?_getD,List.getElem?_drop]
end Go.Proofs.YtdimhpfiieepiaaGreatDoor
