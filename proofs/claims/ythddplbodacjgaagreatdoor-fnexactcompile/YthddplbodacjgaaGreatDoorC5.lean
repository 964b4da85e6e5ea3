import Derived.Test.YthddplbodacjgaaGreatDoorC4
namespace Go.Proofs.YthddplbodacjgaaGreatDoor
open Go.RowKit
attribute [local go_sem ↓] Go.wp_at_zero Go.wp_at_succ
variable {k mn mx g:Int}{rs:List (Int×Int)}
theorem Tryz.infoPart:(Tryz.prog.info? 118).map (fun i=>(i.zero,i.size,i.bytes))=some (some .nilIface,1,16):=by kernel_rfl
theorem zmi(h:zaK ⟨k,rs,mn,mx,g⟩=true)(hk:k=2\/k=3):rs=[]/\mn=0/\mx=0/\g=0:=by
 unfold zaK at h;rw[zuU (by simp only;omega),zuV hk] at h;simp at h;exact⟨h.1.1,h.1.2.1,h.1.2.2,h.2⟩
theorem zq3(h:zaK ⟨1,rs,mn,mx,g⟩=true):zbp 0 rs=true/\mn=0/\mx=0/\g=0:=by
 simp[zaK] at h;exact⟨h.1.1,h.1.2.1,h.1.2.2,h.2⟩
theorem zg0(h:zaK ⟨4,rs,mn,mx,g⟩=true):rs=[]/\zaY mn mx=true/\g=0:=by
 simp[zaK] at h;exact⟨h.1.1,h.1.2,h.2⟩
theorem zoU(h:zaK ⟨5,rs,mn,mx,g⟩=true):rs=[]/\mn=0/\mx=0:=by
 simp[zaK] at h;exact⟨h.1,h.2.1,h.2.2⟩
theorem zg1(h:zaK ⟨k,rs,mn,mx,g⟩=true):k=1\/k=2\/k=3\/k=4\/k=5:=by
 unfold zaK at h
 by_cases h1:k=1
 ·exact .inl h1
 by_cases h2:k=2
 ·exact .inr (.inl h2)
 by_cases h3:k=3
 ·exact .inr (.inr (.inl h3))
 by_cases h4:k=4
 ·exact .inr (.inr (.inr (.inl h4)))
 by_cases h5:k=5
 ·exact .inr (.inr (.inr (.inr h5)))
 simp[h1,h2,h3,h4,h5] at h
theorem zey(st:List Int)(m:Nat):(st.drop m).getD 0 0=st.getD m 0/\(st.drop m).getD 1 0=st.getD (m+1) 0:=by
 simp[List.getD_eq_getElem?_getD,List.getElem?_drop]
theorem zge(st:List Int)(m:Nat):(st.drop m).getD 0 0=st.getD m 0:=by
 simp[List.getD_eq_getElem?_getD,List.getElem?_drop]
end Go.Proofs.YthddplbodacjgaaGreatDoor
