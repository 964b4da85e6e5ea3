import Derived.Test.YtfajjdgkiilhfaaC13
namespace Go.Proofs.Ytfajjdgkiilhfaa
open Go.RowKit
def zsC:List cX->Option (List Int)
 |[]=>some []
 |b::bs=>match zsD b.nodes with
  |none=>none
  |some a=>(zsC bs).map (a :: ·)
def lU:List cX->Nat
 |[]=>0
 |b::bs=>b.nodes.length+lU bs
theorem zdv(bs:List cX)(k:Nat)(hk:k<bs.length):lU (bs.take (k+1))=lU (bs.take k)+(bs.getD k .zero).nodes.length:=by
 induction bs generalizing k with
 |nil=>exact absurd hk (dP _)
 |cons b bs ih=>
  cases k with
  |zero=>simp[lU,List.getD]
  |succ k=>
   have:=ih k (by simpa using hk);simp only[gG,lU,List.getD_cons_succ]at this ⊢;omega
theorem zfY{bs:List cX}(h:Small bs):∀k,k<=bs.length->lU (bs.take k)<=k*1048576
 |0,_=>by simp[lU]
 |k+1,hk=>by
  have h1:=zfY h k (by omega);have h2:=(h.2 k (by omega)).1;rw[zdv bs k (by omega)];omega
def aH:List aI->List Int
 |[]=>[]
 |n::ns=>if n.kind=5 then n.group::aH ns else aH ns
def qK:List cX->List Int
 |[]=>[]
 |b::bs=>aH b.nodes++qK bs
end Go.Proofs.Ytfajjdgkiilhfaa
