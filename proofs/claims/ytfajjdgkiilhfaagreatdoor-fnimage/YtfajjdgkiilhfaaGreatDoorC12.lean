import Derived.Test.YtfajjdgkiilhfaaGreatDoorC11
namespace Go.Proofs.YtfajjdgkiilhfaaGreatDoor
open Go.RowKit
def zuu:List dc->Option (List Int)
 |[]=>some []
 |b::bs=>match zuv b.nodes with
  |none=>none
  |some a=>(zuu bs).map (a :: ·)
def lT:List dc->Nat
 |[]=>0
 |b::bs=>b.nodes.length+lT bs
theorem Zv(bs:List dc)(k:Nat)(hk:k<bs.length):lT (bs.take (k+1))=lT (bs.take k)+(bs.getD k .zero).nodes.length:=by
 induction bs generalizing k with
 |nil=>exact absurd hk (fw _)
 |cons b bs ih=>
  cases k with
  |zero=>simp[lT,List.getD]
  |succ k=>
   have:=ih k (by simpa using hk);simp only[mz,lT,List.getD_cons_succ]at this ⊢;omega
theorem zgw{bs:List dc}(h:Small bs):∀k,k<=bs.length->lT (bs.take k)<=k*1048576
 |0,_=>by simp[lT]
 |k+1,hk=>by
  have h1:=zgw h k (by omega);have h2:=(h.2 k (by omega)).1;rw[Zv bs k (by omega)];omega
def dX:List aC->List Int
 |[]=>[]
 |n::ns=>if n.kind=5 then n.group::dX ns else dX ns
def qO:List dc->List Int
 |[]=>[]
 |b::bs=>dX b.nodes++qO bs
end Go.Proofs.YtfajjdgkiilhfaaGreatDoor
