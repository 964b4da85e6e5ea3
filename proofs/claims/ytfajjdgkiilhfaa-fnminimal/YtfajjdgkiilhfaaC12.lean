import Derived.Test.YtfajjdgkiilhfaaC11
import Derived.Deep.QuietTactic
import Derived.BigQuiet
import Derived.Deep.AppendLies
namespace Go.Proofs.Ytfajjdgkiilhfaa
open Go.RowKit
attribute [local go_sem ↓] wp_at_zero wp_at_succ
section
variable {n:Int}
theorem zlj(h:1<=n):1<=oh n/\oh n<=2001:=by unfold oh;split<;>omega
theorem zll(h:n<=2001):oh n=n:=by unfold oh;rw[ae h]
end
def qg(n:aI)(args:List Int):Int:=
 if n.kind=1 then 1
 else if n.kind=2\/n.kind=3 then oh (args.getD 0 0+args.getD 1 0)
 else if n.kind=4 then oh (args.getD 0 0*oM n.min n.max)
 else args.getD 0 0
def Gs(st:List Int)(n:aI):List Int:=st.take (st.length-aV n.kind)++[qg n (st.drop (st.length-aV n.kind))]
def Eh:List aI->List Int->Option (List Int)
 |[],st=>some st
 |n::ns,st=>if st.length<aV n.kind\/bG n=false then none else Eh ns (Gs st n)
def zsD(ns:List aI):Option Int:=match Eh ns [] with
 |some [wt]=>some wt
 |_=>none
theorem znJ(ns:List aI)(i:Nat)(hi:i<ns.length)(st:List Int)(nd:aI)(h:ns.getD i .zero=nd):
  Eh (ns.drop i) st=if st.length<aV nd.kind\/bG nd=false then none else Eh (ns.drop (i+1)) (Gs st nd):=by
 rw[JP hi];have:ns[i]=nd:=by rw[<-h];simp[List.getD,hi]
 rw[this]
 rfl
end Go.Proofs.Ytfajjdgkiilhfaa
