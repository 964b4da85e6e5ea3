import Derived.Test.YtfajjdgkiilhfaaGreatDoorC9
import Derived.Deep.QuietTactic
import Derived.BigQuiet
import Derived.Deep.AppendLies
namespace Go.Proofs.YtfajjdgkiilhfaaGreatDoor
open Go.RowKit
attribute [local go_sem ↓] wp_at_zero wp_at_succ
section
variable {n:Int}
theorem zmu(h:1<=n):1<=oy n/\oy n<=2001:=by unfold oy;split<;>omega
theorem zmw(h:n<=2001):oy n=n:=by unfold oy;rw[af h]
end
def ql(n:aC)(args:List Int):Int:=
 if n.kind=1 then 1
 else if n.kind=2\/n.kind=3 then oy (args.getD 0 0+args.getD 1 0)
 else if n.kind=4 then oy (args.getD 0 0*oO n.min n.max)
 else args.getD 0 0
def FA(st:List Int)(n:aC):List Int:=st.take (st.length-aP n.kind)++[ql n (st.drop (st.length-aP n.kind))]
def Di:List aC->List Int->Option (List Int)
 |[],st=>some st
 |n::ns,st=>if st.length<aP n.kind\/bk n=false then none else Di ns (FA st n)
def zuv(ns:List aC):Option Int:=match Di ns [] with
 |some [wt]=>some wt
 |_=>none
theorem zo7(ns:List aC)(i:Nat)(hi:i<ns.length)(st:List Int)(nd:aC)(h:ns.getD i .zero=nd):
  Di (ns.drop i) st=if st.length<aP nd.kind\/bk nd=false then none else Di (ns.drop (i+1)) (FA st nd):=by
 rw[Dn hi];have:ns[i]=nd:=by rw[<-h];simp[List.getD,hi]
 rw[this]
 rfl
end Go.Proofs.YtfajjdgkiilhfaaGreatDoor
