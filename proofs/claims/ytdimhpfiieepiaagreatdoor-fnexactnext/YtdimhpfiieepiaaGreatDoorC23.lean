import Derived.Test.YtdimhpfiieepiaaGreatDoorC22
namespace Go.Proofs.YtdimhpfiieepiaaGreatDoor
section
variable{mk fr:Nat -> Nat}{n nw base B bt:Nat}{w W:World}{v sv fv:Value}{xs:List Value}{f:Nat -> Nat -> Bool}{F:Nat -> Nat -> Nat}
open Go.RowKit
def ptrL(mk:Nat->Nat)(n:Nat):List Value:=(List.range n).map fun p=>.pointer (some ⟨mk p,0,none⟩)
def slcL(fr:Nat->Nat)(nw n:Nat):List Value:=(List.range n).map fun p=>.slice (some ⟨fr p,0,none⟩) nw nw
theorem zqi(mk:Nat->Nat)(n:Nat):ptrL mk (n+1)=ptrL mk n++[.pointer (some ⟨mk n,0,none⟩)]:=by simp[ptrL,List.range_succ]
theorem zqD(fr:Nat->Nat)(nw n:Nat):slcL fr nw (n+1)=slcL fr nw n++[.slice (some ⟨fr n,0,none⟩) nw nw]:=by simp[slcL,List.range_succ]
theorem zoj{mk':Nat->Nat}(h:∀p,p<n->mk p=mk' p):ptrL mk n=ptrL mk' n:=zvm fun p hp=>by rw[h p (by simpa using hp)]
theorem zoo{fr':Nat->Nat}(h:∀p,p<n->fr p=fr' p):slcL fr nw n=slcL fr' nw n:=zvm fun p hp=>by rw[h p (by simpa using hp)]
theorem zaw{e:TypeId}{sz:Nat}(h:w.ownsRow base e sz v n xs)(hk:∀(k:Nat) (cs:Array Value),w.heap[k]?=some (.cells cs e (0,0))->W.heap[k]?=some (.cells cs e (0,0))):W.ownsRow base e sz v n xs:=by
 refine⟨h.1,?_⟩;rcases h.2 with h0|⟨g,cap,cur,hv,hg,hh,r⟩
 ·exact .inl h0
 ·exact .inr ⟨g,cap,cur,hv,hg,hk g cur hh,r⟩
theorem zbz{e:TypeId}(h:w.ownsRow base e 1 v n xs)(hn:0<n):∃(g cap:Nat) (cur:Array Value),v=.slice (some ⟨g,0,none⟩) n cap/\w.heap[g]?=some (.cells cur e (0,0))/\∀p,p<n->cur[p]?=xs[p]?:=by
 rcases h.2 with ⟨_,h0⟩|⟨g,cap,cur,hv,hg,hh,hnc,_,hsz,ht⟩
 ·omega
 ·refine⟨g,cap,cur,hv,hh,fun p hp=>?_⟩;rw[<-ht,zvf,zv3 (by omega),Array.getElem?_toList]
structure Trk(B:Nat)(w:World)(n nw bt:Nat)(sv fv:Value)(mk:Nat->Nat)(f:Nat->Nat->Bool)(fr:Nat->Nat)(F:Nat->Nat->Nat):Prop where
 box:zfu w bt nw sv fv
 so:w.ownsRow B 295 1 sv n (ptrL mk n)
 fo:w.ownsRow B 193 1 fv n (slcL fr nw n)
 fol:Fol w n nw fr F
 mks:∀p,p<n->w.heap[mk p]?=some (.cells (zas (f p)) 293 (0,0))
 n64:n<=64*nw
 nwl:nw<=1000
 bru:za7 w
 bb:B<=bt
 b0:0<B
theorem Trk.l(h:Trk B w n nw bt sv fv mk f fr F):TrkL w n nw bt sv fv fr F:=
 ⟨h.box,fun hn=>by
  obtain⟨g,cap,cur,h1,h2,h3⟩:=zbz h.fo hn;exact⟨g,cap,cur,h1,h2,fun p hp=>by rw[h3 p hp];simp[slcL,hp]⟩,h.fol,h.n64,h.nwl,h.bru⟩
theorem Trk.setsAt(h:Trk B w n nw bt sv fv mk f fr F)(hn:0<n):∃gs cs:Nat,sv=.slice (some ⟨gs,0,none⟩) n cs/\gs<w.heap.size/\∀p,p<n->w.cell? ⟨gs,p,none⟩=some (.pointer (some ⟨mk p,0,none⟩)):=by
 obtain⟨g,cap,cur,h1,h2,h3⟩:=zbz h.so hn;exact⟨g,cap,h1,(zuH.1 h2).1,fun p hp=>by rw[zvW _ _ _ _ _ _ h2,h3 p hp];simp[ptrL,hp]⟩
theorem Trk.turn{S:Nat->Prop}{F':Nat->Nat->Nat}(h:Trk B w n nw bt sv fv mk f fr F)(t:zam S w W)(hS:∀k,k<w.heap.size->S k->∃m T,zar w m k T)(hf:Fol W n nw fr F'):Trk B W n nw bt sv fv mk f fr F':=by
 have hk:∀(k:Nat) (cs:Array Value) (u:TypeId),w.heap[k]?=some (.cells cs u (0,0))->u≠236->W.heap[k]?=some (.cells cs u (0,0)):=fun k cs u hk hu=>by
  have hlt:=(zuH.1 hk).1;refine(t.same k hlt (fun hs=>?_)).trans hk;obtain⟨m,T,hp⟩:=hS k hlt hs;have:=hp.row;rw[hk] at this;exact hu (zad this)
 have q:=h.l.turn t hS hf;exact⟨q.box,zaw h.so fun k cs e=>hk k cs _ e (by decide),zaw h.fo fun k cs e=>hk k cs _ e (by decide),hf,fun p hp=>hk _ _ _ (h.mks p hp) (by decide),h.n64,h.nwl,q.bru,h.bb,h.b0⟩
theorem Trk.below(h:Trk B w n nw bt sv fv mk f fr F)(hb:Below w.heap.size w W):Trk B W n nw bt sv fv mk f fr F:=
 h.turn (zam.of_below (S:=fun _=>False) hb) (fun _ _ e=>e.elim) ⟨fun p hp=>(h.fol.rows p hp).below hb,h.fol.inj⟩
theorem zfW{P:Program}{ops:Array Oper}{rest:List Oper}{o:Oper}{a:Act}{Q:Exit->Act->World->Prop}(w:World)(H:Nat)(hH:w.heap.size=H)(hgd:o.guard=none)(s x:Operand)(t:TypeId)
  (ho:o.op=.call {callee:=.builtin .append,args:=#[s,x],argTypes:=#[t,t]})
  (base:Nat) (e:TypeId) (i:TypeInfo) (z:Value) (bytes:Nat) (ht:P.underlying t=some (.slice e)) (hi:P.info? e=some i) (hz:i.zero=some z)
  (hsize:i.size=1) (hby:i.bytes=bytes) (hzs:z.cells.size=1)
  (v:Value) (n:Nat) (xs:List Value) (u:Value) (hs:a.eval s=v) (hown:w.ownsRow base e 1 v n xs)
  (hx:a.eval x=.slice (some ⟨H,0,none⟩) 1 1) (h1:u.oneCell'=true) (hn:n<=2000000) (hbytes:bytes<=64) (hbase:base<=w.heap.size)
  (h:∀g' cap' w',w'.ownsRow base e 1 (.slice (some ⟨g',0,none⟩) (n+1) cap') (n+1) (xs++[u])->w.grownBy w' v.ownBlock->(v.ownBlock=some g'\/H<g')->wpList P ops Q rest (a.put o.dst (.slice (some ⟨g',0,none⟩) (n+1) cap')) w'):
  wpList P ops Q (o::rest) a (w.alloc (.cells #[u] e)):=by
 subst hH;refine wpList_append_lies _ hgd s x t ho base e i z 1 bytes ht hi hz hsize hby hzs (by omega) v n xs hs (zaw hown fun k cs e=>zak e) ⟨w.heap.size,0,none⟩ 1 1 [u] hx rfl ?_ ?_ (by omega) (by unfold maxLen;omega) ?_ (by simp;omega) (w.heap.size+1) (by simp) ?_
 ·intro j v hv
  match j,hv with
  |0,hv=>simp at hv;subst hv;simp[Addr.add]
 ·intro v hv;simp at hv;subst hv;exact h1
 ·have:(n+1)*bytes<=2000001*64:=Nat.mul_le_mul (by omega) hbytes;omega
 ·intro g' cap' w' ho2 hgr hat hlt;refine h g' cap' w' ho2 ⟨hgr.os,hgr.tape,hgr.output,zvK (by simp) hgr.size,fun k hk hne=>?_⟩ ?_
  ·rw[hgr.block k (by simp;omega) hne,Below.heap_alloc _ _ _ hk]
  ·rcases hat with hat|hat
   ·exact .inl hat
   ·exact .inr (by omega)
end
section
open Go.RowKit
end
section
open Go.RowKit
end
section
open Go.RowKit
attribute [local go_sem ↓] Go.wp_at_zero Go.wp_at_succ
end
def runN(st:Nat->Nat->Nat)(s:Nat)(l:List Nat):Nat:=l.foldl st s
def zux(st:Nat->Nat->Nat)(an:Nat->Int×Int)(s t:Nat):Prop:=∀l:List Nat,(∀c∈l,c<256)->an (runN st s l)=an (runN st t l)
noncomputable instance alikeDec (st:Nat->Nat->Nat) (an:Nat->Int×Int) (s t:Nat):Decidable (zux st an s t):=Classical.propDecidable _

open Go.RowKit
attribute [local go_sem ↓] Go.wp_at_zero Go.wp_at_succ
end Go.Proofs.YtdimhpfiieepiaaGreatDoor
