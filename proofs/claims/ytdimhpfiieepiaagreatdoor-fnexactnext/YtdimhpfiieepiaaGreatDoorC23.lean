import Derived.Test.YtdimhpfiieepiaaGreatDoorC22
namespace Go.Proofs.YtdimhpfiieepiaaGreatDoor
open Option renaming some->za,none->zc
open Go renaming Value->zb,TypeId->zd,World->ze
section
variable {mk fr:Nat -> Nat}{n nw base B bt:Nat}{w W:ze}{v sv fv:zb}{xs:List zb}{f:Nat -> Nat -> Bool}{F:Nat -> Nat -> Nat}
open Go.RowKit
def xH(mk:Nat->Nat)(n:Nat):List zb:=(List.range n).map λp=>.pointer (za ⟨mk p,0,zc⟩)
def gJ(fr:Nat->Nat)(nw n:Nat):List zb:=(List.range n).map λp=>.slice (za ⟨fr p,0,zc⟩) nw nw
theorem zpN(mk:Nat->Nat)(n:Nat):xH mk (n+1)=xH mk n++[.pointer (za ⟨mk n,0,zc⟩)]:=by simp[xH,List.range_succ]
theorem zp8(fr:Nat->Nat)(nw n:Nat):gJ fr nw (n+1)=gJ fr nw n++[.slice (za ⟨fr n,0,zc⟩) nw nw]:=by simp[gJ,List.range_succ]
theorem znP{mk':Nat->Nat}(h:∀p,p<n->mk p=mk' p):xH mk n=xH mk' n:=Bo λp hp=>by rw[h p (by simpa using hp)]
theorem znU{fr':Nat->Nat}(h:∀p,p<n->fr p=fr' p):gJ fr nw n=gJ fr' nw n:=Bo λp hp=>by rw[h p (by simpa using hp)]
theorem lg{e:zd}{sz:Nat}(h:w.ownsRow base e sz v n xs)(hk:∀(k:Nat) (cs:Array zb),w.heap[k]?=za (.cells cs e (0,0))->W.heap[k]?=za (.cells cs e (0,0))):W.ownsRow base e sz v n xs:=by
 refine⟨h.1,?_⟩;rcases h.2 with h0|⟨g,cap,aA,hv,hg,hh,r⟩
 ·exact .inl h0
 ·exact .inr ⟨g,cap,aA,hv,hg,hk g aA hh,r⟩
theorem xN{e:zd}(h:w.ownsRow base e 1 v n xs)(hn:0<n):∃(g cap:Nat) (aA:Array zb),v=.slice (za ⟨g,0,zc⟩) n cap/\w.heap[g]?=za (.cells aA e (0,0))/\∀p,p<n->aA[p]?=xs[p]?:=by
 rcases h.2 with ⟨_,h0⟩|⟨g,cap,aA,hv,hg,hh,kU,_,hsz,ht⟩
 ·omega
 ·refine⟨g,cap,aA,hv,hh,λp hp=>?_⟩;rw[<-ht,Bw,aD (by omega),Array.getElem?_toList]
structure jp(B:Nat)(w:ze)(n nw bt:Nat)(sv fv:zb)(mk:Nat->Nat)(f:Nat->Nat->Bool)(fr:Nat->Nat)(F:Nat->Nat->Nat):Prop where
 box:vf w bt nw sv fv
 so:w.ownsRow B 295 1 sv n (xH mk n)
 fo:w.ownsRow B 193 1 fv n (gJ fr nw n)
 fol:FH w n nw fr F
 pS:∀p,p<n->w.heap[mk p]?=za (.cells (dv (f p)) 293 (0,0))
 kC:n<=64*nw
 gY:nw<=1000
 dR:fG w
 bb:B<=bt
 b0:0<B
theorem jp.l(h:jp B w n nw bt sv fv mk f fr F):nL w n nw bt sv fv fr F:=
 ⟨h.box,λhn=>by
  obtain⟨g,cap,aA,h1,h2,h3⟩:=xN h.fo hn;exact⟨g,cap,aA,h1,h2,λp hp=>by rw[h3 p hp];simp[gJ,hp]⟩,h.fol,h.kC,h.gY,h.dR⟩
theorem jp.zzr(h:jp B w n nw bt sv fv mk f fr F)(hn:0<n):∃gs cs:Nat,sv=.slice (za ⟨gs,0,zc⟩) n cs/\gs<w.heap.size/\∀p,p<n->w.cell? ⟨gs,p,zc⟩=za (.pointer (za ⟨mk p,0,zc⟩)):=by
 obtain⟨g,cap,aA,h1,h2,h3⟩:=xN h.so hn;exact⟨g,cap,h1,(ap.1 h2).1,λp hp=>by rw[aO _ _ _ _ _ _ h2,h3 p hp];simp[xH,hp]⟩
theorem jp.turn{S:Nat->Prop}{F':Nat->Nat->Nat}(h:jp B w n nw bt sv fv mk f fr F)(t:aE S w W)(hS:∀k,k<w.heap.size->S k->∃m T,aH w m k T)(hf:FH W n nw fr F'):jp B W n nw bt sv fv mk f fr F':=by
 have hk:∀(k:Nat) (cs:Array zb) (u:zd),w.heap[k]?=za (.cells cs u (0,0))->u≠236->W.heap[k]?=za (.cells cs u (0,0)):=λk cs u hk hu=>by
  have hlt:=(ap.1 hk).1;refine(t.same k hlt (λhs=>?_)).trans hk;obtain⟨m,T,hp⟩:=hS k hlt hs;have:=hp.row;rw[hk]at this;exact hu (bP this)
 have q:=h.l.turn t hS hf;exact⟨q.box,lg h.so λk cs e=>hk k cs _ e (by decide),lg h.fo λk cs e=>hk k cs _ e (by decide),hf,λp hp=>hk _ _ _ (h.pS p hp) (by decide),h.kC,h.gY,q.dR,h.bb,h.b0⟩
theorem jp.below(h:jp B w n nw bt sv fv mk f fr F)(hb:Below w.heap.size w W):jp B W n nw bt sv fv mk f fr F:=
 h.turn (aE.cH (S:=λ_=>False) hb) (λ_ _ e=>e.elim) ⟨λp hp=>(h.fol.rows p hp).below hb,h.fol.inj⟩
theorem zfT{P:Program}{ops:Array Oper}{rest:List Oper}{o:Oper}{a:Act}{Q:Exit->Act->ze->Prop}(w:ze)(H:Nat)(hH:w.heap.size=H)(lY:o.guard=zc)(s x:Operand)(t:zd)
  (ho:o.op=.call {callee:=.builtin .append,args:=#[s,x],argTypes:=#[t,t]})
  (base:Nat) (e:zd) (i:TypeInfo) (z:zb) (bytes:Nat) (ht:P.underlying t=za (.slice e)) (hi:P.info? e=za i) (hz:i.zero=za z)
  (xA:i.size=1) (uz:i.bytes=bytes) (xD:z.cells.size=1)
  (v:zb) (n:Nat) (xs:List zb) (u:zb) (hs:a.eval s=v) (az:w.ownsRow base e 1 v n xs)
  (hx:a.eval x=.slice (za ⟨H,0,zc⟩) 1 1) (h1:u.oneCell'=true) (hn:n<=2000000) (xg:bytes<=64) (Gv:base<=w.heap.size)
  (h:∀g' cap' w',w'.ownsRow base e 1 (.slice (za ⟨g',0,zc⟩) (n+1) cap') (n+1) (xs++[u])->w.grownBy w' v.ownBlock->(v.ownBlock=za g'\/H<g')->wpList P ops Q rest (a.put o.dst (.slice (za ⟨g',0,zc⟩) (n+1) cap')) w'):
  wpList P ops Q (o::rest) a (w.alloc (.cells #[u] e)):=by
 subst hH;refine wpList_append_lies _ lY s x t ho base e i z 1 bytes ht hi hz xA uz xD (by omega) v n xs hs (lg az λk cs e=>cQ e) ⟨w.heap.size,0,zc⟩ 1 1 [u] hx rfl ?_ ?_ (by omega) (by unfold maxLen;omega) ?_ (by simp;omega) (w.heap.size+1) (by simp) ?_
 ·intro j v hv
  match j,hv with
  |0,hv=>simp at hv;subst hv;simp[Addr.add]
 ·intro v hv;simp at hv;subst hv;exact h1
 ·have:(n+1)*bytes<=2000001*64:=Nat.mul_le_mul (by omega) xg;omega
 ·intro g' cap' w' AM cR dg hlt;refine h g' cap' w' AM ⟨cR.os,cR.tape,cR.output,aU (by simp) cR.size,λk hk hne=>?_⟩ ?_
  ·rw[cR.block k (by simp;omega) hne,Below.heap_alloc _ _ _ hk]
  ·rcases dg with dg|dg
   ·exact .inl dg
   ·exact .inr (by omega)
end
section
open Go.RowKit
end
section
open Go.RowKit
end
section
open Go.RowKit
attribute [local go_sem ↓] wp_at_zero wp_at_succ
end
def runN(st:Nat->Nat->Nat)(s:Nat)(l:List Nat):Nat:=l.foldl st s
def ztS(st:Nat->Nat->Nat)(an:Nat->Int×Int)(s t:Nat):Prop:=∀l:List Nat,(∀c∈l,c<256)->an (runN st s l)=an (runN st t l)
noncomputable instance zzE (st:Nat->Nat->Nat) (an:Nat->Int×Int) (s t:Nat):Decidable (ztS st an s t):=Classical.propDecidable _

section
open Go.RowKit
attribute [local go_sem ↓] wp_at_zero wp_at_succ
end
section
open Go.RowKit
attribute [local go_sem ↓] wp_at_zero wp_at_succ
end
open Go.RowKit
attribute [local go_sem ↓] wp_at_zero wp_at_succ
theorem zpC{w:ze}{base Y6:Nat}{e:zd}{size:Nat}{v:zb}{n:Nat}{xs:List zb}(h:w.ownsRow base e size v n xs)(hb:Y6<=base):w.ownsRow Y6 e size v n xs:=
 ⟨h.1,h.2.imp id λ⟨g,cap,aA,h1,h2,h3⟩=>⟨g,cap,aA,h1,aU hb h2,h3⟩⟩
end Go.Proofs.YtdimhpfiieepiaaGreatDoor
