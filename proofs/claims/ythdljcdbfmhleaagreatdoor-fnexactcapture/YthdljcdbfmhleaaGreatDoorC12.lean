import Derived.Test.YthdljcdbfmhleaaGreatDoorC8
import Derived.Test.YthdljcdbfmhleaaGreatDoorC11
namespace Go.Proofs.YthdljcdbfmhleaaGreatDoor
section
variable {mk fr:Nat -> Nat}{n nw base B bt:Nat}{w W:World}{v sv fv:Value}{xs:List Value}{f:Nat -> Nat -> Bool}{F:Nat -> Nat -> Nat}
open Go.RowKit
def ptrL(mk:Nat->Nat)(n:Nat):List Value:=(List.range n).map fun p=>.pointer (some ⟨mk p,0,none⟩)
def slcL(fr:Nat->Nat)(nw n:Nat):List Value:=(List.range n).map fun p=>.slice (some ⟨fr p,0,none⟩) nw nw
theorem zny(mk:Nat->Nat)(n:Nat):ptrL mk (n+1)=ptrL mk n++[.pointer (some ⟨mk n,0,none⟩)]:=by simp[ptrL,List.range_succ]
theorem znO(fr:Nat->Nat)(nw n:Nat):slcL fr nw (n+1)=slcL fr nw n++[.slice (some ⟨fr n,0,none⟩) nw nw]:=by simp[slcL,List.range_succ]
theorem zlT{mk':Nat->Nat}(h:∀p,p<n->mk p=mk' p):ptrL mk n=ptrL mk' n:=zrP fun p hp=>by rw[h p (by simpa using hp)]
theorem zlX{fr':Nat->Nat}(h:∀p,p<n->fr p=fr' p):slcL fr nw n=slcL fr' nw n:=zrP fun p hp=>by rw[h p (by simpa using hp)]
theorem zar{e:TypeId}{sz:Nat}(h:w.ownsRow base e sz v n xs)(hk:∀(k:Nat) (cs:Array Value),w.heap[k]?=some (.cells cs e (0,0))->W.heap[k]?=some (.cells cs e (0,0))):W.ownsRow base e sz v n xs:=by
 refine⟨h.1,?_⟩;rcases h.2 with h0|⟨g,cap,cur,hv,hg,hh,r⟩
 ·exact .inl h0
 ·exact .inr ⟨g,cap,cur,hv,hg,hk g cur hh,r⟩
theorem zbc{e:TypeId}(h:w.ownsRow base e 1 v n xs)(hn:0<n):∃(g cap:Nat) (cur:Array Value),v=.slice (some ⟨g,0,none⟩) n cap/\w.heap[g]?=some (.cells cur e (0,0))/\∀p,p<n->cur[p]?=xs[p]?:=by
 rcases h.2 with ⟨_,h0⟩|⟨g,cap,cur,hv,hg,hh,hnc,_,hsz,ht⟩
 ·omega
 ·refine⟨g,cap,cur,hv,hh,fun p hp=>?_⟩;rw[<-ht,zrI,zst (by omega),Array.getElem?_toList]
structure Trk(B:Nat)(w:World)(n nw bt:Nat)(sv fv:Value)(mk:Nat->Nat)(f:Nat->Nat->Bool)(fr:Nat->Nat)(F:Nat->Nat->Nat):Prop where
 box:zeo w bt nw sv fv
 so:w.ownsRow B 199 1 sv n (ptrL mk n)
 fo:w.ownsRow B 129 1 fv n (slcL fr nw n)
 fol:Fol w n nw fr F
 mks:∀p,p<n->w.heap[mk p]?=some (.cells (zao (f p)) 197 (0,0))
 n64:n<=64*nw
 nwl:nw<=1000
 bru:zaY w
 bb:B<=bt
 b0:0<B
theorem Trk.l(h:Trk B w n nw bt sv fv mk f fr F):TrkL w n nw bt sv fv fr F:=
 ⟨h.box,fun hn=>by
  obtain⟨g,cap,cur,h1,h2,h3⟩:=zbc h.fo hn;exact⟨g,cap,cur,h1,h2,fun p hp=>by rw[h3 p hp];simp[slcL,hp]⟩,h.fol,h.n64,h.nwl,h.bru⟩
theorem Trk.setsAt(h:Trk B w n nw bt sv fv mk f fr F)(hn:0<n):∃gs cs:Nat,sv=.slice (some ⟨gs,0,none⟩) n cs/\gs<w.heap.size/\∀p,p<n->w.cell? ⟨gs,p,none⟩=some (.pointer (some ⟨mk p,0,none⟩)):=by
 obtain⟨g,cap,cur,h1,h2,h3⟩:=zbc h.so hn;exact⟨g,cap,h1,(zrc.1 h2).1,fun p hp=>by rw[zsm _ _ _ _ _ _ h2,h3 p hp];simp[ptrL,hp]⟩
theorem Trk.turn{S:Nat->Prop}{F':Nat->Nat->Nat}(h:Trk B w n nw bt sv fv mk f fr F)(t:zan S w W)(hS:∀k,k<w.heap.size->S k->∃m T,zal w m k T)(hf:Fol W n nw fr F'):Trk B W n nw bt sv fv mk f fr F':=by
 have hk:∀(k:Nat) (cs:Array Value) (u:TypeId),w.heap[k]?=some (.cells cs u (0,0))->u≠185->W.heap[k]?=some (.cells cs u (0,0)):=fun k cs u hk hu=>by
  have hlt:=(zrc.1 hk).1;refine(t.same k hlt (fun hs=>?_)).trans hk;obtain⟨m,T,hp⟩:=hS k hlt hs;have:=hp.row;rw[hk] at this;exact hu (zad this)
 have q:=h.l.turn t hS hf;exact⟨q.box,zar h.so fun k cs e=>hk k cs _ e (by decide),zar h.fo fun k cs e=>hk k cs _ e (by decide),hf,fun p hp=>hk _ _ _ (h.mks p hp) (by decide),h.n64,h.nwl,q.bru,h.bb,h.b0⟩
theorem Trk.below(h:Trk B w n nw bt sv fv mk f fr F)(hb:Below w.heap.size w W):Trk B W n nw bt sv fv mk f fr F:=
 h.turn (zan.of_below (S:=fun _=>False) hb) (fun _ _ e=>e.elim) ⟨fun p hp=>(h.fol.rows p hp).below hb,h.fol.inj⟩
theorem zeI{P:Program}{ops:Array Oper}{rest:List Oper}{o:Oper}{a:Act}{Q:Exit->Act->World->Prop}(w:World)(H:Nat)(hH:w.heap.size=H)(hgd:o.guard=none)(s x:Operand)(t:TypeId)
  (ho:o.op=.call {callee:=.builtin .append,args:=#[s,x],argTypes:=#[t,t]})
  (base:Nat) (e:TypeId) (i:TypeInfo) (z:Value) (bytes:Nat) (ht:P.underlying t=some (.slice e)) (hi:P.info? e=some i) (hz:i.zero=some z)
  (hsize:i.size=1) (hby:i.bytes=bytes) (hzs:z.cells.size=1)
  (v:Value) (n:Nat) (xs:List Value) (u:Value) (hs:a.eval s=v) (hown:w.ownsRow base e 1 v n xs)
  (hx:a.eval x=.slice (some ⟨H,0,none⟩) 1 1) (h1:u.oneCell'=true) (hn:n<=2000000) (hbytes:bytes<=64) (hbase:base<=w.heap.size)
  (h:∀g' cap' w',w'.ownsRow base e 1 (.slice (some ⟨g',0,none⟩) (n+1) cap') (n+1) (xs++[u])->w.grownBy w' v.ownBlock->(v.ownBlock=some g'\/H<g')->wpList P ops Q rest (a.put o.dst (.slice (some ⟨g',0,none⟩) (n+1) cap')) w'):
  wpList P ops Q (o::rest) a (w.alloc (.cells #[u] e)):=by
 subst hH;refine wpList_append_lies _ hgd s x t ho base e i z 1 bytes ht hi hz hsize hby hzs (by omega) v n xs hs (zar hown fun k cs e=>zah e) ⟨w.heap.size,0,none⟩ 1 1 [u] hx rfl ?_ ?_ (by omega) (by unfold maxLen;omega) ?_ (by simp;omega) (w.heap.size+1) (by simp) ?_
 ·intro j v hv
  match j,hv with
  |0,hv=>simp at hv;subst hv;simp[Addr.add]
 ·intro v hv;simp at hv;subst hv;exact h1
 ·have:(n+1)*bytes<=2000001*64:=Nat.mul_le_mul (by omega) hbytes;omega
 ·intro g' cap' w' ho2 hgr hat hlt;refine h g' cap' w' ho2 ⟨hgr.os,hgr.tape,hgr.output,zsb (by simp) hgr.size,fun k hk hne=>?_⟩ ?_
  ·rw[hgr.block k (by simp;omega) hne,Below.heap_alloc _ _ _ hk]
  ·rcases hat with hat|hat
   ·exact .inl hat
   ·exact .inr (by omega)
end
section
variable {tk:Nat -> UInt8 -> Prop}{fol:Nat -> Nat -> Prop}{first last:Nat -> Prop}{c:UInt8}{u:Word}{e:Prop}
theorem zqq{p:Nat}:Run tk fol first [c] p↔first p/\tk p c:=by
 constructor
 ·intro h;generalize hu:[c]=u at h;cases h with
  |one d _ a b=>cases hu;exact⟨a,b⟩
  |snoc v d q _ hr a b=>
   have hl:=congrArg List.length hu;simp at hl;subst hl;exact absurd rfl hr.ne
 ·rintro ⟨a,b⟩;exact .one c p a b
theorem zpi{q:Nat}(hu:u≠[]):Run tk fol first (u++[c]) q↔∃p,Run tk fol first u p/\fol p q/\tk q c:=by
 constructor
 ·intro h;generalize hw:u++[c]=w at h;cases h with
  |one d _ a b=>
   have hl:=congrArg List.length hw;simp at hl;exact absurd hl hu
  |snoc v d p _ hr a b=>
   obtain⟨e1,e2⟩:=List.append_inj' hw rfl;cases e2;subst e1;exact⟨p,hr,a,b⟩
 ·rintro ⟨p,hr,a,b⟩;exact .snoc u c p q hr a b
theorem zoa(hu:u≠[]):Acc tk fol e first last u↔∃p,Run tk fol first u p/\last p:=
 ⟨fun h=>h.elim (fun k=>absurd k.1 hu) id,.inr⟩
theorem zpN:Acc tk fol e first last []↔e:=
 ⟨fun h=>h.elim (fun k=>k.2) (fun⟨_,hr,_⟩=>absurd rfl hr.ne),fun h=>.inl ⟨rfl,h⟩⟩
end
structure PA where
 D:Nat->Prop
 e:Prop
 first:Nat->Prop
 last:Nat->Prop
 fol:Nat->Nat->Prop
 tk:Nat->UInt8->Prop
def PA.eps(b:Bool):PA:=⟨fun _=>False,b=true,fun _=>False,fun _=>False,fun _ _=>False,fun _ _=>False⟩
def PA.one(f:Nat->Bool)(n:Nat):PA:=⟨(· = n),False,(· = n),(· = n),fun _ _=>False,fun p c=>p=n/\f c.toNat=true⟩
def PA.alt(x y:PA):PA:=⟨fun p=>x.D p\/y.D p,x.e\/y.e,fun p=>x.first p\/y.first p,fun p=>x.last p\/y.last p,fun p q=>(x.D p/\x.fol p q)\/(y.D p/\y.fol p q),fun p c=>(x.D p/\x.tk p c)\/(y.D p/\y.tk p c)⟩
def PA.seq(x y:PA):PA:=⟨fun p=>x.D p\/y.D p,x.e/\y.e,fun p=>x.first p\/(x.e/\y.first p),fun p=>y.last p\/(y.e/\x.last p),fun p q=>((x.D p/\x.fol p q)\/(y.D p/\y.fol p q))\/(x.last p/\y.first q),fun p c=>(x.D p/\x.tk p c)\/(y.D p/\y.tk p c)⟩
def PA.star(x:PA):PA:=⟨x.D,True,x.first,x.last,fun p q=>x.fol p q\/(x.last p/\x.first q),x.tk⟩
def PA.opt(x:PA):PA:={x with e:=True}
structure zbv(tk:Nat->UInt8->Prop)(fol:Nat->Nat->Prop)(D:Nat->Prop)(e:Prop)(first last:Nat->Prop)(M:PA):Prop where
 fi:∀p,first p->D p
 la:∀p,last p->D p
 fo:∀p q,D p->fol p q->D q
 dm:∀p,D p↔M.D p
 em:e↔M.e
 fs:∀p,first p↔M.first p
 ls:∀p,last p↔M.last p
 fl:∀p q,D p->(fol p q↔M.fol p q)
 tks:∀p c,D p->(tk p c↔M.tk p c)
section
variable {tk:Nat->UInt8->Prop} {fol:Nat->Nat->Prop} {D:Nat->Prop} {e:Prop} {first last:Nat->Prop} {M:PA}
theorem zbv.congr{fol':Nat->Nat->Prop}(h:zbv tk fol D e first last M)(he:∀p q,D p->(fol' p q↔fol p q)):zbv tk fol' D e first last M:=
 ⟨h.fi,h.la,fun p q hp hq=>h.fo p q hp ((he p q hp).1 hq),h.dm,h.em,h.fs,h.ls,fun p q hp=>(he p q hp).trans (h.fl p q hp),h.tks⟩
theorem zbv.words{N:PA}(h:zbv tk fol D e first last M)(hl:M=N):zbv tk fol D e first last N:=hl ▸ h
theorem zbv.opt(h:zbv tk fol D e first last M):zbv tk fol D True first last M.opt:=⟨h.fi,h.la,h.fo,h.dm,Iff.rfl,h.fs,h.ls,h.fl,h.tks⟩
theorem zbv.dom{D':Nat->Prop}{e':Prop}{first' last':Nat->Prop}(h:zbv tk fol D e first last M)(hd:∀p,D p↔D' p)(he:e↔e')(h1:∀p,first p↔first' p)(h2:∀p,last p↔last' p):zbv tk fol D' e' first' last' M:=by
 obtain rfl:D=D':=funext fun p=>propext (hd p)
 obtain rfl:e=e':=propext he;obtain rfl:first=first':=funext fun p=>propext (h1 p)
 obtain rfl:last=last':=funext fun p=>propext (h2 p)
 exact h
theorem zlp(tk:Nat->UInt8->Prop)(fol:Nat->Nat->Prop)(b:Bool):zbv tk fol (fun _=>False) (b=true) (fun _=>False) (fun _=>False) (.eps b):=
 ⟨fun _ h=>h,fun _ h=>h,fun _ _ h=>h.elim,fun _=>Iff.rfl,Iff.rfl,fun _=>Iff.rfl,fun _=>Iff.rfl,fun _ _ h=>h.elim,fun _ _ h=>h.elim⟩
theorem zmN{f:Nat->Bool}{n:Nat}(ht:∀c,tk n c↔f c.toNat=true)(hf:∀q,¬fol n q):zbv tk fol (· = n) False (· = n) (· = n) (.one f n):=
 ⟨fun _ h=>h,fun _ h=>h,fun p q hp hq=>absurd hq (hp ▸ hf q),fun _=>Iff.rfl,Iff.rfl,fun _=>Iff.rfl,fun _=>Iff.rfl,fun p q hp=>⟨fun h=>absurd h (hp ▸ hf q),False.elim⟩,fun p c hp=>by
  subst hp;exact(ht c).trans ⟨fun h=>⟨rfl,h⟩,fun h=>h.2⟩⟩
end
theorem zbv.tk{tk tk':Nat->UInt8->Prop}{fol:Nat->Nat->Prop}{D:Nat->Prop}{e:Prop}{first last:Nat->Prop}{M:PA}(h:zbv tk fol D e first last M)(he:∀p c,D p->(tk' p c↔tk p c)):zbv tk' fol D e first last M:=
 ⟨h.fi,h.la,h.fo,h.dm,h.em,h.fs,h.ls,h.fl,fun p c hp=>(he p c hp).trans (h.tks p c hp)⟩
section
variable {tk:Nat->UInt8->Prop} {fol fol':Nat->Nat->Prop} {D E:Nat->Prop} {e1 e2:Prop} {f1 l1 f2 l2:Nat->Prop} {M N:PA}
theorem zpI(hx:zbv tk fol D e1 f1 l1 M)(hy:zbv tk fol E e2 f2 l2 N)(dj:∀p,D p->¬E p)(p q:Nat)(hp:D p\/E p):fol p q↔(M.D p/\M.fol p q)\/(N.D p/\N.fol p q):=by
 rcases hp with hp|hp
 ·rw[hx.fl p q hp];exact⟨fun h=>.inl ⟨(hx.dm p).1 hp,h⟩,fun h=>h.elim (fun k=>k.2) (fun k=>absurd ((hy.dm p).2 k.1) (dj p hp))⟩
 ·rw[hy.fl p q hp];exact⟨fun h=>.inr ⟨(hy.dm p).1 hp,h⟩,fun h=>h.elim (fun k=>absurd hp (dj p ((hx.dm p).2 k.1))) (fun k=>k.2)⟩
theorem znX(hx:zbv tk fol D e1 f1 l1 M)(hy:zbv tk fol E e2 f2 l2 N)(dj:∀p,D p->¬E p)(p:Nat)(c:UInt8)(hp:D p\/E p):tk p c↔(M.D p/\M.tk p c)\/(N.D p/\N.tk p c):=by
 rcases hp with hp|hp
 ·rw[hx.tks p c hp];exact⟨fun h=>.inl ⟨(hx.dm p).1 hp,h⟩,fun h=>h.elim (fun k=>k.2) (fun k=>absurd ((hy.dm p).2 k.1) (dj p hp))⟩
 ·rw[hy.tks p c hp];exact⟨fun h=>.inr ⟨(hy.dm p).1 hp,h⟩,fun h=>h.elim (fun k=>absurd hp (dj p ((hx.dm p).2 k.1))) (fun k=>k.2)⟩
theorem zmM(hx:zbv tk fol D e1 f1 l1 M)(hy:zbv tk fol E e2 f2 l2 N)(dj:∀p,D p->¬E p):zbv tk fol (fun p=>D p\/E p) (e1\/e2) (fun p=>f1 p\/f2 p) (fun p=>l1 p\/l2 p) (M.alt N):=
 ⟨fun p h=>h.imp (hx.fi p) (hy.fi p),fun p h=>h.imp (hx.la p) (hy.la p),fun p q hp hq=>hp.imp (fun h=>hx.fo p q h hq) (fun h=>hy.fo p q h hq),fun p=>or_congr (hx.dm p) (hy.dm p),or_congr hx.em hy.em,fun p=>or_congr (hx.fs p) (hy.fs p),fun p=>or_congr (hx.ls p) (hy.ls p),zpI hx hy dj,znX hx hy dj⟩
theorem zmO{f l:Nat->Prop}(hx:zbv tk fol D e1 f1 l1 M)(hy:zbv tk fol E e2 f2 l2 N)(dj:∀p,D p->¬E p)
  (hfo:∀p q,D p\/E p->(fol' p q↔fol p q\/(l1 p/\f2 q))) (hf:∀p,f p↔f1 p\/(e1/\f2 p)) (hl:∀p,l p↔l2 p\/(e2/\l1 p)):zbv tk fol' (fun p=>D p\/E p) (e1/\e2) f l (M.seq N):=by
 refine⟨fun p h=>?_,fun p h=>?_,fun p q hp hq=>?_,fun p=>or_congr (hx.dm p) (hy.dm p),and_congr hx.em hy.em,fun p=>(hf p).trans (or_congr (hx.fs p) (and_congr hx.em (hy.fs p))),fun p=>(hl p).trans (or_congr (hy.ls p) (and_congr hy.em (hx.ls p))),fun p q hp=>(hfo p q hp).trans (or_congr (zpI hx hy dj p q hp) (and_congr (hx.ls p) (hy.fs q))),znX hx hy dj⟩
 ·rcases(hf p).1 h with h|h
  ·exact .inl (hx.fi p h)
  ·exact .inr (hy.fi p h.2)
 ·rcases(hl p).1 h with h|h
  ·exact .inr (hy.la p h)
  ·exact .inl (hx.la p h.2)
 ·rcases(hfo p q hp).1 hq with h|h
  ·exact hp.imp (fun k=>hx.fo p q k h) (fun k=>hy.fo p q k h)
  ·exact .inr (hy.fi q h.2)
theorem zlq(h:zbv tk fol D e1 f1 l1 M)(hfo:∀p q,D p->(fol' p q↔fol p q\/(l1 p/\f1 q))):zbv tk fol' D True f1 l1 M.star:=
 ⟨h.fi,h.la,fun p q hp hq=>((hfo p q hp).1 hq).elim (h.fo p q hp) (fun k=>h.fi q k.2),h.dm,Iff.rfl,h.fs,h.ls,fun p q hp=>(hfo p q hp).trans (or_congr (h.fl p q hp) (and_congr (h.ls p) (h.fs q))),h.tks⟩
end
def upD(f:Nat->PA)(c n:Nat):Nat->PA
 |0=>.eps true
 |j+1=>((f (n+j*c)).seq (upD f c n j)).opt
def ahD(f:Nat->PA)(c:Nat)(y:PA)(s:Nat):Nat->PA
 |0=>y
 |k+1=>(f (s+k*c)).seq (ahD f c y s k)
def cntP:Pt->Nat
 |.set _=>1
 |.seq l r=>cntP l+cntP r
 |.alt l r=>cntP l+cntP r
 |.rep b mn mx=>if mx=-1 then (1+mn.toNat)*cntP b else ((mx-mn).toNat+mn.toNat)*cntP b
 |.grp b _=>cntP b
def unD:Pt->Nat->PA
 |.set f,n=>.one f n
 |.seq l r,n=>(unD l n).seq (unD r (n+cntP l))
 |.alt l r,n=>(unD l n).alt (unD r (n+cntP l))
 |.rep b mn mx,n=>if mx=-1 then ahD (unD b) (cntP b) (unD b n).star (n+1*cntP b) mn.toNat else ahD (unD b) (cntP b) (upD (unD b) (cntP b) n (mx-mn).toNat) (n+(mx-mn).toNat*cntP b) mn.toNat
 |.grp b _,n=>unD b n
theorem zl4{f:Nat->PA}{c:Nat}(hf:∀s p,(f s).D p↔s<=p/\p<s+c)(n:Nat):∀j p,(upD f c n j).D p↔n<=p/\p<n+j*c
 |0,p=>⟨False.elim,fun h=>by simp at h;omega⟩
 |j+1,p=>by
  show (f (n+j*c)).D p\/(upD f c n j).D p↔_;rw[hf,zl4 hf n j p,Nat.succ_mul];omega
theorem zk4{f:Nat->PA}{c:Nat}{y:PA}{n s:Nat}(hf:∀s p,(f s).D p↔s<=p/\p<s+c)(hy:∀p,y.D p↔n<=p/\p<s)(hs:n<=s):∀k p,(ahD f c y s k).D p↔n<=p/\p<s+k*c
 |0,p=>by rw[Nat.zero_mul,zr9];exact hy p
 |k+1,p=>by
  show (f (s+k*c)).D p\/(ahD f c y s k).D p↔_;rw[hf,zk4 hf hy hs k p,Nat.succ_mul];omega
theorem zco:∀(p:Pt) (n q:Nat),(unD p n).D q↔n<=q/\q<n+cntP p
 |.set f,n,q=>by show q=n↔n<=q/\q<n+1;omega
 |.seq l r,n,q=>by
  show (unD l n).D q\/(unD r (n+cntP l)).D q↔n<=q/\q<n+(cntP l+cntP r);rw[zco l,zco r];omega
 |.alt l r,n,q=>by
  show (unD l n).D q\/(unD r (n+cntP l)).D q↔n<=q/\q<n+(cntP l+cntP r);rw[zco l,zco r];omega
 |.rep b mn mx,n,q=>by
  by_cases h:mx=-1
  ·rw[unD,zst h,cntP,zst h,zk4 (n:=n) (zco b) (fun p=>?_) (by omega),Nat.add_mul]
   ·omega
   ·show (unD b n).D p↔_;rw[zco b,Nat.one_mul]
  ·rw[unD,zss h,cntP,zss h,zk4 (n:=n) (zco b) (fun p=>zl4 (zco b) n _ p) (by omega),Nat.add_mul];omega
 |.grp b _,n,q=>zco b n q
theorem zpG(p:Pt)(n q:Nat):(PA.star (unD p n)).D q↔n<=q/\q<n+1*cntP p:=by
 rw[Nat.one_mul];exact zco p n q
theorem zix(n:Nat)(p:Pt)(k:Nat):ahD (unD p) (cntP p) (PA.star (unD p n)) (n+1*cntP p) k=unD (.rep p (k:Int) (-1)) n:=by
 rw[unD,zst rfl,zri]
theorem ziy(n:Nat)(p:Pt)(k j:Nat):ahD (unD p) (cntP p) (upD (unD p) (cntP p) n j) (n+j*cntP p) k=unD (.rep p (k:Int) ((k+j:Nat):Int)) n:=by
 rw[unD,zss (by omega),zri,show (((k+j:Nat):Int)-k).toNat=j from by omega]
theorem zpj{n a b:Nat}{D:Nat->Prop}(h1:∀p,(n<=p/\p<a)↔D p)(h2:∀p,D p↔n<=p/\p<b)(ha:n<=a)(hb:n<=b):a=b:=by
 rcases zse a b with h|h|h
 ·have:=((h1 a).trans (h2 a)).2 ⟨ha,h⟩;omega
 ·exact h
 ·have:=((h1 b).trans (h2 b)).1 ⟨hb,h⟩;omega
end Go.Proofs.YthdljcdbfmhleaaGreatDoor
