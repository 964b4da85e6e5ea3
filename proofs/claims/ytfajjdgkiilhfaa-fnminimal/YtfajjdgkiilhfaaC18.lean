import Derived.Test.YtfajjdgkiilhfaaC6
import Derived.Test.YtfajjdgkiilhfaaC17
import Derived.Deep.RegionHeld3
namespace Go.Proofs.Ytfajjdgkiilhfaa
open Proofs.Try
open Go renaming World->za,Value->zn
open Option renaming none->zh,some->zi
open Value renaming slice->zp,int->zx
open Obj renaming cells->zw
set_option maxHeartbeats 4000000
set_option maxRecDepth 100000
open Go.RowKit
attribute [local go_sem ↓] wp_at_zero wp_at_succ
section
open Go
section
variable {P:Program} {ops:Array Oper} {md:Region.Mode} {C:za->Prop}
def zsB(md:Region.Mode)(ops:Array Oper)(n:Nat):Bool:=
 Region.noSelect ops&&(List.range n).all (sX md ops 8 n)&&wQ md ops n n 0 (Array.replicate ops.size false)
theorem zhI{Q:Act->Prop}{n:Nat}(hs:Region.noSelect ops=true)(hn:∀i,i<n->sX md ops 8 n i=true):∀(l:List Oper) (k:Nat) (listed:Array Bool) (a:Act),mz md ops listed->(∀j,j<l.length->l[j]?=ops[k+j]?)->k+l.length=n->
  wQ md ops n l.length k listed=true->wpQuiet P ops C Q l a->Ee P md ops C n Q l.length listed a
 |[],_,_,_,_,_,_,hB,h=>by
  simp only[List.length_nil,wQ,Bool.and_eq_true,beq_iff_eq,List.isEmpty_iff]at hB;exact⟨hB.1,hB.2,h⟩
 |o::l,k,listed,a,bn,hl,k7,hB,h=>by
  have h0:ops[k]?=zi o:=by simpa using (hl 0 (by simp)).symm
  simp only[List.length_cons,wQ,Bool.and_eq_true]at hB;obtain⟨⟨hr,hf⟩,Aa⟩:=hB;have hst:qOp P ops C k (wpQuiet P ops C Q l) a:=by unfold qOp;simp only[h0];exact h
  obtain⟨v,hy,hK⟩:=yieldsIn_of_qOp h0 hst;simp only[List.length_cons]at k7;have di:k∈Region.ready md ops listed:=by simpa using hr
  exact zfn h0 (λL hc AC=>zhD (hn k (by omega)) L hc AC) (Region.noSelect_spec hs) l.length listed a bn (Region.free_spec h0 hf) di hy
   (zhI hs hn l (k+1) _ _ (bn.set di) (λj hj=>by have:=hl (j+1) (by simp;omega);simpa [Nat.add_assoc,Nat.add_comm 1 j]using this) (by omega) Aa hK)
theorem zhM{id:Nat}{Q:Exit->Act->za->Prop}{a:Act}{w:za}{all l:List Oper}{o:Oper}(hm:P.follows .mixedOrders=true)(hB:zsB .any all.toArray l.length=true)(cj:all=l++[o])(hg:o.guard=zh)
  (h:wpQuiet P all.toArray (λw'=>∃n,w'=w.drewN n) (λa'=>∀w',(∃n,w'=w.drewN n)->∀K:Act->za->Prop,(∀a w,Q .normal a w->K a w)->o.wp P a' w' K Q) l a):(Code.region id all.toArray true).wp P Q a w:=by
 simp only[zsB,Bool.and_eq_true,List.all_eq_true,List.mem_range]at hB;have hsz:all.toArray.size=l.length+1:=by simp[cj]
 have hlen:all.toArray[l.length]?=zi o:=by simp[cj]
 refine wp_region_any hm ?_;rw[hsz];refine TA (C:=λw'=>∃n,w'=w.drewN n) (n:=l.length) (Q:=λa'=>∀w',(∃n,w'=w.drewN n)->∀K:Act->za->Prop,(∀a w,Q .normal a w->K a w)->o.wp P a' w' K Q) ?_ l.length _ a _ ⟨1,rfl⟩ ?_
 ·intro a' w' hw' hq;unfold wpOp;rw[hlen];simp only[Region.wanted,hg];exact .inl (hq w' hw' _ λ_ _ h=>h)
 ·rw[<-hsz];exact zhI hB.1.1 hB.1.2 l 0 _ a (mz.start _ _) (λj hj=>by simp[cj,List.getElem?_append_left hj]) (by simp) hB.2 h
theorem zhL(n:Nat){id:Nat}{Q:Exit->Act->za->Prop}{a:Act}{w:za}{all:List Oper}{o:Oper}(hm:P.follows .mixedOrders=true)(hB:zsB .any all.toArray n=true)(hl:all.length=n+1)(ho:all[n]?=zi o)(hg:o.guard=zh)
  (h:∀l,l=all.take n->wpQuiet P all.toArray (λw'=>∃n,w'=w.drewN n) (λa'=>∀w',(∃n,w'=w.drewN n)->∀K:Act->za->Prop,(∀a w,Q .normal a w->K a w)->o.wp P a' w' K Q) l a):(Code.region id all.toArray true).wp P Q a w:=by
 refine zhM (l:=all.take n) (o:=o) hm (by rw[List.length_take,hl,Nat.min_eq_left (by omega)];exact hB) ?_ hg (h _ rfl);apply List.ext_getElem?;intro j
 by_cases hj:j<n
 ·rw[List.getElem?_append_left (by rw[List.length_take];omega),List.getElem?_take,if_pos hj]
 ·rw[List.getElem?_append_right (by rw[List.length_take];omega),List.length_take,hl,Nat.min_eq_left (by omega)]
  by_cases e:j=n
  ·subst e;simp[ho]
  ·rw[List.getElem?_eq_none (by omega),List.getElem?_eq_none (by simp;omega)]
end
end
theorem zru{P:Program}{ops:Array Oper}{o:Oper}{a:Act}{w:za}{K:Act->za->Prop}{Q:Exit->Act->za->Prop}{E:Prop}(mb:o.guard=zh)(f:FuncId)(xs:Array Operand)(ats:Array TypeId)
  (ho:o.op=.call {callee:=.value (.func f),args:=xs,argTypes:=ats}) (args:Array zn) (Lc:(#[]++xs.map a.eval++#[]:Array zn)=args) (R:zn->za->Prop) (oq:(callFunc f args).run P w=.ok (.enter f args) w)
  (hc:Calls P f args w λe w'=>∃v,e=.returned v/\R v w') (h:∀v w',R v w'->K (a.put o.dst v) w'):
  if Region.wanted o (yielded ops a.tmps)=true then Oper.wp P o a w K Q else E:=by
 have hw:Region.wanted o (yielded ops a.tmps)=true:=by simp[Region.wanted,mb]
 rw[ae hw];obtain⟨dst,op,type,pos,after,guard⟩:=o;simp only at ho;subst ho;unfold Oper.wp;rw[execOp_call_go,Lc];rw[oq,Oper.upon_enter];refine hc.mono ?_;rintro e w' ⟨v,rfl,hR⟩;exact h v w' hR
variable {w W W' w0:za}{N go gm:Nat}{S:Nat -> Prop}{m O:Nat -> Bool}{Ns:List bO}{nv bv k l r sv:zn}
theorem zjl{P:Program}{o:Oper}{a:Act}{K:Act->za->Prop}{Q:Exit->Act->za->Prop}(f:FuncId)(xs:Array Operand)(ats:Array TypeId)
  (ho:o.op=.call {callee:=.value (.func f),args:=xs,argTypes:=ats}) (args:Array zn) (Lc:(#[]++xs.map a.eval++#[]:Array zn)=args) (R:zn->za->Prop) (oq:(callFunc f args).run P w=.ok (.enter f args) w)
  (hc:Calls P f args w λe w'=>∃v,e=.returned v/\R v w') (h:∀v w',R v w'->K (a.put o.dst v) w'):Oper.wp P o a w K Q:=by
 obtain⟨dst,op,type,pos,after,guard⟩:=o;simp only at ho;subst ho;unfold Oper.wp;rw[execOp_call_go,Lc];rw[oq,Oper.upon_enter];refine hc.mono ?_;rintro e w' ⟨v,rfl,hR⟩;exact h v w' hR
theorem znu(xs:Array zn)(w:za):(callFunc 58 xs).run prog w=.ok (.enter 58 xs) w:=by kernel_rfl
theorem zqp{i:Nat}(m:Nat->Bool)(h:i<N)(b:Bool):(BC N m).setIfInBounds i (.bool b)=BC N (λx=>if x=i then b else m x):=by
 unfold BC;apply Array.ext';apply tz;intro j;simp only[Array.toList_setIfInBounds,List.getElem?_set,vE,jK,El]
 by_cases hj:i=j
 ·subst hj;simp[h]
 ·rw[ab hj]
  by_cases hn:j<N
  ·simp[hn,Ne.symm hj]
  ·simp[hn]
theorem lz.zzi(h:lz S w W)(hb:Below W.heap.size W W'):lz S w W':=h.trans (.wT hb)
theorem gZ.ko{g:Nat}(h:gZ w g N m)(t:lz S w W)(hs:¬S g):gZ W g N m:=(t.same g (az h) hs).trans h
theorem uL.ko{v:zn}(h:uL w v Ns)(t:lz (· = go) w W)(hg:∀g n cap,v=zp (zi ⟨g,0,zh⟩) n cap->g≠go):uL W v Ns:=by
 obtain⟨hl,ao,cap,rfl,h⟩:=h;refine⟨hl,ao,cap,rfl,λh0=>?_⟩;obtain⟨g,rfl,jU,hc⟩:=h h0;exact⟨g,rfl,fR jU t.size,λi hi j u hu=>by rw[World.cell?_of_block (w:=w) (t.same g jU (hg g _ _ rfl))];exact hc i hi j u hu⟩
theorem lz.base(t:lz (· = go) w W)(hb:Below w0.heap.size w0 w)(hg:w0.heap.size<=go):Below w0.heap.size w0 W:=
 ⟨t.os.trans hb.os,t.tape.trans hb.tape,t.output.trans hb.output,cM hb.size t.size,λk hk=>(t.same k (fR hk hb.size) (by omega)).trans (hb.block k hk)⟩
structure uC(go:Nat)(w W:za)(nv bv:zn)(k l r sv:zn):Prop where
 t:lz (· = go) w W
 x0:W.heap[w.heap.size]?=zi (zw #[nv,bv] 80 (0,0))
 x1:W.heap[w.heap.size+1]?=zi (zw #[k,l,r,sv] 116 (0,0))
theorem uC.start(h:(w.alloc (zw #[nv,bv] 80)).alloc (zw #[k,l,r,sv] 116)=W):uC go w W nv bv k l r sv:=
 have h:=Bx.start h
 ⟨.wT h.bl,h.x0,h.x1⟩
theorem uC.call(h:uC go w W nv bv k l r sv)(hb:Below W.heap.size W W'):uC go w W' nv bv k l r sv:=
 ⟨h.t.zzi hb,(hb.block _ (az h.x0)).trans h.x0,(hb.block _ (az h.x1)).trans h.x1⟩
theorem uC.ko(h:uC go w W nv bv k l r sv)(hg:go<w.heap.size)(t:lz (· = go) W W'):uC go w W' nv bv k l r sv:=
 ⟨h.t.trans t,(t.same _ (az h.x0) (by omega)).trans h.x0,(t.same _ (az h.x1) (by omega)).trans h.x1⟩
structure CW(w0 w:za)(nv:zn)(Ns:List bO)(gm go N:Nat)(m O:Nat->Bool):Prop where
 nx:uL w nv Ns
 ma:gZ w gm N m
 ou:gZ w go N O
 ne:gm≠go
 nn:∀g n cap,nv=zp (zi ⟨g,0,zh⟩) n cap->g≠go
 le:Ns.length<=N
 bl:Below w0.heap.size w0 w
 hi:w0.heap.size<=go
theorem CW.call(h:CW w0 w nv Ns gm go N m O)(hb:Below w.heap.size w W):CW w0 W nv Ns gm go N m O:=
 ⟨h.nx.below hb,h.ma.below hb,h.ou.below hb,h.ne,h.nn,h.le,bi h.bl h.bl.size hb,h.hi⟩
theorem CW.ko{O':Nat->Bool}(h:CW w0 w nv Ns gm go N m O)(t:lz (· = go) w W)(ho:gZ W go N O'):CW w0 W nv Ns gm go N m O':=
 ⟨h.nx.ko t h.nn,h.ma.ko t h.ne,ho,h.ne,h.nn,h.le,t.base h.bl h.hi,h.hi⟩
def ShR(w:za)(go N:Nat)(O:Nat->Bool)(S:Nat->Bool)(e:Ending)(W:za):Prop:=e=.returned (.tuple #[])/\gZ W go N (λx=>O x || S x)/\lz (· = go) w W
def zT(w0:za)(T:GT):Prop:=∀(Ns:List bO) (n:Nat) (w:za) (nv bv:zn) (gm cm go co N c:Nat) (m O:Nat->Bool) (g:Bool),CW w0 w nv Ns gm go N m O->mC w0 Ns T n->c<256->
 Calls prog 58 #[.agg #[nv,bv],zx .i64 n,.bool g,zp (zi ⟨gm,0,zh⟩) N cm,.int .u8 c,zp (zi ⟨go,0,zh⟩) N co] w λe W=>ShR w go N O (dr m c T g) e W
theorem zsS(w0:za):zT w0 .e:=by
 intro Ns n w nv bv gm cm go co N c m O g hS hA hc;have hx:Ns[n]?=zi ⟨101,0,0,zp zh 0 0⟩:=hA;clear hA;obtain⟨g1,cap,rfl,hn,hg,c0,c1,c2,c3⟩:=hS.nx.node hx;have jF:=hS.nx.len;have hgo:go<w.heap.size:=az hS.ou;have fk:(0:Int)<=(n:Int):=by omega
 have cG:(n:Int)<(Ns.length:Int):=by omega
 obtain⟨W0,ay⟩:∃W0,(w.alloc (zw #[zp (zi ⟨g1,0,zh⟩) Ns.length cap,bv] 80)).alloc (zw #[.int .u8 101,zx .i64 0,zx .i64 0,zp zh 0 0] 116)=W0:=⟨_,rfl⟩;have bY:=uC.start (go:=go) ay;have bF:=hS.call (Bx.start ay).bl;obtain⟨p0,p1⟩:=dM bY.x0;obtain⟨q0,q1,q2,q3⟩:=eu bY.x1;have bQ:=ag ay;have iO:=ag bY;have eF:=ag bF;have HC:=ag hc;clear hx hS bF ay bY hc
 go_enter func58,ntmps58
 go_upto_region 2 with fail
 rw[bQ.out];clear bQ c0 c1 c2 c3;go_wp2;refine bw (v:=.tuple #[]) (by simp[results,results58,go_sem]) rfl ?_;refine⟨rfl,?_,iO.out.t⟩;rw[show (λx=>O x || dr m c .e g x)=O from funext λx=>Bool.or_false _];exact eF.out.ou
theorem zsV(w0:za)(p:Nat)(f:Nat->Bool):zT w0 (.s p f):=by
 intro Ns n w nv bv gm cm go co N c m O g hS hA hc;obtain⟨rfl,sv,rs,hx,hr,hf⟩:=hA;have OV:=hr;obtain⟨ao,cp,rfl,-⟩:=OV;obtain⟨g1,cap,rfl,hn,hg,c0,c1,c2,c3⟩:=hS.nx.node hx;have jF:=hS.nx.len;have hgo:go<w.heap.size:=az hS.ou;have fk:(0:Int)<=(n:Int):=by omega
 have cG:(n:Int)<(Ns.length:Int):=by omega
 obtain⟨W0,ay⟩:∃W0,(w.alloc (zw #[zp (zi ⟨g1,0,zh⟩) Ns.length cap,bv] 80)).alloc (zw #[.int .u8 115,zx .i64 0,zx .i64 0,.slice ao rs.length cp] 116)=W0:=⟨_,rfl⟩;have bY:=uC.start (go:=go) ay;have bF:=hS.call (Bx.start ay).bl;obtain⟨p0,p1⟩:=dM bY.x0;obtain⟨q0,q1,q2,q3⟩:=eu bY.x1;have hh:=zrP (.slice ao rs.length cp) rs c W0 (hr.below bF.bl) hc;have Lu:n<N:=fR hn bF.le;have pR:(n:Int)<(N:Int):=by omega
 have bQ:=ag ay;have iO:=ag bY;have eF:=ag bF;have HC:=ag hc;clear hx hS bF ay bY hc
 go_enter func58,ntmps58
 go_upto_region 2 with fail
 rw[bQ.out];clear bQ c0 c1 c2 c3;have HF:=ag hf;clear hr hf;cases g
 ·go_wp2;refine bw (v:=.tuple #[]) (by simp[results,results58,go_sem]) rfl ?_;refine⟨rfl,?_,iO.out.t⟩;rw[show (λx=>O x || dr m c (.s n f) false x)=O from funext λx=>by show (O x || ((x==n)&&(false&&f c)))=O x;simp];exact eF.out.ou
 ·go_wp2_with fail
  refine hh.mono ?_;rintro e W1 ⟨rfl,b1⟩;have eE:=ag (iO.out.call b1);have fj:=ag (eF.out.call b1);obtain⟨p0,p1⟩:=dM eE.out.x0;obtain⟨q0,q1,q2,q3⟩:=eu eE.out.x1;rw[HF.out c];clear hh;have m1:=fj.out.ou;have k1:=m1.cell n Lu;have f1:W1.frozen? ⟨go,n,zh⟩=false:=aR _ _ n _ _ m1;clear m1;cases he:f c
  ·go_wp2;refine bw (v:=.tuple #[]) (by simp[results,results58,go_sem]) rfl ?_;refine⟨rfl,?_,eE.out.t⟩;rw[show (λx=>O x || dr m c (.s n f) true x)=O from funext λx=>by show (O x || ((x==n)&&(true&&f c)))=O x;simp[he]];exact fj.out.ou
  ·go_wp2;refine bw (v:=.tuple #[]) (by simp[results,results58,go_sem]) rfl ?_;refine⟨rfl,?_,eE.out.t.grown (TS W1 go n (.bool true)) (λk e=>by cases e;exact .inl rfl)⟩;have:=dx W1 go n _ _ (.bool true) fj.out.ou;rw[zqp O Lu true]at this;rw[show (λx=>O x || dr m c (.s n f) true x)=λx=>if x=n then true else O x from funext λx=>by
    show (O x || ((x==n)&&(true&&f c)))=_
    by_cases mg:x=n
    ·subst mg;simp[he]
    ·simp[mg]]
   exact this
theorem zsT(w0:za)(a b:GT)(ha:zT w0 a)(hb:zT w0 b):zT w0 (.o a b):=by
 intro Ns n w nv bv gm cm go co N c m O g hS hA hc;obtain⟨l,r,hx,hl,hr⟩:=hA;obtain⟨g1,cap,rfl,hn,hg,c0,c1,c2,c3⟩:=hS.nx.node hx;have jF:=hS.nx.len;have hgo:go<w.heap.size:=az hS.ou;have fk:(0:Int)<=(n:Int):=by omega
 have cG:(n:Int)<(Ns.length:Int):=by omega
 obtain⟨W0,ay⟩:∃W0,(w.alloc (zw #[zp (zi ⟨g1,0,zh⟩) Ns.length cap,bv] 80)).alloc (zw #[.int .u8 111,zx .i64 l,zx .i64 r,zp zh 0 0] 116)=W0:=⟨_,rfl⟩;have bY:=uC.start (go:=go) ay;have bF:=hS.call (Bx.start ay).bl;obtain⟨p0,p1⟩:=dM bY.x0;obtain⟨q0,q1,q2,q3⟩:=eu bY.x1;have ca:=ha Ns l W0 _ bv gm cm go co N c m O g bF hl hc;have bQ:=ag ay;have iO:=ag bY;have eF:=ag bF;have HC:=ag hc;clear hx hS bF ay bY hc
 go_enter func58,ntmps58
 go_upto_region 2 with fail
 rw[bQ.out];clear bQ c0 c1 c2 c3
 go_wp2_with fail
 refine ca.mono ?_;rintro e W1 ⟨rfl,o1,t1⟩;have eE:=ag (iO.out.ko hgo t1);have fj:=ag (eF.out.ko t1 o1);obtain⟨p0,p1⟩:=dM eE.out.x0;obtain⟨q0,q1,q2,q3⟩:=eu eE.out.x1;have cb:=hb Ns r W1 _ bv gm cm go co N c m _ g fj.out hr HC.out;clear ca
 go_wp2_with fail
 refine cb.mono ?_;rintro e W2 ⟨rfl,o2,t2⟩;go_wp2;refine bw (v:=.tuple #[]) (by simp[results,results58,go_sem]) rfl ?_;refine⟨rfl,?_,(eE.out.ko hgo t2).t⟩;rw[show (λx=>O x || dr m c (.o a b) g x)=λx=>(O x || dr m c a g x) || dr m c b g x from funext λx=>by show (O x || (dr m c a g x || dr m c b g x))=_;rw[Bool.or_assoc]];exact o2
theorem zsU(w0:za)(a b:GT)(ha:zT w0 a)(hb:zT w0 b):zT w0 (.q a b):=by
 intro Ns n w nv bv gm cm go co N c m O g hS hA hc;obtain⟨l,r,hx,hl,hr⟩:=hA;obtain⟨g1,cap,rfl,hn,hg,c0,c1,c2,c3⟩:=hS.nx.node hx;have jF:=hS.nx.len;have hgo:go<w.heap.size:=az hS.ou;have fk:(0:Int)<=(n:Int):=by omega
 have cG:(n:Int)<(Ns.length:Int):=by omega
 obtain⟨W0,ay⟩:∃W0,(w.alloc (zw #[zp (zi ⟨g1,0,zh⟩) Ns.length cap,bv] 80)).alloc (zw #[.int .u8 113,zx .i64 l,zx .i64 r,zp zh 0 0] 116)=W0:=⟨_,rfl⟩;have bY:=uC.start (go:=go) ay;have bF:=hS.call (Bx.start ay).bl;obtain⟨p0,p1⟩:=dM bY.x0;obtain⟨q0,q1,q2,q3⟩:=eu bY.x1;have ca:=ha Ns l W0 _ bv gm cm go co N c m O g bF hl hc;have bQ:=ag ay;have iO:=ag bY;have eF:=ag bF;have HC:=ag hc;clear hx hS bF ay bY hc
 go_enter func58,ntmps58
 go_upto_region 2 with fail
 rw[bQ.out];clear bQ c0 c1 c2 c3;cases g
 ·go_wp2_with fail
  refine ca.mono ?_;rintro e W1 ⟨rfl,o1,t1⟩;have eE:=ag (iO.out.ko hgo t1);have fj:=ag (eF.out.ko t1 o1);obtain⟨p0,p1⟩:=dM eE.out.x0;obtain⟨q0,q1,q2,q3⟩:=eu eE.out.x1;clear ca;have cf:=DM w0 a Ns l _ _ bv gm cm N m fj.out.nx hl fj.out.ma fj.out.le
  go_wp2_with fail
  refine cf.mono ?_;rintro e W2 ⟨rfl,b2⟩;have n6:=ag (eE.out.call b2);have fS:=ag (fj.out.call b2);obtain⟨p0,p1⟩:=dM n6.out.x0;obtain⟨q0,q1,q2,q3⟩:=eu n6.out.x1;clear cf;cases hf:ii m a
  ·go_wp2_with fail
   refine(hb Ns r _ _ bv gm cm go co N c m _ _ fS.out hr HC.out).mono ?_;rintro e W9 ⟨rfl,o9,t9⟩;go_wp2;refine bw (v:=.tuple #[]) (by simp[results,results58,go_sem]) rfl ?_;refine⟨rfl,?_,(n6.out.ko hgo t9).t⟩;rw[show (λx=>O x || dr m c (.q a b) false x)=λx=>(O x || dr m c a false x) || dr m c b false x from funext λx=>by show (O x || (dr m c a false x || dr m c b ((false&&a.ga.fy) || ii m a) x))=_;rw[Bool.or_assoc];simp[hf]];exact o9
  ·go_wp2_with fail
   refine(hb Ns r _ _ bv gm cm go co N c m _ _ fS.out hr HC.out).mono ?_;rintro e W9 ⟨rfl,o9,t9⟩;go_wp2;refine bw (v:=.tuple #[]) (by simp[results,results58,go_sem]) rfl ?_;refine⟨rfl,?_,(n6.out.ko hgo t9).t⟩;rw[show (λx=>O x || dr m c (.q a b) false x)=λx=>(O x || dr m c a false x) || dr m c b true x from funext λx=>by show (O x || (dr m c a false x || dr m c b ((false&&a.ga.fy) || ii m a) x))=_;rw[Bool.or_assoc];simp[hf]];exact o9
 ·go_wp2_with fail
  refine ca.mono ?_;rintro e W1 ⟨rfl,o1,t1⟩;have eE:=ag (iO.out.ko hgo t1);have fj:=ag (eF.out.ko t1 o1);obtain⟨p0,p1⟩:=dM eE.out.x0;obtain⟨q0,q1,q2,q3⟩:=eu eE.out.x1;clear ca;have ce:=Jq w0 a Ns l _ _ bv fj.out.nx hl
  go_wp2_with fail
  refine ce.mono ?_;rintro e W2 ⟨rfl,b2⟩;have n6:=ag (eE.out.call b2);have fS:=ag (fj.out.call b2);obtain⟨p0,p1⟩:=dM n6.out.x0;obtain⟨q0,q1,q2,q3⟩:=eu n6.out.x1;clear ce;cases he:a.ga.fy
  ·skip
   have cf:=DM w0 a Ns l _ _ bv gm cm N m fS.out.nx hl fS.out.ma fS.out.le
   go_wp2_with fail
   refine cf.mono ?_;rintro e W3 ⟨rfl,b3⟩;have CD:=ag (n6.out.call b3);have tF:=ag (fS.out.call b3);obtain⟨p0,p1⟩:=dM CD.out.x0;obtain⟨q0,q1,q2,q3⟩:=eu CD.out.x1;clear cf;cases hf:ii m a
   ·go_wp2_with fail
    refine(hb Ns r _ _ bv gm cm go co N c m _ _ tF.out hr HC.out).mono ?_;rintro e W9 ⟨rfl,o9,t9⟩;go_wp2;refine bw (v:=.tuple #[]) (by simp[results,results58,go_sem]) rfl ?_;refine⟨rfl,?_,(CD.out.ko hgo t9).t⟩;rw[show (λx=>O x || dr m c (.q a b) true x)=λx=>(O x || dr m c a true x) || dr m c b false x from funext λx=>by show (O x || (dr m c a true x || dr m c b ((true&&a.ga.fy) || ii m a) x))=_;rw[Bool.or_assoc];simp[he,hf]];exact o9
   ·go_wp2_with fail
    refine(hb Ns r _ _ bv gm cm go co N c m _ _ tF.out hr HC.out).mono ?_;rintro e W9 ⟨rfl,o9,t9⟩;go_wp2;refine bw (v:=.tuple #[]) (by simp[results,results58,go_sem]) rfl ?_;refine⟨rfl,?_,(CD.out.ko hgo t9).t⟩;rw[show (λx=>O x || dr m c (.q a b) true x)=λx=>(O x || dr m c a true x) || dr m c b true x from funext λx=>by show (O x || (dr m c a true x || dr m c b ((true&&a.ga.fy) || ii m a) x))=_;rw[Bool.or_assoc];simp[he,hf]];exact o9
  ·go_wp2_with fail
   refine(hb Ns r _ _ bv gm cm go co N c m _ _ fS.out hr HC.out).mono ?_;rintro e W9 ⟨rfl,o9,t9⟩;go_wp2;refine bw (v:=.tuple #[]) (by simp[results,results58,go_sem]) rfl ?_;refine⟨rfl,?_,(n6.out.ko hgo t9).t⟩;rw[show (λx=>O x || dr m c (.q a b) true x)=λx=>(O x || dr m c a true x) || dr m c b true x from funext λx=>by show (O x || (dr m c a true x || dr m c b ((true&&a.ga.fy) || ii m a) x))=_;rw[Bool.or_assoc];simp[he]];exact o9
end Go.Proofs.Ytfajjdgkiilhfaa
