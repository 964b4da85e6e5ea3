import Derived.Test.YtfajjdgkiilhfaaGreatDoorC4
import Derived.Test.YtfajjdgkiilhfaaGreatDoorC14
import Derived.RangeFuncNested
import Derived.RangeFuncBound
import Derived.RangeFuncCalls
import Derived.RangeFuncLeaves
import Derived.Shelf.Abstract
import Derived.Shelf.RegionOpen
import Derived.WalkKit
import Derived.OwnWalkIn
import Derived.TacticsInMore
import Derived.LoopNIn
import Derived.LoopIn
import Derived.Deep.RegionHeld3
namespace Go.Proofs.YtfajjdgkiilhfaaGreatDoor
open Proofs.Tryz
open Go renaming World->za,Value->zd
open Option renaming none->zb,some->zc
open Value renaming slice->ze,int->zg
open Obj renaming cells->zf
set_option maxHeartbeats 4000000
set_option maxRecDepth 100000
open Go.RowKit
section
attribute [local go_sem] Oper.semAt_some
end
section
variable {S:Nat -> Prop}{w A B:za}
attribute [local go_sem] Oper.semAt_some
structure lA(S:Nat->Prop)(w W:za):Prop where
 os:W.os=w.os
 tape:W.tape=w.tape
 output:W.output=w.output
 size:w.heap.size<=W.heap.size
 same:∀k,k<w.heap.size->¬S k->W.heap[k]?=w.heap[k]?
theorem lA.grown{o:Option Nat}(h:lA S w A)(hg:A.grownBy B o)(hS:∀g,o=zc g->S g\/w.heap.size<=g):lA S w B:=
 ⟨hg.os.trans h.os,hg.tape.trans h.tape,hg.output.trans h.output,cY h.size hg.size,λk hk hs=>by
  refine(hg.block k (dR hk h.size) (λe=>?_)).trans (h.same k hk hs);rcases hS k e.symm with h1|h1
  ·exact hs h1
  ·omega⟩
theorem lA.trans(h:lA S w A)(k:lA S A B):lA S w B:=
 ⟨k.os.trans h.os,k.tape.trans h.tape,k.output.trans h.output,cY h.size k.size,λi hi hs=>(k.same i (dR hi h.size) hs).trans (h.same i hi hs)⟩
theorem lA.k8(h:Below w.heap.size w A):lA S w A:=⟨h.os,h.tape,h.output,h.size,λk hk _=>h.block k hk⟩
end
section
open Go
section
variable {P:Program} {ops:Array Oper} {md:Region.Mode} {C:za->Prop}
def zut(md:Region.Mode)(ops:Array Oper)(n:Nat):Bool:=
 Region.noSelect ops&&(List.range n).all (sR md ops 8 n)&&CE md ops n n 0 (Array.replicate ops.size false)
theorem zir{Q:Act->Prop}{n:Nat}(hs:Region.noSelect ops=true)(hn:∀i,i<n->sR md ops 8 n i=true):∀(l:List Oper) (k:Nat) (listed:Array Bool) (a:Act),oP md ops listed->(∀j,j<l.length->l[j]?=ops[k+j]?)->k+l.length=n->
  CE md ops n l.length k listed=true->wpQuiet P ops C Q l a->Fj P md ops C n Q l.length listed a
 |[],_,_,_,_,_,_,hB,h=>by
  simp only[List.length_nil,CE,Bool.and_eq_true,beq_iff_eq,List.isEmpty_iff]at hB;exact⟨hB.1,hB.2,h⟩
 |o::l,k,listed,a,aV,hl,kz,hB,h=>by
  have h0:ops[k]?=zc o:=by simpa using (hl 0 (by simp)).symm
  simp only[List.length_cons,CE,Bool.and_eq_true]at hB;obtain⟨⟨hr,hf⟩,B6⟩:=hB;have hst:qOp P ops C k (wpQuiet P ops C Q l) a:=by unfold qOp;simp only[h0];exact h
  obtain⟨v,hy,hK⟩:=yieldsIn_of_qOp h0 hst;simp only[List.length_cons]at kz;have dC:k∈Region.ready md ops listed:=by simpa using hr
  exact zks h0 (λL hc Cp=>zin (hn k (by omega)) L hc Cp) (Region.noSelect_spec hs) l.length listed a aV (Region.free_spec h0 hf) dC hy
   (zir hs hn l (k+1) _ _ (aV.set dC) (λj hj=>by have:=hl (j+1) (by simp;omega);simpa [Nat.add_assoc,Nat.add_comm 1 j]using this) (by omega) B6 hK)
theorem zit{id:Nat}{Q:Exit->Act->za->Prop}{a:Act}{w:za}{all l:List Oper}{o:Oper}(hm:P.follows .mixedOrders=true)(hB:zut .any all.toArray l.length=true)(bm:all=l++[o])(hg:o.guard=zb)
  (h:wpQuiet P all.toArray (λw'=>∃n,w'=w.drewN n) (λa'=>∀w',(∃n,w'=w.drewN n)->∀K:Act->za->Prop,(∀a w,Q .normal a w->K a w)->o.wp P a' w' K Q) l a):(Code.region id all.toArray true).wp P Q a w:=by
 simp only[zut,Bool.and_eq_true,List.all_eq_true,List.mem_range]at hB;have hsz:all.toArray.size=l.length+1:=by simp[bm]
 have hlen:all.toArray[l.length]?=zc o:=by simp[bm]
 refine wp_region_any hm ?_;rw[hsz];refine ZG (C:=λw'=>∃n,w'=w.drewN n) (n:=l.length) (Q:=λa'=>∀w',(∃n,w'=w.drewN n)->∀K:Act->za->Prop,(∀a w,Q .normal a w->K a w)->o.wp P a' w' K Q) ?_ l.length _ a _ ⟨1,rfl⟩ ?_
 ·intro a' w' hw' hq;unfold wpOp;rw[hlen];simp only[Region.wanted,hg];exact .inl (hq w' hw' _ λ_ _ h=>h)
 ·rw[<-hsz];exact zir hB.1.1 hB.1.2 l 0 _ a (oP.start _ _) (λj hj=>by simp[bm,List.getElem?_append_left hj]) (by simp) hB.2 h
theorem zis(n:Nat){id:Nat}{Q:Exit->Act->za->Prop}{a:Act}{w:za}{all:List Oper}{o:Oper}(hm:P.follows .mixedOrders=true)(hB:zut .any all.toArray n=true)(hl:all.length=n+1)(ho:all[n]?=zc o)(hg:o.guard=zb)
  (h:∀l,l=all.take n->wpQuiet P all.toArray (λw'=>∃n,w'=w.drewN n) (λa'=>∀w',(∃n,w'=w.drewN n)->∀K:Act->za->Prop,(∀a w,Q .normal a w->K a w)->o.wp P a' w' K Q) l a):(Code.region id all.toArray true).wp P Q a w:=by
 refine zit (l:=all.take n) (o:=o) hm (by rw[List.length_take,hl,Nat.min_eq_left (by omega)];exact hB) ?_ hg (h _ rfl);apply List.ext_getElem?;intro j
 by_cases hj:j<n
 ·rw[List.getElem?_append_left (by rw[List.length_take];omega),List.getElem?_take,if_pos hj]
 ·rw[List.getElem?_append_right (by rw[List.length_take];omega),List.length_take,hl,Nat.min_eq_left (by omega)]
  by_cases e:j=n
  ·subst e;simp[ho]
  ·rw[List.getElem?_eq_none (by omega),List.getElem?_eq_none (by simp;omega)]
end
end
theorem ztl{P:Program}{ops:Array Oper}{o:Oper}{a:Act}{w:za}{K:Act->za->Prop}{Q:Exit->Act->za->Prop}{E:Prop}(fQ:o.guard=zb)(f:FuncId)(xs:Array Operand)(ats:Array TypeId)
  (ho:o.op=.call {callee:=.value (.func f),args:=xs,argTypes:=ats}) (args:Array zd) (El:(#[]++xs.map a.eval++#[]:Array zd)=args) (R:zd->za->Prop) (iC:(callFunc f args).run P w=.ok (.enter f args) w)
  (hc:Calls P f args w λe w'=>∃v,e=.returned v/\R v w') (h:∀v w',R v w'->K (a.put o.dst v) w'):
  if Region.wanted o (yielded ops a.tmps)=true then Oper.wp P o a w K Q else E:=by
 have hw:Region.wanted o (yielded ops a.tmps)=true:=by simp[Region.wanted,fQ]
 rw[af hw];obtain⟨dst,op,type,pos,after,guard⟩:=o;simp only at ho;subst ho;unfold Oper.wp;rw[execOp_call_go,El];rw[iC,Oper.upon_enter];refine hc.mono ?_;rintro e w' ⟨v,rfl,hR⟩;exact h v w' hR
section
attribute [local go_sem ↓] wp_at_zero wp_at_succ
section
variable {w W W' w0:za}{N go gm:Nat}{S:Nat -> Prop}{m O:Nat -> Bool}{Ns:List bB}{nv bv k l r sv:zd}
theorem zj7{P:Program}{o:Oper}{a:Act}{K:Act->za->Prop}{Q:Exit->Act->za->Prop}(f:FuncId)(xs:Array Operand)(ats:Array TypeId)
  (ho:o.op=.call {callee:=.value (.func f),args:=xs,argTypes:=ats}) (args:Array zd) (El:(#[]++xs.map a.eval++#[]:Array zd)=args) (R:zd->za->Prop) (iC:(callFunc f args).run P w=.ok (.enter f args) w)
  (hc:Calls P f args w λe w'=>∃v,e=.returned v/\R v w') (h:∀v w',R v w'->K (a.put o.dst v) w'):Oper.wp P o a w K Q:=by
 obtain⟨dst,op,type,pos,after,guard⟩:=o;simp only at ho;subst ho;unfold Oper.wp;rw[execOp_call_go,El];rw[iC,Oper.upon_enter];refine hc.mono ?_;rintro e w' ⟨v,rfl,hR⟩;exact h v w' hR
theorem zoM(xs:Array zd)(w:za):(callFunc 72 xs).run prog w=.ok (.enter 72 xs) w:=by kernel_rfl
theorem zsd{i:Nat}(m:Nat->Bool)(h:i<N)(b:Bool):(AD N m).setIfInBounds i (.bool b)=AD N (λx=>if x=i then b else m x):=by
 unfold AD;apply Array.ext';apply List.ext_getElem?;intro j;simp only[Array.toList_setIfInBounds,List.getElem?_set,wV,lX,IJ]
 by_cases hj:i=j
 ·subst hj;simp[h]
 ·rw[ab hj]
  by_cases hn:j<N
  ·simp[hn,Ne.symm hj]
  ·simp[hn]
theorem lA.zAC(h:lA S w W)(hb:Below W.heap.size W W'):lA S w W':=h.trans (.k8 hb)
theorem gZ.lS{g:Nat}(h:gZ w g N m)(t:lA S w W)(hs:¬S g):gZ W g N m:=(t.same g (ay h) hs).trans h
theorem uy.lS{v:zd}(h:uy w v Ns)(t:lA (· = go) w W)(hg:∀g n cap,v=ze (zc ⟨g,0,zb⟩) n cap->g≠go):uy W v Ns:=by
 obtain⟨hl,ao,cap,rfl,h⟩:=h;refine⟨hl,ao,cap,rfl,λh0=>?_⟩;obtain⟨g,rfl,iK,hc⟩:=h h0;exact⟨g,rfl,dR iK t.size,λi hi j u hu=>by rw[World.cell?_of_block (w:=w) (t.same g iK (hg g _ _ rfl))];exact hc i hi j u hu⟩
theorem lA.base(t:lA (· = go) w W)(hb:Below w0.heap.size w0 w)(hg:w0.heap.size<=go):Below w0.heap.size w0 W:=
 ⟨t.os.trans hb.os,t.tape.trans hb.tape,t.output.trans hb.output,cY hb.size t.size,λk hk=>(t.same k (dR hk hb.size) (by omega)).trans (hb.block k hk)⟩
structure uk(go:Nat)(w W:za)(nv bv:zd)(k l r sv:zd):Prop where
 t:lA (· = go) w W
 x0:W.heap[w.heap.size]?=zc (zf #[nv,bv] 89 (0,0))
 x1:W.heap[w.heap.size+1]?=zc (zf #[k,l,r,sv] 124 (0,0))
theorem uk.start(h:(w.alloc (zf #[nv,bv] 89)).alloc (zf #[k,l,r,sv] 124)=W):uk go w W nv bv k l r sv:=
 have h:=Bx.start h
 ⟨.k8 h.bl,h.x0,h.x1⟩
theorem uk.call(h:uk go w W nv bv k l r sv)(hb:Below W.heap.size W W'):uk go w W' nv bv k l r sv:=
 ⟨h.t.zAC hb,(hb.block _ (ay h.x0)).trans h.x0,(hb.block _ (ay h.x1)).trans h.x1⟩
theorem uk.lS(h:uk go w W nv bv k l r sv)(hg:go<w.heap.size)(t:lA (· = go) W W'):uk go w W' nv bv k l r sv:=
 ⟨h.t.trans t,(t.same _ (ay h.x0) (by omega)).trans h.x0,(t.same _ (ay h.x1) (by omega)).trans h.x1⟩
structure BP(w0 w:za)(nv:zd)(Ns:List bB)(gm go N:Nat)(m O:Nat->Bool):Prop where
 nx:uy w nv Ns
 ma:gZ w gm N m
 ou:gZ w go N O
 ne:gm≠go
 nn:∀g n cap,nv=ze (zc ⟨g,0,zb⟩) n cap->g≠go
 le:Ns.length<=N
 bl:Below w0.heap.size w0 w
 hi:w0.heap.size<=go
theorem BP.call(h:BP w0 w nv Ns gm go N m O)(hb:Below w.heap.size w W):BP w0 W nv Ns gm go N m O:=
 ⟨h.nx.below hb,h.ma.below hb,h.ou.below hb,h.ne,h.nn,h.le,aH h.bl h.bl.size hb,h.hi⟩
theorem BP.lS{O':Nat->Bool}(h:BP w0 w nv Ns gm go N m O)(t:lA (· = go) w W)(ho:gZ W go N O'):BP w0 W nv Ns gm go N m O':=
 ⟨h.nx.lS t h.nn,h.ma.lS t h.ne,ho,h.ne,h.nn,h.le,t.base h.bl h.hi,h.hi⟩
def ShR(w:za)(go N:Nat)(O:Nat->Bool)(S:Nat->Bool)(e:Ending)(W:za):Prop:=e=.returned (.tuple #[])/\gZ W go N (λx=>O x || S x)/\lA (· = go) w W
def yT(w0:za)(T:GT):Prop:=∀(Ns:List bB) (n:Nat) (w:za) (nv bv:zd) (gm cm go co N c:Nat) (m O:Nat->Bool) (g:Bool),BP w0 w nv Ns gm go N m O->mB w0 Ns T n->c<256->
 Calls prog 72 #[.agg #[nv,bv],zg .i64 n,.bool g,ze (zc ⟨gm,0,zb⟩) N cm,.int .u8 c,ze (zc ⟨go,0,zb⟩) N co] w λe W=>ShR w go N O (dF m c T g) e W
theorem zuM(w0:za):yT w0 .e:=by
 intro Ns n w nv bv gm cm go co N c m O g hS hA hc;have hx:Ns[n]?=zc ⟨101,0,0,ze zb 0 0⟩:=hA;clear hA;obtain⟨g1,cap,rfl,hn,hg,c0,c1,c2,c3⟩:=hS.nx.node hx;have jo:=hS.nx.len;have hgo:go<w.heap.size:=ay hS.ou;have eC:(0:Int)<=(n:Int):=by omega
 have dg:(n:Int)<(Ns.length:Int):=by omega
 obtain⟨W0,aw⟩:∃W0,(w.alloc (zf #[ze (zc ⟨g1,0,zb⟩) Ns.length cap,bv] 89)).alloc (zf #[.int .u8 101,zg .i64 0,zg .i64 0,ze zb 0 0] 124)=W0:=⟨_,rfl⟩;have bS:=uk.start (go:=go) aw;have bi:=hS.call (Bx.start aw).bl;obtain⟨p0,p1⟩:=dV bS.x0;obtain⟨q0,q1,q2,q3⟩:=eG bS.x1;have bD:=ag aw;have gX:=ag bS;have eJ:=ag bi;have HC:=ag hc;clear hx hS bi aw bS hc
 go_enter func72,ntmps72
 go_upto_region 2 with fail
 rw[bD.out];clear bD c0 c1 c2 c3;go_wp2;refine aW (v:=.tuple #[]) (by simp[results,results72,go_sem]) rfl ?_;refine⟨rfl,?_,gX.out.t⟩;rw[show (λx=>O x || dF m c .e g x)=O from funext λx=>Bool.or_false _];exact eJ.out.ou
theorem zuP(w0:za)(p:Nat)(f:Nat->Bool):yT w0 (.s p f):=by
 intro Ns n w nv bv gm cm go co N c m O g hS hA hc;obtain⟨rfl,sv,rs,hx,hr,hf⟩:=hA;have NN:=hr;obtain⟨ao,cp,rfl,-⟩:=NN;obtain⟨g1,cap,rfl,hn,hg,c0,c1,c2,c3⟩:=hS.nx.node hx;have jo:=hS.nx.len;have hgo:go<w.heap.size:=ay hS.ou;have eC:(0:Int)<=(n:Int):=by omega
 have dg:(n:Int)<(Ns.length:Int):=by omega
 obtain⟨W0,aw⟩:∃W0,(w.alloc (zf #[ze (zc ⟨g1,0,zb⟩) Ns.length cap,bv] 89)).alloc (zf #[.int .u8 115,zg .i64 0,zg .i64 0,.slice ao rs.length cp] 124)=W0:=⟨_,rfl⟩;have bS:=uk.start (go:=go) aw;have bi:=hS.call (Bx.start aw).bl;obtain⟨p0,p1⟩:=dV bS.x0;obtain⟨q0,q1,q2,q3⟩:=eG bS.x1;have hh:=ztF (.slice ao rs.length cp) rs c W0 (hr.below bi.bl) hc;have Kc:n<N:=dR hn bi.le;have se:(n:Int)<(N:Int):=by omega
 have bD:=ag aw;have gX:=ag bS;have eJ:=ag bi;have HC:=ag hc;clear hx hS bi aw bS hc
 go_enter func72,ntmps72
 go_upto_region 2 with fail
 rw[bD.out];clear bD c0 c1 c2 c3;have HF:=ag hf;clear hr hf;cases g
 ·go_wp2;refine aW (v:=.tuple #[]) (by simp[results,results72,go_sem]) rfl ?_;refine⟨rfl,?_,gX.out.t⟩;rw[show (λx=>O x || dF m c (.s n f) false x)=O from funext λx=>by show (O x || ((x==n)&&(false&&f c)))=O x;simp];exact eJ.out.ou
 ·go_wp2_with fail
  refine hh.mono ?_;rintro e W1 ⟨rfl,b1⟩;have gq:=ag (gX.out.call b1);have gL:=ag (eJ.out.call b1);obtain⟨p0,p1⟩:=dV gq.out.x0;obtain⟨q0,q1,q2,q3⟩:=eG gq.out.x1;rw[HF.out c];clear hh;have m1:=gL.out.ou;have k1:=m1.cell n Kc;have f1:W1.frozen? ⟨go,n,zb⟩=false:=aM _ _ n _ _ m1;clear m1;cases he:f c
  ·go_wp2;refine aW (v:=.tuple #[]) (by simp[results,results72,go_sem]) rfl ?_;refine⟨rfl,?_,gq.out.t⟩;rw[show (λx=>O x || dF m c (.s n f) true x)=O from funext λx=>by show (O x || ((x==n)&&(true&&f c)))=O x;simp[he]];exact gL.out.ou
  ·go_wp2;refine aW (v:=.tuple #[]) (by simp[results,results72,go_sem]) rfl ?_;refine⟨rfl,?_,gq.out.t.grown (TB W1 go n (.bool true)) (λk e=>by cases e;exact .inl rfl)⟩;have:=cJ W1 go n _ _ (.bool true) gL.out.ou;rw[zsd O Kc true]at this;rw[show (λx=>O x || dF m c (.s n f) true x)=λx=>if x=n then true else O x from funext λx=>by
    show (O x || ((x==n)&&(true&&f c)))=_
    by_cases xW:x=n
    ·subst xW;simp[he]
    ·simp[xW]]
   exact this
theorem zuN(w0:za)(a b:GT)(ha:yT w0 a)(hb:yT w0 b):yT w0 (.o a b):=by
 intro Ns n w nv bv gm cm go co N c m O g hS hA hc;obtain⟨l,r,hx,hl,hr⟩:=hA;obtain⟨g1,cap,rfl,hn,hg,c0,c1,c2,c3⟩:=hS.nx.node hx;have jo:=hS.nx.len;have hgo:go<w.heap.size:=ay hS.ou;have eC:(0:Int)<=(n:Int):=by omega
 have dg:(n:Int)<(Ns.length:Int):=by omega
 obtain⟨W0,aw⟩:∃W0,(w.alloc (zf #[ze (zc ⟨g1,0,zb⟩) Ns.length cap,bv] 89)).alloc (zf #[.int .u8 111,zg .i64 l,zg .i64 r,ze zb 0 0] 124)=W0:=⟨_,rfl⟩;have bS:=uk.start (go:=go) aw;have bi:=hS.call (Bx.start aw).bl;obtain⟨p0,p1⟩:=dV bS.x0;obtain⟨q0,q1,q2,q3⟩:=eG bS.x1;have ca:=ha Ns l W0 _ bv gm cm go co N c m O g bi hl hc;have bD:=ag aw;have gX:=ag bS;have eJ:=ag bi;have HC:=ag hc;clear hx hS bi aw bS hc
 go_enter func72,ntmps72
 go_upto_region 2 with fail
 rw[bD.out];clear bD c0 c1 c2 c3
 go_wp2_with fail
 refine ca.mono ?_;rintro e W1 ⟨rfl,o1,t1⟩;have gq:=ag (gX.out.lS hgo t1);have gL:=ag (eJ.out.lS t1 o1);obtain⟨p0,p1⟩:=dV gq.out.x0;obtain⟨q0,q1,q2,q3⟩:=eG gq.out.x1;have cb:=hb Ns r W1 _ bv gm cm go co N c m _ g gL.out hr HC.out;clear ca
 go_wp2_with fail
 refine cb.mono ?_;rintro e W2 ⟨rfl,o2,t2⟩;go_wp2;refine aW (v:=.tuple #[]) (by simp[results,results72,go_sem]) rfl ?_;refine⟨rfl,?_,(gq.out.lS hgo t2).t⟩;rw[show (λx=>O x || dF m c (.o a b) g x)=λx=>(O x || dF m c a g x) || dF m c b g x from funext λx=>by show (O x || (dF m c a g x || dF m c b g x))=_;rw[Bool.or_assoc]];exact o2
theorem zuO(w0:za)(a b:GT)(ha:yT w0 a)(hb:yT w0 b):yT w0 (.q a b):=by
 intro Ns n w nv bv gm cm go co N c m O g hS hA hc;obtain⟨l,r,hx,hl,hr⟩:=hA;obtain⟨g1,cap,rfl,hn,hg,c0,c1,c2,c3⟩:=hS.nx.node hx;have jo:=hS.nx.len;have hgo:go<w.heap.size:=ay hS.ou;have eC:(0:Int)<=(n:Int):=by omega
 have dg:(n:Int)<(Ns.length:Int):=by omega
 obtain⟨W0,aw⟩:∃W0,(w.alloc (zf #[ze (zc ⟨g1,0,zb⟩) Ns.length cap,bv] 89)).alloc (zf #[.int .u8 113,zg .i64 l,zg .i64 r,ze zb 0 0] 124)=W0:=⟨_,rfl⟩;have bS:=uk.start (go:=go) aw;have bi:=hS.call (Bx.start aw).bl;obtain⟨p0,p1⟩:=dV bS.x0;obtain⟨q0,q1,q2,q3⟩:=eG bS.x1;have ca:=ha Ns l W0 _ bv gm cm go co N c m O g bi hl hc;have bD:=ag aw;have gX:=ag bS;have eJ:=ag bi;have HC:=ag hc;clear hx hS bi aw bS hc
 go_enter func72,ntmps72
 go_upto_region 2 with fail
 rw[bD.out];clear bD c0 c1 c2 c3;cases g
 ·go_wp2_with fail
  refine ca.mono ?_;rintro e W1 ⟨rfl,o1,t1⟩;have gq:=ag (gX.out.lS hgo t1);have gL:=ag (eJ.out.lS t1 o1);obtain⟨p0,p1⟩:=dV gq.out.x0;obtain⟨q0,q1,q2,q3⟩:=eG gq.out.x1;clear ca;have cf:=CQ w0 a Ns l _ _ bv gm cm N m gL.out.nx hl gL.out.ma gL.out.le
  go_wp2_with fail
  refine cf.mono ?_;rintro e W2 ⟨rfl,b2⟩;have jB:=ag (gq.out.call b2);have gY:=ag (gL.out.call b2);obtain⟨p0,p1⟩:=dV jB.out.x0;obtain⟨q0,q1,q2,q3⟩:=eG jB.out.x1;clear cf;cases hf:ig m a
  ·go_wp2_with fail
   refine(hb Ns r _ _ bv gm cm go co N c m _ _ gY.out hr HC.out).mono ?_;rintro e W9 ⟨rfl,o9,t9⟩;go_wp2;refine aW (v:=.tuple #[]) (by simp[results,results72,go_sem]) rfl ?_;refine⟨rfl,?_,(jB.out.lS hgo t9).t⟩;rw[show (λx=>O x || dF m c (.q a b) false x)=λx=>(O x || dF m c a false x) || dF m c b false x from funext λx=>by show (O x || (dF m c a false x || dF m c b ((false&&a.ga.fC) || ig m a) x))=_;rw[Bool.or_assoc];simp[hf]];exact o9
  ·go_wp2_with fail
   refine(hb Ns r _ _ bv gm cm go co N c m _ _ gY.out hr HC.out).mono ?_;rintro e W9 ⟨rfl,o9,t9⟩;go_wp2;refine aW (v:=.tuple #[]) (by simp[results,results72,go_sem]) rfl ?_;refine⟨rfl,?_,(jB.out.lS hgo t9).t⟩;rw[show (λx=>O x || dF m c (.q a b) false x)=λx=>(O x || dF m c a false x) || dF m c b true x from funext λx=>by show (O x || (dF m c a false x || dF m c b ((false&&a.ga.fC) || ig m a) x))=_;rw[Bool.or_assoc];simp[hf]];exact o9
 ·go_wp2_with fail
  refine ca.mono ?_;rintro e W1 ⟨rfl,o1,t1⟩;have gq:=ag (gX.out.lS hgo t1);have gL:=ag (eJ.out.lS t1 o1);obtain⟨p0,p1⟩:=dV gq.out.x0;obtain⟨q0,q1,q2,q3⟩:=eG gq.out.x1;clear ca;have ce:=Ih w0 a Ns l _ _ bv gL.out.nx hl
  go_wp2_with fail
  refine ce.mono ?_;rintro e W2 ⟨rfl,b2⟩;have jB:=ag (gq.out.call b2);have gY:=ag (gL.out.call b2);obtain⟨p0,p1⟩:=dV jB.out.x0;obtain⟨q0,q1,q2,q3⟩:=eG jB.out.x1;clear ce;cases he:a.ga.fC
  ·skip
   have cf:=CQ w0 a Ns l _ _ bv gm cm N m gY.out.nx hl gY.out.ma gY.out.le
   go_wp2_with fail
   refine cf.mono ?_;rintro e W3 ⟨rfl,b3⟩;have yI:=ag (jB.out.call b3);have BF:=ag (gY.out.call b3);obtain⟨p0,p1⟩:=dV yI.out.x0;obtain⟨q0,q1,q2,q3⟩:=eG yI.out.x1;clear cf;cases hf:ig m a
   ·go_wp2_with fail
    refine(hb Ns r _ _ bv gm cm go co N c m _ _ BF.out hr HC.out).mono ?_;rintro e W9 ⟨rfl,o9,t9⟩;go_wp2;refine aW (v:=.tuple #[]) (by simp[results,results72,go_sem]) rfl ?_;refine⟨rfl,?_,(yI.out.lS hgo t9).t⟩;rw[show (λx=>O x || dF m c (.q a b) true x)=λx=>(O x || dF m c a true x) || dF m c b false x from funext λx=>by show (O x || (dF m c a true x || dF m c b ((true&&a.ga.fC) || ig m a) x))=_;rw[Bool.or_assoc];simp[he,hf]];exact o9
   ·go_wp2_with fail
    refine(hb Ns r _ _ bv gm cm go co N c m _ _ BF.out hr HC.out).mono ?_;rintro e W9 ⟨rfl,o9,t9⟩;go_wp2;refine aW (v:=.tuple #[]) (by simp[results,results72,go_sem]) rfl ?_;refine⟨rfl,?_,(yI.out.lS hgo t9).t⟩;rw[show (λx=>O x || dF m c (.q a b) true x)=λx=>(O x || dF m c a true x) || dF m c b true x from funext λx=>by show (O x || (dF m c a true x || dF m c b ((true&&a.ga.fC) || ig m a) x))=_;rw[Bool.or_assoc];simp[he,hf]];exact o9
  ·go_wp2_with fail
   refine(hb Ns r _ _ bv gm cm go co N c m _ _ gY.out hr HC.out).mono ?_;rintro e W9 ⟨rfl,o9,t9⟩;go_wp2;refine aW (v:=.tuple #[]) (by simp[results,results72,go_sem]) rfl ?_;refine⟨rfl,?_,(jB.out.lS hgo t9).t⟩;rw[show (λx=>O x || dF m c (.q a b) true x)=λx=>(O x || dF m c a true x) || dF m c b true x from funext λx=>by show (O x || (dF m c a true x || dF m c b ((true&&a.ga.fC) || ig m a) x))=_;rw[Bool.or_assoc];simp[he]];exact o9
end
end
end Go.Proofs.YtfajjdgkiilhfaaGreatDoor
