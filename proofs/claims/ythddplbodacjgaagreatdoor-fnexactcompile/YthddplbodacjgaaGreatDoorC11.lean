import Derived.Test.YthddplbodacjgaaGreatDoorC10
import Derived.Deep.RegionHeld3
namespace Go.Proofs.YthddplbodacjgaaGreatDoor
set_option maxHeartbeats 4000000
set_option maxRecDepth 100000
section
open Go
section
variable {P:Program} {ops:Array Oper} {md:Region.Mode} {C:World->Prop}
def zsn(md:Region.Mode)(ops:Array Oper)(n:Nat):Bool:=
 Region.noSelect ops&&(List.range n).all (zev md ops 8 n)&&lexL md ops n n 0 (Array.replicate ops.size false)
theorem zhp{Q:Act->Prop}{n:Nat}(hs:Region.noSelect ops=true)(hn:∀i,i<n->zev md ops 8 n i=true):∀(l:List Oper) (k:Nat) (listed:Array Bool) (a:Act),zby md ops listed->(∀j,j<l.length->l[j]?=ops[k+j]?)->k+l.length=n->
  lexL md ops n l.length k listed=true->wpQuiet P ops C Q l a->zfo P md ops C n Q l.length listed a
 |[],_,_,_,_,_,_,hB,h=>by
  simp only[List.length_nil,lexL,Bool.and_eq_true,beq_iff_eq,List.isEmpty_iff] at hB;exact⟨hB.1,hB.2,h⟩
 |o::l,k,listed,a,hcl,hl,hkn,hB,h=>by
  have h0:ops[k]?=some o:=by simpa using (hl 0 (by simp)).symm
  simp only[List.length_cons,lexL,Bool.and_eq_true] at hB;obtain⟨⟨hr,hf⟩,hB'⟩:=hB;have hst:qOp P ops C k (wpQuiet P ops C Q l) a:=by unfold qOp;simp only[h0];exact h
  obtain⟨v,hy,hK⟩:=yieldsIn_of_qOp h0 hst;simp only[List.length_cons] at hkn;have hr':k∈Region.ready md ops listed:=by simpa using hr
  exact zfp h0 (fun L hc hn'=>zhj (hn k (by omega)) L hc hn') (Region.noSelect_spec hs) l.length listed a hcl (Region.free_spec h0 hf) hr' hy
   (zhp hs hn l (k+1) _ _ (hcl.set hr') (fun j hj=>by have:=hl (j+1) (by simp;omega);simpa [Nat.add_assoc,Nat.add_comm 1 j] using this) (by omega) hB' hK)
theorem zht{id:Nat}{Q:Exit->Act->World->Prop}{a:Act}{w:World}{all l:List Oper}{o:Oper}(hm:P.follows .mixedOrders=true)(hB:zsn .any all.toArray l.length=true)(hall:all=l++[o])(hg:o.guard=none)
  (h:wpQuiet P all.toArray (fun w'=>∃n,w'=w.drewN n) (fun a'=>∀w',(∃n,w'=w.drewN n)->∀K:Act->World->Prop,(∀a w,Q .normal a w->K a w)->o.wp P a' w' K Q) l a):(Code.region id all.toArray true).wp P Q a w:=by
 simp only[zsn,Bool.and_eq_true,List.all_eq_true,List.mem_range] at hB;have hsz:all.toArray.size=l.length+1:=by simp[hall]
 have hlen:all.toArray[l.length]?=some o:=by simp[hall]
 refine wp_region_any hm ?_;rw[hsz];refine zc4 (C:=fun w'=>∃n,w'=w.drewN n) (n:=l.length) (Q:=fun a'=>∀w',(∃n,w'=w.drewN n)->∀K:Act->World->Prop,(∀a w,Q .normal a w->K a w)->o.wp P a' w' K Q) ?_ l.length _ a _ ⟨1,rfl⟩ ?_
 ·intro a' w' hw' hq;unfold wpOp;rw[hlen];simp only[Region.wanted,hg];exact .inl (hq w' hw' _ fun _ _ h=>h)
 ·rw[<-hsz];exact zhp hB.1.1 hB.1.2 l 0 _ a (zby.start _ _) (fun j hj=>by simp[hall,List.getElem?_append_left hj]) (by simp) hB.2 h
theorem zhs(n:Nat){id:Nat}{Q:Exit->Act->World->Prop}{a:Act}{w:World}{all:List Oper}{o:Oper}(hm:P.follows .mixedOrders=true)(hB:zsn .any all.toArray n=true)(hl:all.length=n+1)(ho:all[n]?=some o)(hg:o.guard=none)
  (h:∀l,l=all.take n->wpQuiet P all.toArray (fun w'=>∃n,w'=w.drewN n) (fun a'=>∀w',(∃n,w'=w.drewN n)->∀K:Act->World->Prop,(∀a w,Q .normal a w->K a w)->o.wp P a' w' K Q) l a):(Code.region id all.toArray true).wp P Q a w:=by
 refine zht (l:=all.take n) (o:=o) hm (by rw[List.length_take,hl,Nat.min_eq_left (by omega)];exact hB) ?_ hg (h _ rfl);apply List.ext_getElem?;intro j
 by_cases hj:j<n
 ·rw[List.getElem?_append_left (by rw[List.length_take];omega),List.getElem?_take,if_pos hj]
 ·rw[List.getElem?_append_right (by rw[List.length_take];omega),List.length_take,hl,Nat.min_eq_left (by omega)]
  by_cases e:j=n
  ·subst e;simp[ho]
  ·rw[List.getElem?_eq_none (by omega),List.getElem?_eq_none (by simp;omega)]
end
end
section
open Go.RowKit
theorem zfg{P:Program}{ops:Array Oper}{o:Oper}{a:Act}{w:World}{K:Act->World->Prop}{Q:Exit->Act->World->Prop}{E:Prop}(hgd:o.guard=none)(f:FuncId)(xs:Array Operand)(ats:Array TypeId)
  (ho:o.op=.call {callee:=.value (.func f),args:=xs,argTypes:=ats}) (args:Array Value) (hargs:(#[]++xs.map a.eval++#[]:Array Value)=args) (R:Value->World->Prop) (hen:(callFunc f args).run P w=.ok (.enter f args) w)
  (hc:Calls P f args w fun e w'=>∃v,e=.returned v/\R v w') (h:∀v w',R v w'->K (a.put o.dst v) w'):
  if Region.wanted o (yielded ops a.tmps)=true then Oper.wp P o a w K Q else E:=by
 have hw:Region.wanted o (yielded ops a.tmps)=true:=by simp[Region.wanted,hgd]
 rw[zuV hw];obtain⟨dst,op,type,pos,after,guard⟩:=o;simp only at ho;subst ho;unfold Oper.wp;rw[execOp_call_go,hargs];rw[hen,Oper.upon_enter];refine hc.mono ?_;rintro e w' ⟨v,rfl,hR⟩;exact h v w' hR
end
variable {w W W' w0:World}{N go gm:Nat}{S:Nat -> Prop}{m O:Nat -> Bool}{Ns:List NdX}{nv bv k l r sv:Value}
open Go.RowKit
attribute [local go_sem ↓] Go.wp_at_zero Go.wp_at_succ
theorem ziL{P:Program}{o:Oper}{a:Act}{K:Act->World->Prop}{Q:Exit->Act->World->Prop}(f:FuncId)(xs:Array Operand)(ats:Array TypeId)
  (ho:o.op=.call {callee:=.value (.func f),args:=xs,argTypes:=ats}) (args:Array Value) (hargs:(#[]++xs.map a.eval++#[]:Array Value)=args) (R:Value->World->Prop) (hen:(callFunc f args).run P w=.ok (.enter f args) w)
  (hc:Calls P f args w fun e w'=>∃v,e=.returned v/\R v w') (h:∀v w',R v w'->K (a.put o.dst v) w'):Oper.wp P o a w K Q:=by
 obtain⟨dst,op,type,pos,after,guard⟩:=o;simp only at ho;subst ho;unfold Oper.wp;rw[execOp_call_go,hargs];rw[hen,Oper.upon_enter];refine hc.mono ?_;rintro e w' ⟨v,rfl,hR⟩;exact h v w' hR
theorem zmR(xs:Array Value)(w:World):(callFunc 40 xs).run Tryz.prog w=.ok (.enter 40 xs) w:=by kernel_rfl
theorem zqo{i:Nat}(m:Nat->Bool)(h:i<N)(b:Bool):(bRow N m).setIfInBounds i (.bool b)=bRow N (fun x=>if x=i then b else m x):=by
 unfold bRow;apply Array.ext';apply ztL;intro j;simp only[Array.toList_setIfInBounds,ztX,ztW,zt3,zt5]
 by_cases hj:i=j
 ·subst hj;simp[h]
 ·rw[zuU hj]
  by_cases hn:j<N
  ·simp[hn,Ne.symm hj]
  ·simp[hn]
theorem zaM.belowT(h:zaM S w W)(hb:Below W.heap.size W W'):zaM S w W':=h.trans (.of_below hb)
theorem Mks.touch{g:Nat}(h:Mks w g N m)(t:zaM S w W)(hs:¬S g):Mks W g N m:=(t.same g (zae h) hs).trans h
theorem NxAt.touch{v:Value}(h:NxAt w v Ns)(t:zaM (·= go) w W)(hg:∀g n cap,v=.slice (some ⟨g,0,none⟩) n cap->g≠go):NxAt W v Ns:=by
 obtain⟨hl,ao,cap,rfl,h⟩:=h;refine⟨hl,ao,cap,rfl,fun h0=>?_⟩;obtain⟨g,rfl,hgl,hc⟩:=h h0;exact⟨g,rfl,zuB hgl t.size,fun i hi j u hu=>by rw[World.cell?_of_block (w:=w) (t.same g hgl (hg g _ _ rfl))];exact hc i hi j u hu⟩
theorem zaM.base(t:zaM (·= go) w W)(hb:Below w0.heap.size w0 w)(hg:w0.heap.size<=go):Below w0.heap.size w0 W:=
 ⟨t.os.trans hb.os,t.tape.trans hb.tape,t.output.trans hb.output,zuA hb.size t.size,fun k hk=>(t.same k (zuB hk hb.size) (by omega)).trans (hb.block k hk)⟩
structure BxT(go:Nat)(w W:World)(nv bv:Value)(k l r sv:Value):Prop where
 t:zaM (·= go) w W
 x0:W.heap[w.heap.size]?=some (.cells #[nv,bv] 45 (0,0))
 x1:W.heap[w.heap.size+1]?=some (.cells #[k,l,r,sv] 85 (0,0))
theorem BxT.start(h:(w.alloc (.cells #[nv,bv] 45)).alloc (.cells #[k,l,r,sv] 85)=W):BxT go w W nv bv k l r sv:=
 have h:=Bx.start h
 ⟨.of_below h.bl,h.x0,h.x1⟩
theorem BxT.call(h:BxT go w W nv bv k l r sv)(hb:Below W.heap.size W W'):BxT go w W' nv bv k l r sv:=
 ⟨h.t.belowT hb,(hb.block _ (zae h.x0)).trans h.x0,(hb.block _ (zae h.x1)).trans h.x1⟩
theorem BxT.touch(h:BxT go w W nv bv k l r sv)(hg:go<w.heap.size)(t:zaM (·= go) W W'):BxT go w W' nv bv k l r sv:=
 ⟨h.t.trans t,(t.same _ (zae h.x0) (by omega)).trans h.x0,(t.same _ (zae h.x1) (by omega)).trans h.x1⟩
structure ShA(w0 w:World)(nv:Value)(Ns:List NdX)(gm go N:Nat)(m O:Nat->Bool):Prop where
 nx:NxAt w nv Ns
 ma:Mks w gm N m
 ou:Mks w go N O
 ne:gm≠go
 nn:∀g n cap,nv=.slice (some ⟨g,0,none⟩) n cap->g≠go
 le:Ns.length<=N
 bl:Below w0.heap.size w0 w
 hi:w0.heap.size<=go
theorem ShA.call(h:ShA w0 w nv Ns gm go N m O)(hb:Below w.heap.size w W):ShA w0 W nv Ns gm go N m O:=
 ⟨h.nx.below hb,h.ma.below hb,h.ou.below hb,h.ne,h.nn,h.le,zaa h.bl h.bl.size hb,h.hi⟩
theorem ShA.touch{O':Nat->Bool}(h:ShA w0 w nv Ns gm go N m O)(t:zaM (·= go) w W)(ho:Mks W go N O'):ShA w0 W nv Ns gm go N m O':=
 ⟨h.nx.touch t h.nn,h.ma.touch t h.ne,ho,h.ne,h.nn,h.le,t.base h.bl h.hi,h.hi⟩
def ShR(w:World)(go N:Nat)(O:Nat->Bool)(S:Nat->Bool)(e:Ending)(W:World):Prop:=e=.returned (.tuple #[])/\Mks W go N (fun x=>O x || S x)/\zaM (·= go) w W
def ShC(w0:World)(T:GT):Prop:=∀(Ns:List NdX) (n:Nat) (w:World) (nv bv:Value) (gm cm go co N c:Nat) (m O:Nat->Bool) (g:Bool),ShA w0 w nv Ns gm go N m O->AtN w0 Ns T n->c<256->
 Calls Tryz.prog 40 #[.agg #[nv,bv],.int .i64 n,.bool g,.slice (some ⟨gm,0,none⟩) N cm,.int .u8 c,.slice (some ⟨go,0,none⟩) N co] w fun e W=>ShR w go N O (shB m c T g) e W
theorem zsB(w0:World):ShC w0 .e:=by
 intro Ns n w nv bv gm cm go co N c m O g hS hA hc;have hx:Ns[n]?=some ⟨101,0,0,.slice none 0 0⟩:=hA;clear hA;obtain⟨g1,cap,rfl,hn,hg,c0,c1,c2,c3⟩:=hS.nx.node hx;have hln:=hS.nx.len;have hgo:go<w.heap.size:=zae hS.ou;have hi0:(0:Int)<=(n:Int):=by omega
 have hi1:(n:Int)<(Ns.length:Int):=by omega
 obtain⟨W0,hW0⟩:∃W0,(w.alloc (.cells #[.slice (some ⟨g1,0,none⟩) Ns.length cap,bv] 45)).alloc (.cells #[.int .u8 101,.int .i64 0,.int .i64 0,.slice none 0 0] 85)=W0:=⟨_,rfl⟩;have hB0:=BxT.start (go:=go) hW0;have hS0:=hS.call (Bx.start hW0).bl;obtain⟨p0,p1⟩:=zal hB0.x0;obtain⟨q0,q1,q2,q3⟩:=zam hB0.x1;have HW0:=hdn hW0;have HB0:=hdn hB0;have HS0:=hdn hS0;have HC:=hdn hc;clear hx hS hS0 hW0 hB0 hc
 go_enter Tryz.func40,Tryz.ntmps40
 go_upto_region 2 with fail
 rw[HW0.out];clear HW0 c0 c1 c2 c3;go_wp2;refine zuN (v:=.tuple #[]) (by simp[results,Tryz.results40,go_sem]) rfl ?_;refine⟨rfl,?_,HB0.out.t⟩;rw[show (fun x=>O x || shB m c .e g x)=O from funext fun x=>ztx _];exact HS0.out.ou
theorem zsE(w0:World)(p:Nat)(f:Nat->Bool):ShC w0 (.s p f):=by
 intro Ns n w nv bv gm cm go co N c m O g hS hA hc;obtain⟨rfl,sv,rs,hx,hr,hf⟩:=hA;have hr0:=hr;obtain⟨ao,cp,rfl,-⟩:=hr0;obtain⟨g1,cap,rfl,hn,hg,c0,c1,c2,c3⟩:=hS.nx.node hx;have hln:=hS.nx.len;have hgo:go<w.heap.size:=zae hS.ou;have hi0:(0:Int)<=(n:Int):=by omega
 have hi1:(n:Int)<(Ns.length:Int):=by omega
 obtain⟨W0,hW0⟩:∃W0,(w.alloc (.cells #[.slice (some ⟨g1,0,none⟩) Ns.length cap,bv] 45)).alloc (.cells #[.int .u8 115,.int .i64 0,.int .i64 0,.slice ao rs.length cp] 85)=W0:=⟨_,rfl⟩;have hB0:=BxT.start (go:=go) hW0;have hS0:=hS.call (Bx.start hW0).bl;obtain⟨p0,p1⟩:=zal hB0.x0;obtain⟨q0,q1,q2,q3⟩:=zam hB0.x1;have hh:=zrB (.slice ao rs.length cp) rs c W0 (hr.below hS0.bl) hc;have hnN:n<N:=zuB hn hS0.le;have hj1:(n:Int)<(N:Int):=by omega
 have HW0:=hdn hW0;have HB0:=hdn hB0;have HS0:=hdn hS0;have HC:=hdn hc;clear hx hS hS0 hW0 hB0 hc
 go_enter Tryz.func40,Tryz.ntmps40
 go_upto_region 2 with fail
 rw[HW0.out];clear HW0 c0 c1 c2 c3;have HF:=hdn hf;clear hr hf;cases g
 ·go_wp2;refine zuN (v:=.tuple #[]) (by simp[results,Tryz.results40,go_sem]) rfl ?_;refine⟨rfl,?_,HB0.out.t⟩;rw[show (fun x=>O x || shB m c (.s n f) false x)=O from funext fun x=>by show (O x || ((x==n)&&(false&&f c)))=O x;simp];exact HS0.out.ou
 ·go_wp2_with fail
  refine hh.mono ?_;rintro e W1 ⟨rfl,b1⟩;have HB1:=hdn (HB0.out.call b1);have HS1:=hdn (HS0.out.call b1);obtain⟨p0,p1⟩:=zal HB1.out.x0;obtain⟨q0,q1,q2,q3⟩:=zam HB1.out.x1;rw[HF.out c];clear hh;have m1:=HS1.out.ou;have k1:=m1.cell n hnN;have f1:W1.frozen? ⟨go,n,none⟩=false:=zuQ _ _ n _ _ m1;clear m1;cases he:f c
  ·go_wp2;refine zuN (v:=.tuple #[]) (by simp[results,Tryz.results40,go_sem]) rfl ?_;refine⟨rfl,?_,HB1.out.t⟩;rw[show (fun x=>O x || shB m c (.s n f) true x)=O from funext fun x=>by show (O x || ((x==n)&&(true&&f c)))=O x;simp[he]];exact HS1.out.ou
  ·go_wp2;refine zuN (v:=.tuple #[]) (by simp[results,Tryz.results40,go_sem]) rfl ?_;refine⟨rfl,?_,HB1.out.t.grown (zaN W1 go n (.bool true)) (fun k e=>by cases e;exact .inl rfl)⟩;have:=zuT W1 go n _ _ (.bool true) HS1.out.ou;rw[zqo O hnN true] at this;rw[show (fun x=>O x || shB m c (.s n f) true x)=fun x=>if x=n then true else O x from funext fun x=>by
    show (O x || ((x==n)&&(true&&f c)))=_
    by_cases hxn:x=n
    ·subst hxn;simp[he]
    ·simp[hxn]]
   exact this
theorem zsC(w0:World)(a b:GT)(ha:ShC w0 a)(hb:ShC w0 b):ShC w0 (.o a b):=by
 intro Ns n w nv bv gm cm go co N c m O g hS hA hc;obtain⟨l,r,hx,hl,hr⟩:=hA;obtain⟨g1,cap,rfl,hn,hg,c0,c1,c2,c3⟩:=hS.nx.node hx;have hln:=hS.nx.len;have hgo:go<w.heap.size:=zae hS.ou;have hi0:(0:Int)<=(n:Int):=by omega
 have hi1:(n:Int)<(Ns.length:Int):=by omega
 obtain⟨W0,hW0⟩:∃W0,(w.alloc (.cells #[.slice (some ⟨g1,0,none⟩) Ns.length cap,bv] 45)).alloc (.cells #[.int .u8 111,.int .i64 l,.int .i64 r,.slice none 0 0] 85)=W0:=⟨_,rfl⟩;have hB0:=BxT.start (go:=go) hW0;have hS0:=hS.call (Bx.start hW0).bl;obtain⟨p0,p1⟩:=zal hB0.x0;obtain⟨q0,q1,q2,q3⟩:=zam hB0.x1;have ca:=ha Ns l W0 _ bv gm cm go co N c m O g hS0 hl hc;have HW0:=hdn hW0;have HB0:=hdn hB0;have HS0:=hdn hS0;have HC:=hdn hc;clear hx hS hS0 hW0 hB0 hc
 go_enter Tryz.func40,Tryz.ntmps40
 go_upto_region 2 with fail
 rw[HW0.out];clear HW0 c0 c1 c2 c3
 go_wp2_with fail
 refine ca.mono ?_;rintro e W1 ⟨rfl,o1,t1⟩;have HB1:=hdn (HB0.out.touch hgo t1);have HS1:=hdn (HS0.out.touch t1 o1);obtain⟨p0,p1⟩:=zal HB1.out.x0;obtain⟨q0,q1,q2,q3⟩:=zam HB1.out.x1;have cb:=hb Ns r W1 _ bv gm cm go co N c m _ g HS1.out hr HC.out;clear ca
 go_wp2_with fail
 refine cb.mono ?_;rintro e W2 ⟨rfl,o2,t2⟩;go_wp2;refine zuN (v:=.tuple #[]) (by simp[results,Tryz.results40,go_sem]) rfl ?_;refine⟨rfl,?_,(HB1.out.touch hgo t2).t⟩;rw[show (fun x=>O x || shB m c (.o a b) g x)=fun x=>(O x || shB m c a g x) || shB m c b g x from funext fun x=>by show (O x || (shB m c a g x || shB m c b g x))=_;rw[ztv]];exact o2
theorem zsD(w0:World)(a b:GT)(ha:ShC w0 a)(hb:ShC w0 b):ShC w0 (.q a b):=by
 intro Ns n w nv bv gm cm go co N c m O g hS hA hc;obtain⟨l,r,hx,hl,hr⟩:=hA;obtain⟨g1,cap,rfl,hn,hg,c0,c1,c2,c3⟩:=hS.nx.node hx;have hln:=hS.nx.len;have hgo:go<w.heap.size:=zae hS.ou;have hi0:(0:Int)<=(n:Int):=by omega
 have hi1:(n:Int)<(Ns.length:Int):=by omega
 obtain⟨W0,hW0⟩:∃W0,(w.alloc (.cells #[.slice (some ⟨g1,0,none⟩) Ns.length cap,bv] 45)).alloc (.cells #[.int .u8 113,.int .i64 l,.int .i64 r,.slice none 0 0] 85)=W0:=⟨_,rfl⟩;have hB0:=BxT.start (go:=go) hW0;have hS0:=hS.call (Bx.start hW0).bl;obtain⟨p0,p1⟩:=zal hB0.x0;obtain⟨q0,q1,q2,q3⟩:=zam hB0.x1;have ca:=ha Ns l W0 _ bv gm cm go co N c m O g hS0 hl hc;have HW0:=hdn hW0;have HB0:=hdn hB0;have HS0:=hdn hS0;have HC:=hdn hc;clear hx hS hS0 hW0 hB0 hc
 go_enter Tryz.func40,Tryz.ntmps40
 go_upto_region 2 with fail
 rw[HW0.out];clear HW0 c0 c1 c2 c3;cases g
 ·go_wp2_with fail
  refine ca.mono ?_;rintro e W1 ⟨rfl,o1,t1⟩;have HB1:=hdn (HB0.out.touch hgo t1);have HS1:=hdn (HS0.out.touch t1 o1);obtain⟨p0,p1⟩:=zal HB1.out.x0;obtain⟨q0,q1,q2,q3⟩:=zam HB1.out.x1;clear ca;have cf:=zb1 w0 a Ns l _ _ bv gm cm N m HS1.out.nx hl HS1.out.ma HS1.out.le
  go_wp2_with fail
  refine cf.mono ?_;rintro e W2 ⟨rfl,b2⟩;have HB2:=hdn (HB1.out.call b2);have HS2:=hdn (HS1.out.call b2);obtain⟨p0,p1⟩:=zal HB2.out.x0;obtain⟨q0,q1,q2,q3⟩:=zam HB2.out.x1;clear cf;cases hf:finB m a
  ·go_wp2_with fail
   refine(hb Ns r _ _ bv gm cm go co N c m _ _ HS2.out hr HC.out).mono ?_;rintro e W9 ⟨rfl,o9,t9⟩;go_wp2;refine zuN (v:=.tuple #[]) (by simp[results,Tryz.results40,go_sem]) rfl ?_;refine⟨rfl,?_,(HB2.out.touch hgo t9).t⟩;rw[show (fun x=>O x || shB m c (.q a b) false x)=fun x=>(O x || shB m c a false x) || shB m c b false x from funext fun x=>by show (O x || (shB m c a false x || shB m c b ((false&&a.ga.emp) || finB m a) x))=_;rw[ztv];simp[hf]];exact o9
  ·go_wp2_with fail
   refine(hb Ns r _ _ bv gm cm go co N c m _ _ HS2.out hr HC.out).mono ?_;rintro e W9 ⟨rfl,o9,t9⟩;go_wp2;refine zuN (v:=.tuple #[]) (by simp[results,Tryz.results40,go_sem]) rfl ?_;refine⟨rfl,?_,(HB2.out.touch hgo t9).t⟩;rw[show (fun x=>O x || shB m c (.q a b) false x)=fun x=>(O x || shB m c a false x) || shB m c b true x from funext fun x=>by show (O x || (shB m c a false x || shB m c b ((false&&a.ga.emp) || finB m a) x))=_;rw[ztv];simp[hf]];exact o9
 ·go_wp2_with fail
  refine ca.mono ?_;rintro e W1 ⟨rfl,o1,t1⟩;have HB1:=hdn (HB0.out.touch hgo t1);have HS1:=hdn (HS0.out.touch t1 o1);obtain⟨p0,p1⟩:=zal HB1.out.x0;obtain⟨q0,q1,q2,q3⟩:=zam HB1.out.x1;clear ca;have ce:=zcC w0 a Ns l _ _ bv HS1.out.nx hl
  go_wp2_with fail
  refine ce.mono ?_;rintro e W2 ⟨rfl,b2⟩;have HB2:=hdn (HB1.out.call b2);have HS2:=hdn (HS1.out.call b2);obtain⟨p0,p1⟩:=zal HB2.out.x0;obtain⟨q0,q1,q2,q3⟩:=zam HB2.out.x1;clear ce;cases he:a.ga.emp
  ·skip
   have cf:=zb1 w0 a Ns l _ _ bv gm cm N m HS2.out.nx hl HS2.out.ma HS2.out.le
   go_wp2_with fail
   refine cf.mono ?_;rintro e W3 ⟨rfl,b3⟩;have HB3:=hdn (HB2.out.call b3);have HS3:=hdn (HS2.out.call b3);obtain⟨p0,p1⟩:=zal HB3.out.x0;obtain⟨q0,q1,q2,q3⟩:=zam HB3.out.x1;clear cf;cases hf:finB m a
   ·go_wp2_with fail
    refine(hb Ns r _ _ bv gm cm go co N c m _ _ HS3.out hr HC.out).mono ?_;rintro e W9 ⟨rfl,o9,t9⟩;go_wp2;refine zuN (v:=.tuple #[]) (by simp[results,Tryz.results40,go_sem]) rfl ?_;refine⟨rfl,?_,(HB3.out.touch hgo t9).t⟩;rw[show (fun x=>O x || shB m c (.q a b) true x)=fun x=>(O x || shB m c a true x) || shB m c b false x from funext fun x=>by show (O x || (shB m c a true x || shB m c b ((true&&a.ga.emp) || finB m a) x))=_;rw[ztv];simp[he,hf]];exact o9
   ·go_wp2_with fail
    refine(hb Ns r _ _ bv gm cm go co N c m _ _ HS3.out hr HC.out).mono ?_;rintro e W9 ⟨rfl,o9,t9⟩;go_wp2;refine zuN (v:=.tuple #[]) (by simp[results,Tryz.results40,go_sem]) rfl ?_;refine⟨rfl,?_,(HB3.out.touch hgo t9).t⟩;rw[show (fun x=>O x || shB m c (.q a b) true x)=fun x=>(O x || shB m c a true x) || shB m c b true x from funext fun x=>by show (O x || (shB m c a true x || shB m c b ((true&&a.ga.emp) || finB m a) x))=_;rw[ztv];simp[he,hf]];exact o9
  ·go_wp2_with fail
   refine(hb Ns r _ _ bv gm cm go co N c m _ _ HS2.out hr HC.out).mono ?_;rintro e W9 ⟨rfl,o9,t9⟩;go_wp2;refine zuN (v:=.tuple #[]) (by simp[results,Tryz.results40,go_sem]) rfl ?_;refine⟨rfl,?_,(HB2.out.touch hgo t9).t⟩;rw[show (fun x=>O x || shB m c (.q a b) true x)=fun x=>(O x || shB m c a true x) || shB m c b true x from funext fun x=>by show (O x || (shB m c a true x || shB m c b ((true&&a.ga.emp) || finB m a) x))=_;rw[ztv];simp[he]];exact o9
end Go.Proofs.YthddplbodacjgaaGreatDoor
