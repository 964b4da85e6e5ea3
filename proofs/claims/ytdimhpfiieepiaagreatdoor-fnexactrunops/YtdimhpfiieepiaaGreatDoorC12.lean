import Derived.Test.YtdimhpfiieepiaaGreatDoorC11
import Derived.Deep.RegionHeld3
import Derived.Deep.DrawnRows
import Derived.Deep.QuietTactic
import Derived.BigQuiet
import Derived.OrdersIn
import Derived.RangeFuncCalls
namespace Go.Proofs.YtdimhpfiieepiaaGreatDoor
open Proofs.Tryz
open Option renaming some->za,none->zb
open Value renaming int->zc,slice->zd,agg->zi
open Go renaming World->ze,Value->zj,Calls->zk,TypeId->zl
open RowKit renaming Below->zf,Hid->zh
open Obj renaming cells->zg
set_option maxHeartbeats 16000000
set_option maxRecDepth 100000
open Go.RowKit
attribute [local go_sem ↓] wp_at_zero wp_at_succ
abbrev Cb(ao:Option Addr)(ns:List aL)(c gl cl gr cr:Nat)(t:ByteArray):Obj:=zg #[.slice ao ns.length c,zd (za ⟨gl,0,zb⟩) ns.length cl,zd (za ⟨gr,0,zb⟩) ns.length cr,.string t] 119 (0,0)
theorem zoO{u:aJ}{p:Pt}{i j:Nat}{S:List Bool}{n:Nat}(h:lP n S (fZ u (In p) (· = i))):S.getD j false=true↔Lg u p i j:=(h.iff j).trans zpp.symm
theorem NF(ns:List aL)(n:Nat)(hE:kN ns n)(w:ze)(ao:Option Addr)(c gl cl gr cr:Nat)(t:ByteArray)(i j:Nat)(aD:vx w ns (.slice ao ns.length c) gl gr)(hi:i<=t.size)(hj:j<=t.size)(ht:t.size<=4096):
  zk prog 92 #[zi #[.slice ao ns.length c,zd (za ⟨gl,0,zb⟩) ns.length cl,zd (za ⟨gr,0,zb⟩) ns.length cr,.string t],zc .i64 n,zc .i64 i,zc .i64 j] w λe w'=>Rt w (Lg t.data.toList (a8 ns n) i j) e w':=by
 have af:zf w.heap.size w (w.alloc (zg #[.slice ao ns.length c,zd (za ⟨gl,0,zb⟩) ns.length cl,zd (za ⟨gr,0,zb⟩) ns.length cr,.string t] 119)):=aw;have k0:(w.alloc (zg #[.slice ao ns.length c,zd (za ⟨gl,0,zb⟩) ns.length cl,zd (za ⟨gr,0,zb⟩) ns.length cr,.string t] 119)).heap[w.heap.size]?=za (Cb ao ns c gl cl gr cr t):=aI _ _;have K8:=λ(W:ze)=>YH t.size i W hi (by omega)
 have K0:∀(W:ze) (g:Nat),zf w.heap.size w W->oG W g (re t.size i)->
   zk prog 90 #[zi #[.slice ao ns.length c,zd (za ⟨gl,0,zb⟩) ns.length cl,zd (za ⟨gr,0,zb⟩) ns.length cr,.string t],zc .i64 n,zd (za ⟨g,0,zb⟩) (t.size+1) (t.size+1)] W λr w'=>NK W t (t.size+1) (fZ t.data.toList (In (a8 ns n)) (· = i)) r w':=λW g h1 h2=>
  hE W ao c gl cl gr cr t g (t.size+1) (t.size+1) (re t.size i) _ (aD.below h1) h2 (by simp[re]) (Xg t.size i hi) ht
 clear hE aD;generalize hT:a8 ns n=T at *;generalize hU:t.data.toList=u at *;obtain⟨q0,q1,q2,q3⟩:=oF k0;obtain⟨W0,ai⟩:∃W0,w.alloc (zg #[.slice ao ns.length c,zd (za ⟨gl,0,zb⟩) ns.length cl,zd (za ⟨gr,0,zb⟩) ns.length cr,.string t] 119)=W0:=⟨_,rfl⟩;rw[ai]at af k0 q0 q1 q2 q3;have kw:=vm k0;have uv:=af.drew;have da:(0:Int)<=(j:Int):=by omega
 have cO:(j:Int)<(t.size:Int)+1:=by omega
 clear k0
 go_enter func92,ntmps92
 go_wp2;clear ai
 go_region_with (first|(go_at_call 91;refine(K8 _).mono ?_;rintro r w3 ⟨rfl,tx,aG⟩;have kn:=aG.size;have z0:=(aG.cell (p:=⟨w.heap.size,0,zb⟩) kw).trans q0;have z1:=(aG.cell (p:=⟨w.heap.size,1,zb⟩) kw).trans q1;have z2:=(aG.cell (p:=⟨w.heap.size,2,zb⟩) kw).trans q2;have z3:=(aG.cell (p:=⟨w.heap.size,3,zb⟩) kw).trans q3)|(go_at_call 90;refine(K0 _ _ (aq uv uv.size aG) tx).mono ?_;rintro r w4 ⟨g4,c4,S4,rfl,uD,PF,qc,bE⟩;have hcell:=uD.2 j (by omega);obtain⟨q,hq⟩:∃q,S4.getD j false=q:=⟨_,rfl⟩;rw[hq]at hcell;have Hq:zh _:=hq;clear hq))
 all_goals
  have bu:=aq (aq uv uv.size aG) (aq uv uv.size aG).size bE;have nW:q=true↔Lg u T i j:=by rw[<-Hq.out];exact zoO qc
  go_wp2;go_ret;exact⟨q,rfl,nW,bu⟩
section
variable {sz:Nat}{f:Nat -> List zj}
theorem gR{w w':ze}{base:Nat}{e:zl}{n:Nat}{v:zj}{xs:List zj}(h:w.ownsRow base e sz v n xs)(hb:∀b,v.ownBlock=za b->w'.heap[b]?=w.heap[b]?):w'.ownsRow base e sz v n xs:=by
 obtain⟨h1,h2⟩:=h;refine⟨h1,?_⟩;rcases h2 with h0|⟨g,cap,ax,rfl,hg,hh,r⟩
 ·exact .inl h0
 ·exact .inr ⟨g,cap,ax,rfl,hg,(hb g rfl).trans hh,r⟩
theorem wM{P:Program}{ops:Array Oper}{rest:List Oper}{o:Oper}{a:Act}{Q:Exit->Act->ze->Prop}{W:ze}(lZ:o.guard=zb)(s x:Operand)(t:zl)
  (ho:o.op=.call {callee:=.builtin .append,args:=#[s,x],argTypes:=#[t,t]}) (w:ze) (us:Array zj) (e:zl) (hW:W=w.alloc (zg us e)) (H:Nat) (hH:w.heap.size=H)
  (base:Nat) (i:TypeInfo) (z:zj) (sz bytes:Nat) (ht:P.underlying t=za (.slice e)) (hi:P.info? e=za i) (hz:i.zero=za z)
  (xN:i.size=sz) (uI:i.bytes=bytes) (tQ:z.cells.size=sz) (hsz:0<sz)
  (v:zj) (n:Nat) (xs:List zj) (hs:a.eval s=v) (aB:w.ownsRow base e sz v n xs)
  (hx:a.eval x=zd (za ⟨H,0,zb⟩) 1 1) (hl:us.size=sz) (h1:∀u∈us.toList,u.oneCell'=true) (hn:n<=2000000) (xD:bytes<=1000) (Io:base<=w.heap.size)
  (h:∀g' cap' w',w'.ownsRow base e sz (zd (za ⟨g',0,zb⟩) (n+1) cap') (n+1) (xs++us.toList)->w.grownBy w' v.ownBlock->(v.ownBlock=za g'\/w.heap.size<=g')->wpList P ops Q rest (a.put o.dst (zd (za ⟨g',0,zb⟩) (n+1) cap')) w'):
  wpList P ops Q (o::rest) a W:=by
 subst hW hH;refine wpList_append_lies _ lZ s x t ho base e i z sz bytes ht hi hz xN uI tQ hsz v n xs hs (aB.alloc _) ⟨w.heap.size,0,zb⟩ 1 1 us.toList hx (by simp[hl]) ?_ h1 (by omega) (by unfold maxLen;omega) ?_ (by simp;omega) (w.heap.size+1) (by simp) ?_
 ·intro j y hv;have e1:(⟨w.heap.size,0,zb⟩:Addr).add j=⟨w.heap.size,j,zb⟩:=by unfold Addr.add;split<;>simp_all
  rw[e1,aM _ _ _ _ _ _ (aI w _)];rw[<-hv];simp
 ·have:(n+1)*bytes<=2000001*1000:=Nat.mul_le_mul (by omega) xD;omega
 ·intro g' cap' w' wj cJ dF hlt;refine h g' cap' w' wj ⟨cJ.os,cJ.tape,cJ.output,aW (by simp) cJ.size,λk hk hne=>?_⟩ ?_
  ·rw[cJ.block k (by simp;omega) hne,Below.heap_alloc _ _ _ hk]
  ·rcases dF with dF|dF
   ·exact .inl dF
   ·exact .inr (by omega)
theorem QP(h:∀k,(f k).length=sz)(n:Nat):((List.range n).flatMap f).length=n*sz:=by
 induction n with
 |zero=>simp
 |succ n ih=>rw[yD,List.flatMap_append,nG,ih];simp[h,Nat.succ_mul]
theorem zqX(h:∀k,(f k).length=sz)(n k j:Nat)(hk:k<n)(hj:j<sz):((List.range n).flatMap f)[k*sz+j]?=(f k)[j]?:=by
 induction n with
 |zero=>omega
 |succ n ih=>
  rw[yD,List.flatMap_append]
  by_cases e:k<n
  ·rw[pH,ih e];rw[QP h];have:(k+1)*sz<=n*sz:=Nat.mul_le_mul_right _ e;rw[Nat.succ_mul]at this;omega
  ·have e2:k=n:=by omega
   subst e2;rw[sJ (by rw[QP h];omega),QP h,Nat.add_sub_cancel_left];simp
theorem znp{g:Nat->List zj}(n:Nat)(h:∀k,k<n->f k=g k):(List.range n).flatMap f=(List.range n).flatMap g:=by
 induction n with
 |zero=>rfl
 |succ n ih=>rw[yD,List.flatMap_append,List.flatMap_append,ih λk hk=>h k (by omega)];simp[h n (by omega)]
theorem zoZ(f:Nat->List zj)(n:Nat):(List.range (n+1)).flatMap f=(List.range n).flatMap f++f n:=by rw[yD,List.flatMap_append];simp
theorem DC(w:ze)(e:zl)(sz B H:Nat)(hB:B<=H)(hH:w.heap.size=H):(w.alloc (zg #[] e)).ownsRow B e sz (zd (za ⟨H,0,zb⟩) 0 0) 0 []:=by
 subst hH;exact⟨by simp,.inr ⟨w.heap.size,0,#[],rfl,hB,aI _ _,by simp,by simp[maxLen],by simp,by simp⟩⟩
end
theorem Tryz.VN:(prog.info? 71).map (λi=>(i.zero,i.size,i.bytes))=za (za (zi #[zc .i64 0,zc .i64 0]),2,16):=by kernel_rfl
theorem zoV(lo hi:Int)(w:ze):
  zk prog 77 #[zi #[zc .i64 lo,zc .i64 hi],zi #[zc .i64 lo,zc .i64 hi]] w λe w'=>e=.returned (.bool true)/\zf w.heap.size w w':=by
 go_enter func77,ntmps77
 go_wp2;go_ret;exact⟨rfl,(aw).alloc (by simp) _⟩
theorem zng{l1 l2:Nat}(v v2:zj)(rs:List (Int×Int))(w:ze)(hs:dR l1 w v rs)(cV:dR l2 w v2 rs):
  zk prog 39 #[v,v2] w λe w'=>e=.returned (.bool true)/\zf w.heap.size w w':=by
 obtain⟨ao,cap,rfl,hm,hc⟩:=hs;obtain⟨iD,fB,rfl,_,eW⟩:=cV
 go_enter func39,ntmps39
 go_wp2
 go_loopw [5] (λi wr=>∃k:Nat,k<=rs.length/\i=zc .i64 k/\zf w.heap.size w wr)
  (λi _=>rs.length-(intOf i).toNat)
 case atStart=>exact⟨0,aR _,rfl,Below.refl _ _⟩
 case round=>
  obtain⟨k,hk,rfl,hb⟩:=hrel
  by_cases hlt:k<rs.length
  ·obtain⟨b,o,lo,hi,rfl,Hn,aZ,c0,c1⟩:=hc.elem hb hlt;obtain⟨b2,o2,lo2,uM,rfl,fJ,jl,d0,d1⟩:=eW.elem hb hlt;have qI:=Hn.out.symm.trans fJ.out;simp only[Prod.mk.injEq]at qI;obtain⟨rfl,rfl⟩:=qI;have aD:b<wr.heap.size:=bA aZ hb.size;have iE:b2<wr.heap.size:=bA jl hb.size;have da:(0:Int)<=(k:Int):=by omega
   have cO:(k:Int)<(rs.length:Int):=by omega
   go_wp2
   go_region_held3 (λw'=>w'.cell? ⟨b,o+k*2,zb⟩=za (zc .i64 lo)/\w'.cell? ⟨b,o+k*2+1,zb⟩=za (zc .i64 hi)/\w'.cell? ⟨b2,o2+k*2,zb⟩=za (zc .i64 lo)/\w'.cell? ⟨b2,o2+k*2+1,zb⟩=za (zc .i64 hi)) ((first|go_keep|exact⟨(hcc _ _ aD).trans c0,(hcc _ _ aD).trans c1,(hcc _ _ iE).trans d0,(hcc _ _ iE).trans d1⟩)) ((go_at_call 77;refine(zoV _ _ _).mono ?_;rintro e w2 ⟨rfl,ae⟩;obtain⟨hcc,_⟩:=uc ae))
   go_wp2
   go_roundw
   case rel=>exact⟨k+1,by omega,by go_num,aq hb.drew hb.size ae⟩
   case measure=>simp[intOf];omega
  ·go_wp2;go_ret;exact⟨rfl,hb⟩
theorem DM(w:ze)(a b:Obj):((w.alloc a).alloc b).heap[w.heap.size+1]?=za b:=by have:=aI (w.alloc a) b;simpa using this
def xU(sp:List (Int×Int))(k:Nat):List zj:=[zc .i64 (sp.getD k (0,0)).1,zc .i64 (sp.getD k (0,0)).2]
def pv(sp:List (Int×Int)):List zj:=(List.range sp.length).flatMap (xU sp)
theorem BQ(sp:List (Int×Int)):(pv sp).length=sp.length*2:=QP (f:=xU sp) (sz:=2) (λ_=>rfl) _
theorem Rm(sp:List (Int×Int)){k j:Nat}(hk:k<sp.length)(hj:j<2):(pv sp)[k*2+j]?=(xU sp k)[j]?:=zqX (f:=xU sp) (sz:=2) (λ_=>rfl) _ _ _ hk hj
theorem zt7(sp:List (Int×Int)):∀u∈pv sp,u.oneCell'=true:=by
 intro u hu;obtain⟨k,-,h⟩:=List.mem_flatMap.1 hu;simp only[xU,pI,List.not_mem_nil,or_false]at h;rcases h with rfl|rfl<;>rfl
theorem JA{w:ze}{B g m cap:Nat}{e:zl}{sz:Nat}{xs:List zj}(h:w.ownsRow B e sz (zd (za ⟨g,0,zb⟩) m cap) m xs):∀j u,xs[j]?=za u->w.cell? ((⟨g,0,zb⟩:Addr).add j)=za u:=by
 intro j u hu;have hj:=(zY.1 hu).1;have e:(⟨g,0,zb⟩:Addr).add j=⟨g,j,zb⟩:=by unfold Addr.add;split<;>simp_all
 rw[e,h.cellAt j (by rw[<-h.1];exact hj),hu]
theorem YO(sp:List (Int×Int))(k:Nat)(a b:Int)(hk:k<sp.length):((pv sp).set (k*2) (zc .i64 a)).set (k*2+1) (zc .i64 b)=pv (sp.set k (a,b)):=by
 apply DY
 intro x
 by_cases hx:x<sp.length*2
 ·obtain⟨q,r,rfl,hr⟩:∃q r,x=q*2+r/\r<2:=⟨x/2,x%2,by omega,by omega⟩;have hq:q<sp.length:=by omega
  rw[Rm (sp.set k (a,b)) (by rw[DX];exact hq) hr,qx,qx,Rm sp hq hr];have hl:(pv sp).length=sp.length*2:=BQ sp;rw[DX,hl]
  by_cases e:q=k
  ·subst e;obtain rfl|rfl:r=0\/r=1:=by omega
   ·rw[ak (by omega),aC (by omega),aC (by omega)];simp[xU,List.getD_eq_getElem?_getD,hq]
   ·rw[aC rfl,aC (by omega)];simp[xU,List.getD_eq_getElem?_getD,hq]
  ·rw[ak (by omega),ak (by omega)];unfold xU;rw[bP,bP,List.getElem?_set_ne (by omega)]
 ·rw[qw (by simp[BQ];omega),qw (by simp[BQ];omega)]
def gQ(sp:List (Int×Int))(l:List Up):List (Int×Int):=l.foldl (λs x=>s.set x.1.toNat ((x.2.1:Int),(x.2.2:Int))) sp
theorem Gm(l:List Up):∀sp,(gQ sp l).length=sp.length:=by
 induction l with
 |nil=>intro sp;rfl
 |cons x l ih=>intro sp;show (gQ (sp.set _ _) l).length=_;rw[ih,DX]
theorem Yq(sp:List (Int×Int))(l m:List Up):gQ sp (l++m)=gQ (gQ sp l) m:=List.foldl_append
def zvV(B:Nat)(w:ze)(m:Nat)(sp:List (Int×Int))(e:Ending)(w':ze):Prop:=
 ∃g cap,e=.returned (zd (za ⟨g,0,zb⟩) m cap)/\w'.ownsRow B 71 2 (zd (za ⟨g,0,zb⟩) m cap) m (pv sp)/\zf w.heap.size w w'
def th(ns:List aL)(n:Nat):Prop:=
 ∀(w:ze) (ao:Option Addr) (c gl cl gr cr:Nat) (t:ByteArray) (B i j g cap m:Nat) (sp:List (Int×Int)) (l:List Up),vx w ns (.slice ao ns.length c) gl gr->w.ownsRow B 71 2 (zd (za ⟨g,0,zb⟩) m cap) m (pv sp)->sp.length=m->B<=w.heap.size->0<m->m<=1048576->i<=j->j<=t.size->t.size<=4096->(∀x∈l,1<=x.1/\x.1<(m:Int))->Pl t.data.toList (a8 ns n) i j l->
  zk prog 66 #[zi #[.slice ao ns.length c,zd (za ⟨gl,0,zb⟩) ns.length cl,zd (za ⟨gr,0,zb⟩) ns.length cr,.string t],zc .i64 n,zc .i64 i,zc .i64 j,zd (za ⟨g,0,zb⟩) m cap] w λe w'=>zvV B w m (gQ sp l) e w'
theorem zrU(ns:List aL)(n:Nat)(hn:n<ns.length)(hk:bO ns n=1)(hT:a8 ns n=.set (jE (ns.getD n .zero).set)):th ns n:=by
 intro w ao c gl cl gr cr t B i j g cap m sp l aD aB hsm hB eQ dw dL jG ht hg dC;rw[hT]at dC;obtain⟨iD,fB,hv,Bo,hc⟩:=aD.nodes;cases hv;obtain⟨b,o,sv,nd,rfl,Hn,aZ,c0,c1,c2,c3,c4,dr⟩:=hc.elem (Below.refl _ _) hn;have db:nd.kind=1:=by rw[<-hk];unfold bO;rw[Hn.out]
 rw[db]at c0;obtain⟨bZ,cd,rfl,Fl,jJ⟩:=dr;have da:(0:Int)<=(n:Int):=by omega
 have cO:(n:Int)<(ns.length:Int):=by omega
 obtain⟨W0,ai⟩:∃W0,(w.alloc (zg #[zd (za ⟨b,o,zb⟩) ns.length c,zd (za ⟨gl,0,zb⟩) ns.length cl,zd (za ⟨gr,0,zb⟩) ns.length cr,.string t] 119)).alloc (zg #[zc .i64 1,.slice bZ nd.set.length cd,zc .i64 nd.min,zc .i64 nd.max,zc .i64 nd.group] 149)=W0:=⟨_,rfl⟩;have af:zf w.heap.size w W0:=by rw[<-ai];exact(aw).alloc (by simp) _
 have k1:W0.heap[w.heap.size]?=za (zg #[zd (za ⟨b,o,zb⟩) ns.length c,zd (za ⟨gl,0,zb⟩) ns.length cl,zd (za ⟨gr,0,zb⟩) ns.length cr,.string t] 119 (0,0)):=by rw[<-ai];exact cX (aI _ _)
 have k2:W0.heap[w.heap.size+1]?=za (zg #[zc .i64 1,.slice bZ nd.set.length cd,zc .i64 nd.min,zc .i64 nd.max,zc .i64 nd.group] 149 (0,0)):=by rw[<-ai];exact DM _ _ _
 obtain⟨p0,p1,p2,p3⟩:=oF k1;obtain⟨q0,q1,q2,q3,q4⟩:=FU k2;have dD:w.heap.size+1<W0.heap.size:=vm k2;have dC:l=[]:=dC;subst dC;clear hT hk db hc jJ aD k1 k2
 go_enter func66,ntmps66
 go_wp2;refine bh (v:=zd (za ⟨g,0,zb⟩) m cap) (by simp[results,results66,go_sem]) rfl ⟨g,cap,rfl,?_,?_⟩
 ·exact dQ aB af
 ·exact af
theorem zrR(ns:List aL)(n x:Nat)(hn:n<ns.length)(hk:bO ns n=5)(hT:a8 ns n=.aT (a8 ns x) (ns.getD n .zero).group)(hL:lm ns n=x)(hX:th ns x):th ns n:=by
 intro w ao c gl cl gr cr t B i j g cap m sp l aD aB hsm hB eQ dw dL jG ht hg dC;rw[hT]at dC;obtain⟨iD,fB,hv,Bo,hc⟩:=aD.nodes;cases hv;obtain⟨b,o,sv,nd,rfl,Hn,aZ,c0,c1,c2,c3,c4,dr⟩:=hc.elem (Below.refl _ _) hn;have db:nd.kind=5:=by rw[<-hk];unfold bO;rw[Hn.out]
 rw[db]at c0;obtain⟨bZ,cd,rfl,Fl,jJ⟩:=dr;have l0:=aD.left n hn;rw[hL]at l0;have r0:=aD.right n hn;obtain⟨ri,xM⟩:∃ri,oD ns n=ri:=⟨_,rfl⟩;rw[xM]at r0;have hlt:=aD.zG;have hrt:=aD.zH;have da:(0:Int)<=(n:Int):=by omega
 have cO:(n:Int)<(ns.length:Int):=by omega
 obtain⟨W0,ai⟩:∃W0,(w.alloc (zg #[zd (za ⟨b,o,zb⟩) ns.length c,zd (za ⟨gl,0,zb⟩) ns.length cl,zd (za ⟨gr,0,zb⟩) ns.length cr,.string t] 119)).alloc (zg #[zc .i64 5,.slice bZ nd.set.length cd,zc .i64 nd.min,zc .i64 nd.max,zc .i64 nd.group] 149)=W0:=⟨_,rfl⟩;have af:zf w.heap.size w W0:=by rw[<-ai];exact(aw).alloc (by simp) _
 have k1:W0.heap[w.heap.size]?=za (zg #[zd (za ⟨b,o,zb⟩) ns.length c,zd (za ⟨gl,0,zb⟩) ns.length cl,zd (za ⟨gr,0,zb⟩) ns.length cr,.string t] 119 (0,0)):=by rw[<-ai];exact cX (aI _ _)
 have k2:W0.heap[w.heap.size+1]?=za (zg #[zc .i64 5,.slice bZ nd.set.length cd,zc .i64 nd.min,zc .i64 nd.max,zc .i64 nd.group] 149 (0,0)):=by rw[<-ai];exact DM _ _ _
 obtain⟨p0,p1,p2,p3⟩:=oF k1;obtain⟨q0,q1,q2,q3,q4⟩:=FU k2;have dD:w.heap.size+1<W0.heap.size:=vm k2;obtain⟨l',rfl,dC⟩:=dC;rw[Hn.out]at hg ⊢;have eO:=hg (nd.group,i,j) (by simp);obtain⟨gi,Uw⟩:∃gi:Nat,nd.group=gi:=⟨nd.group.toNat,by omega⟩;have dJ:=λ(W:ze) (hb:zf w.heap.size w W) (g' cap':Nat) (h1:W.ownsRow B 71 2 (zd (za ⟨g',0,zb⟩) m cap') m (pv (sp.set gi ((i:Int),(j:Int))))) (h2:B<=W.heap.size)=>hX W (za ⟨b,o,zb⟩) c gl cl gr cr t B i j g' cap' m (sp.set gi ((i:Int),(j:Int))) l' (aD.below hb) h1 (by rw[DX];exact hsm) h2 eQ dw dL jG ht (λx hx=>hg x (by simp[hx])) dC
 have H0:jy w (zd (za ⟨b,o,zb⟩) ns.length c) (zd (za ⟨gl,0,zb⟩) ns.length cl) (zd (za ⟨gr,0,zb⟩) ns.length cr) (.string t) (zc .i64 5) (.slice bZ nd.set.length cd) (zc .i64 nd.min) (zc .i64 nd.max) (zc .i64 nd.group) gl gr n (zc .i64 x) (zc .i64 ri) W0:=⟨af,dD,p0,p1,p2,p3,q0,q1,q2,q3,q4,(af.cell (p:=⟨gl,n,zb⟩) hlt).trans l0,(af.cell (p:=⟨gr,n,zb⟩) hrt).trans r0,hlt,hrt⟩;rw[Uw]at eO q4 c4 ai;have hsz:W0.heap.size=w.heap.size+1+1:=by rw[<-ai];simp
 have LC:gi<m:=by have:=eO.2;omega
 have Bh:(0:Int)<=(gi:Int):=by omega
 have bU:(gi:Int)<(m:Int):=by omega
 have Hu:zh (gQ sp ((nd.group,i,j)::l')=gQ (sp.set gi ((i:Int),(j:Int))) l'):=by show gQ (sp.set nd.group.toNat _) l'=_;rw[Uw,sM]
 have HB:zh (B<=w.heap.size):=hB;have Z8:zh (sp.length=m):=hsm;clear hT hk db hc jJ aD hX dC hg eO xM k1 k2 p0 p1 p2 p3 q1 q2 q3 l0 r0 hB hsm;obtain⟨i0,hi,bI,aO,aQ⟩:=info_parts Tryz.VN;have Dp:=dQ aB af;rw[Uw]at H0
 go_enter func66,ntmps66
 go_wp2_with (refine wpList_append_lies _ rfl (.tmp 26) (.tmp 27) 33 rfl B 71 i0 _ 2 16 underlying33 hi bI aO aQ rfl (by omega) (zd (za ⟨w.heap.size+1+1,0,zb⟩) 0 0) 0 [] rfl (DC W0 71 2 B (w.heap.size+1+1) (by have:=HB.out;omega) hsz) ⟨g,0,zb⟩ m cap (pv sp) rfl (by rw[BQ,Z8.out]) (JA (dQ Dp (aw))) (zt7 sp) (by omega) (by unfold maxLen;omega) (by omega) (by have:=HB.out;simp;omega) (w.heap.size+1+1+1) (by simp;omega) ?_;intro g1 tq w1 lL kU uu VT;simp only[jw,wX]at lL;obtain⟨u0,u1,y0,y1,f0,f1⟩:=DG lL LC;have ag:zf W0.heap.size W0 w1:=(aw).grown kU (by simp) (by intro k h;simp[Value.ownBlock]at h;omega);have H1:=H0.call ag;have t4:w1.cell? ⟨w.heap.size+1,4,zb⟩=za (zc .i64 gi):=H1.2.2.2.2.2.2.2.2.2.2.1)
 have eO:W0.heap.size<=g1:=by
  rcases uu with h|h
  ·simp[Value.ownBlock]at h;omega
  ·omega
 obtain⟨W2,dk⟩:∃W2,(w1.setCell ⟨g1,gi*2,zb⟩ (zc .i64 i)).setCell ⟨g1,gi*2+1,zb⟩ (zc .i64 j)=W2:=⟨_,rfl⟩;have ff:W2.ownsRow B 71 2 (zd (za ⟨g1,0,zb⟩) m tq) m (pv (sp.set gi ((i:Int),(j:Int)))):=by
  rw[<-dk,<-YO _ _ _ _ (by rw[Z8.out];exact LC)];exact((lL.stored _ _).1.stored _ _).1
 have H2:=H0.call (show zf W0.heap.size W0 W2 by rw[<-dk];exact(ag.setCell eO _).setCell eO _);have H3:=H2.call ((Below.refl W2.heap.size W2).drew);have kH:=dQ ff ((Below.refl W2.heap.size W2).drew);clear H1 u0 u1 y0 y1 f0 f1 t4 lL kU uu VT ag Dp aB ff c0 c1 c2 c3 c4 q0 q4;obtain⟨ey,Dm,AE,AG,AH,AJ,CI,CJ,CK,CL,CM,lA,rA,-,-⟩:=H2;obtain⟨rM,Md,Eu,Ev,Ew,Ex,KM,KN,EE,EF,KO,lC,rC,-,-⟩:=H3;rw[dk]
 go_region_with (go_at_call 66;refine(dJ _ rM g1 tq kH (aW HB.out rM.size)).mono ?_;rintro e w5 ⟨g5,gF,rfl,mq,bD⟩)
 all_goals
  rw[<-Hu.out]at mq;go_wp2;refine bh (v:=zd (za ⟨g5,0,zb⟩) m gF) (by simp[results,results66,go_sem]) rfl ⟨g5,gF,rfl,mq,?_⟩;exact aq rM rM.size bD
theorem zrQ(ns:List aL)(n x y:Nat)(hn:n<ns.length)(hk:bO ns n=3)(hT:a8 ns n=.aN (a8 ns x) (a8 ns y))(hL:lm ns n=x)(hR:oD ns n=y)(hE:kN ns x)(hX:th ns x)(hY:th ns y):th ns n:=by
 intro w ao c gl cl gr cr t B i j g cap m sp l aD aB hsm hB eQ dw dL jG ht hg dC;rw[hT]at dC;obtain⟨iD,fB,hv,Bo,hc⟩:=aD.nodes;cases hv;obtain⟨b,o,sv,nd,rfl,Hn,aZ,c0,c1,c2,c3,c4,dr⟩:=hc.elem (Below.refl _ _) hn;have db:nd.kind=3:=by rw[<-hk];unfold bO;rw[Hn.out]
 rw[db]at c0;obtain⟨bZ,cd,rfl,Fl,jJ⟩:=dr;have l0:=aD.left n hn;rw[hL]at l0;have r0:=aD.right n hn;rw[hR]at r0;have hlt:=aD.zG;have hrt:=aD.zH;have da:(0:Int)<=(n:Int):=by omega
 have cO:(n:Int)<(ns.length:Int):=by omega
 obtain⟨W0,ai⟩:∃W0,(w.alloc (zg #[zd (za ⟨b,o,zb⟩) ns.length c,zd (za ⟨gl,0,zb⟩) ns.length cl,zd (za ⟨gr,0,zb⟩) ns.length cr,.string t] 119)).alloc (zg #[zc .i64 3,.slice bZ nd.set.length cd,zc .i64 nd.min,zc .i64 nd.max,zc .i64 nd.group] 149)=W0:=⟨_,rfl⟩;have af:zf w.heap.size w W0:=by rw[<-ai];exact(aw).alloc (by simp) _
 have k1:W0.heap[w.heap.size]?=za (zg #[zd (za ⟨b,o,zb⟩) ns.length c,zd (za ⟨gl,0,zb⟩) ns.length cl,zd (za ⟨gr,0,zb⟩) ns.length cr,.string t] 119 (0,0)):=by rw[<-ai];exact cX (aI _ _)
 have k2:W0.heap[w.heap.size+1]?=za (zg #[zc .i64 3,.slice bZ nd.set.length cd,zc .i64 nd.min,zc .i64 nd.max,zc .i64 nd.group] 149 (0,0)):=by rw[<-ai];exact DM _ _ _
 obtain⟨p0,p1,p2,p3⟩:=oF k1;obtain⟨q0,q1,q2,q3,q4⟩:=FU k2;have dD:w.heap.size+1<W0.heap.size:=vm k2;have Ie:=λ(W:ze) (hb:zf w.heap.size w W)=>NF ns x hE W (za ⟨b,o,zb⟩) c gl cl gr cr t i j (aD.below hb) (by omega) jG ht
 have dJ:=λ(W:ze) (hb:zf w.heap.size w W) (g' cap':Nat) (h1:W.ownsRow B 71 2 (zd (za ⟨g',0,zb⟩) m cap') m (pv (sp)))=>hX W (za ⟨b,o,zb⟩) c gl cl gr cr t B i j g' cap' m (sp) l (aD.below hb) h1 (by first|exact hsm|(rw[Gm];exact hsm)) (aW hB hb.size) eQ dw dL jG ht
 have uG:=λ(W:ze) (hb:zf w.heap.size w W) (g' cap':Nat) (h1:W.ownsRow B 71 2 (zd (za ⟨g',0,zb⟩) m cap') m (pv (sp)))=>hY W (za ⟨b,o,zb⟩) c gl cl gr cr t B i j g' cap' m (sp) l (aD.below hb) h1 (by first|exact hsm|(rw[Gm];exact hsm)) (aW hB hb.size) eQ dw dL jG ht
 have H0:jy w (zd (za ⟨b,o,zb⟩) ns.length c) (zd (za ⟨gl,0,zb⟩) ns.length cl) (zd (za ⟨gr,0,zb⟩) ns.length cr) (.string t) (zc .i64 3) (.slice bZ nd.set.length cd) (zc .i64 nd.min) (zc .i64 nd.max) (zc .i64 nd.group) gl gr n (zc .i64 x) (zc .i64 y) W0:=⟨af,dD,p0,p1,p2,p3,q0,q1,q2,q3,q4,(af.cell (p:=⟨gl,n,zb⟩) hlt).trans l0,(af.cell (p:=⟨gr,n,zb⟩) hrt).trans r0,hlt,hrt⟩;have H1:=H0.call ((Below.refl W0.heap.size W0).drew);have s9:zh ((Lg t.data.toList (a8 ns x) i j/\Pl t.data.toList (a8 ns x) i j l)\/(¬Lg t.data.toList (a8 ns x) i j/\Pl t.data.toList (a8 ns y) i j l)):=dC;clear hT hk db hc jJ aD hX hY hE dC k1 k2 p0 p1 p2 p3 q1 q2 q3 q4 l0 r0;obtain⟨-,-,a0,a1,a2,a3,d0,d1,d2,d3,d4,lA,rA,-,-⟩:=H0
 go_enter func66,ntmps66
 go_wp2;obtain⟨rM,Md,Eu,Ev,Ew,Ex,KM,KN,EE,EF,KO,lC,rC,-,-⟩:=H1
 go_region_with (go_at_call 92;refine(Ie _ rM).mono ?_;rintro e w4 ⟨q,rfl,hq,bE⟩)
 all_goals
  have H4:jy w (zd (za ⟨b,o,zb⟩) ns.length c) (zd (za ⟨gl,0,zb⟩) ns.length cl) (zd (za ⟨gr,0,zb⟩) ns.length cr) (.string t) (zc .i64 3) (.slice bZ nd.set.length cd) (zc .i64 nd.min) (zc .i64 nd.max) (zc .i64 nd.group) gl gr n (zc .i64 x) (zc .i64 y) w4:=jy.call ⟨rM,Md,Eu,Ev,Ew,Ex,KM,KN,EE,EF,KO,lC,rC,hlt,hrt⟩ bE;have H5:=H4.call ((Below.refl w4.heap.size w4).drew);have lM:=dQ aB H5.1;clear rM Md Eu Ev Ew Ex KM KN EE EF KO lC rC a0 a1 a2 a3 d0 d1 d2 d3 d4 lA rA bE;obtain⟨ey,Dm,AE,AG,AH,AJ,CI,CJ,CK,CL,CM,lA,rA,-,-⟩:=H4;obtain⟨rM,Md,Eu,Ev,Ew,Ex,KM,KN,EE,EF,KO,lC,rC,-,-⟩:=H5;rcases s9.out with ⟨mN,hp⟩|⟨mN,hp⟩
  ·obtain rfl:q=true:=hq.2 mN;have Hp:zh (Pl t.data.toList (a8 ns x) i j l):=hp;clear hp hq mN uG;go_wp2
   go_region_with (go_at_call 66;refine(dJ _ rM g cap lM hg Hp.out).mono ?_;rintro e w5 ⟨g5,gF,rfl,mq,bD⟩)
   all_goals
    have bu:=aq rM rM.size bD;go_wp2;exact bh (v:=zd (za ⟨g5,0,zb⟩) m gF) (by simp[results,results66,go_sem]) rfl ⟨g5,gF,rfl,mq,bu⟩
  ·obtain rfl:q=false:=by
    cases q
    ·rfl
    ·exact absurd (hq.1 rfl) mN
   have Hp:zh (Pl t.data.toList (a8 ns y) i j l):=hp;clear hp hq mN dJ;go_wp2
   go_region_with (go_at_call 66;refine(uG _ rM g cap lM hg Hp.out).mono ?_;rintro e w5 ⟨g5,gF,rfl,mq,bD⟩)
   all_goals
    have bu:=aq rM rM.size bD;go_wp2;exact bh (v:=zd (za ⟨g5,0,zb⟩) m gF) (by simp[results,results66,go_sem]) rfl ⟨g5,gF,rfl,mq,bu⟩
theorem zqM{P:Prop}{q:Bool}(h:q=true↔P)(k:¬P):q=false:=by
 cases q
 ·rfl
 ·exact absurd (h.1 rfl) k
theorem zsA(ns:List aL)(n:Nat)(hE:kN ns n)(w:ze)(ao:Option Addr)(c gl cl gr cr:Nat)(t:ByteArray)(mn:Nat)(mx:Int)(i j:Nat)(pY:mn<=255)(hmx:mx=-1\/((mn:Int)<=mx/\mx<=255))(aD:vx w ns (.slice ao ns.length c) gl gr)(hi:i<=t.size)(hj:j<=t.size)(ht:t.size<=4096):
  zk prog 115 #[zi #[.slice ao ns.length c,zd (za ⟨gl,0,zb⟩) ns.length cl,zd (za ⟨gr,0,zb⟩) ns.length cr,.string t],zc .i64 n,zc .i64 mn,zc .i64 mx,zc .i64 i,zc .i64 j] w λe w'=>Rt w (Lg t.data.toList (.az (a8 ns n) mn mx) i j) e w':=by
 have af:zf w.heap.size w (w.alloc (zg #[.slice ao ns.length c,zd (za ⟨gl,0,zb⟩) ns.length cl,zd (za ⟨gr,0,zb⟩) ns.length cr,.string t] 119)):=aw;have k0:(w.alloc (zg #[.slice ao ns.length c,zd (za ⟨gl,0,zb⟩) ns.length cl,zd (za ⟨gr,0,zb⟩) ns.length cr,.string t] 119)).heap[w.heap.size]?=za (Cb ao ns c gl cl gr cr t):=aI _ _;have K8:=λ(W:ze)=>YH t.size i W hi (by omega)
 have K0:∀(W:ze) (g:Nat),zf w.heap.size w W->oG W g (re t.size i)->
   zk prog 114 #[zi #[.slice ao ns.length c,zd (za ⟨gl,0,zb⟩) ns.length cl,zd (za ⟨gr,0,zb⟩) ns.length cr,.string t],zc .i64 n,zc .i64 mn,zc .i64 mx,zd (za ⟨g,0,zb⟩) (t.size+1) (t.size+1)] W λr w'=>NK W t (t.size+1) (fZ t.data.toList (In (.az (a8 ns n) mn mx)) (· = i)) r w':=λW g h1 h2=>
  zjw ns n hE W ao c gl cl gr cr t g (t.size+1) (t.size+1) (re t.size i) _ mn mx (aD.below h1) h2 (by simp[re]) (Xg t.size i hi) ht pY hmx
 clear hE aD pY hmx;generalize hT:Pt.az (a8 ns n) mn mx=T at *;generalize hU:t.data.toList=u at *;obtain⟨q0,q1,q2,q3⟩:=oF k0;obtain⟨W0,ai⟩:∃W0,w.alloc (zg #[.slice ao ns.length c,zd (za ⟨gl,0,zb⟩) ns.length cl,zd (za ⟨gr,0,zb⟩) ns.length cr,.string t] 119)=W0:=⟨_,rfl⟩;rw[ai]at af k0 q0 q1 q2 q3;have kw:=vm k0;have uv:=af.drew;have da:(0:Int)<=(j:Int):=by omega
 have cO:(j:Int)<(t.size:Int)+1:=by omega
 clear k0
 go_enter func115,ntmps115
 go_wp2;clear ai
 go_region_with (first|(go_at_call 91;refine(K8 _).mono ?_;rintro r w3 ⟨rfl,tx,aG⟩;have kn:=aG.size;have z0:=(aG.cell (p:=⟨w.heap.size,0,zb⟩) kw).trans q0;have z1:=(aG.cell (p:=⟨w.heap.size,1,zb⟩) kw).trans q1;have z2:=(aG.cell (p:=⟨w.heap.size,2,zb⟩) kw).trans q2;have z3:=(aG.cell (p:=⟨w.heap.size,3,zb⟩) kw).trans q3)|(go_at_call 114;refine(K0 _ _ (aq uv uv.size aG) tx).mono ?_;rintro r w4 ⟨g4,c4,S4,rfl,uD,PF,qc,bE⟩;have hcell:=uD.2 j (by omega);obtain⟨q,hq⟩:∃q,S4.getD j false=q:=⟨_,rfl⟩;rw[hq]at hcell;have Hq:zh _:=hq;clear hq))
 all_goals
  have bu:=aq (aq uv uv.size aG) (aq uv uv.size aG).size bE;have nW:q=true↔Lg u T i j:=by rw[<-Hq.out];exact zoO qc
  go_wp2;go_ret;exact⟨q,rfl,nW,bu⟩
def GB(ns:List aL)(x:Nat)(t:ByteArray)(mn:Nat)(mx:Int)(i j:Nat)(l:List Up):Prop:=
 ∀(w:ze) (ao:Option Addr) (c gl cl gr cr B g cap m:Nat) (sp:List (Int×Int)),vx w ns (.slice ao ns.length c) gl gr->w.ownsRow B 71 2 (zd (za ⟨g,0,zb⟩) m cap) m (pv sp)->sp.length=m->B<=w.heap.size->0<m->m<=1048576->i<=j->j<=t.size->t.size<=4096->(∀z∈l,1<=z.1/\z.1<(m:Int))->mn<=255->(mx=-1\/((mn:Int)<=mx/\mx<=255))->
  zk prog 93 #[zi #[.slice ao ns.length c,zd (za ⟨gl,0,zb⟩) ns.length cl,zd (za ⟨gr,0,zb⟩) ns.length cr,.string t],zc .i64 x,zc .i64 mn,zc .i64 mx,zc .i64 i,zc .i64 j,zd (za ⟨g,0,zb⟩) m cap] w λe w'=>zvV B w m (gQ sp l) e w'
theorem zqQ(ns:List aL)(x:Nat)(t:ByteArray)(mn:Nat)(mx:Int)(i j:Nat)(h:mn=0/\mx=0):GB ns x t mn mx i j []:=by
 obtain⟨rfl,rfl⟩:=h;intro w ao c gl cl gr cr B g cap m sp aD aB hsm hB eQ dw dL jG ht hg pY hmx;obtain⟨W0,ai⟩:∃W0,w.alloc (zg #[.slice ao ns.length c,zd (za ⟨gl,0,zb⟩) ns.length cl,zd (za ⟨gr,0,zb⟩) ns.length cr,.string t] 119)=W0:=⟨_,rfl⟩;have af:zf w.heap.size w W0:=by rw[<-ai];exact aw
 have k0:W0.heap[w.heap.size]?=za (Cb ao ns c gl cl gr cr t):=by rw[<-ai];exact aI _ _
 clear k0
 go_enter func93,ntmps93
 go_wp2;exact bh (v:=zd (za ⟨g,0,zb⟩) m cap) (by simp[results,results93,go_sem]) rfl ⟨g,cap,rfl,dQ aB af,af⟩
theorem zqR(ns:List aL)(x:Nat)(t:ByteArray)(mn:Nat)(mx:Int)(i j:Nat)(h:mn=0/\mx=-1/\i=j):GB ns x t mn mx i j []:=by
 obtain⟨rfl,rfl,rfl⟩:=h;intro w ao c gl cl gr cr B g cap m sp aD aB hsm hB eQ dw dL jG ht hg pY hmx;obtain⟨W0,ai⟩:∃W0,w.alloc (zg #[.slice ao ns.length c,zd (za ⟨gl,0,zb⟩) ns.length cl,zd (za ⟨gr,0,zb⟩) ns.length cr,.string t] 119)=W0:=⟨_,rfl⟩;have af:zf w.heap.size w W0:=by rw[<-ai];exact aw
 have k0:W0.heap[w.heap.size]?=za (Cb ao ns c gl cl gr cr t):=by rw[<-ai];exact aI _ _
 clear k0
 go_enter func93,ntmps93
 go_wp2;exact bh (v:=zd (za ⟨g,0,zb⟩) m cap) (by simp[results,results93,go_sem]) rfl ⟨g,cap,rfl,dQ aB af,af⟩
theorem PC{p:Prop}(h:p):zh p:=h
theorem Rf(ns:List aL)(x:Nat)(hE:kN ns x)(hX:th ns x)(t:ByteArray)(n mn:Nat)(mx mx':Int)(lo i j cut:Nat)(l1 l2:List Up)(Lr:(n=mn+1/\i=lo/\0<mx/\mx'=mx-1)\/(n=mn+1/\i=lo/\mx=-1/\mx'=-1)\/(n=0/\mn=0/\i=lo/\0<mx/\mx'=mx-1)\/(n=0/\mn=0/\lo=i+1/\mx=-1/\mx'=-1))(hG:qy (λk=>Lg t.data.toList (a8 ns x) i k/\Lg t.data.toList (.az (a8 ns x) ((mn:Nat):Int) mx') k j) lo j cut)(kB:Pl t.data.toList (a8 ns x) i cut l1)(ih:GB ns x t mn mx' cut j l2):GB ns x t n mx i j (l1++l2):=by
 intro w ao c gl cl gr cr B g cap m sp aD aB hsm hB eQ dw dL jG ht hg pY hmx;obtain⟨W0,ai⟩:∃W0,w.alloc (zg #[.slice ao ns.length c,zd (za ⟨gl,0,zb⟩) ns.length cl,zd (za ⟨gr,0,zb⟩) ns.length cr,.string t] 119)=W0:=⟨_,rfl⟩;have af:zf w.heap.size w W0:=by rw[<-ai];exact aw
 have k0:W0.heap[w.heap.size]?=za (Cb ao ns c gl cl gr cr t):=by rw[<-ai];exact aI _ _
 have uJ:=hG.1;have eW:=hG.2.1;have Ie:=λ(kk:Nat) (W:ze) (hb:zf w.heap.size w W) (bK:kk<=t.size)=>NF ns x hE W ao c gl cl gr cr t i kk (aD.below hb) (by omega) bK ht
 have Ib:=λ(kk:Nat) (W:ze) (hb:zf w.heap.size w W) (bK:kk<=t.size)=>zsA ns x hE W ao c gl cl gr cr t mn mx' kk j (by omega) (by omega) (aD.below hb) bK jG ht
 have dJ:=λ(W:ze) (hb:zf w.heap.size w W) (h1:W.ownsRow B 71 2 (zd (za ⟨g,0,zb⟩) m cap) m (pv sp))=>hX W ao c gl cl gr cr t B i cut g cap m sp l1 (aD.below hb) h1 hsm (aW hB hb.size) eQ dw (by omega) (aW eW jG) ht (λz hz=>hg z (fm.2 (.inl hz))) kB
 have uG:=λ(W:ze) (hb:zf w.heap.size w W) (g' cap':Nat) (h1:W.ownsRow B 71 2 (zd (za ⟨g',0,zb⟩) m cap') m (pv (gQ sp l1)))=>ih W ao c gl cl gr cr B g' cap' m (gQ sp l1) (aD.below hb) h1 (by rw[Gm];exact hsm) (aW hB hb.size) eQ dw eW jG ht (λz hz=>hg z (fm.2 (.inr hz))) (by omega) (by omega)
 have Am:=PC hG.2.2.1;have RP:=PC hG.1;have Se:=PC hG.2.2.2;have Hu:zh (gQ sp (l1++l2)=gQ (gQ sp l1) l2):=Yq sp l1 l2;have HB:zh (B<=w.heap.size):=hB;clear hG kB ih hE hX aD hg hB;rcases Lr with ⟨hn,rfl,hp,rfl⟩|⟨hn,rfl,rfl,rfl⟩|⟨rfl,rfl,rfl,hp,rfl⟩|⟨rfl,rfl,rfl,rfl,rfl⟩
 all_goals
  try have n8:0<n:=by omega
  try have uK:decide (0<n)=true:=by simp[n8]
  try have rT:(n:Int)-1=(mn:Int):=by omega
  try have wh:(0:Int)<(n:Int):=by omega
  try have pU:decide (0<mx)=true:=by simp[hp]
  try have Lu:(mx==0)=false:=by simp;omega
  try have hd4:(mx == -1)=false:=by simp;omega
  try clear hn
  try simp only[show ((0:Nat):Int)=0 from rfl]at Ib uG ⊢
  go_enter func93,ntmps93
  go_wp2;clear ai
  go_loopw [18] (λk wr=>∃kk:Nat,cut<=kk/\kk<=j/\k=zc .i64 kk/\zf w.heap.size w wr/\wr.heap[w.heap.size]?=za (Cb ao ns c gl cl gr cr t))
   (λk _=>(intOf k).toNat)
  case atStart=>exact⟨j,eW,aj _,rfl,af,k0⟩
  case round=>
   clear k0;obtain⟨kk,db,mP,rfl,aD,kr⟩:=hrel;obtain⟨a0,a1,a2,a3⟩:=oF kr;have nY:kk<=t.size:=by omega
   have fY:=Int.ofNat_le.2 (aW RP.out db);have zzH:(i:Int)<=(kk:Int):=by omega
   obtain⟨b1,ag⟩:∃b:Bool,(b=true↔Lg t.data.toList (a8 ns x) i kk):=by
    by_cases h:Lg t.data.toList (a8 ns x) i kk
    ·exact⟨true,⟨λ_=>h,λ_=>rfl⟩⟩
    ·exact⟨false,⟨λk=>(by cases k),λk=>absurd k h⟩⟩
   have yL:zh (b1=true↔Lg t.data.toList (a8 ns x) i kk):=ag;clear ag
   go_wp2_with fail
   refine(Ie kk _ aD nY).mono ?_;rintro e w4 ⟨q,rfl,hq,bE⟩;obtain rfl:q=b1:=by
    have:=hq.trans yL.out.symm;cases q<;>cases b1<;>simp_all
   clear hq;have BB:=nu kr bE;have xC:=aq aD aD.size bE;obtain⟨c0,c1,c2,c3⟩:=oF BB;clear a0 a1 a2 a3 kr aD bE;cases q
   ·have hne:cut≠kk:=λh=>by
     have:=yL.out.2 (h ▸ Am.out.1);cases this
    go_wp2
    go_roundw
    case rel=>exact⟨kk-1,by omega,by omega,by go_num,xC,BB⟩
    case measure=>simp[intOf];omega
   ·go_wp2_with fail
    refine(Ib kk _ xC nY).mono ?_;rintro e w5 ⟨q,rfl,hq,bD⟩;have Hq:=PC hq;clear hq;have MA:=nu BB bD;have C7:=aq xC xC.size bD;obtain⟨d0,d1,d2,d3⟩:=oF MA;clear c0 c1 c2 c3 BB xC bD;cases q
    ·have hne:cut≠kk:=λh=>by
      have:=Hq.out.2 (h ▸ Am.out.2);cases this
     go_wp2
     go_roundw
     case rel=>exact⟨kk-1,by omega,by omega,by go_num,C7,MA⟩
     case measure=>simp[intOf];omega
    ·have pW:kk=cut:=by
      rcases ig cut kk with h|h
      ·exact absurd ⟨yL.out.1 (by first|trivial|rfl),Hq.out.1 (by first|trivial|rfl)⟩ (Se.out kk h mP)
      ·omega
     subst pW;go_wp2;have ew:=C7.drew;have MB:=nu MA ((Below.refl w5.heap.size w5).drew);obtain⟨e0,e1,e2,e3⟩:=oF MB;have oh:=dQ aB ew;clear Ie Ib d0 d1 d2 d3
     go_region_with (first|(go_at_call 66;refine(dJ _ ew oh).mono ?_;rintro e w8 ⟨g8,im,rfl,lN,eY⟩;clear dJ;have Fz:=nu MB eY;obtain⟨f0,f1,f2,f3⟩:=oF Fz;have nT:=aq ew ew.size eY)|(go_at_call 93;refine(uG _ nT g8 im lN).mono ?_;rintro e w9 ⟨g9,KI,rfl,nh,Pg⟩))
     all_goals
      have bu:=aq nT nT.size Pg;rw[<-Hu.out]at nh;go_wp2;exact bh (v:=zd (za ⟨g9,0,zb⟩) m KI) (by simp[results,results93,go_sem]) rfl ⟨g9,KI,rfl,nh,bu⟩
section
open Go
section
variable {P:Program} {ops:Array Oper} {md:Region.Mode} {C:ze->Prop}
def Gt(md:Region.Mode)(ops:Array Oper)(n i:Nat):Bool:=
 match ops[n]? with
 |some o=>o.after.any λe=>Region.binds md e&&e.on==i
 |none=>false
theorem Xl{n i:Nat}(h:Gt md ops n i=true)(listed:Array Bool)(hr:n∈Region.ready md ops listed):listed.getD i true=true:=by
 obtain⟨_,o,ho,io⟩:=mem_ready.1 hr;unfold Gt at h;rw[ho]at h;simp only[Array.any_eq_true,Bool.and_eq_true,beq_iff_eq]at h;obtain⟨k,hk,hb,he⟩:=h;have h1:=io _ (Array.getElem_mem hk) hb;rw[he]at h1;rcases Nat.lt_or_ge i listed.size with h'|h'
 ·simp[h']at h1 ⊢;exact h1
 ·simp[Array.getElem?_eq_none h']at h1
end
end
section
open Go
section
variable {P:Program} {ops:Array Oper} {md:Region.Mode} {C:ze->Prop}
def mE(md:Region.Mode)(ops:Array Oper)(listed:Array Bool):Prop:=∀(k:Nat) (o:Oper),ops[k]?=za o->listed.getD k true=true->∀e∈o.after,Region.binds md e=true->listed.getD e.on true=true
theorem ziz{l:Array Bool}{i j:Nat}(h:l.getD i true=true):(l.setIfInBounds j true).getD i true=true:=by
 by_cases e:j=i
 ·subst e
  by_cases hj:j<l.size
  ·simp[hj]
  ·simp[hj]
 ·rw[getD_set_ne true e];exact h
theorem mE.start(md:Region.Mode)(ops:Array Oper):mE md ops (Array.replicate ops.size false):=λk o hk h=>by
 have hlt:=(Array.getElem?_eq_some_iff.1 hk).1;simp[hlt]at h
theorem zr4{listed:Array Bool}{j:Nat}{o:Oper}(ho:ops[j]?=za o)(hj:j∈Region.ready md ops listed):∀e∈o.after,Region.binds md e=true->listed.getD e.on true=true:=λe he hb=>by
 obtain⟨_,o',zB,io⟩:=mem_ready.1 hj;rw[ho]at zB;cases zB;have h1:=io e he hb;rcases Nat.lt_or_ge e.on listed.size with h'|h'
 ·simp[h']at h1 ⊢;exact h1
 ·simp[Array.getElem?_eq_none h']at h1
theorem mE.set{listed:Array Bool}(h:mE md ops listed){j:Nat}(hj:j∈Region.ready md ops listed):mE md ops (listed.setIfInBounds j true):=λk o hk hl e he hb=>by
 refine ziz ?_
 by_cases e1:j=k
 ·subst e1;exact zr4 hk hj e he hb
 ·rw[getD_set_ne true e1]at hl;exact h k o hk hl e he hb
end
end
section
open Go
section
variable {P:Program} {ops:Array Oper} {md:Region.Mode} {C:ze->Prop}
def BN(md:Region.Mode)(ops:Array Oper):Nat->Nat->Array Bool->Bool
 |0,_,listed=>(Region.ready md ops listed).isEmpty
 |f+1,k,listed=>(Region.ready md ops listed == [k])&&BN md ops f (k+1) (listed.setIfInBounds k true)
theorem zjG{f k:Nat}{listed:Array Bool}(h:BN md ops f k listed=true):∀j∈Region.ready md ops listed,j=k/\0<f:=λj hj=>by
 cases f with
 |zero=>
  simp only[BN,List.isEmpty_iff]at h;rw[h]at hj;cases hj
 |succ f=>
  simp only[BN,Bool.and_eq_true,beq_iff_eq]at h;rw[h.1]at hj;exact⟨by simpa using hj,by omega⟩
theorem zf1{Q:Exit->Act->ze->Prop}:∀(l:List Oper) (k:Nat) (listed:Array Bool) (a:Act) (w:ze),(∀j,j<l.length->l[j]?=ops[k+j]?)->BN md ops l.length k listed=true->wpList P ops Q l a w->wpAny P md ops Q l.length listed a w
 |[],_,_,_,_,_,hB,h=>by
  simp only[List.length_nil,BN,List.isEmpty_iff]at hB;exact⟨hB,h⟩
 |o::l,k,listed,a,w,hl,hB,h=>by
  have h0:ops[k]?=za o:=by simpa using (hl 0 (by simp)).symm
  simp only[List.length_cons,BN,Bool.and_eq_true,beq_iff_eq]at hB;have ih:=λa w h=>zf1 (Q:=Q) l (k+1) (listed.setIfInBounds k true) a w (λj hj=>by have:=hl (j+1) (by simp;omega);simpa [Nat.add_assoc,Nat.add_comm 1 j]using this) hB.2 h
  refine⟨λe=>absurd e (by rw[hB.1];simp),λi hi=>?_⟩;rw[hB.1]at hi;have e:i=k:=by simpa using hi
  subst e;unfold wpOp;simp only[h0];unfold wpList at h
  by_cases hw:Region.wanted o (yielded ops a.tmps)=true
  ·rw[if_pos hw]at h ⊢;rcases h with h|h
   ·exact .inl (Oper.wp_mono (λa w h=>ih a w h) h)
   ·exact .inr h
  ·rw[if_neg hw]at h ⊢;exact ih _ _ h
def NH(P:Program)(md:Region.Mode)(ops:Array Oper)(C:ze->Prop)(n:Nat)(Q:Act->Prop):Nat->Array Bool->Act->Prop
 |0,listed,a=>BN md ops (ops.size-n) n listed=true/\Q a
 |fuel+1,listed,a=>Region.ready md ops listed≠[]/\∀i∈Region.ready md ops listed,qOp P ops C i (NH P md ops C n Q fuel (listed.setIfInBounds i true)) a
theorem zfl{Q:Act->Prop}{Q':Exit->Act->ze->Prop}{n:Nat}{l:List Oper}(hl:∀j,j<l.length->l[j]?=ops[n+j]?)(hsz:ops.size-n=l.length)(hQ:∀a w,C w->Q a->wpList P ops Q' l a w):
  ∀(fuel:Nat) (listed:Array Bool) (a:Act) (w:ze),C w->NH P md ops C n Q fuel listed a->wpAny P md ops Q' (fuel+l.length) listed a w
 |0,listed,a,w,hw,h=>by
  rw[Nat.zero_add];exact zf1 l n listed a w hl (by rw[<-hsz];exact h.1) (hQ a w hw h.2)
 |fuel+1,listed,a,w,hw,h=>by
  rw[show fuel+1+l.length=fuel+l.length+1 by omega];exact⟨λh0=>absurd h0 h.1,λi hi=>wpOp_of_qOp hw (λa' w' hw'=>zfl hl hsz hQ fuel _ a' w' hw') (h.2 i hi)⟩
theorem zkG{Q:Act->Prop}{i n:Nat}{oi:Oper}{v:zj}(hi:ops[i]?=za oi)(UK:∀listed:Array Bool,mE md ops listed->n∈Region.ready md ops listed->listed.getD i true=true)(Mf:∀(j:Nat) (o:Oper) cs b,ops[j]?=za o->o.op≠.select cs b):
  ∀(fuel:Nat) (listed:Array Bool) (a:Act),mE md ops listed->
   (∀j oj,ops[j]?=za oj->j≠i->listed.getD j true=false->(∀e∈oj.after,Region.binds md e=true->e.on≠i)->oi.apart ops oj=true)->
   i∈Region.ready md ops listed->YieldsIn P ops C oi v a->
   NH P md ops C n Q fuel (listed.setIfInBounds i true) (a.put oi.dst v)->NH P md ops C n Q (fuel+1) listed a:=by
 intro fuel
 induction fuel with
 |zero=>
  intro listed a iq _ hr hy H;refine⟨λh=>(by rw[h]at hr;cases hr),λj hj=>?_⟩
  by_cases nX:j=i
  ·subst nX;exact hy.qOp hi H
  ·have h2:=(zjG H.1 j (ready_mono hj nX)).1;subst h2;have h1:=UK _ iq hj;rw[(mem_ready.1 hr).1]at h1;cases h1
 |succ fuel ih=>
  intro listed a iq rQ hr hy H;refine⟨λh=>(by rw[h]at hr;cases hr),λj hj=>?_⟩
  by_cases nX:j=i
  ·subst nX;exact hy.qOp hi H
  ·have h1:=H.2 j (ready_mono hj nX);obtain⟨LK,oj,qN,io⟩:=mem_ready.1 hj;have U0:∀e∈oj.after,Region.binds md e=true->e.on≠i:=λe he hb pW=>by
    have h1:=io e he hb;have h0:=(mem_ready.1 hr).1;rw[pW]at h1;rcases Nat.lt_or_ge i listed.size with h'|h'
    ·simp[h']at h0 h1;rw[h0]at h1;cases h1
    ·simp[Array.getElem?_eq_none h']at h1
   have h2:=qOp_put qN (rQ j oj qN nX LK U0) (λcs b=>Mf i oi cs b hi) (λcs b=>Mf j oj cs b qN) hy h1;have Us:∀k ok,ops[k]?=za ok->k≠i->(listed.setIfInBounds j true).getD k true=false->
     (∀e∈ok.after,Region.binds md e=true->e.on≠i)->oi.apart ops ok=true:=λk ok hk UI Mm hno=>by
    refine rQ k ok hk UI ?_ hno
    by_cases LJ:j=k
    ·subst LJ;exact LK
    ·rw[getD_set_ne true LJ]at Mm;exact Mm
   refine qOp_mono (λa' h3=>ih (listed.setIfInBounds j true) a' (iq.set hj) Us (ready_mono hr (Ne.symm nX)) h3.1 ?_) h2;rw[Array.setIfInBounds_comm _ _ nX];exact h3.2
def oH(md:Region.Mode)(ops:Array Oper):Nat->Nat->Nat->Bool
 |0,n,i=>Gt md ops n i
 |f+1,n,i=>Gt md ops n i || (List.range n).any λk=>Gt md ops n k&&oH md ops f k i
theorem zqt{n i:Nat}(h:Gt md ops n i=true):∃o,ops[n]?=za o/\∃e∈o.after,Region.binds md e=true/\e.on=i:=by
 unfold Gt at h;split at h
 ·rename_i o ho
  simp only[Array.any_eq_true,Bool.and_eq_true,beq_iff_eq]at h;obtain⟨q,hq,hb,he⟩:=h;exact⟨o,ho,_,Array.getElem_mem hq,hb,he⟩
 ·cases h
theorem FN{listed:Array Bool}(hc:mE md ops listed):∀(f n i:Nat),listed.getD n true=true->oH md ops f n i=true->listed.getD i true=true
 |0,n,i,hl,h=>by
  obtain⟨o,ho,e,he,hb,e2⟩:=zqt h;rw[<-e2];exact hc n o ho hl e he hb
 |f+1,n,i,hl,h=>by
  unfold oH at h;rw[Bool.or_eq_true]at h;rcases h with h|h
  ·exact FN hc 0 n i hl h
  ·obtain⟨k,_,hk⟩:=List.any_eq_true.1 h;rw[Bool.and_eq_true]at hk;exact FN hc f k i (FN hc 0 n k hl hk.1) hk.2
theorem zl2{f n i:Nat}(h:oH md ops f n i=true)(listed:Array Bool)(hc:mE md ops listed)(hr:n∈Region.ready md ops listed):listed.getD i true=true:=by
 cases f with
 |zero=>exact Xl h listed hr
 |succ f=>
  unfold oH at h;rw[Bool.or_eq_true]at h;rcases h with h|h
  ·exact Xl h listed hr
  ·obtain⟨k,_,hk⟩:=List.any_eq_true.1 h;rw[Bool.and_eq_true]at hk;exact FN hc f k i (Xl hk.1 listed hr) hk.2
def P6(md:Region.Mode)(ops:Array Oper)(n:Nat):Nat->Nat->Array Bool->Bool
 |0,_,listed=>BN md ops (ops.size-n) n listed
 |fuel+1,k,listed=>(Region.ready md ops listed).contains k&&Region.free md ops listed k&&P6 md ops n fuel (k+1) (listed.setIfInBounds k true)
def preB(md:Region.Mode)(ops:Array Oper)(n:Nat):Bool:=
 Region.noSelect ops&&(List.range n).all (λi=>decide (ops.size<=n) || oH md ops 6 n i)&&P6 md ops n n 0 (Array.replicate ops.size false)
theorem zih{Q:Act->Prop}{n:Nat}(hs:Region.noSelect ops=true)(hn:∀i,i<n->(decide (ops.size<=n) || oH md ops 6 n i)=true):∀(l:List Oper) (k:Nat) (listed:Array Bool) (a:Act),mE md ops listed->(∀j,j<l.length->l[j]?=ops[k+j]?)->k+l.length=n->
  P6 md ops n l.length k listed=true->wpQuiet P ops C Q l a->NH P md ops C n Q l.length listed a
 |[],_,_,_,_,_,_,hB,h=>⟨hB,h⟩
 |o::l,k,listed,a,iq,hl,jY,hB,h=>by
  have h0:ops[k]?=za o:=by simpa using (hl 0 (by simp)).symm
  simp only[List.length_cons,P6,Bool.and_eq_true]at hB;obtain⟨⟨hr,hf⟩,CQ⟩:=hB;have hst:qOp P ops C k (wpQuiet P ops C Q l) a:=by unfold qOp;simp only[h0];exact h
  obtain⟨v,hy,hK⟩:=yieldsIn_of_qOp h0 hst;simp only[List.length_cons]at jY;have bV:k∈Region.ready md ops listed:=by simpa using hr
  exact zkG h0 (λL hc jH=>by
    have h1:=hn k (by omega);rw[Bool.or_eq_true]at h1;rcases h1 with h1|h1
    ·have h2:=of_decide_eq_true h1;obtain⟨_,o',zB,_⟩:=mem_ready.1 jH;have:=(Array.getElem?_eq_some_iff.1 zB).1;omega
    ·exact zl2 h1 L hc jH) (Region.noSelect_spec hs) l.length listed a iq (Region.free_spec h0 hf) bV hy
   (zih hs hn l (k+1) _ _ (iq.set bV) (λj hj=>by have:=hl (j+1) (by simp;omega);simpa [Nat.add_assoc,Nat.add_comm 1 j]using this) (by omega) CQ hK)
theorem zkH(n:Nat){Q:Exit->Act->ze->Prop}{a:Act}{w:ze}{all:List Oper}(C:ze->Prop)(hC:C w)(hn:n<=all.length)(hB:preB md all.toArray n=true)
  (h:∀l,l=all.take n->wpQuiet P all.toArray C (λa'=>∀w',C w'->∀r,r=all.drop n->wpList P all.toArray Q r a' w') l a):wpAny P md all.toArray Q all.length (Array.replicate all.length false) a w:=by
 simp only[preB,Bool.and_eq_true,List.all_eq_true,List.mem_range]at hB;have hlt:(all.take n).length=n:=by rw[List.length_take];omega
 have LN:(all.drop n).length=all.length-n:=by rw[List.length_drop]
 have h1:=zih (P:=P) (C:=C) hB.1.1 hB.1.2 (all.take n) 0 (Array.replicate all.toArray.size false) a (mE.start _ _) (λj hj=>by rw[hlt]at hj;simp[hj]) (by omega) (by rw[hlt];exact hB.2) (h _ rfl);have h2:=zfl (md:=md) (C:=C) (Q':=Q) (n:=n) (l:=all.drop n) (λj _=>by simp[List.getElem?_drop]) (by simp) (λa w hw hq=>hq w hw _ rfl) (all.take n).length _ a w hC h1;rw[hlt,LN,show n+(all.length-n)=all.length by omega]at h2
 simpa using h2
theorem yj(n:Nat){id:Nat}{Q:Exit->Act->ze->Prop}{a:Act}{w:ze}{all:List Oper}(C:ze->Prop)(hm:P.follows .mixedOrders=true)(hC:C w.drew)(hn:n<=all.length)(hB:preB .any all.toArray n=true)
  (h:∀l,l=all.take n->wpQuiet P all.toArray C (λa'=>∀w',C w'->∀r,r=all.drop n->wpList P all.toArray Q r a' w') l a):(Code.region id all.toArray true).wp P Q a w:=by
 refine wp_region_any hm ?_;have:=zkH (md:=.any) n C hC hn hB h
 simpa using this
theorem znU{o:Oper}{a:Act}{w:ze}{K:Act->ze->Prop}{Q:Exit->Act->ze->Prop}(l n:Nat)(hd:∀c,o.op≠.defer c)(h:o.wp P a w K Q):o.wpIn (Fence.wide.inRound l) n P a w K Q:=by
 refine⟨λ_ _=>trivial,?_⟩;rw[Oper.semAt_eq _ _ _ hd];unfold Oper.wp at h;generalize (execOp a.eval o).run P w=r at *;have hdp:(Fence.wide.inRound l).depth.isSome=true->1<=n:=λe=>by cases e
 cases r with
 |ok nx w'=>
  cases nx with
  |value v=>exact h
  |skip=>exact h
  |defer d=>exact h
  |enter f args=>exact⟨hdp,CallsIn.inRound l (callsIn_wide.2 h)⟩
  |row row args=>exact⟨hdp,λc cs _=>by
    obtain⟨v,w2,h1,h2⟩:=h c cs;exact⟨v,w2,h1,stepsIn_wide.2 h2⟩⟩
  |round l f tmps assign body=>exact h.elim
  |_=>exact h.elim
 |halt hh w'=>
  cases hh with
  |panic v=>exact h
  |_=>exact h.elim
theorem M8{Q:Exit->Act->ze->Prop}(l n:Nat)(hQ:¬LetsOut Q)(hd:∀(j:Nat) (o:Oper),ops[j]?=za o->∀c,o.op≠.defer c):∀(fuel:Nat) (listed:Array Bool) (a:Act) (w:ze),wpAny P md ops Q fuel listed a w->wpAnyIn (Fence.wide.inRound l) n P md ops Q fuel listed a w
 |0,_,_,_,h=>h
 |fuel+1,listed,a,w,h=>by
  refine⟨h.1,λi hi=>?_⟩;have h1:=h.2 i hi;unfold wpOp at h1;unfold wpOpIn;split
  ·rename_i e
   simp only[e]at h1;exact M8 l n hQ hd fuel _ _ _ h1
  ·rename_i o e
   simp only[e]at h1
   by_cases hw:Region.wanted o (yielded ops a.tmps)=true
   ·rw[if_pos hw]at h1 ⊢;rcases h1 with h1|h1
    ·exact znU l n (hd i o e) (Oper.wp_mono (λa w h=>M8 l n hQ hd fuel _ a w h) h1)
    ·exact absurd h1.2 hQ
   ·rw[if_neg hw]at h1 ⊢;exact⟨λ_ _=>trivial,M8 l n hQ hd fuel _ _ _ h1⟩
def YG(ops:List Oper):Bool:=ops.all λo=>match o.op with | .defer _=>false|_=>true
theorem zfX{all:List Oper}(h:YG all=true)(j:Nat)(o:Oper)(ho:all.toArray[j]?=za o)(c:_):o.op≠.defer c:=λe=>by
 have hm:o∈all:=by
  rw[List.getElem?_toArray]at ho;exact List.mem_of_getElem? ho
 have:=List.all_eq_true.1 h o hm;rw[e]at this;cases this
theorem zhk(n:Nat){id l nn:Nat}{Q:Exit->Act->ze->Prop}{a:Act}{w:ze}{all:List Oper}(C:ze->Prop)(hm:P.follows .mixedOrders=true)(hC:C w.drew)(hQ:¬LetsOut Q)(hn:n<=all.length)(hB:preB .any all.toArray n=true)(hD:YG all=true)
  (h:∀l,l=all.take n->wpQuiet P all.toArray C (λa'=>∀w',C w'->∀r,r=all.drop n->wpList P all.toArray Q r a' w') l a):(Code.region id all.toArray true).wpIn (Fence.wide.inRound l) nn P Q a w:=by
 refine wpIn_region_any hm ?_;have:=M8 l nn hQ (zfX hD) _ _ _ _ (zkH (md:=.any) n C hC hn hB h)
 simpa using this
end
end
structure dB(X:ze) where
 W:ze
 h:zf X.heap.size X W
instance zAX (X:ze):Nonempty (dB X):=⟨⟨X,Below.refl _ _⟩⟩
theorem Nz{P:Prop}{q:Bool}(h:q=true↔P)(k:¬P):q=false:=by
 cases q
 ·rfl
 ·exact absurd (h.1 rfl) k
theorem zrT(ns:List aL)(n x y:Nat)(hn:n<ns.length)(hk:bO ns n=2)(hT:a8 ns n=.seq (a8 ns x) (a8 ns y))(hL:lm ns n=x)(hR:oD ns n=y)(hE:kN ns x)(hF:kN ns y)(hX:th ns x)(hY:th ns y):th ns n:=by
 intro w ao c gl cl gr cr t B i j g cap m sp l aD aB hsm hB eQ dw dL jG ht hg dC;rw[hT]at dC;obtain⟨iD,fB,hv,Bo,hc⟩:=aD.nodes;cases hv;obtain⟨b,o,sv,nd,rfl,Hn,aZ,c0,c1,c2,c3,c4,dr⟩:=hc.elem (Below.refl _ _) hn;have db:nd.kind=2:=by rw[<-hk];unfold bO;rw[Hn.out]
 rw[db]at c0;obtain⟨bZ,cd,rfl,Fl,jJ⟩:=dr;have l0:=aD.left n hn;rw[hL]at l0;have r0:=aD.right n hn;rw[hR]at r0;have hlt:=aD.zG;have hrt:=aD.zH;have da:(0:Int)<=(n:Int):=by omega
 have cO:(n:Int)<(ns.length:Int):=by omega
 obtain⟨W0,ai⟩:∃W0,(w.alloc (zg #[zd (za ⟨b,o,zb⟩) ns.length c,zd (za ⟨gl,0,zb⟩) ns.length cl,zd (za ⟨gr,0,zb⟩) ns.length cr,.string t] 119)).alloc (zg #[zc .i64 2,.slice bZ nd.set.length cd,zc .i64 nd.min,zc .i64 nd.max,zc .i64 nd.group] 149)=W0:=⟨_,rfl⟩;have af:zf w.heap.size w W0:=by rw[<-ai];exact(aw).alloc (by simp) _
 have k1:W0.heap[w.heap.size]?=za (zg #[zd (za ⟨b,o,zb⟩) ns.length c,zd (za ⟨gl,0,zb⟩) ns.length cl,zd (za ⟨gr,0,zb⟩) ns.length cr,.string t] 119 (0,0)):=by rw[<-ai];exact cX (aI _ _)
 have k2:W0.heap[w.heap.size+1]?=za (zg #[zc .i64 2,.slice bZ nd.set.length cd,zc .i64 nd.min,zc .i64 nd.max,zc .i64 nd.group] 149 (0,0)):=by rw[<-ai];exact DM _ _ _
 obtain⟨p0,p1,p2,p3⟩:=oF k1;obtain⟨q0,q1,q2,q3,q4⟩:=FU k2;have dD:w.heap.size+1<W0.heap.size:=vm k2;obtain⟨cut,l1,l2,hG,kB,iW,rfl⟩:=dC;have Ig:=λ(kk:Nat) (W:ze) (hb:zf w.heap.size w W) (bK:kk<=t.size)=>NF ns x hE W (za ⟨b,o,zb⟩) c gl cl gr cr t i kk (aD.below hb) (by omega) bK ht
 have Lb:=λ(kk:Nat) (W:ze) (hb:zf w.heap.size w W) (bK:kk<=t.size)=>NF ns y hF W (za ⟨b,o,zb⟩) c gl cl gr cr t kk j (aD.below hb) bK jG ht
 have dJ:=λ(W:ze) (hb:zf w.heap.size w W)=>hX W (za ⟨b,o,zb⟩) c gl cl gr cr t B i cut g cap m sp l1 (aD.below hb) (dQ aB hb) hsm (aW hB hb.size) eQ dw hG.1 (aW hG.2.1 jG) ht (λz hz=>hg z (fm.2 (.inl hz))) kB
 have uG:=λ(W:ze) (hb:zf w.heap.size w W) (g' cap':Nat) (h1:W.ownsRow B 71 2 (zd (za ⟨g',0,zb⟩) m cap') m (pv (gQ sp l1)))=>hY W (za ⟨b,o,zb⟩) c gl cl gr cr t B cut j g' cap' m (gQ sp l1) l2 (aD.below hb) h1 (by rw[Gm];exact hsm) (aW hB hb.size) eQ dw hG.2.1 jG ht (λz hz=>hg z (fm.2 (.inr hz))) iW
 have uJ:=hG.1;have eW:=hG.2.1;have Am:zh (Lg t.data.toList (a8 ns x) i cut/\Lg t.data.toList (a8 ns y) cut j):=hG.2.2.1;have Se:zh (∀k,cut<k->k<=j->¬(Lg t.data.toList (a8 ns x) i k/\Lg t.data.toList (a8 ns y) k j)):=hG.2.2.2;have Hu:zh (gQ sp (l1++l2)=gQ (gQ sp l1) l2):=Yq sp l1 l2;have H0:jy w (zd (za ⟨b,o,zb⟩) ns.length c) (zd (za ⟨gl,0,zb⟩) ns.length cl) (zd (za ⟨gr,0,zb⟩) ns.length cr) (.string t) (zc .i64 2) (.slice bZ nd.set.length cd) (zc .i64 nd.min) (zc .i64 nd.max) (zc .i64 nd.group) gl gr n (zc .i64 x) (zc .i64 y) W0:=⟨af,dD,p0,p1,p2,p3,q0,q1,q2,q3,q4,(af.cell (p:=⟨gl,n,zb⟩) hlt).trans l0,(af.cell (p:=⟨gr,n,zb⟩) hrt).trans r0,hlt,hrt⟩;clear hT hk db hc jJ aD hX hY hE hF hG kB iW hg k1 k2 p0 p1 p2 p3 q1 q2 q3 q4 l0 r0;obtain⟨-,-,a0,a1,a2,a3,d0,d1,d2,d3,d4,lA,rA,-,-⟩:=id H0
 go_enter func66,ntmps66
 go_wp2;clear a0 a1 a2 a3 d0 d1 d2 d3 d4 lA rA ai c0 c1 c2 c3 c4 q0
 go_loopw [13] (λk wr=>∃kk:Nat,cut<=kk/\kk<=j/\k=zc .i64 kk/\jy w (zd (za ⟨b,o,zb⟩) ns.length c) (zd (za ⟨gl,0,zb⟩) ns.length cl) (zd (za ⟨gr,0,zb⟩) ns.length cr) (.string t) (zc .i64 2) (.slice bZ nd.set.length cd) (zc .i64 nd.min) (zc .i64 nd.max) (zc .i64 nd.group) gl gr n (zc .i64 x) (zc .i64 y) wr)
  (λk _=>(intOf k).toNat)
 case atStart=>exact⟨j,eW,aj _,rfl,H0⟩
 case round=>
  clear H0;obtain⟨kk,db,mP,rfl,Hr⟩:=hrel;obtain⟨ey,Dm,AE,AG,AH,AJ,CI,CJ,CK,CL,CM,lA,rA,-,-⟩:=Hr;have x0:∀s:dB wr,s.W.cell? ⟨w.heap.size,0,zb⟩=za (zd (za ⟨b,o,zb⟩) ns.length c):=λs=>(s.h.cell (p:=⟨w.heap.size,0,zb⟩) (by show w.heap.size<_;omega)).trans AE
  have x1:∀s:dB wr,s.W.cell? ⟨w.heap.size,1,zb⟩=za (zd (za ⟨gl,0,zb⟩) ns.length cl):=λs=>(s.h.cell (p:=⟨w.heap.size,1,zb⟩) (by show w.heap.size<_;omega)).trans AG
  have x2:∀s:dB wr,s.W.cell? ⟨w.heap.size,2,zb⟩=za (zd (za ⟨gr,0,zb⟩) ns.length cr):=λs=>(s.h.cell (p:=⟨w.heap.size,2,zb⟩) (by show w.heap.size<_;omega)).trans AH
  have x3:∀s:dB wr,s.W.cell? ⟨w.heap.size,3,zb⟩=za (.string t):=λs=>(s.h.cell (p:=⟨w.heap.size,3,zb⟩) (by show w.heap.size<_;omega)).trans AJ
  have x4:∀s:dB wr,s.W.cell? ⟨gl,n,zb⟩=za (zc .i64 x):=λs=>(s.h.cell (p:=⟨gl,n,zb⟩) (by have:=ey.size;show gl<_;omega)).trans lA
  have x5:∀s:dB wr,s.W.cell? ⟨gr,n,zb⟩=za (zc .i64 y):=λs=>(s.h.cell (p:=⟨gr,n,zb⟩) (by have:=ey.size;show gr<_;omega)).trans rA
  have nY:kk<=t.size:=by omega
  go_wp2
  by_cases hkc:kk=cut
  ·subst hkc;have HA:zh (Lg t.data.toList (a8 ns x) i kk):=Am.out.1;have pJ:zh (Lg t.data.toList (a8 ns y) kk j):=Am.out.2;have xv:∀s:dB wr,zk prog 92 #[zi #[zd (za ⟨b,o,zb⟩) ns.length c,zd (za ⟨gl,0,zb⟩) ns.length cl,zd (za ⟨gr,0,zb⟩) ns.length cr,.string t],zc .i64 x,zc .i64 i,zc .i64 kk] s.W λe w'=>e=.returned (.bool true)/\∃s':dB wr,w'=s'.W:=λs=>(Ig kk s.W (aq ey ey.size s.h) nY).mono λe w' ⟨q,he,hq,hb⟩=>⟨by rw[he,show q=true from(by first|exact hq.2 HA.out|exact Nz hq HA.out)],⟨⟨w',aq s.h s.h.size hb⟩,rfl⟩⟩
   have Ld:∀s:dB wr,zk prog 92 #[zi #[zd (za ⟨b,o,zb⟩) ns.length c,zd (za ⟨gl,0,zb⟩) ns.length cl,zd (za ⟨gr,0,zb⟩) ns.length cr,.string t],zc .i64 y,zc .i64 kk,zc .i64 j] s.W λe w'=>e=.returned (.bool true)/\∃s':dB wr,w'=s'.W:=λs=>(Lb kk s.W (aq ey ey.size s.h) nY).mono λe w' ⟨q,he,hq,hb⟩=>⟨by rw[he,show q=true from(by first|exact hq.2 pJ.out|exact Nz hq pJ.out)],⟨⟨w',aq s.h s.h.size hb⟩,rfl⟩⟩
   refine yj 21 (λw'=>∃s:dB wr,w'=s.W) (by kernel_rfl) ⟨⟨wr.drew,⟨rfl,rfl,rfl,aj _,λ_ _=>rfl⟩⟩,rfl⟩ (by decide) (by kernel_rfl) ?_;intro os bW;simp only[nH,ue]at bW;subst bW
   repeat (go_big_quiet_step (first|(go_at_call_of 92 (Value.int IntKind.i64 (x:Int));exact xv _)|(go_at_call_of 92 (Value.int IntKind.i64 (y:Int));exact Ld _)))
   refine wpQuiet_nil ?_;rintro w6 ⟨⟨Wb,ew⟩,rfl⟩ r hr;simp only[wV,wW]at hr;subst hr;have H6:jy w (zd (za ⟨b,o,zb⟩) ns.length c) (zd (za ⟨gl,0,zb⟩) ns.length cl) (zd (za ⟨gr,0,zb⟩) ns.length cr) (.string t) (zc .i64 2) (.slice bZ nd.set.length cd) (zc .i64 nd.min) (zc .i64 nd.max) (zc .i64 nd.group) gl gr n (zc .i64 x) (zc .i64 y) w6:=jy.call ⟨ey,Dm,AE,AG,AH,AJ,CI,CJ,CK,CL,CM,lA,rA,hlt,hrt⟩ ew;have H7:=H6.call ((Below.refl w6.heap.size w6).drew);clear xv Ld Ig Lb HA pJ x0 x1 x2 x3 x4 x5 ey Dm AE AG AH AJ CI CJ CK CL CM lA rA;obtain⟨-,-,e0,e1,e2,e3,-,-,-,-,-,eL,eR,-,-⟩:=H6;have zq:zf w.heap.size w w6.drew/\w.heap.size+1<w6.drew.heap.size/\w6.drew.cell? ⟨w.heap.size,0,zb⟩=za (zd (za ⟨b,o,zb⟩) ns.length c)/\w6.drew.cell? ⟨w.heap.size,1,zb⟩=za (zd (za ⟨gl,0,zb⟩) ns.length cl)/\w6.drew.cell? ⟨w.heap.size,2,zb⟩=za (zd (za ⟨gr,0,zb⟩) ns.length cr)/\w6.drew.cell? ⟨w.heap.size,3,zb⟩=za (.string t)/\w6.drew.cell? ⟨gl,n,zb⟩=za (zc .i64 x)/\w6.drew.cell? ⟨gr,n,zb⟩=za (zc .i64 y):=⟨H7.1,H7.2.1,e0,e1,e2,e3,eL,eR⟩;have du:=zq.1;clear H7;go_wp2;clear e0 e1 e2 e3 eL eR
   go_region_held3 (λw'=>zf w.heap.size w w'/\w.heap.size+1<w'.heap.size/\w'.cell? ⟨w.heap.size,0,zb⟩=za (zd (za ⟨b,o,zb⟩) ns.length c)/\w'.cell? ⟨w.heap.size,1,zb⟩=za (zd (za ⟨gl,0,zb⟩) ns.length cl)/\w'.cell? ⟨w.heap.size,2,zb⟩=za (zd (za ⟨gr,0,zb⟩) ns.length cr)/\w'.cell? ⟨w.heap.size,3,zb⟩=za (.string t)/\w'.cell? ⟨gl,n,zb⟩=za (zc .i64 x)/\w'.cell? ⟨gr,n,zb⟩=za (zc .i64 y)) ((first|exact zq|exact FZ hlt hrt (by assumption) eY|exact FZ hlt hrt (by assumption) nT|go_keep)) ((first|(have hgo:=lN;go_at_call 66;refine(uG _ (by first|exact du|exact(‹zf w.heap.size w _/\_›).1) g8 im hgo).mono ?_;rintro e w9 ⟨g9,KI,rfl,nh,nT⟩)|(go_at_call 66;refine(dJ _ (by first|exact du|exact(‹zf w.heap.size w _/\_›).1)).mono ?_;rintro e w8 ⟨g8,im,rfl,lN,eY⟩)))
   all_goals
    have bu:=aq (aq du du.size eY) (aq du du.size eY).size nT;rw[<-Hu.out]at nh;go_wp2;exact bh (v:=zd (za ⟨g9,0,zb⟩) m KI) (by simp[results,results66,go_sem]) rfl ⟨g9,KI,rfl,nh,bu⟩
  ·have pj:cut<kk:=by omega
   by_cases hA:Lg t.data.toList (a8 ns x) i kk
   ·have HA:zh (Lg t.data.toList (a8 ns x) i kk):=hA;have pJ:zh (¬Lg t.data.toList (a8 ns y) kk j):=λh=>Se.out kk pj mP ⟨hA,h⟩
    clear hA;have xv:∀s:dB wr,zk prog 92 #[zi #[zd (za ⟨b,o,zb⟩) ns.length c,zd (za ⟨gl,0,zb⟩) ns.length cl,zd (za ⟨gr,0,zb⟩) ns.length cr,.string t],zc .i64 x,zc .i64 i,zc .i64 kk] s.W λe w'=>e=.returned (.bool true)/\∃s':dB wr,w'=s'.W:=λs=>(Ig kk s.W (aq ey ey.size s.h) nY).mono λe w' ⟨q,he,hq,hb⟩=>⟨by rw[he,show q=true from(by first|exact hq.2 HA.out|exact Nz hq HA.out)],⟨⟨w',aq s.h s.h.size hb⟩,rfl⟩⟩
    have Ld:∀s:dB wr,zk prog 92 #[zi #[zd (za ⟨b,o,zb⟩) ns.length c,zd (za ⟨gl,0,zb⟩) ns.length cl,zd (za ⟨gr,0,zb⟩) ns.length cr,.string t],zc .i64 y,zc .i64 kk,zc .i64 j] s.W λe w'=>e=.returned (.bool false)/\∃s':dB wr,w'=s'.W:=λs=>(Lb kk s.W (aq ey ey.size s.h) nY).mono λe w' ⟨q,he,hq,hb⟩=>⟨by rw[he,show q=false from(by first|exact hq.2 pJ.out|exact Nz hq pJ.out)],⟨⟨w',aq s.h s.h.size hb⟩,rfl⟩⟩
    refine yj 21 (λw'=>∃s:dB wr,w'=s.W) (by kernel_rfl) ⟨⟨wr.drew,⟨rfl,rfl,rfl,aj _,λ_ _=>rfl⟩⟩,rfl⟩ (by decide) (by kernel_rfl) ?_;intro os bW;simp only[nH,ue]at bW;subst bW
    repeat (go_big_quiet_step (first|(go_at_call_of 92 (Value.int IntKind.i64 (x:Int));exact xv _)|(go_at_call_of 92 (Value.int IntKind.i64 (y:Int));exact Ld _)))
    refine wpQuiet_nil ?_;rintro w6 ⟨⟨Wb,ew⟩,rfl⟩ r hr;simp only[wV,wW]at hr;subst hr;have H6:jy w (zd (za ⟨b,o,zb⟩) ns.length c) (zd (za ⟨gl,0,zb⟩) ns.length cl) (zd (za ⟨gr,0,zb⟩) ns.length cr) (.string t) (zc .i64 2) (.slice bZ nd.set.length cd) (zc .i64 nd.min) (zc .i64 nd.max) (zc .i64 nd.group) gl gr n (zc .i64 x) (zc .i64 y) w6:=jy.call ⟨ey,Dm,AE,AG,AH,AJ,CI,CJ,CK,CL,CM,lA,rA,hlt,hrt⟩ ew;have RH:zh _:=H6;clear H6 xv Ld Ig Lb dJ uG x0 x1 x2 x3 x4 x5 ey Dm AE AG AH AJ CI CJ CK CL CM lA rA;go_wp2
    go_roundw
    case rel=>exact⟨kk-1,by omega,by omega,by go_num,RH.out⟩
    case measure=>simp[intOf];omega
   ·have HA:zh (¬Lg t.data.toList (a8 ns x) i kk):=hA;clear hA;have xv:∀s:dB wr,zk prog 92 #[zi #[zd (za ⟨b,o,zb⟩) ns.length c,zd (za ⟨gl,0,zb⟩) ns.length cl,zd (za ⟨gr,0,zb⟩) ns.length cr,.string t],zc .i64 x,zc .i64 i,zc .i64 kk] s.W λe w'=>e=.returned (.bool false)/\∃s':dB wr,w'=s'.W:=λs=>(Ig kk s.W (aq ey ey.size s.h) nY).mono λe w' ⟨q,he,hq,hb⟩=>⟨by rw[he,show q=false from(by first|exact hq.2 HA.out|exact Nz hq HA.out)],⟨⟨w',aq s.h s.h.size hb⟩,rfl⟩⟩
    refine yj 21 (λw'=>∃s:dB wr,w'=s.W) (by kernel_rfl) ⟨⟨wr.drew,⟨rfl,rfl,rfl,aj _,λ_ _=>rfl⟩⟩,rfl⟩ (by decide) (by kernel_rfl) ?_;intro os bW;simp only[nH,ue]at bW;subst bW
    repeat (go_big_quiet_step (first|(go_at_call_of 92 (Value.int IntKind.i64 (x:Int));exact xv _)))
    refine wpQuiet_nil ?_;rintro w6 ⟨⟨Wb,ew⟩,rfl⟩ r hr;simp only[wV,wW]at hr;subst hr;have H6:jy w (zd (za ⟨b,o,zb⟩) ns.length c) (zd (za ⟨gl,0,zb⟩) ns.length cl) (zd (za ⟨gr,0,zb⟩) ns.length cr) (.string t) (zc .i64 2) (.slice bZ nd.set.length cd) (zc .i64 nd.min) (zc .i64 nd.max) (zc .i64 nd.group) gl gr n (zc .i64 x) (zc .i64 y) w6:=jy.call ⟨ey,Dm,AE,AG,AH,AJ,CI,CJ,CK,CL,CM,lA,rA,hlt,hrt⟩ ew;have RH:zh _:=H6;clear H6 xv Ig Lb dJ uG x0 x1 x2 x3 x4 x5 ey Dm AE AG AH AJ CI CJ CK CL CM lA rA;go_wp2
    go_roundw
    case rel=>exact⟨kk-1,by omega,by omega,by go_num,RH.out⟩
    case measure=>simp[intOf];omega
theorem zsX(ns:List aL)(x:Nat)(hE:kN ns x)(t:ByteArray)(mx:Int)(hp:0<mx)(i j:Nat)(hn:∀k,i<=k->k<=j->¬(Lg t.data.toList (a8 ns x) i k/\Lg t.data.toList (.az (a8 ns x) ((0:Nat):Int) (mx-1)) k j)):GB ns x t 0 mx i j []:=by
 intro w ao c gl cl gr cr B g cap m sp aD aB hsm hB eQ dw dL jG ht hg pY hmx;obtain⟨W0,ai⟩:∃W0,w.alloc (zg #[.slice ao ns.length c,zd (za ⟨gl,0,zb⟩) ns.length cl,zd (za ⟨gr,0,zb⟩) ns.length cr,.string t] 119)=W0:=⟨_,rfl⟩;have af:zf w.heap.size w W0:=by rw[<-ai];exact aw
 have k0:W0.heap[w.heap.size]?=za (Cb ao ns c gl cl gr cr t):=by rw[<-ai];exact aI _ _
 have pU:decide (0<mx)=true:=by simp[hp]
 have Lu:(mx==0)=false:=by simp;omega
 have hd4:(mx == -1)=false:=by simp;omega
 have Ie:=λ(kk:Nat) (W:ze) (hb:zf w.heap.size w W) (bK:kk<=t.size)=>NF ns x hE W ao c gl cl gr cr t i kk (aD.below hb) (by omega) bK ht
 have Ib:=λ(kk:Nat) (W:ze) (hb:zf w.heap.size w W) (bK:kk<=t.size)=>zsA ns x hE W ao c gl cl gr cr t 0 (mx-1) kk j (by omega) (by omega) (aD.below hb) bK jG ht
 have Hn:zh (∀k,i<=k->k<=j->¬(Lg t.data.toList (a8 ns x) i k/\Lg t.data.toList (.az (a8 ns x) ((0:Nat):Int) (mx-1)) k j)):=hn;clear hn hE aD hg;simp only[show ((0:Nat):Int)=0 from rfl]at Ib ⊢
 go_enter func93,ntmps93
 go_wp2;clear ai
 go_loopw [18] (λk wr=>((∃kk:Nat,i<=kk/\kk<=j/\k=zc .i64 kk)\/k=zc .i64 ((i:Int)-1))/\zf w.heap.size w wr/\wr.heap[w.heap.size]?=za (Cb ao ns c gl cl gr cr t))
  (λk _=>(intOf k+1).toNat)
 case atStart=>exact⟨.inl ⟨j,dL,aj _,rfl⟩,af,k0⟩
 case round=>
  clear k0;obtain⟨⟨kk,db,mP,rfl⟩|rfl,aD,kr⟩:=hrel
  ·obtain⟨a0,a1,a2,a3⟩:=oF kr;have nY:kk<=t.size:=by omega
   have zzH:(i:Int)<=(kk:Int):=by omega
   go_wp2_with fail
   refine(Ie kk _ aD nY).mono ?_;rintro e w4 ⟨q,rfl,hq,bE⟩;have yL:zh (q=true↔Lg t.data.toList (a8 ns x) i kk):=hq;clear hq;have BB:=nu kr bE;have xC:=aq aD aD.size bE;obtain⟨c0,c1,c2,c3⟩:=oF BB;have rz:zh ((∃k2:Nat,i<=k2/\k2<=j/\Value.int .i64 ((kk:Int)-1)=Value.int .i64 (k2:Int))\/Value.int .i64 ((kk:Int)-1)=Value.int .i64 ((i:Int)-1)):=by
    rcases ig i kk with h|h
    ·exact .inl ⟨kk-1,by omega,by omega,by congr 1;omega⟩
    ·exact .inr (by congr 1;omega)
   clear a0 a1 a2 a3 kr aD bE;cases q
   ·go_wp2
    go_roundw
    case rel=>exact⟨rz.out,xC,BB⟩
    case measure=>first|(simp[intOf];done)|(simp[intOf];omega)
   ·go_wp2_with fail
    refine(Ib kk _ xC nY).mono ?_;rintro e w5 ⟨q,rfl,hq,bD⟩;have MA:=nu BB bD;have C7:=aq xC xC.size bD;obtain rfl:q=false:=zqM hq λh=>Hn.out kk db mP ⟨yL.out.1 (by first|trivial|rfl),h⟩
    clear c0 c1 c2 c3 BB xC bD hq;go_wp2
    go_roundw
    case rel=>exact⟨rz.out,C7,MA⟩
    case measure=>first|(simp[intOf];done)|(simp[intOf];omega)
  ·have zBg:¬(i:Int)<=(i:Int)-1:=by omega
   have zBh:decide ((i:Int)<=(i:Int)-1)=false:=by simp;omega
   go_wp2;exact bh (v:=zd (za ⟨g,0,zb⟩) m cap) (by simp[results,results93,go_sem]) rfl ⟨g,cap,rfl,dQ aB aD,aD⟩
theorem zm9(ns:List aL)(x:Nat)(hE:kN ns x)(hX:th ns x)(t:ByteArray)(mn:Nat)(mx:Int)(i j:Nat)(l:List Up)(h:ii (Lg t.data.toList (a8 ns x)) (Pl t.data.toList (a8 ns x)) (λmn mx i j=>Lg t.data.toList (.az (a8 ns x) mn mx) i j) mn mx i j l)(hb:mx=-1\/(mn:Int)<=mx):GB ns x t mn mx i j l:=by
 induction h with
 |done i j=>exact zqQ ns x t 0 0 i j ⟨rfl,rfl⟩
 |pA i=>exact zqR ns x t 0 (-1) i i ⟨rfl,rfl,rfl⟩
 |out mx i j hm hn=>exact zsX ns x hE t mx hm i j hn
 |must mn mx i j k l1 l2 g h1 h2 ih=>
  by_cases hp:0<mx
  ·simp only[aC hp]at g h2 ih;exact Rf ns x hE hX t (mn+1) mn mx _ i i j k l1 l2 (.inl ⟨rfl,rfl,hp,rfl⟩) g h1 (ih (by omega))
  ·obtain rfl:mx=-1:=by omega
   simp only[ak hp]at g h2 ih;exact Rf ns x hE hX t (mn+1) mn _ _ i i j k l1 l2 (.inr (.inl ⟨rfl,rfl,rfl,rfl⟩)) g h1 (ih (by simp))
 |may mx i j k l1 l2 hm g h1 h2 ih=>exact Rf ns x hE hX t 0 0 mx _ i i j k l1 l2 (.inr (.inr (.inl ⟨rfl,rfl,rfl,hm,rfl⟩))) g h1 (ih (by omega))
 |more i j k l1 l2 hi g h1 h2 ih=>exact Rf ns x hE hX t 0 0 _ _ (i+1) i j k l1 l2 (.inr (.inr (.inr ⟨rfl,rfl,rfl,rfl,rfl⟩))) g h1 (ih (by simp))
theorem zrS(ns:List aL)(n x mn:Nat)(hn:n<ns.length)(hk:bO ns n=4)(hT:a8 ns n=.az (a8 ns x) mn (ns.getD n .zero).max)(hL:lm ns n=x)(hE:kN ns x)(hX:th ns x)(dw:(ns.getD n .zero).min=mn)(dG:mn<=255)(we:(ns.getD n .zero).max=-1\/((mn:Int)<=(ns.getD n .zero).max/\(ns.getD n .zero).max<=255)):th ns n:=by
 intro w ao c gl cl gr cr t B i j g cap m sp l aD aB hsm hB eQ Bn dL jG ht hg dC;rw[hT]at dC;obtain⟨iD,fB,hv,Bo,hc⟩:=aD.nodes;cases hv;obtain⟨b,o,sv,nd,rfl,Hn,aZ,c0,c1,c2,c3,c4,dr⟩:=hc.elem (Below.refl _ _) hn;have db:nd.kind=4:=by rw[<-hk];unfold bO;rw[Hn.out]
 rw[db]at c0;obtain⟨bZ,cd,rfl,Fl,jJ⟩:=dr;have l0:=aD.left n hn;rw[hL]at l0;have r0:=aD.right n hn;obtain⟨ri,xM⟩:∃ri,oD ns n=ri:=⟨_,rfl⟩;rw[xM]at r0;have hlt:=aD.zG;have hrt:=aD.zH;have da:(0:Int)<=(n:Int):=by omega
 have cO:(n:Int)<(ns.length:Int):=by omega
 obtain⟨W0,ai⟩:∃W0,(w.alloc (zg #[zd (za ⟨b,o,zb⟩) ns.length c,zd (za ⟨gl,0,zb⟩) ns.length cl,zd (za ⟨gr,0,zb⟩) ns.length cr,.string t] 119)).alloc (zg #[zc .i64 4,.slice bZ nd.set.length cd,zc .i64 nd.min,zc .i64 nd.max,zc .i64 nd.group] 149)=W0:=⟨_,rfl⟩;have af:zf w.heap.size w W0:=by rw[<-ai];exact(aw).alloc (by simp) _
 have k1:W0.heap[w.heap.size]?=za (zg #[zd (za ⟨b,o,zb⟩) ns.length c,zd (za ⟨gl,0,zb⟩) ns.length cl,zd (za ⟨gr,0,zb⟩) ns.length cr,.string t] 119 (0,0)):=by rw[<-ai];exact cX (aI _ _)
 have k2:W0.heap[w.heap.size+1]?=za (zg #[zc .i64 4,.slice bZ nd.set.length cd,zc .i64 nd.min,zc .i64 nd.max,zc .i64 nd.group] 149 (0,0)):=by rw[<-ai];exact DM _ _ _
 obtain⟨p0,p1,p2,p3⟩:=oF k1;obtain⟨q0,q1,q2,q3,q4⟩:=FU k2;have dD:w.heap.size+1<W0.heap.size:=vm k2;rw[Hn.out]at dC dw we;have dC:ii (Lg t.data.toList (a8 ns x)) (Pl t.data.toList (a8 ns x)) (λmn mx i j=>Lg t.data.toList (.az (a8 ns x) mn mx) i j) mn nd.max i j l:=by
  have h:=dC;simp only[Pl,sM]at h;exact h
 have hC:=zm9 ns x hE hX t mn nd.max i j l dC (by omega);have dJ:=λ(W:ze) (hb:zf w.heap.size w W)=>hC W (za ⟨b,o,zb⟩) c gl cl gr cr B g cap m sp (aD.below hb) (dQ aB hb) hsm (aW hB hb.size) eQ Bn dL jG ht hg dG we
 have H0:jy w (zd (za ⟨b,o,zb⟩) ns.length c) (zd (za ⟨gl,0,zb⟩) ns.length cl) (zd (za ⟨gr,0,zb⟩) ns.length cr) (.string t) (zc .i64 4) (.slice bZ nd.set.length cd) (zc .i64 nd.min) (zc .i64 nd.max) (zc .i64 nd.group) gl gr n (zc .i64 x) (zc .i64 ri) W0:=⟨af,dD,p0,p1,p2,p3,q0,q1,q2,q3,q4,(af.cell (p:=⟨gl,n,zb⟩) hlt).trans l0,(af.cell (p:=⟨gr,n,zb⟩) hrt).trans r0,hlt,hrt⟩;rw[dw]at H0 c2 ai;have H1:=H0.call ((Below.refl W0.heap.size W0).drew);clear hT hk db hc jJ aD hX hE hC dC hg xM we k1 k2 p0 p1 p2 p3 q0 q1 q2 q3 q4 l0 r0 dw;obtain⟨-,-,a0,a1,a2,a3,d0,d1,d2,d3,d4,lA,rA,-,-⟩:=H0
 go_enter func66,ntmps66
 go_wp2;clear a0 a1 a2 a3 d0 d1 d2 d3 d4 lA rA ai c0 c1 c2 c3 c4;have du:=H1.1;obtain⟨-,Md,Eu,Ev,Ew,Ex,KM,KN,EE,EF,KO,lC,rC,-,-⟩:=H1
 go_region_held3 (λw'=>zf w.heap.size w w'/\w'.cell? ⟨w.heap.size,0,zb⟩=za (zd (za ⟨b,o,zb⟩) ns.length c)/\w'.cell? ⟨w.heap.size,1,zb⟩=za (zd (za ⟨gl,0,zb⟩) ns.length cl)/\w'.cell? ⟨w.heap.size,2,zb⟩=za (zd (za ⟨gr,0,zb⟩) ns.length cr)/\w'.cell? ⟨w.heap.size,3,zb⟩=za (.string t)/\w'.cell? ⟨gl,n,zb⟩=za (zc .i64 x)/\w'.cell? ⟨w.heap.size+1,2,zb⟩=za (zc .i64 mn)/\w'.cell? ⟨w.heap.size+1,3,zb⟩=za (zc .i64 nd.max)) ((first|exact⟨du,Eu,Ev,Ew,Ex,lC,EE,EF⟩|(exact⟨aq du du.size eY,(eY.cell (p:=⟨w.heap.size,0,zb⟩) (by show w.heap.size<_;omega)).trans Eu,(eY.cell (p:=⟨w.heap.size,1,zb⟩) (by show w.heap.size<_;omega)).trans Ev,(eY.cell (p:=⟨w.heap.size,2,zb⟩) (by show w.heap.size<_;omega)).trans Ew,(eY.cell (p:=⟨w.heap.size,3,zb⟩) (by show w.heap.size<_;omega)).trans Ex,(eY.cell (p:=⟨gl,n,zb⟩) (by have:=du.size;show gl<_;omega)).trans lC,(eY.cell (p:=⟨w.heap.size+1,2,zb⟩) (by show w.heap.size+1<_;omega)).trans EE,(eY.cell (p:=⟨w.heap.size+1,3,zb⟩) (by show w.heap.size+1<_;omega)).trans EF⟩)|go_keep)) ((go_at_call 93;refine(dJ _ (by first|exact du|exact(‹zf w.heap.size w _/\_›).1)).mono ?_;rintro e w8 ⟨g8,im,rfl,lN,eY⟩))
 all_goals
  have bu:=aq du du.size eY;go_wp2;exact bh (v:=zd (za ⟨g8,0,zb⟩) m im) (by simp[results,results66,go_sem]) rfl ⟨g8,im,rfl,lN,bu⟩
end Go.Proofs.YtdimhpfiieepiaaGreatDoor
