import Derived.Test.YtdimhpfiieepiaaGreatDoorC15
import Derived.Deep.RegionHeld3
import Derived.Deep.DrawnRows
import Derived.Deep.QuietTactic
import Derived.BigQuiet
namespace Go.Proofs.YtdimhpfiieepiaaGreatDoor
open Proofs.Tryz
open Option renaming none->zb,some->zc
open Value renaming slice->ze,int->zf,agg->zk
open Go renaming World->zg,Value->zj,Calls->zl,TypeId->zm
open Obj renaming cells->zh
open RowKit renaming Below->zi
set_option maxHeartbeats 4000000
set_option maxRecDepth 100000
open Go.RowKit
section
attribute [local go_sem ↓] wp_at_zero wp_at_succ
abbrev sD(ao:Option Addr)(ns:List aM)(c gl cl gr cr:Nat)(t:ByteArray):Obj:=zh #[.slice ao ns.length c,ze (zc ⟨gl,0,zb⟩) ns.length cl,ze (zc ⟨gr,0,zb⟩) ns.length cr,.string t] 119 (0,0)
theorem zoI{u:aJ}{p:Pt}{i j:Nat}{S:List Bool}{n:Nat}(h:lM n S (fX u (In p) (· = i))):S.getD j false=true↔Lg u p i j:=(h.iff j).trans zpf.symm
theorem Df(ns:List aM)(n:Nat)(hE:jB ns n)(w:zg)(ao:Option Addr)(c gl cl gr cr:Nat)(t:ByteArray)(i j:Nat)(aB:vq w ns (.slice ao ns.length c) gl gr)(hi:i<=t.size)(hj:j<=t.size)(ht:t.size<=4096):
  zl prog 92 #[zk #[.slice ao ns.length c,ze (zc ⟨gl,0,zb⟩) ns.length cl,ze (zc ⟨gr,0,zb⟩) ns.length cr,.string t],zf .i64 n,zf .i64 i,zf .i64 j] w λe w'=>PW w (Lg t.data.toList (aK ns n) i j) e w':=by
 have ae:zi w.heap.size w (w.alloc (zh #[.slice ao ns.length c,ze (zc ⟨gl,0,zb⟩) ns.length cl,ze (zc ⟨gr,0,zb⟩) ns.length cr,.string t] 119)):=au;have k0:(w.alloc (zh #[.slice ao ns.length c,ze (zc ⟨gl,0,zb⟩) ns.length cl,ze (zc ⟨gr,0,zb⟩) ns.length cr,.string t] 119)).heap[w.heap.size]?=zc (sD ao ns c gl cl gr cr t):=aL _ _;have JQ:=λ(W:zg)=>WQ t.size i W hi (by omega)
 have JM:∀(W:zg) (g:Nat),zi w.heap.size w W->ou W g (qQ t.size i)->
   zl prog 90 #[zk #[.slice ao ns.length c,ze (zc ⟨gl,0,zb⟩) ns.length cl,ze (zc ⟨gr,0,zb⟩) ns.length cr,.string t],zf .i64 n,ze (zc ⟨g,0,zb⟩) (t.size+1) (t.size+1)] W λr w'=>Mp W t (t.size+1) (fX t.data.toList (In (aK ns n)) (· = i)) r w':=λW g h1 h2=>
  hE W ao c gl cl gr cr t g (t.size+1) (t.size+1) (qQ t.size i) _ (aB.below h1) h2 (by simp[qQ]) (Vu t.size i hi) ht
 clear hE aB;generalize hT:aK ns n=T at *;generalize hU:t.data.toList=u at *;obtain⟨q0,q1,q2,q3⟩:=gC k0;obtain⟨W0,ah⟩:∃W0,w.alloc (zh #[.slice ao ns.length c,ze (zc ⟨gl,0,zb⟩) ns.length cl,ze (zc ⟨gr,0,zb⟩) ns.length cr,.string t] 119)=W0:=⟨_,rfl⟩;rw[ah]at ae k0 q0 q1 q2 q3;have lD:=uV k0;have ui:=ae.drew;have dO:(0:Int)<=(j:Int):=by omega
 have dh:(j:Int)<(t.size:Int)+1:=by omega
 clear k0
 go_enter func92,ntmps92
 go_wp2;clear ah
 go_region_with (first|(go_at_call 91;refine(JQ _).mono ?_;rintro r w3 ⟨rfl,sU,ay⟩;have ql:=ay.size;have z0:=(ay.cell (p:=⟨w.heap.size,0,zb⟩) lD).trans q0;have z1:=(ay.cell (p:=⟨w.heap.size,1,zb⟩) lD).trans q1;have z2:=(ay.cell (p:=⟨w.heap.size,2,zb⟩) lD).trans q2;have z3:=(ay.cell (p:=⟨w.heap.size,3,zb⟩) lD).trans q3)|(go_at_call 90;refine(JM _ _ (aj ui ui.size ay) sU).mono ?_;rintro r w4 ⟨g4,c4,S4,rfl,pG,hl4,pP,aG⟩;have hcell:=pG.2 j (by omega);obtain⟨q,hq⟩:∃q,S4.getD j false=q:=⟨_,rfl⟩;rw[hq]at hcell;have Hq:Hid _:=hq;clear hq))
 all_goals
  have bj:=aj (aj ui ui.size ay) (aj ui ui.size ay).size aG;have nU:q=true↔Lg u T i j:=by rw[<-Hq.out];exact zoI pP
  go_wp2;go_ret;exact⟨q,rfl,nU,bj⟩
end
section
variable {sz:Nat}{f:Nat -> List zj}
theorem kH{w w':zg}{base:Nat}{e:zm}{n:Nat}{v:zj}{xs:List zj}(h:w.ownsRow base e sz v n xs)(hb:∀b,v.ownBlock=zc b->w'.heap[b]?=w.heap[b]?):w'.ownsRow base e sz v n xs:=by
 obtain⟨h1,h2⟩:=h;refine⟨h1,?_⟩;rcases h2 with h0|⟨g,cap,aA,rfl,hg,hh,r⟩
 ·exact .inl h0
 ·exact .inr ⟨g,cap,aA,rfl,hg,(hb g rfl).trans hh,r⟩
theorem EN{P:Program}{ops:Array Oper}{rest:List Oper}{o:Oper}{a:Act}{Q:Exit->Act->zg->Prop}{W:zg}(lY:o.guard=zb)(s x:Operand)(t:zm)
  (ho:o.op=.call {callee:=.builtin .append,args:=#[s,x],argTypes:=#[t,t]}) (w:zg) (us:Array zj) (e:zm) (hW:W=w.alloc (zh us e)) (H:Nat) (hH:w.heap.size=H)
  (base:Nat) (i:TypeInfo) (z:zj) (sz bytes:Nat) (ht:P.underlying t=zc (.slice e)) (hi:P.info? e=zc i) (hz:i.zero=zc z)
  (xA:i.size=sz) (uz:i.bytes=bytes) (xD:z.cells.size=sz) (hsz:0<sz)
  (v:zj) (n:Nat) (xs:List zj) (hs:a.eval s=v) (az:w.ownsRow base e sz v n xs)
  (hx:a.eval x=ze (zc ⟨H,0,zb⟩) 1 1) (hl:us.size=sz) (h1:∀u∈us.toList,u.oneCell'=true) (hn:n<=2000000) (xg:bytes<=1000) (Gv:base<=w.heap.size)
  (h:∀g' cap' w',w'.ownsRow base e sz (ze (zc ⟨g',0,zb⟩) (n+1) cap') (n+1) (xs++us.toList)->w.grownBy w' v.ownBlock->(v.ownBlock=zc g'\/w.heap.size<=g')->wpList P ops Q rest (a.put o.dst (ze (zc ⟨g',0,zb⟩) (n+1) cap')) w'):
  wpList P ops Q (o::rest) a W:=by
 subst hW hH;refine wpList_append_lies _ lY s x t ho base e i z sz bytes ht hi hz xA uz xD hsz v n xs hs (az.alloc _) ⟨w.heap.size,0,zb⟩ 1 1 us.toList hx (by simp[hl]) ?_ h1 (by omega) (by unfold maxLen;omega) ?_ (by simp;omega) (w.heap.size+1) (by simp) ?_
 ·intro j y hv;have e1:(⟨w.heap.size,0,zb⟩:Addr).add j=⟨w.heap.size,j,zb⟩:=by unfold Addr.add;split<;>simp_all
  rw[e1,aO _ _ _ _ _ _ (aL w _)];rw[<-hv];simp
 ·have:(n+1)*bytes<=2000001*1000:=Nat.mul_le_mul (by omega) xg;omega
 ·intro g' cap' w' AM cR dg hlt;refine h g' cap' w' AM ⟨cR.os,cR.tape,cR.output,aU (by simp) cR.size,λk hk hne=>?_⟩ ?_
  ·rw[cR.block k (by simp;omega) hne,Below.heap_alloc _ _ _ hk]
  ·rcases dg with dg|dg
   ·exact .inl dg
   ·exact .inr (by omega)
theorem Pq(h:∀k,(f k).length=sz)(n:Nat):((List.range n).flatMap f).length=n*sz:=by
 induction n with
 |zero=>simp
 |succ n ih=>rw[yd,List.flatMap_append,pz,ih];simp[h,Nat.succ_mul]
theorem zqQ(h:∀k,(f k).length=sz)(n k j:Nat)(hk:k<n)(hj:j<sz):((List.range n).flatMap f)[k*sz+j]?=(f k)[j]?:=by
 induction n with
 |zero=>omega
 |succ n ih=>
  rw[yd,List.flatMap_append]
  by_cases e:k<n
  ·rw[qR,ih e];rw[Pq h];have:(k+1)*sz<=n*sz:=Nat.mul_le_mul_right _ e;rw[Nat.succ_mul]at this;omega
  ·have e2:k=n:=by omega
   subst e2;rw[vo (by rw[Pq h];omega),Pq h,Nat.add_sub_cancel_left];simp
theorem zng{g:Nat->List zj}(n:Nat)(h:∀k,k<n->f k=g k):(List.range n).flatMap f=(List.range n).flatMap g:=by
 induction n with
 |zero=>rfl
 |succ n ih=>rw[yd,List.flatMap_append,List.flatMap_append,ih λk hk=>h k (by omega)];simp[h n (by omega)]
theorem zoR(f:Nat->List zj)(n:Nat):(List.range (n+1)).flatMap f=(List.range n).flatMap f++f n:=by rw[yd,List.flatMap_append];simp
theorem LJ(w:zg)(e:zm)(sz B H:Nat)(hB:B<=H)(hH:w.heap.size=H):(w.alloc (zh #[] e)).ownsRow B e sz (ze (zc ⟨H,0,zb⟩) 0 0) 0 []:=by
 subst hH;exact⟨by simp,.inr ⟨w.heap.size,0,#[],rfl,hB,aL _ _,by simp,by simp[maxLen],by simp,by simp⟩⟩
end
section
attribute [local go_sem ↓] wp_at_zero wp_at_succ
theorem Tryz.Ud:(prog.info? 71).map (λi=>(i.zero,i.size,i.bytes))=zc (zc (zk #[zf .i64 0,zf .i64 0]),2,16):=by kernel_rfl
theorem zoN(lo hi:Int)(w:zg):
  zl prog 77 #[zk #[zf .i64 lo,zf .i64 hi],zk #[zf .i64 lo,zf .i64 hi]] w λe w'=>e=.returned (.bool true)/\zi w.heap.size w w':=by
 go_enter func77,ntmps77
 go_wp2;go_ret;exact⟨rfl,(au).alloc (by simp) _⟩
theorem znb{l1 l2:Nat}(v v2:zj)(rs:List (Int×Int))(w:zg)(hs:dD l1 w v rs)(cZ:dD l2 w v2 rs):
  zl prog 39 #[v,v2] w λe w'=>e=.returned (.bool true)/\zi w.heap.size w w':=by
 obtain⟨ao,cap,rfl,hm,hc⟩:=hs;obtain⟨iG,fe,rfl,_,dx⟩:=cZ
 go_enter func39,ntmps39
 go_wp2
 go_loopw [5] (λi wr=>∃k:Nat,k<=rs.length/\i=zf .i64 k/\zi w.heap.size w wr)
  (λi _=>rs.length-(intOf i).toNat)
 case atStart=>exact⟨0,aZ _,rfl,Below.refl _ _⟩
 case round=>
  obtain⟨k,hk,rfl,hb⟩:=hrel
  by_cases hlt:k<rs.length
  ·obtain⟨b,o,lo,hi,rfl,Hn,bu,c0,c1⟩:=hc.elem hb hlt;obtain⟨b2,o2,lo2,th,rfl,fQ,j8,d0,d1⟩:=dx.elem hb hlt;have uA:=Hn.out.symm.trans fQ.out;simp only[Prod.mk.injEq]at uA;obtain⟨rfl,rfl⟩:=uA;have aB:b<wr.heap.size:=bA bu hb.size;have jr:b2<wr.heap.size:=bA j8 hb.size;have dO:(0:Int)<=(k:Int):=by omega
   have dh:(k:Int)<(rs.length:Int):=by omega
   go_wp2
   go_region_held3 (λw'=>w'.cell? ⟨b,o+k*2,zb⟩=zc (zf .i64 lo)/\w'.cell? ⟨b,o+k*2+1,zb⟩=zc (zf .i64 hi)/\w'.cell? ⟨b2,o2+k*2,zb⟩=zc (zf .i64 lo)/\w'.cell? ⟨b2,o2+k*2+1,zb⟩=zc (zf .i64 hi)) ((first|go_keep|exact⟨(hcc _ _ aB).trans c0,(hcc _ _ aB).trans c1,(hcc _ _ jr).trans d0,(hcc _ _ jr).trans d1⟩)) ((go_at_call 77;refine(zoN _ _ _).mono ?_;rintro e w2 ⟨rfl,af⟩;obtain⟨hcc,_⟩:=vi af))
   go_wp2
   go_roundw
   case rel=>exact⟨k+1,by omega,by go_num,aj hb.drew hb.size af⟩
   case measure=>simp[intOf];omega
  ·go_wp2;go_ret;exact⟨rfl,hb⟩
end
section
attribute [local go_sem ↓] wp_at_zero wp_at_succ
theorem Dc(w:zg)(a b:Obj):((w.alloc a).alloc b).heap[w.heap.size+1]?=zc b:=by have:=aL (w.alloc a) b;simpa using this
def xI(sp:List (Int×Int))(k:Nat):List zj:=[zf .i64 (sp.getD k (0,0)).1,zf .i64 (sp.getD k (0,0)).2]
def pv(sp:List (Int×Int)):List zj:=(List.range sp.length).flatMap (xI sp)
theorem Bf(sp:List (Int×Int)):(pv sp).length=sp.length*2:=Pq (f:=xI sp) (sz:=2) (λ_=>rfl) _
theorem PU(sp:List (Int×Int)){k j:Nat}(hk:k<sp.length)(hj:j<2):(pv sp)[k*2+j]?=(xI sp k)[j]?:=zqQ (f:=xI sp) (sz:=2) (λ_=>rfl) _ _ _ hk hj
theorem ztI(sp:List (Int×Int)):∀u∈pv sp,u.oneCell'=true:=by
 intro u hu;obtain⟨k,-,h⟩:=List.mem_flatMap.1 hu;simp only[xI,oB,List.not_mem_nil,or_false]at h;rcases h with rfl|rfl<;>rfl
theorem Iq{w:zg}{B g m cap:Nat}{e:zm}{sz:Nat}{xs:List zj}(h:w.ownsRow B e sz (ze (zc ⟨g,0,zb⟩) m cap) m xs):∀j u,xs[j]?=zc u->w.cell? ((⟨g,0,zb⟩:Addr).add j)=zc u:=by
 intro j u hu;have hj:=(vp.1 hu).1;have e:(⟨g,0,zb⟩:Addr).add j=⟨g,j,zb⟩:=by unfold Addr.add;split<;>simp_all
 rw[e,h.cellAt j (by rw[<-h.1];exact hj),hu]
theorem WZ(sp:List (Int×Int))(k:Nat)(a b:Int)(hk:k<sp.length):((pv sp).set (k*2) (zf .i64 a)).set (k*2+1) (zf .i64 b)=pv (sp.set k (a,b)):=by
 apply FC
 intro x
 by_cases hx:x<sp.length*2
 ·obtain⟨q,r,rfl,hr⟩:∃q r,x=q*2+r/\r<2:=⟨x/2,x%2,by omega,by omega⟩;have hq:q<sp.length:=by omega
  rw[PU (sp.set k (a,b)) (by rw[List.length_set];exact hq) hr,qS,qS,PU sp hq hr];have hl:(pv sp).length=sp.length*2:=Bf sp;rw[List.length_set,hl]
  by_cases e:q=k
  ·subst e;obtain rfl|rfl:r=0\/r=1:=by omega
   ·rw[aq (by omega),aD (by omega),aD (by omega)];simp[xI,List.getD_eq_getElem?_getD,hq]
   ·rw[aD rfl,aD (by omega)];simp[xI,List.getD_eq_getElem?_getD,hq]
  ·rw[aq (by omega),aq (by omega)];unfold xI;rw[cL,cL,List.getElem?_set_ne (by omega)]
 ·rw[qh (by simp[Bf];omega),qh (by simp[Bf];omega)]
def dK(sp:List (Int×Int))(l:List Up):List (Int×Int):=l.foldl (λs x=>s.set x.1.toNat ((x.2.1:Int),(x.2.2:Int))) sp
theorem zv(l:List Up):∀sp,(dK sp l).length=sp.length:=by
 induction l with
 |nil=>intro sp;rfl
 |cons x l ih=>intro sp;show (dK (sp.set _ _) l).length=_;rw[ih,List.length_set]
theorem Iz(sp:List (Int×Int))(l m:List Up):dK sp (l++m)=dK (dK sp l) m:=List.foldl_append
def YS(B:Nat)(w:zg)(m:Nat)(sp:List (Int×Int))(e:Ending)(w':zg):Prop:=
 ∃g cap,e=.returned (ze (zc ⟨g,0,zb⟩) m cap)/\w'.ownsRow B 71 2 (ze (zc ⟨g,0,zb⟩) m cap) m (pv sp)/\zi w.heap.size w w'
def pD(ns:List aM)(n:Nat):Prop:=
 ∀(w:zg) (ao:Option Addr) (c gl cl gr cr:Nat) (t:ByteArray) (B i j g cap m:Nat) (sp:List (Int×Int)) (l:List Up),vq w ns (.slice ao ns.length c) gl gr->w.ownsRow B 71 2 (ze (zc ⟨g,0,zb⟩) m cap) m (pv sp)->sp.length=m->B<=w.heap.size->0<m->m<=1048576->i<=j->j<=t.size->t.size<=4096->(∀x∈l,1<=x.1/\x.1<(m:Int))->Pl t.data.toList (aK ns n) i j l->
  zl prog 66 #[zk #[.slice ao ns.length c,ze (zc ⟨gl,0,zb⟩) ns.length cl,ze (zc ⟨gr,0,zb⟩) ns.length cr,.string t],zf .i64 n,zf .i64 i,zf .i64 j,ze (zc ⟨g,0,zb⟩) m cap] w λe w'=>YS B w m (dK sp l) e w'
theorem zrD(ns:List aM)(n:Nat)(hn:n<ns.length)(hk:bJ ns n=1)(hT:aK ns n=.set (jJ (ns.getD n .zero).set)):pD ns n:=by
 intro w ao c gl cl gr cr t B i j g cap m sp l aB az hsm hB fk cO dA fj ht hg du;rw[hT]at du;obtain⟨iG,fe,hv,AK,hc⟩:=aB.nodes;cases hv;obtain⟨b,o,sv,nd,rfl,Hn,bu,c0,c1,c2,c3,c4,di⟩:=hc.elem (Below.refl _ _) hn;have cM:nd.kind=1:=by rw[<-hk];unfold bJ;rw[Hn.out]
 rw[cM]at c0;obtain⟨bH,bI,rfl,Eu,jQ⟩:=di;have dO:(0:Int)<=(n:Int):=by omega
 have dh:(n:Int)<(ns.length:Int):=by omega
 obtain⟨W0,ah⟩:∃W0,(w.alloc (zh #[ze (zc ⟨b,o,zb⟩) ns.length c,ze (zc ⟨gl,0,zb⟩) ns.length cl,ze (zc ⟨gr,0,zb⟩) ns.length cr,.string t] 119)).alloc (zh #[zf .i64 1,.slice bH nd.set.length bI,zf .i64 nd.min,zf .i64 nd.max,zf .i64 nd.group] 149)=W0:=⟨_,rfl⟩;have ae:zi w.heap.size w W0:=by rw[<-ah];exact(au).alloc (by simp) _
 have k1:W0.heap[w.heap.size]?=zc (zh #[ze (zc ⟨b,o,zb⟩) ns.length c,ze (zc ⟨gl,0,zb⟩) ns.length cl,ze (zc ⟨gr,0,zb⟩) ns.length cr,.string t] 119 (0,0)):=by rw[<-ah];exact cQ (aL _ _)
 have k2:W0.heap[w.heap.size+1]?=zc (zh #[zf .i64 1,.slice bH nd.set.length bI,zf .i64 nd.min,zf .i64 nd.max,zf .i64 nd.group] 149 (0,0)):=by rw[<-ah];exact Dc _ _ _
 obtain⟨p0,p1,p2,p3⟩:=gC k1;obtain⟨q0,q1,q2,q3,q4⟩:=EW k2;have bX:w.heap.size+1<W0.heap.size:=uV k2;have du:l=[]:=du;subst du;clear hT hk cM hc jQ aB k1 k2
 go_enter func66,ntmps66
 go_wp2;refine bD (v:=ze (zc ⟨g,0,zb⟩) m cap) (by simp[results,results66,go_sem]) rfl ⟨g,cap,rfl,?_,?_⟩
 ·exact cI az ae
 ·exact ae
theorem zrA(ns:List aM)(n x:Nat)(hn:n<ns.length)(hk:bJ ns n=5)(hT:aK ns n=.aT (aK ns x) (ns.getD n .zero).group)(hL:lh ns n=x)(hX:pD ns x):pD ns n:=by
 intro w ao c gl cl gr cr t B i j g cap m sp l aB az hsm hB fk cO dA fj ht hg du;rw[hT]at du;obtain⟨iG,fe,hv,AK,hc⟩:=aB.nodes;cases hv;obtain⟨b,o,sv,nd,rfl,Hn,bu,c0,c1,c2,c3,c4,di⟩:=hc.elem (Below.refl _ _) hn;have cM:nd.kind=5:=by rw[<-hk];unfold bJ;rw[Hn.out]
 rw[cM]at c0;obtain⟨bH,bI,rfl,Eu,jQ⟩:=di;have l0:=aB.left n hn;rw[hL]at l0;have r0:=aB.right n hn;obtain⟨ri,xz⟩:∃ri,oh ns n=ri:=⟨_,rfl⟩;rw[xz]at r0;have hlt:=aB.za;have hrt:=aB.zd;have dO:(0:Int)<=(n:Int):=by omega
 have dh:(n:Int)<(ns.length:Int):=by omega
 obtain⟨W0,ah⟩:∃W0,(w.alloc (zh #[ze (zc ⟨b,o,zb⟩) ns.length c,ze (zc ⟨gl,0,zb⟩) ns.length cl,ze (zc ⟨gr,0,zb⟩) ns.length cr,.string t] 119)).alloc (zh #[zf .i64 5,.slice bH nd.set.length bI,zf .i64 nd.min,zf .i64 nd.max,zf .i64 nd.group] 149)=W0:=⟨_,rfl⟩;have ae:zi w.heap.size w W0:=by rw[<-ah];exact(au).alloc (by simp) _
 have k1:W0.heap[w.heap.size]?=zc (zh #[ze (zc ⟨b,o,zb⟩) ns.length c,ze (zc ⟨gl,0,zb⟩) ns.length cl,ze (zc ⟨gr,0,zb⟩) ns.length cr,.string t] 119 (0,0)):=by rw[<-ah];exact cQ (aL _ _)
 have k2:W0.heap[w.heap.size+1]?=zc (zh #[zf .i64 5,.slice bH nd.set.length bI,zf .i64 nd.min,zf .i64 nd.max,zf .i64 nd.group] 149 (0,0)):=by rw[<-ah];exact Dc _ _ _
 obtain⟨p0,p1,p2,p3⟩:=gC k1;obtain⟨q0,q1,q2,q3,q4⟩:=EW k2;have bX:w.heap.size+1<W0.heap.size:=uV k2;obtain⟨l',rfl,du⟩:=du;rw[Hn.out]at hg ⊢;have eC:=hg (nd.group,i,j) (by simp);obtain⟨gi,SM⟩:∃gi:Nat,nd.group=gi:=⟨nd.group.toNat,by omega⟩;have cV:=λ(W:zg) (hb:zi w.heap.size w W) (g' cap':Nat) (h1:W.ownsRow B 71 2 (ze (zc ⟨g',0,zb⟩) m cap') m (pv (sp.set gi ((i:Int),(j:Int))))) (h2:B<=W.heap.size)=>hX W (zc ⟨b,o,zb⟩) c gl cl gr cr t B i j g' cap' m (sp.set gi ((i:Int),(j:Int))) l' (aB.below hb) h1 (by rw[List.length_set];exact hsm) h2 fk cO dA fj ht (λx hx=>hg x (by simp[hx])) du
 have H0:jE w (ze (zc ⟨b,o,zb⟩) ns.length c) (ze (zc ⟨gl,0,zb⟩) ns.length cl) (ze (zc ⟨gr,0,zb⟩) ns.length cr) (.string t) (zf .i64 5) (.slice bH nd.set.length bI) (zf .i64 nd.min) (zf .i64 nd.max) (zf .i64 nd.group) gl gr n (zf .i64 x) (zf .i64 ri) W0:=⟨ae,bX,p0,p1,p2,p3,q0,q1,q2,q3,q4,(ae.cell (p:=⟨gl,n,zb⟩) hlt).trans l0,(ae.cell (p:=⟨gr,n,zb⟩) hrt).trans r0,hlt,hrt⟩;rw[SM]at eC q4 c4 ah;have hsz:W0.heap.size=w.heap.size+1+1:=by rw[<-ah];simp
 have Kb:gi<m:=by have:=eC.2;omega
 have Ee:(0:Int)<=(gi:Int):=by omega
 have bU:(gi:Int)<(m:Int):=by omega
 have Hu:Hid (dK sp ((nd.group,i,j)::l')=dK (sp.set gi ((i:Int),(j:Int))) l'):=by show dK (sp.set nd.group.toNat _) l'=_;rw[SM,sx]
 have HB:Hid (B<=w.heap.size):=hB;have YF:Hid (sp.length=m):=hsm;clear hT hk cM hc jQ aB hX du hg eC xz k1 k2 p0 p1 p2 p3 q1 q2 q3 l0 r0 hB hsm;obtain⟨i0,hi,bK,bh,bz⟩:=info_parts Tryz.Ud;have CL:=cI az ae;rw[SM]at H0
 go_enter func66,ntmps66
 go_wp2_with (refine wpList_append_lies _ rfl (.tmp 26) (.tmp 27) 33 rfl B 71 i0 _ 2 16 underlying33 hi bK bh bz rfl (by omega) (ze (zc ⟨w.heap.size+1+1,0,zb⟩) 0 0) 0 [] rfl (LJ W0 71 2 B (w.heap.size+1+1) (by have:=HB.out;omega) hsz) ⟨g,0,zb⟩ m cap (pv sp) rfl (by rw[Bf,YF.out]) (Iq (cI CL (au))) (ztI sp) (by omega) (by unfold maxLen;omega) (by omega) (by have:=HB.out;simp;omega) (w.heap.size+1+1+1) (by simp;omega) ?_;intro g1 sQ w1 mq kQ uh Uh;simp only[kn,wJ]at mq;obtain⟨u0,u1,y0,y1,f0,f1⟩:=L8 mq Kb;have ak:zi W0.heap.size W0 w1:=(au).grown kQ (by simp) (by intro k h;simp[Value.ownBlock]at h;omega);have H1:=H0.call ak;have t4:w1.cell? ⟨w.heap.size+1,4,zb⟩=zc (zf .i64 gi):=H1.2.2.2.2.2.2.2.2.2.2.1)
 have eC:W0.heap.size<=g1:=by
  rcases uh with h|h
  ·simp[Value.ownBlock]at h;omega
  ·omega
 obtain⟨W2,dH⟩:∃W2,(w1.setCell ⟨g1,gi*2,zb⟩ (zf .i64 i)).setCell ⟨g1,gi*2+1,zb⟩ (zf .i64 j)=W2:=⟨_,rfl⟩;have eJ:W2.ownsRow B 71 2 (ze (zc ⟨g1,0,zb⟩) m sQ) m (pv (sp.set gi ((i:Int),(j:Int)))):=by
  rw[<-dH,<-WZ _ _ _ _ (by rw[YF.out];exact Kb)];exact((mq.stored _ _).1.stored _ _).1
 have H2:=H0.call (show zi W0.heap.size W0 W2 by rw[<-dH];exact(ak.setCell eC _).setCell eC _);have H3:=H2.call ((Below.refl W2.heap.size W2).drew);have kh:=cI eJ ((Below.refl W2.heap.size W2).drew);clear H1 u0 u1 y0 y1 f0 f1 t4 mq kQ uh Uh ak CL az eJ c0 c1 c2 c3 c4 q0 q4;obtain⟨dY,CI,zU,zV,zW,zX,B2,B3,B4,B5,B7,lA,rA,-,-⟩:=H2;obtain⟨rG,KE,DG,DI,DJ,DK,JA,JB,DO,DR,JC,lC,rC,-,-⟩:=H3;rw[dH]
 go_region_with (go_at_call 66;refine(cV _ rG g1 sQ kh (aU HB.out rG.size)).mono ?_;rintro e w5 ⟨g5,gF,rfl,pT,bE⟩)
 all_goals
  rw[<-Hu.out]at pT;go_wp2;refine bD (v:=ze (zc ⟨g5,0,zb⟩) m gF) (by simp[results,results66,go_sem]) rfl ⟨g5,gF,rfl,pT,?_⟩;exact aj rG rG.size bE
theorem zrz(ns:List aM)(n x y:Nat)(hn:n<ns.length)(hk:bJ ns n=3)(hT:aK ns n=.aQ (aK ns x) (aK ns y))(hL:lh ns n=x)(hR:oh ns n=y)(hE:jB ns x)(hX:pD ns x)(hY:pD ns y):pD ns n:=by
 intro w ao c gl cl gr cr t B i j g cap m sp l aB az hsm hB fk cO dA fj ht hg du;rw[hT]at du;obtain⟨iG,fe,hv,AK,hc⟩:=aB.nodes;cases hv;obtain⟨b,o,sv,nd,rfl,Hn,bu,c0,c1,c2,c3,c4,di⟩:=hc.elem (Below.refl _ _) hn;have cM:nd.kind=3:=by rw[<-hk];unfold bJ;rw[Hn.out]
 rw[cM]at c0;obtain⟨bH,bI,rfl,Eu,jQ⟩:=di;have l0:=aB.left n hn;rw[hL]at l0;have r0:=aB.right n hn;rw[hR]at r0;have hlt:=aB.za;have hrt:=aB.zd;have dO:(0:Int)<=(n:Int):=by omega
 have dh:(n:Int)<(ns.length:Int):=by omega
 obtain⟨W0,ah⟩:∃W0,(w.alloc (zh #[ze (zc ⟨b,o,zb⟩) ns.length c,ze (zc ⟨gl,0,zb⟩) ns.length cl,ze (zc ⟨gr,0,zb⟩) ns.length cr,.string t] 119)).alloc (zh #[zf .i64 3,.slice bH nd.set.length bI,zf .i64 nd.min,zf .i64 nd.max,zf .i64 nd.group] 149)=W0:=⟨_,rfl⟩;have ae:zi w.heap.size w W0:=by rw[<-ah];exact(au).alloc (by simp) _
 have k1:W0.heap[w.heap.size]?=zc (zh #[ze (zc ⟨b,o,zb⟩) ns.length c,ze (zc ⟨gl,0,zb⟩) ns.length cl,ze (zc ⟨gr,0,zb⟩) ns.length cr,.string t] 119 (0,0)):=by rw[<-ah];exact cQ (aL _ _)
 have k2:W0.heap[w.heap.size+1]?=zc (zh #[zf .i64 3,.slice bH nd.set.length bI,zf .i64 nd.min,zf .i64 nd.max,zf .i64 nd.group] 149 (0,0)):=by rw[<-ah];exact Dc _ _ _
 obtain⟨p0,p1,p2,p3⟩:=gC k1;obtain⟨q0,q1,q2,q3,q4⟩:=EW k2;have bX:w.heap.size+1<W0.heap.size:=uV k2;have rB:=λ(W:zg) (hb:zi w.heap.size w W)=>Df ns x hE W (zc ⟨b,o,zb⟩) c gl cl gr cr t i j (aB.below hb) (by omega) fj ht
 have cV:=λ(W:zg) (hb:zi w.heap.size w W) (g' cap':Nat) (h1:W.ownsRow B 71 2 (ze (zc ⟨g',0,zb⟩) m cap') m (pv (sp)))=>hX W (zc ⟨b,o,zb⟩) c gl cl gr cr t B i j g' cap' m (sp) l (aB.below hb) h1 (by first|exact hsm|(rw[zv];exact hsm)) (aU hB hb.size) fk cO dA fj ht
 have mP:=λ(W:zg) (hb:zi w.heap.size w W) (g' cap':Nat) (h1:W.ownsRow B 71 2 (ze (zc ⟨g',0,zb⟩) m cap') m (pv (sp)))=>hY W (zc ⟨b,o,zb⟩) c gl cl gr cr t B i j g' cap' m (sp) l (aB.below hb) h1 (by first|exact hsm|(rw[zv];exact hsm)) (aU hB hb.size) fk cO dA fj ht
 have H0:jE w (ze (zc ⟨b,o,zb⟩) ns.length c) (ze (zc ⟨gl,0,zb⟩) ns.length cl) (ze (zc ⟨gr,0,zb⟩) ns.length cr) (.string t) (zf .i64 3) (.slice bH nd.set.length bI) (zf .i64 nd.min) (zf .i64 nd.max) (zf .i64 nd.group) gl gr n (zf .i64 x) (zf .i64 y) W0:=⟨ae,bX,p0,p1,p2,p3,q0,q1,q2,q3,q4,(ae.cell (p:=⟨gl,n,zb⟩) hlt).trans l0,(ae.cell (p:=⟨gr,n,zb⟩) hrt).trans r0,hlt,hrt⟩;have H1:=H0.call ((Below.refl W0.heap.size W0).drew);have vy:Hid ((Lg t.data.toList (aK ns x) i j/\Pl t.data.toList (aK ns x) i j l)\/(¬Lg t.data.toList (aK ns x) i j/\Pl t.data.toList (aK ns y) i j l)):=du;clear hT hk cM hc jQ aB hX hY hE du k1 k2 p0 p1 p2 p3 q1 q2 q3 q4 l0 r0;obtain⟨-,-,a0,a1,a2,a3,d0,d1,d2,d3,d4,lA,rA,-,-⟩:=H0
 go_enter func66,ntmps66
 go_wp2;obtain⟨rG,KE,DG,DI,DJ,DK,JA,JB,DO,DR,JC,lC,rC,-,-⟩:=H1
 go_region_with (go_at_call 92;refine(rB _ rG).mono ?_;rintro e w4 ⟨q,rfl,hq,aG⟩)
 all_goals
  have H4:jE w (ze (zc ⟨b,o,zb⟩) ns.length c) (ze (zc ⟨gl,0,zb⟩) ns.length cl) (ze (zc ⟨gr,0,zb⟩) ns.length cr) (.string t) (zf .i64 3) (.slice bH nd.set.length bI) (zf .i64 nd.min) (zf .i64 nd.max) (zf .i64 nd.group) gl gr n (zf .i64 x) (zf .i64 y) w4:=jE.call ⟨rG,KE,DG,DI,DJ,DK,JA,JB,DO,DR,JC,lC,rC,hlt,hrt⟩ aG;have H5:=H4.call ((Below.refl w4.heap.size w4).drew);have jS:=cI az H5.1;clear rG KE DG DI DJ DK JA JB DO DR JC lC rC a0 a1 a2 a3 d0 d1 d2 d3 d4 lA rA aG;obtain⟨dY,CI,zU,zV,zW,zX,B2,B3,B4,B5,B7,lA,rA,-,-⟩:=H4;obtain⟨rG,KE,DG,DI,DJ,DK,JA,JB,DO,DR,JC,lC,rC,-,-⟩:=H5;rcases vy.out with ⟨mO,hp⟩|⟨mO,hp⟩
  ·obtain rfl:q=true:=hq.2 mO;have Hp:Hid (Pl t.data.toList (aK ns x) i j l):=hp;clear hp hq mO mP;go_wp2
   go_region_with (go_at_call 66;refine(cV _ rG g cap jS hg Hp.out).mono ?_;rintro e w5 ⟨g5,gF,rfl,pT,bE⟩)
   all_goals
    have bj:=aj rG rG.size bE;go_wp2;exact bD (v:=ze (zc ⟨g5,0,zb⟩) m gF) (by simp[results,results66,go_sem]) rfl ⟨g5,gF,rfl,pT,bj⟩
  ·obtain rfl:q=false:=by
    cases q
    ·rfl
    ·exact absurd (hq.1 rfl) mO
   have Hp:Hid (Pl t.data.toList (aK ns y) i j l):=hp;clear hp hq mO cV;go_wp2
   go_region_with (go_at_call 66;refine(mP _ rG g cap jS hg Hp.out).mono ?_;rintro e w5 ⟨g5,gF,rfl,pT,bE⟩)
   all_goals
    have bj:=aj rG rG.size bE;go_wp2;exact bD (v:=ze (zc ⟨g5,0,zb⟩) m gF) (by simp[results,results66,go_sem]) rfl ⟨g5,gF,rfl,pT,bj⟩
end
attribute [local go_sem ↓] wp_at_zero wp_at_succ
theorem zqG{P:Prop}{q:Bool}(h:q=true↔P)(k:¬P):q=false:=by
 cases q
 ·rfl
 ·exact absurd (h.1 rfl) k
theorem Mh(ns:List aM)(n:Nat)(hE:jB ns n)(w:zg)(ao:Option Addr)(c gl cl gr cr:Nat)(t:ByteArray)(mn:Nat)(mx:Int)(i j:Nat)(mS:mn<=255)(hmx:mx=-1\/((mn:Int)<=mx/\mx<=255))(aB:vq w ns (.slice ao ns.length c) gl gr)(hi:i<=t.size)(hj:j<=t.size)(ht:t.size<=4096):
  zl prog 115 #[zk #[.slice ao ns.length c,ze (zc ⟨gl,0,zb⟩) ns.length cl,ze (zc ⟨gr,0,zb⟩) ns.length cr,.string t],zf .i64 n,zf .i64 mn,zf .i64 mx,zf .i64 i,zf .i64 j] w λe w'=>PW w (Lg t.data.toList (.aw (aK ns n) mn mx) i j) e w':=by
 have ae:zi w.heap.size w (w.alloc (zh #[.slice ao ns.length c,ze (zc ⟨gl,0,zb⟩) ns.length cl,ze (zc ⟨gr,0,zb⟩) ns.length cr,.string t] 119)):=au;have k0:(w.alloc (zh #[.slice ao ns.length c,ze (zc ⟨gl,0,zb⟩) ns.length cl,ze (zc ⟨gr,0,zb⟩) ns.length cr,.string t] 119)).heap[w.heap.size]?=zc (sD ao ns c gl cl gr cr t):=aL _ _;have JQ:=λ(W:zg)=>WQ t.size i W hi (by omega)
 have JM:∀(W:zg) (g:Nat),zi w.heap.size w W->ou W g (qQ t.size i)->
   zl prog 114 #[zk #[.slice ao ns.length c,ze (zc ⟨gl,0,zb⟩) ns.length cl,ze (zc ⟨gr,0,zb⟩) ns.length cr,.string t],zf .i64 n,zf .i64 mn,zf .i64 mx,ze (zc ⟨g,0,zb⟩) (t.size+1) (t.size+1)] W λr w'=>Mp W t (t.size+1) (fX t.data.toList (In (.aw (aK ns n) mn mx)) (· = i)) r w':=λW g h1 h2=>
  zjx ns n hE W ao c gl cl gr cr t g (t.size+1) (t.size+1) (qQ t.size i) _ mn mx (aB.below h1) h2 (by simp[qQ]) (Vu t.size i hi) ht mS hmx
 clear hE aB mS hmx;generalize hT:Pt.aw (aK ns n) mn mx=T at *;generalize hU:t.data.toList=u at *;obtain⟨q0,q1,q2,q3⟩:=gC k0;obtain⟨W0,ah⟩:∃W0,w.alloc (zh #[.slice ao ns.length c,ze (zc ⟨gl,0,zb⟩) ns.length cl,ze (zc ⟨gr,0,zb⟩) ns.length cr,.string t] 119)=W0:=⟨_,rfl⟩;rw[ah]at ae k0 q0 q1 q2 q3;have lD:=uV k0;have ui:=ae.drew;have dO:(0:Int)<=(j:Int):=by omega
 have dh:(j:Int)<(t.size:Int)+1:=by omega
 clear k0
 go_enter func115,ntmps115
 go_wp2;clear ah
 go_region_with (first|(go_at_call 91;refine(JQ _).mono ?_;rintro r w3 ⟨rfl,sU,ay⟩;have ql:=ay.size;have z0:=(ay.cell (p:=⟨w.heap.size,0,zb⟩) lD).trans q0;have z1:=(ay.cell (p:=⟨w.heap.size,1,zb⟩) lD).trans q1;have z2:=(ay.cell (p:=⟨w.heap.size,2,zb⟩) lD).trans q2;have z3:=(ay.cell (p:=⟨w.heap.size,3,zb⟩) lD).trans q3)|(go_at_call 114;refine(JM _ _ (aj ui ui.size ay) sU).mono ?_;rintro r w4 ⟨g4,c4,S4,rfl,pG,hl4,pP,aG⟩;have hcell:=pG.2 j (by omega);obtain⟨q,hq⟩:∃q,S4.getD j false=q:=⟨_,rfl⟩;rw[hq]at hcell;have Hq:Hid _:=hq;clear hq))
 all_goals
  have bj:=aj (aj ui ui.size ay) (aj ui ui.size ay).size aG;have nU:q=true↔Lg u T i j:=by rw[<-Hq.out];exact zoI pP
  go_wp2;go_ret;exact⟨q,rfl,nU,bj⟩
def vr(ns:List aM)(x:Nat)(t:ByteArray)(mn:Nat)(mx:Int)(i j:Nat)(l:List Up):Prop:=
 ∀(w:zg) (ao:Option Addr) (c gl cl gr cr B g cap m:Nat) (sp:List (Int×Int)),vq w ns (.slice ao ns.length c) gl gr->w.ownsRow B 71 2 (ze (zc ⟨g,0,zb⟩) m cap) m (pv sp)->sp.length=m->B<=w.heap.size->0<m->m<=1048576->i<=j->j<=t.size->t.size<=4096->(∀z∈l,1<=z.1/\z.1<(m:Int))->mn<=255->(mx=-1\/((mn:Int)<=mx/\mx<=255))->
  zl prog 93 #[zk #[.slice ao ns.length c,ze (zc ⟨gl,0,zb⟩) ns.length cl,ze (zc ⟨gr,0,zb⟩) ns.length cr,.string t],zf .i64 x,zf .i64 mn,zf .i64 mx,zf .i64 i,zf .i64 j,ze (zc ⟨g,0,zb⟩) m cap] w λe w'=>YS B w m (dK sp l) e w'
theorem zqK(ns:List aM)(x:Nat)(t:ByteArray)(mn:Nat)(mx:Int)(i j:Nat)(h:mn=0/\mx=0):vr ns x t mn mx i j []:=by
 obtain⟨rfl,rfl⟩:=h;intro w ao c gl cl gr cr B g cap m sp aB az hsm hB fk cO dA fj ht hg mS hmx;obtain⟨W0,ah⟩:∃W0,w.alloc (zh #[.slice ao ns.length c,ze (zc ⟨gl,0,zb⟩) ns.length cl,ze (zc ⟨gr,0,zb⟩) ns.length cr,.string t] 119)=W0:=⟨_,rfl⟩;have ae:zi w.heap.size w W0:=by rw[<-ah];exact au
 have k0:W0.heap[w.heap.size]?=zc (sD ao ns c gl cl gr cr t):=by rw[<-ah];exact aL _ _
 clear k0
 go_enter func93,ntmps93
 go_wp2;exact bD (v:=ze (zc ⟨g,0,zb⟩) m cap) (by simp[results,results93,go_sem]) rfl ⟨g,cap,rfl,cI az ae,ae⟩
theorem zqM(ns:List aM)(x:Nat)(t:ByteArray)(mn:Nat)(mx:Int)(i j:Nat)(h:mn=0/\mx=-1/\i=j):vr ns x t mn mx i j []:=by
 obtain⟨rfl,rfl,rfl⟩:=h;intro w ao c gl cl gr cr B g cap m sp aB az hsm hB fk cO dA fj ht hg mS hmx;obtain⟨W0,ah⟩:∃W0,w.alloc (zh #[.slice ao ns.length c,ze (zc ⟨gl,0,zb⟩) ns.length cl,ze (zc ⟨gr,0,zb⟩) ns.length cr,.string t] 119)=W0:=⟨_,rfl⟩;have ae:zi w.heap.size w W0:=by rw[<-ah];exact au
 have k0:W0.heap[w.heap.size]?=zc (sD ao ns c gl cl gr cr t):=by rw[<-ah];exact aL _ _
 clear k0
 go_enter func93,ntmps93
 go_wp2;exact bD (v:=ze (zc ⟨g,0,zb⟩) m cap) (by simp[results,results93,go_sem]) rfl ⟨g,cap,rfl,cI az ae,ae⟩
end Go.Proofs.YtdimhpfiieepiaaGreatDoor
