import Derived.Test.YtdimhpfiieepiaaGreatDoorC27
import Derived.WalkSpells
namespace Go.Proofs.YtdimhpfiieepiaaGreatDoor
open Proofs.Tryz
open Option renaming none->za,some->zb
open RowKit renaming Hid->zc,Below->zj
open Value renaming pointer->zd,int->zf,slice->zh
open Go renaming World->zg,Value->zi,Calls->zl,TypeId->zm
open Obj renaming cells->zk
set_option maxHeartbeats 2000000
set_option maxRecDepth 100000
open Go.RowKit
attribute [local go_sem ↓] wp_at_zero wp_at_succ
def OC(w0:zg)(pl:Nat)(Q:Nat->Option Pt)(a:Nat)(p:Pt)(Ow:Nat->Nat->Prop)(w:zg)(e:Ending)(w':zg):Prop:=
 ∃(s:Nat) (aF:Nat->Nat->Prop) (X:Nat->Prop) (v:eE) (ra rb:cz) (O1 O2:Nat->Prop),e=.returned (zd (zb ⟨s,0,za⟩))/\lS w0 pl Q a p aF w' s X v ra rb O1 O2/\ra.m<=8192/\rb.m<=8192/\nI pl a Ow w aF w' X
theorem bJ.set{w:zg}{b o:Nat}{x:zi}{cs:Array zi}{t:zm}(h:w.heap[b]?=zb (zk cs t (0,0)))(ht:t≠293):bJ w (w.setCell ⟨b,o,za⟩ x):=λmg f e=>by
 refine(cH _ _ _ _ (show mg≠b from λe2=>?_)).trans e;rw[e2,h]at e;exact ht (bL e)
section
variable {w0:zg} {pl:Nat} {Q:Nat->Option Pt} {Ow:Nat->Nat->Prop}
theorem zg8{a:Nat}{p:Pt}{w w2:zg}(h:cF w0 pl Q Ow w)(ha:Q a=zb p){s:Nat}{v:eE}{ra rb:cz}{O1 O2:Nat->Prop}(hst:gW O1 O2 w2 s v ra rb)(pu:pF (cj p 0) v.n v.nw v.f v.F v.G v.A v.L)(qJ:v.e=true↔(cj p 0).e)(af:w.heap.size<=v.b0)(hn:v.n<=2000)(bY:v.nw=((aE p).toNat+63)/64)(dw:ra.m=1)(dG:rb.m=1)(aZ:zj w.heap.size w w2){f k0 v0 x0 x1 x2:zi}{room z:Nat}(h2:w.heap[a]?=zb (zk #[zd (zb ⟨pl,0,za⟩),v0,f,k0] 222 (0,0)))(hp:w.heap[pl]?=zb (zk #[x0,x1,x2,zf .i64 room] 189 (0,0)))(hr:room<=1048576)(hz:z<=room):
  OC w0 pl Q a p Ow w (.returned (zd (zb ⟨s,0,za⟩))) ((w2.setCell ⟨pl,3,za⟩ (zf .i64 ((room:Int)-z))).setCell ⟨a,3,za⟩ (zd (zb ⟨s,0,za⟩))):=by
 have pS:=h.aN ha;have dC:=h.zK;have hsz:=h.size;have iU:=aZ.size;have hne:=h.ne ha;have p2:=(aZ.block pl (by omega)).trans hp;have a2:=(aZ.block a (by omega)).trans h2;have p3:=dE w2 pl 3 _ _ (zf .i64 ((room:Int)-z)) p2;have a3:(w2.setCell ⟨pl,3,za⟩ (zf .i64 ((room:Int)-z))).heap[a]?=_:=(cH _ _ _ _ (show a≠pl from hne)).trans a2;have p4:((w2.setCell ⟨pl,3,za⟩ (zf .i64 ((room:Int)-z))).setCell ⟨a,3,za⟩ (zd (zb ⟨s,0,za⟩))).heap[pl]?=_:=(cH _ _ _ _ (show pl≠a from λe=>hne e.symm)).trans p3;have a4:=dE _ a 3 _ _ (zd (zb ⟨s,0,za⟩)) a3;have km:bJ w2 ((w2.setCell ⟨pl,3,za⟩ (zf .i64 ((room:Int)-z))).setCell ⟨a,3,za⟩ (zd (zb ⟨s,0,za⟩))):=(bJ.set p2 (by decide)).trans (bJ.set a3 (by decide));have ot:∀k,k≠pl->k≠a->((w2.setCell ⟨pl,3,za⟩ (zf .i64 ((room:Int)-z))).setCell ⟨a,3,za⟩ (zd (zb ⟨s,0,za⟩))).heap[k]?=w2.heap[k]?:=λk h1 h2=>(cH _ _ _ _ (show k≠a from h2)).trans (cH _ _ _ _ (show k≠pl from h1))
 have hsX:((w2.setCell ⟨pl,3,za⟩ (zf .i64 ((room:Int)-z))).setCell ⟨a,3,za⟩ (zd (zb ⟨s,0,za⟩))).heap.size=w2.heap.size:=by simp
 have eos:((w2.setCell ⟨pl,3,za⟩ (zf .i64 ((room:Int)-z))).setCell ⟨a,3,za⟩ (zd (zb ⟨s,0,za⟩))).os=w.os:=aZ.os;have etp:((w2.setCell ⟨pl,3,za⟩ (zf .i64 ((room:Int)-z))).setCell ⟨a,3,za⟩ (zd (zb ⟨s,0,za⟩))).tape=w.tape:=aZ.tape;have eop:((w2.setCell ⟨pl,3,za⟩ (zf .i64 ((room:Int)-z))).setCell ⟨a,3,za⟩ (zd (zb ⟨s,0,za⟩))).output=w.output:=aZ.output;rw[show ((room:Int)-z)=((room-z:Nat):Int) from by omega]at *;generalize ((w2.setCell ⟨pl,3,za⟩ (zf .i64 ((room-z:Nat):Int))).setCell ⟨a,3,za⟩ (zd (zb ⟨s,0,za⟩)))=W at *;have hB:=hst.c.c1.le;have Mg:um W s p (λk=>w.heap.size<=k/\k<W.heap.size) v ra rb O1 O2:=by
  refine⟨hst.keep (λk hk=>ot k ?_ ?_) km (ot 0 (λe=>h.p0 e.symm) (λe=>by have:=h.q0;rw[e,ha]at this;cases this)) (by omega),pu,qJ,hn,bY,λk h1 h2=>⟨by omega,by omega⟩,λk h1=>?_,λk h1=>?_⟩
  ·rcases hk with h1|h1|h1
   ·omega
   ·have:=hst.o1 k h1;have:=hst.c.s0;have:=hst.c.s1;omega
   ·have:=hst.o2 k h1;have:=hst.c.s0;have:=hst.c.s1;omega
  ·rcases hk with h1|h1|h1
   ·omega
   ·have:=hst.o1 k h1;have:=hst.c.s0;have:=hst.c.s1;omega
   ·have:=hst.o2 k h1;have:=hst.c.s0;have:=hst.c.s1;omega
  ·have:=hst.o1 k h1;have:=hst.c.s0;have:=hst.c.s1;exact⟨by omega,by omega⟩
  ·have:=hst.o2 k h1;have:=hst.c.s0;have:=hst.c.s1;exact⟨by omega,by omega⟩
 have tcF:ap (λk=>k=pl\/k=a\/False) w W:=⟨eos,etp,eop,by omega,λk hk hn=>(ot k (λe=>hn (.inl e)) (λe=>hn (.inr (.inl e)))).trans (aZ.block k hk)⟩;have kmw:=(bJ.of aZ).trans km;refine⟨s,_,λk=>w.heap.size<=k/\k<W.heap.size,v,ra,rb,O1,O2,rfl,⟨h.turn ha (X:=λ_=>False) (X':=λk=>w.heap.size<=k/\k<W.heap.size) (λk hk=>hk.elim) tcF kmw ⟨_,_,_,_,_,hp,p4,by omega⟩ ⟨_,_,_,_,h2,a4,.inr ⟨s,v,ra,rb,O1,O2,rfl,Mg,by omega,by omega⟩⟩ (λk hk=>⟨by omega,hk.2,.inr (.inl hk.1)⟩),ha,Mg,λk hk=>⟨by omega,hk.2⟩,.inl ⟨λk=>⟨λhk=>.inl ⟨rfl,hk⟩,λhk=>hk.elim (λx=>x.2) (λx=>absurd rfl x.1)⟩,(qm a4).2.2.2⟩⟩,by omega,by omega,⟨tcF.mono λk _ hk=>hk.elim .inl λhk=>hk.elim (λe=>.inr (.inl e)) False.elim,kmw,λk b hb=>⟨λx=>x.elim (λy=>absurd y.1 hb) (λy=>y.2),λx=>.inr ⟨hb,x⟩⟩,λk hk=>hk.elim (λy=>.inr y.2.1) (λy=>absurd rfl y.1),λk hk=>.inr hk.1⟩⟩
theorem zg7{a:Nat}{p:Pt}{w w2:zg}(h:cF w0 pl Q Ow w)(ha:Q a=zb p){s:Nat}{v:eE}{ra rb:cz}{O1 O2:Nat->Prop}(hst:gW O1 O2 w2 s v ra rb)(pu:pF (cj p 0) v.n v.nw v.f v.F v.G v.A v.L)(qJ:v.e=true↔(cj p 0).e)(af:w.heap.size<=v.b0)(hn:v.n<=2000)(bY:v.nw=((aE p).toNat+63)/64)(dw:ra.m=1)(dG:rb.m=1)(aZ:zj w.heap.size w w2):
  OC w0 pl Q a p Ow w (.returned (zd (zb ⟨s,0,za⟩))) w2:=by
 have hsz:=h.size;have iU:=aZ.size;have hB:=hst.c.c1.le;have dD:=hst.c.s0;have dH:=hst.c.s1;refine⟨s,Ow,λk=>w.heap.size<=k/\k<w2.heap.size,v,ra,rb,O1,O2,rfl,⟨h.below aZ,ha,⟨hst,pu,qJ,hn,bY,λk h1 h2=>⟨by omega,by omega⟩,λk h1=>?_,λk h1=>?_⟩,λk hk=>⟨by omega,hk.2⟩,.inr λk b hk ho=>by have:=h.ow k b ho;omega⟩,by omega,by omega,⟨.bR aZ,bJ.of aZ,λ_ _ _=>Iff.rfl,λ_ hk=>.inl hk,λk hk=>.inr hk.1⟩⟩
 ·have:=hst.o1 k h1;exact⟨by omega,by omega⟩
 ·have:=hst.o2 k h1;exact⟨by omega,by omega⟩
theorem zh9{a:Nat}{p:Pt}{w w2:zg}(h:cF w0 pl Q Ow w)(ha:Q a=zb p){s:Nat}{v:eE}{ra rb wH zN:cz}{O1 O2 Ax xj:Nat->Prop}(hq:um w s p (λk=>Ow k a) v ra rb O1 O2){f v0:zi}(h2:w.heap[a]?=zb (zk #[zd (zb ⟨pl,0,za⟩),v0,f,zd (zb ⟨s,0,za⟩)] 222 (0,0)))(hst:gW Ax xj w2 s v wH zN)(EN:∀k,Ax k->O1 k\/w.heap.size<=k)(hO2:∀k,xj k->O2 k\/w.heap.size<=k)(tc:ap (· = s) w w2)(dw:wH.m<=8192)(dG:zN.m<=8192):
  OC w0 pl Q a p Ow w (.returned (zd (zb ⟨s,0,za⟩))) w2:=by
 have mX:lS w0 pl Q a p Ow w s (λk=>Ow k a) v ra rb O1 O2:=⟨h,ha,hq,λk hk=>h.ow k a hk,.inl ⟨λ_=>Iff.rfl,(qm h2).2.2.2⟩⟩;have km:bJ w w2:=λmg f e=>(tc.same mg (ah.1 e).1 (λe2=>by
  have e2:mg=s:=e2;rw[e2,hq.st.box]at e;exact absurd (bL e) (by decide))).trans e
 have hsz:=tc.size;have hlt:∀k,Ow k a->k<w.heap.size:=λk hk=>(h.ow k a hk).2
 have mY:um w2 s p (λk=>Ow k a\/(w.heap.size<=k/\k<w2.heap.size)) v wH zN Ax xj:=by
  refine⟨hst,hq.rw,hq.em,hq.nl,hq.I5,λk h1 h2=>.inl (hq.lo k h1 h2),λk h1=>?_,λk h1=>?_⟩
  ·rcases EN k h1 with h3|h3
   ·exact .inl (hq.x1 k h3)
   ·exact .inr ⟨h3,(hst.o1 k h1).2⟩
  ·rcases hO2 k h1 with h3|h3
   ·exact .inl (hq.x2 k h3)
   ·exact .inr ⟨h3,(hst.o2 k h1).2⟩
 obtain⟨aF,hs,-,hc⟩:=mX.step (w':=w2) (X':=λk=>Ow k a\/(w.heap.size<=k/\k<w2.heap.size)) (tc.mono λk _ hk=>by have hk:k=s:=hk;rw[hk];exact hq.sX) km mY (by omega) (by omega) (λk hk=>hk.elim .inl λhk=>.inr hk.1) (λk hk=>hk.elim (λhk=>by have:=hlt k hk;omega) λhk=>hk.2);exact⟨s,aF,_,v,wH,zN,Ax,xj,rfl,hs,dw,dG,hc _ _ (nI.refl pl a Ow w)⟩
theorem Jp(a:Nat)(p:Pt)(w:zg)(h:cF w0 pl Q Ow w)(ha:Q a=zb p):
  zl prog 124 #[zd (zb ⟨a,0,za⟩)] w λe w'=>OC w0 pl Q a p Ow w e w':=by
 obtain⟨v0,f,k0,h1,h2,h3,h4,h5⟩:=h.pc a p ha;obtain⟨c0,c1,c2,c3⟩:=qm h2;have pS:=h.aN ha;have hsz:=h.size;have Hi:zc _:=h;rcases h5 with rfl|⟨s,v,ra,rb,O1,O2,rfl,hq,tG,pX⟩
 ·obtain⟨x0,x1,x2,r0,room,-,hp,hr⟩:=h.vf;have dC:=h.zK;have Lm:fS w:=h.dv.keep h.zero;have PN:=zj6 p v0 w (aU.keep h.marks p v0 h3) h4 Lm (by omega);have H2:zc _:=h2;have Hp:zc _:=hp;clear h h1 h2 h3 h4 hp Lm
  go_enter func124,ntmps124
  go_wp2_with fail
  refine PN.mono ?_;rintro e w1 ⟨s,v,ra,rb,O1,O2,rfl,hst,dw,dG,pu,qJ,af,hn,bY,aZ⟩;have ww:=ztx O1 O2 s v ra rb w1 hst (by omega);obtain⟨z,hz⟩:∃z:Nat,(v.n:Int)*v.nw=z:=⟨v.n*v.nw,by simp⟩;rw[hz]at ww;have iU:=aZ.size;have IX:=hst.c.c1.le;have jU:zc _:=hst;have Em:zc _:=pu;have GQ:zc _:=qJ;have Zx:zc _:=aZ;have ZV:zc _:=bY;clear hst pu qJ aZ PN hz bY c1 c2 c3 c0
  go_wp2_with fail
  refine ww.mono ?_;rintro e w2 ⟨rfl,ae⟩;have jl:zj w.heap.size w w2:=Zx.out.trans (ae.mono iU);have c0:=(qm ((jl.block a (by omega)).trans H2.out)).1;have p3:=(qm ((jl.block pl (by omega)).trans Hp.out)).2.2.2;have pf:=cT _ _ 3 _ _ ((jl.block pl (by omega)).trans Hp.out);have tM:gW O1 O2 w2 s v ra rb:=jU.out.keep (λk hk=>ae.block k (by
   rcases hk with h1|h1|h1
   ·omega
   ·exact(jU.out.o1 k h1).2
   ·exact(jU.out.o2 k h1).2)) (bJ.of ae) (ae.block 0 (by omega)) ae.size
  have Cs:zc _:=tM;have zAR:zc _:=jl;have GO:zc _:=af;have Hn:zc _:=hn;have ZT:zc _:=dw;have Oh:zc _:=dG;clear tM ww af hn dw dG
  by_cases hle:z<=room
  ·have hd:decide ((z:Int)<=(room:Int))=true:=by simp;omega
   have HF:zc _:=zg8 Hi.out ha Cs.out Em.out GQ.out GO.out Hn.out ZV.out ZT.out Oh.out jl H2.out Hp.out hr hle;have a2:=(jl.block a (by omega)).trans H2.out;have p2:=(jl.block pl (by omega)).trans Hp.out;have hne:=Hi.out.ne ha;have a3:(w2.setCell ⟨pl,3,za⟩ (zf .i64 ((room:Int)-z))).heap[a]?=_:=(cH _ _ _ _ (show a≠pl from hne)).trans a2;have d3:=(qm a3).2.2.2;have df:=cT _ _ 3 _ _ a3;clear a2 a3 jl ae p2;go_wp2;go_ret;exact HF.out
  ·have hd:decide ((z:Int)<=(room:Int))=false:=by simp;omega
   have pU:¬z<=room:=hle;have HF:zc _:=zg7 Hi.out ha Cs.out Em.out GQ.out GO.out Hn.out ZV.out ZT.out Oh.out jl;clear jl ae;go_wp2;go_ret;exact HF.out
 ·have jY:=zrn O1 O2 s v ra rb w hq.st (by omega) (by omega);have H2:zc _:=h2;have Hq:zc _:=hq;clear h h1 h2 h3 h4 c0 c1 c2
  go_enter func124,ntmps124
  go_wp2_with fail
  refine jY.mono ?_;rintro e w1 ⟨rfl,ag⟩;have Vs:=(Hi.out.ow s a Hq.out.sX).2;have IX:gW O1 O2 w1 s v ra rb:=Hq.out.st.keep (λk hk=>ag.block k (by
   rcases hk with h1|h1|h1
   ·exact(Hi.out.ow k a (Hq.out.lo k h1.1 h1.2)).2
   ·exact(Hi.out.ow k a (Hq.out.x1 k h1)).2
   ·exact(Hi.out.ow k a (Hq.out.x2 k h1)).2)) (bJ.of ag) (ag.block 0 (by omega)) ag.size
  have e3:=(qm ((ag.block a (by omega)).trans H2.out)).2.2.2
  by_cases Bj:8192<ra.m+rb.m
  ·have hd:decide ((8192:Int)<(ra.m:Int)+rb.m)=true:=by simp;omega
   have E2:=zjH s v _ _ w1 IX.box IX.c;have yL:zc _:=ag;clear IX ag jY c3
   go_wp2_with fail
   refine E2.mono ?_;rintro e w2 ⟨rfl,a',b',Ax,xj,tM,dw,dG,qM,lg⟩;have hne:a≠s:=by have:=(Hi.out.ow s a Hq.out.sX).1;omega
   have e4:w2.cell? ⟨a,3,za⟩=zb (zd (zb ⟨s,0,za⟩)):=(World.cell?_of_block (lg.same a (by have:=yL.out.size;omega) hne)).trans e3;have HF:zc _:=zh9 Hi.out ha Hq.out H2.out tM (λk hk=>.inr (by have:=qM k (.inl hk);have:=yL.out.size;omega)) (λk hk=>.inr (by have:=qM k (.inr hk);have:=yL.out.size;omega)) ((ap.bR yL.out).trans lg) (by omega) (by omega);clear tM qM lg e3 E2;go_wp2;go_ret;exact HF.out
  ·have hd:decide ((8192:Int)<(ra.m:Int)+rb.m)=false:=by simp;omega
   have HF:zc _:=zh9 Hi.out ha Hq.out H2.out IX (λk hk=>.inl hk) (λk hk=>.inl hk) (.bR ag) (by omega) (by omega);clear IX ag jY c3;go_wp2;go_ret;exact HF.out
end
theorem aA{p:Prop}(h:p):zc p:=h
theorem znu{w:zg}{B:Nat}{pv:zi}{ps:List Nat}(h:w.ownsRow B 3 1 pv ps.length (vp ps))(hp:0<ps.length):∃g c:Nat,pv=zh (zb ⟨g,0,za⟩) ps.length c/\g<w.heap.size/\∀j,j<ps.length->w.cell? ⟨g,j,za⟩=zb (zf .i64 ((ps.getD j 0:Nat):Int)):=by
 obtain⟨g,cap,ax,h1,h2,h3⟩:=yl h hp;exact⟨g,cap,h1,(ah.1 h2).1,λj hj=>by rw[aM _ _ _ _ _ _ h2,h3 j hj];simp[vp,hj,List.getD_eq_getElem?_getD]⟩
theorem zum{O:Nat->Prop}{w:zg}{n nw bt ga gl:Nat}{lv:zi}{f:Nat->Nat->Bool}{Lk:Nat->Nat->Nat}{A L:Nat->Nat}{b:cz}(hr:qA O w n nw bt ga gl lv f Lk A L b)(t ne gs high off B:Nat)(pv:zi)(ps:List Nat)(gY:w.heap[t]?=zb (zk #[zd (zb ⟨b.r,0,za⟩),zh (zb ⟨gs,0,za⟩) ne ne,zf .i64 high,pv] 195 (0,0)))(Dk:w.ownsRow B 3 1 pv ps.length (vp ps))(ID:∀j,j<ps.length->ps.getD j 0<b.m)(zBE:off<high)(hh:high<=4096):
  zl prog 219 #[zd (zb ⟨t,0,za⟩),zf .i64 off] w λe w'=>((ps.length<=high-1-off/\e=.returned (zh za 0 0))\/(high-1-off<ps.length/\e=.returned (zh (zb ⟨b.gx (ps.getD (high-1-off) 0),0,za⟩) nw nw)))/\zj w.heap.size w w':=by
 obtain⟨c0,-,c2,c3⟩:=qm gY;obtain⟨pa,pc,rfl⟩:=DA Dk;obtain⟨bk,Zw⟩:∃bk,zc (high-1-off=bk):=⟨_,rfl⟩;have hbi:(high:Int)-1-off=(bk:Int):=by have:=Zw.out;omega
 rw[Zw.out];obtain⟨pn,Cr⟩:∃pn,zc (ps.length=pn):=⟨_,rfl⟩;rw[Cr.out]at c3 ⊢;have xL:=(oA hr.s.box).2.2.2.2.2.1;obtain⟨gS,cS,eS,-,Iq⟩:=hr.kZ;rw[eS]at xL
 by_cases hlt:bk<pn
 ·obtain⟨g,c,hg,-,hc⟩:=znu Dk (by have:=Cr.out;omega);have d0:=hc bk (by have:=Cr.out;omega);have hx:=ID bk (by have:=Cr.out;omega);have d1:=Iq _ hx;generalize ps.getD bk 0=x at *;injection hg with h1 _ h3
  subst h1;subst h3;have da:(0:Int)<=(x:Int):=by omega
  have cO:(x:Int)<(b.m:Int):=by omega
  have af:(0:Int)<=(bk:Int):=by omega
  have ag:(bk:Int)<(pn:Int):=by omega
  have hd:decide ((pn:Int)<=(bk:Int))=false:=by simp;omega
  clear hc Iq ID Dk gY eS hr
  go_enter func219,ntmps219
  go_wp2
  go_region
  all_goals
   go_wp2;go_ret;exact⟨.inr ⟨hlt,rfl⟩,(Below.refl _ _).drew⟩
 ·have hd:decide ((pn:Int)<=(bk:Int))=true:=by simp;omega
  clear Iq ID Dk gY eS hr
  go_enter func219,ntmps219
  go_wp2;go_ret;exact⟨.inl ⟨by omega,rfl⟩,Below.refl _ _⟩
theorem zlq(nw g cap:Nat)(w:zg):
  zl prog 195 #[zh (zb ⟨g,0,za⟩) nw cap,zh za 0 0] w λe w'=>e=.returned (.bool false)/\zj w.heap.size w w':=by
 go_enter func195,ntmps195
 go_wp2
 go_loopw [9] (λi wr=>i=zf .i64 0/\wr=w) (λi _=>0)
 case atStart=>exact⟨rfl,rfl⟩
 case round=>
  obtain⟨rfl,rfl⟩:=hrel;go_wp2;go_ret;exact⟨rfl,Below.refl _ _⟩
def rE(u:aJ)(M:PA)(fr e:Nat):Prop:=(e=fr/\M.e)\/(fr<e/\∃q,jg u M fr e q/\M.last q)
theorem zmf{u:aJ}{M:PA}{i j:Nat}(dL:i<j)(h:∀p,¬jg u M i j p):∀k p,¬jg u M i (j+k) p
 |0,p=>h p
 |k+1,p=>λhf=>by
  obtain⟨c,hc,-⟩:=hf.byte (show i<=j+k by omega);obtain⟨q,h1,-⟩:=(Nq (show i<j+k by omega) hc).1 hf;exact zmf dL h k q h1
def ug(u:aJ)(M:PA)(E:Nat->Prop)(fr k e:Nat)(ok:Bool):Prop:=(ok=true/\E e/\rE u M fr e/\e<=k/\∀x,x<=k->E x->rE u M fr x->x<=e)\/(ok=false/\e=fr/\∀x,x<=k->E x->¬rE u M fr x)
structure sQ(w:zg)(O1 O2:Nat->Prop)(s:Nat)(v:eE)(a b:cz)(u:aJ)(M:PA)(E:Nat->Prop)(fr:Nat)(W:zg)(k now:Nat)(a':cz)(O:Nat->Prop):Prop where
 tc:ap O1 w W
 km:bJ w W
 st:gW O O2 W s v a' b
 rn:rH a a'
 mb:a'.m+fr<=a.m+k
 o1:∀k,O1 k->O k
 Qc:∀k,O k->O1 k\/w.heap.size<=k
 le:fr<=k
 nw:now<a'.m
 fw:sD v.nw (a'.Ts now) (jg u M fr k)
section
variable {w:zg} {O1 O2:Nat->Prop} {s:Nat} {v:eE} {a b:cz} {u:aJ} {M:PA} {E:Nat->Prop} {fr:Nat} {W:zg} {k now:Nat} {a':cz} {O:Nat->Prop}
theorem sQ.below(h:sQ w O1 O2 s v a b u M E fr W k now a' O){W':zg}(hb:zj W.heap.size W W'):sQ w O1 O2 s v a b u M E fr W' k now a' O:=
 ⟨h.tc.trans (.bR hb),h.km.trans (bJ.of hb),h.st.other (S:=λ_=>False) (.bR hb) (λ_ e=>e.elim) (λ_ e=>e.elim) (λ_ e=>e.elim),h.rn,h.mb,h.o1,h.Qc,h.le,h.nw,h.fw⟩
theorem sQ.read(hR:pF M v.n v.nw v.f v.F v.G v.A v.L)(h:sQ w O1 O2 s v a b u M E fr W k now a' O){c:UInt8}(hc:u[k]?=zb c){bg:Bool}(Lj:bg=true↔k=fr){x:Nat}{a2:cz}{W':zg}(hx:x<a2.m)(hm:a2.m<=a'.m+1)(hn:rH a' a2)(hs:yv v.nw v.f v.F v.A (a'.Ts now) c.toNat bg (a2.Ts x))(st:gW (news O W W') O2 W' s v a2 b)(tc:ap O W W')(km:bJ W W'):sQ w O1 O2 s v a b u M E fr W' (k+1) x a2 (news O W W'):=by
 have hsz:=h.tc.size;refine⟨⟨tc.os.trans h.tc.os,tc.tape.trans h.tc.tape,tc.output.trans h.tc.output,aW h.tc.size tc.size,λk hk hn=>(tc.same k (by omega) (λe=>(h.Qc k e).elim hn λe=>by omega)).trans (h.tc.same k hk hn)⟩,h.km.trans km,st,h.rn.trans hn,by have:=h.mb;omega,λk hk=>.inl (h.o1 k hk),λk hk=>hk.elim (h.Qc k) λe=>.inr (by omega),by have:=h.le;omega,hx,?_⟩;exact zq0 hR h.le hc Lj (λq h1 h2=>h.st.ra.FJ now q h.nw h1 h2) (λq h1 h2=>st.ra.FJ x q hx h1 h2) h.fw hs
theorem sQ.ends(hR:pF M v.n v.nw v.f v.F v.G v.A v.L)(h:sQ w O1 O2 s v a b u M E fr W (k+1) now a' O)(hlt:fr<k+1):rE u M fr (k+1)↔kO v.nw (a'.Ts now) v.L=true:=by
 rw[<-zqS hR (λx=>(h.st.ra.s.set now h.nw).lt x) h.fw];constructor
 ·rintro (⟨e,_⟩|⟨_,h1⟩)
  ·omega
  ·exact h1
 ·intro h1;exact .inr ⟨hlt,h1⟩
theorem sQ.dead(hR:pF M v.n v.nw v.f v.F v.G v.A v.L)(h:sQ w O1 O2 s v a b u M E fr W (k+1) 0 a' O)(hlt:fr<k+1):∀x,k<x->¬rE u M fr x:=λx hx hL=>by
 have h0:∀p,¬jg u M fr (k+1) p:=λp hf=>by
  have hp:=(hR.D p).1 (hf.2.2.inside hR.fi hR.fo);have hn:=hR.kE;have h1:=(h.fw p (by omega)).2 hf;have h2:=h.st.ra.zero (p/64) (by omega);unfold au at h1;rw[h2]at h1;simp at h1
 rcases hL with ⟨e,_⟩|⟨_,q,hq,_⟩
 ·omega
 ·exact zmf hlt h0 (x-(k+1)) q (by rw[show k+1+(x-(k+1))=x from by omega];exact hq)
end
theorem ug.last{u:aJ}{M:PA}{E:Nat->Prop}{fr k e:Nat}{ok:Bool}(h:ug u M E fr k e ok)(hd:∀x,k<x->E x->¬rE u M fr x)(n:Nat)(jY:k<=n):ug u M E fr n e ok:=by
 rcases h with ⟨h1,h2,h3,h4,h5⟩|⟨h1,h2,h3⟩
 ·refine .inl ⟨h1,h2,h3,by omega,λx _ hE hL=>?_⟩;rcases ig k x with h|h
  ·exact absurd hL (hd x h hE)
  ·exact h5 x h hE hL
 ·refine .inr ⟨h1,h2,λx _ hE hL=>?_⟩;rcases ig k x with h|h
  ·exact hd x h hE hL
  ·exact h3 x h hE hL
theorem ug.hit{u:aJ}{M:PA}{E:Nat->Prop}{fr k:Nat}(h1:E (k+1))(h2:rE u M fr (k+1)):ug u M E fr (k+1) (k+1) true:=.inl ⟨rfl,h1,h2,aj _,λ_ h _ _=>h⟩
theorem ug.zxY{u:aJ}{M:PA}{E:Nat->Prop}{fr k e:Nat}{ok:Bool}(h:ug u M E fr k e ok)(hd:E (k+1)->¬rE u M fr (k+1)):ug u M E fr (k+1) e ok:=by
 rcases h with ⟨h1,h2,h3,h4,h5⟩|⟨h1,h2,h3⟩
 ·refine .inl ⟨h1,h2,h3,by omega,λx hx hE hL=>?_⟩
  by_cases e:x=k+1
  ·subst e;exact absurd hL (hd hE)
  ·exact h5 x (by omega) hE hL
 ·refine .inr ⟨h1,h2,λx hx hE hL=>?_⟩
  by_cases e:x=k+1
  ·subst e;exact hd hE hL
  ·exact h3 x (by omega) hE hL
section
def mkS(t:zm)(x y:zi):Sem zi:=Instr.makeSlice t x y
theorem ziL(x y:zi):Instr.makeSlice 193 x y=mkS 193 x y:=rfl
attribute [local go_sem ↓] ziL
theorem zkR(r g ne:Nat)(hi:Int):prog.built 195 [(0,zd (zb ⟨r,0,za⟩)),(1,zh (zb ⟨g,0,za⟩) ne ne),(2,zf .i64 hi)]=zb #[zd (zb ⟨r,0,za⟩),zh (zb ⟨g,0,za⟩) ne ne,zf .i64 hi,zh za 0 0]:=by kernel_rfl
theorem Tryz.zxS:(prog.info? 3).map (λi=>(i.zero,i.size,i.bytes))=zb (zb (zf .i64 0),1,8):=by kernel_rfl
theorem Yn(t:ByteArray){p:Nat}(h:p<t.size):t.data.toList[p]?=zb (t[p]'h):=by
 rw[dh (by simpa using h)];simp;rfl
def zye(O1 O2:Nat->Prop)(w:zg)(s:Nat)(v:eE)(a b:cz)(ne:Nat)(u:aJ)(M:PA)(E:Nat->Prop)(e:Ending)(w':zg):Prop:=
 ∃(high t gs:Nat) (b':cz) (O:Nat->Prop) (S:Nat->Nat) (pv:zi) (ps:List Nat),e=.returned (zd (zb ⟨t,0,za⟩))/\E high/\NL w O1 O2 s v a b ne u M E high t gs w' b' O S pv ps
theorem zkO{O1 O2:Nat->Prop}{w:zg}{s:Nat}{v:eE}{a b:cz}(h:gW O1 O2 w s v a b)(M:PA)(hR:pF M v.n v.nw v.f v.F v.G v.A v.L)(qJ:v.e=true↔M.e)(t:ByteArray)(ht:t.size<=4096)(ne ge cap:Nat)(ET:Nat->Nat)(hE:aH w ne ge ET)(hne:ne<=100)(hO:¬O2 ge)(hx:∃q,q<64*ne/\au ET q=true)(hq:∀q,q<64*ne->au ET q=true->q<=t.size)(xB:b.m<=90000000):
  zl prog 125 #[zd (zb ⟨s,0,za⟩),.string t,zh (zb ⟨ge,0,za⟩) ne cap] w λe w'=>zye O1 O2 w s v a b ne t.data.toList M (λq=>q<64*ne/\au ET q=true) e w':=by
 obtain⟨i0,hi,bI,aO,aQ⟩:=info_parts Tryz.VO;have hB:=h.c.c1.le;have EN:∀k,O1 k->k<w.heap.size:=λk hk=>(h.o1 k hk).2
 have hl:=XE ne ge cap ET w hE (by omega) h.c.c1.dv;have hg:=WV ne ge cap ET w hE (by omega);have Hh:zc _:=h
 go_enter func125,ntmps125
 go_wp2_with fail
 refine hl.mono ?_;rintro e w1 ⟨lv,rfl,LS,mh⟩;subst w1;obtain⟨low,rfl,-,-,pi⟩:∃low:Nat,lv=low/\low<64*ne/\au ET low=true/\∀q,q<low->au ET q=false:=by
  rcases LS with ⟨-,h1⟩|⟨p,h1⟩
  ·obtain⟨q,h2,h3⟩:=hx;rw[h1 q h2]at h3;cases h3
  ·exact⟨p,h1⟩
 clear hl LS
 go_wp2_with fail
 refine hg.mono ?_;rintro e w1 ⟨hv,rfl,qK,ag⟩;obtain⟨high,rfl,zu,Bl,xG⟩:∃high:Nat,hv=high/\high<64*ne/\au ET high=true/\∀q,high<q->q<64*ne->au ET q=false:=by
  rcases qK with ⟨-,h1⟩|⟨p,h1⟩
  ·obtain⟨q,h2,h3⟩:=hx;rw[h1 q h2]at h3;cases h3
  ·exact⟨p,h1⟩
 have hht:=hq high zu Bl;have Of:zc _:=pi;have Kf:zc _:=xG;have Oc:zc _:=Bl;clear hg qK pi xG Bl hx;have dH:=ag.size;have yd:gW O1 O2 w1 s v a b:=h.other (S:=λ_=>False) (.bR ag) (λk e=>e.elim) (λk e=>e.elim) (λk e=>e.elim);obtain⟨w2,xJ,j7,bU⟩:=run_make_full (P:=prog) w1.drew w1.heap.size 193 236 i0 _ 1 underlying193 hi bI aO .i64 .i64 ne (by rw[aQ];omega) (by unfold maxLen;omega) (aj _);have zw9:(mkS 193 (zf .i64 (ne:Int)) (zf .i64 (ne:Int))).run prog w1.drew=.ok (zh (zb ⟨w1.heap.size,0,za⟩) ne ne) w2:=xJ;have iJ:w2.heap[w1.heap.size]?=zb (zk (kQ ne cQ) 236 (0,0)):=by
  have:=QA j7;rw[WW]at this;exact this
 have ae:zj w1.heap.size w1 w2:=⟨bU.os,bU.tape,bU.output,bU.size,λk hk=>bU.block k hk (by simp)⟩;have cV:w1.heap.size<w2.heap.size:=(ah.1 iJ).1;have c6:=(mB yd.box).2.2.2.2.2.2;have mf:s<w1.heap.size:=(ah.1 yd.box).1;have d6:=(mB ((ae.block s mf).trans yd.box)).2.2.2.2.2.2;have eV:=zkR b.r w1.heap.size ne (high:Int);obtain⟨W3,eN⟩:∃W3,w2.alloc (zk #[zd (zb ⟨b.r,0,za⟩),zh (zb ⟨w1.heap.size,0,za⟩) ne ne,zf .i64 high,zh za 0 0] 195)=W3:=⟨_,rfl⟩;have aG:zj w2.heap.size w2 W3:=by rw[<-eN];exact aw
 have x3:W3.heap[w2.heap.size]?=zb (zk #[zd (zb ⟨b.r,0,za⟩),zh (zb ⟨w1.heap.size,0,za⟩) ne ne,zf .i64 high,zh za 0 0] 195 (0,0)):=by rw[<-eN];exact aI _ _
 have ER:zj w1.heap.size w1 W3:=ae.trans (aG.mono (by omega));have Bb:zj w.heap.size w W3:=ag.trans (ER.mono dH);have HS:zc (gV w O1 O2 s v a b ne t.data.toList M (λq=>q<64*ne/\au ET q=true) high w2.heap.size w1.heap.size W3 (high+1) high high 0 b O2 cQ (zh za 0 0) []):=by
  refine⟨.bR Bb,bJ.of Bb,h.other (S:=λ_=>False) (.bR Bb) (λk e=>e.elim) (λk e=>e.elim) (λk e=>e.elim),rH.refl b,aj _,λk hk=>hk,λk hk=>.inl hk,λho=>by have:=(h.o2 _ ho).2;omega,λho=>by have:=(h.o2 _ ho).2;omega,λk e=>by simp[Value.ownBlock]at e,x3,⟨(aG.block _ cV).trans iJ,λ_=>by simp[cQ]⟩,⟨rfl,.inl ⟨rfl,rfl⟩⟩,by omega,by omega,aj _,by simp,h.rb.pos,λq hq'=>?_,λj hj=>by simp at hj,λq=>?_⟩
  ·constructor
   ·intro h1;have h2:=h.rb.zero (q/64) (by omega);unfold au at h1;rw[h2]at h1;simp at h1
   ·intro hb;have:=zjm (hi:=high) (λm hm=>by
     rcases ig high m with e|e
     ·have:=Kf.out m e hm.1;rw[hm.2]at this;cases this
     ·exact e) hb
    omega
  ·rw[BL];constructor
   ·intro e;cases e
   ·rintro ⟨h1,h2|⟨p,_,h2⟩⟩
    ·have:=Kf.out q (by omega) h2.1.1;rw[h2.1.2]at this;cases this
    ·have:=zjm (hi:=high) (λm hm=>by
      rcases ig high m with e|e
      ·have:=Kf.out m e hm.1;rw[hm.2]at this;cases this
      ·exact e) h2
     omega
 have TF:ge<w.heap.size:=hE.cB;have Ek:zc (∀W:zg,ap O2 w W->aH W ne ge ET):=λW tc=>⟨(tc.same ge TF hO).trans hE.row,hE.lt⟩
 have HR:zc _:=hR;have GQ:zc _:=qJ;clear h yd j7 bU xJ iJ ae aG x3 ER Bb hE hi bI aO aQ hR qJ;go_wp2
 go_region
 all_goals
  clear eN zw9 c6 d6 eV;go_wp2
  go_loopw [10,11] (λnv av wr=>∃(k now:Nat) (b':cz) (O:Nat->Prop) (S:Nat->Nat) (pv:zi) (ps:List Nat),nv=zf .i64 now/\av=zf .i64 k/\zc (gV w O1 O2 s v a b ne t.data.toList M (λq=>q<64*ne/\au ET q=true) high w2.heap.size w1.heap.size wr (k+1) k k now b' O S pv ps))
   (λ_ av _=>(intOf av).toNat)
  case atStart=>exact⟨high,0,b,O2,cQ,_,[],rfl,rfl,HS⟩
  case round=>
   clear HS;obtain⟨k,now,b',O,S,pv,ps,rfl,rfl,HS⟩:=hrel;have hkh:=HS.out.le;have ze:=Ek.out wr HS.out.tc;have vY:=QY ne ge cap ET k wr ze (by omega) (by omega);obtain⟨-,c1,-,-,-,-,c6⟩:=mB HS.out.st.box;have d6:=(oA HS.out.st.rb.s.box).2.2.2.2.2.2.1;obtain⟨gP,cP,eP,hgP,Lq⟩:=HS.out.st.rb.zx6;have dP:=Lq now HS.out.nw;rw[eP]at d6;have zz4:=HS.out.nw;have wh:(0:Int)<=(now:Int):=by omega
   have rT:(now:Int)<(b'.m:Int):=by omega
   have zxx:=zsh HR.out (λx=>(HS.out.st.rb.s.set now zz4).lt x) HS.out.bk;have zvQ:zc _:=zxx;obtain⟨e0,Ci⟩:∃e0,zc (e0=au ET k):=⟨_,rfl⟩;obtain⟨m0,GU⟩:∃m0,zc (m0=kO v.nw (b'.Ts now) v.A):=⟨_,rfl⟩;rw[<-Ci.out]at vY;rw[<-GU.out]at dP;have Hm:zc (AB t.data.toList M (λq=>q<64*ne/\au ET q=true) k↔(e0&&v.e || m0)=true):=by
    refine zvQ.out.trans ?_;rw[sK,de,<-GU.out,GQ.out,Ci.out];exact or_congr (and_congr ⟨λx=>x.2,λx=>⟨by omega,x⟩⟩ Iff.rfl) Iff.rfl
   obtain⟨x0,td⟩:∃x0,zc (x0=(e0&&v.e || m0)):=⟨_,rfl⟩;clear ze zxx zvQ Lq
   go_wp2_with fail
   refine vY.mono ?_;rintro e1 W ⟨rfl,hW⟩;subst W;clear vY
   go_upto_region 7 with fail
   go_cut [52] from 33 to 52 (λv52 wx=>v52=.bool x0/\wx=wr)
   case first=>
    obtain⟨ve,GX⟩:∃ve,zc (v.e=ve):=⟨_,rfl⟩;rw[GX.out]at c1;clear HS;cases e0<;>cases ve<;>cases m0
    all_goals
     go_wp2
     go_meet
     exact⟨by rw[td.out,GX.out];rfl,rfl⟩
   case rest=>
    obtain⟨rfl,uV⟩:=hcut;subst wc;cases x0 with
    |true=>
     have lX:=Gi ne w1.heap.size ne S k wr HS.out.sp.row (by omega) (by omega) HS.out.sp.lt;obtain⟨-,b1,-,-⟩:=qm HS.out.box
     go_upto_region 8 with fail
     clear c1 c6 d6 dP
     go_wp2_with fail
     refine lX.mono ?_;rintro e2 W1 ⟨rfl,eT,eO⟩;have eC:zc _:=HS.out.add eT eO (Hm.out.2 td.out.symm) hB EN;clear HS Hm td lX eT eO b1;obtain⟨S2,eC⟩:∃S2,zc (gV w O1 O2 s v a b ne t.data.toList M (λq=>q<64*ne/\au ET q=true) high w2.heap.size w1.heap.size W1 k k k now b' O S2 pv ps):=⟨_,eC⟩
     by_cases gZ:k=0
     ·subst gZ;have HF:zc _:=eC.out.bottom;clear eC;go_wp2;go_ret;exact⟨high,_,_,_,_,_,_,_,rfl,⟨zu,Oc.out⟩,HF.out⟩
     ·obtain⟨p,ui⟩:∃p,zc (k=p+1):=⟨k-1,by show _=_;omega⟩;have Lt:((k:Int)==0)=false:=by simp;omega
      by_cases hc:k<low/\now=0
      ·obtain⟨uJ,rfl⟩:=hc;have HF:zc _:=eC.out.early HR.out (λm hm hE=>by have:=Of.out m (by omega);rw[hE.2]at this;cases this);have uK:decide ((k:Int)<(low:Int))=true:=by simp;omega
       clear eC;go_wp2;go_ret;exact⟨high,_,_,_,_,_,_,_,rfl,⟨zu,Oc.out⟩,HF.out⟩
      ·have oP:zc (∀n,gV w O1 O2 s v a b ne t.data.toList M (λq=>q<64*ne/\au ET q=true) high w2.heap.size w1.heap.size (W1.drewN n) (p+1) (p+1) (p+1) now b' O S2 pv ps):=by rw[<-ui.out];exact λn=>eC.out.drewN n hB EN
       have hle:=eC.out.le;have L9:p<t.size:=by have:=ui.out;omega
       have kC:=λn=>zmD (oP.out n).st now (t[p]'L9).toNat e0 (oP.out n).nw (UInt8.toNat_lt _) (by have:=(oP.out n).mb;omega)
       obtain⟨-,-,-,-,-,-,q6⟩:=mB eC.out.st.box;have hpi:(k:Int)-1=(p:Int):=by have:=ui.out;omega
       have mR:(0:Int)<=(p:Int):=by omega
       have kB:(p:Int)<(t.size:Int):=by omega
       have Ir:zc (¬(k<low/\now=0)):=hc;clear hc eC gZ
       go_upto_region 9 with fail
       go_cut [69] from 59 to 69 (λv69 wx=>v69=.bool false/\wx=W1)
       case first=>
        clear kC q6 oP
        by_cases h1:k<low
        ·have h2:now≠0:=λe=>Ir.out ⟨h1,e⟩
         have uK:decide ((k:Int)<(low:Int))=true:=by simp;omega
         have pU:((now:Int)==0)=false:=by simp;omega
         go_wp2
         go_meet
         exact⟨rfl,rfl⟩
        ·have uK:decide ((k:Int)<(low:Int))=false:=by simp;omega
         go_wp2
         go_meet
         exact⟨rfl,rfl⟩
       case rest=>
       obtain⟨rfl,uV⟩:=hcut;subst wc
       go_upto_region 11 with fail
       have fP:prog.follows .mixedOrders=true:=by kernel_rfl
       refine yj 10 (λw'=>∃n,w'=W1.drewN n) fP ⟨1,rfl⟩ (by decide) (by kernel_rfl) ?_;intro os bW;simp only[nH,ue]at bW;subst bW
       repeat (go_big_quiet_step (fail))
       refine wpQuiet_nil ?_;rintro w' ⟨nq,rfl⟩ r' bV;simp only[wV,wW]at bV;subst bV
       go_wp2_with fail
       refine(kC nq).mono ?_;rintro e2 W2 ⟨x,b2,rfl,hx,hm,hn,hs,st,tc,km⟩;have H3:zc _:=(oP.out nq).read HR.out (Yn t L9) (by rw[Ci.out,ui.out];exact⟨λz=>⟨by have:=ui.out;omega,z⟩,λz=>z.2⟩) hx hm hn hs st tc km;obtain⟨pa,pc,Va⟩:=DA H3.out.pa;subst Va;obtain⟨j0,j1,j2,j3⟩:=qm H3.out.box;have aB:=H3.out.pa;have dC:=H3.out.len;have Vt:=H3.out.tc.size;have mZ:w2.heap.size<W2.heap.size:=(ah.1 H3.out.box).1;have Dj:ps.length<=100000000:=by omega
       obtain⟨pn,jn⟩:∃pn,ps.length=pn:=⟨_,rfl⟩;rw[jn]at aB j3 Dj;have s9:zc _:=jn;have Cr:zc (∀k,(Value.slice pa pn pc).ownBlock=zb k->k≠w2.heap.size):=by rw[<-jn];exact λk e=>(H3.out.FD e).1
       obtain⟨i1,hj,qO,kY,od⟩:=info_parts Tryz.zxS;have Sd:zc _:=H3.out.box;clear kC oP hx hm hn hs st tc km q6 dC jn
       go_wp2_with (at_builtin;refine WJ W2 _ rfl rfl (.tmp 86) (.tmp 88) 23 rfl w.heap.size 3 i1 (zf .i64 0) 8 underlying23 hj qO kY od rfl (.slice pa pn pc) pn (vp ps) (zf .i64 (x:Int)) rfl aB rfl rfl Dj (by omega) Vt ?_;intro g7 bG W7 fh er iI;have qC:=(er.block w2.heap.size mZ (λe=>Cr.out _ e.symm rfl)).trans Sd.out;have f7:=cT _ _ 3 _ _ qC;have k7:=(qm qC).2.2.2)
       have HP:zc (gV w O1 O2 s v a b ne t.data.toList M (λq=>q<64*ne/\au ET q=true) high w2.heap.size w1.heap.size (W7.setCell ⟨w2.heap.size,3,za⟩ (zh (zb ⟨g7,0,za⟩) (pn+1) bG)) (p+1) p p x b2 (news O (W1.drewN nq) W2) S2 (zh (zb ⟨g7,0,za⟩) (pn+1) bG) (ps++[x])):=by
        have hh:=H3.out;rw[<-s9.out]at fh er iI ⊢;exact hh.push fh er (iI.imp id Nat.le_of_lt) hB EN
       clear H3 fh er iI qC f7 k7
       go_roundw
       case rel=>exact⟨p,x,b2,_,_,_,_,rfl,by congr 1,HP⟩
       case measure=>simp[intOf];have:=ui.out;omega
    |false=>
     have eC:zc _:=HS.out.skip (λx=>by have:=Hm.out.1 x;rw[<-td.out]at this;cases this);clear HS Hm td c1 c6 d6 dP;obtain⟨W1,cm⟩:∃W1,wr=W1:=⟨_,rfl⟩;subst wr
     by_cases gZ:k=0
     ·subst gZ;have HF:zc _:=eC.out.bottom;clear eC;go_wp2;go_ret;exact⟨high,_,_,_,_,_,_,_,rfl,⟨zu,Oc.out⟩,HF.out⟩
     ·obtain⟨p,ui⟩:∃p,zc (k=p+1):=⟨k-1,by show _=_;omega⟩;have Lt:((k:Int)==0)=false:=by simp;omega
      by_cases hc:k<low/\now=0
      ·obtain⟨uJ,rfl⟩:=hc;have HF:zc _:=eC.out.early HR.out (λm hm hE=>by have:=Of.out m (by omega);rw[hE.2]at this;cases this);have uK:decide ((k:Int)<(low:Int))=true:=by simp;omega
       clear eC;go_wp2;go_ret;exact⟨high,_,_,_,_,_,_,_,rfl,⟨zu,Oc.out⟩,HF.out⟩
      ·have oP:zc (∀n,gV w O1 O2 s v a b ne t.data.toList M (λq=>q<64*ne/\au ET q=true) high w2.heap.size w1.heap.size (W1.drewN n) (p+1) (p+1) (p+1) now b' O S pv ps):=by rw[<-ui.out];exact λn=>eC.out.drewN n hB EN
       have hle:=eC.out.le;have L9:p<t.size:=by have:=ui.out;omega
       have kC:=λn=>zmD (oP.out n).st now (t[p]'L9).toNat e0 (oP.out n).nw (UInt8.toNat_lt _) (by have:=(oP.out n).mb;omega)
       obtain⟨-,-,-,-,-,-,q6⟩:=mB eC.out.st.box;have hpi:(k:Int)-1=(p:Int):=by have:=ui.out;omega
       have mR:(0:Int)<=(p:Int):=by omega
       have kB:(p:Int)<(t.size:Int):=by omega
       have Ir:zc (¬(k<low/\now=0)):=hc;clear hc eC gZ
       go_upto_region 9 with fail
       go_cut [69] from 59 to 69 (λv69 wx=>v69=.bool false/\wx=W1)
       case first=>
        clear kC q6 oP
        by_cases h1:k<low
        ·have h2:now≠0:=λe=>Ir.out ⟨h1,e⟩
         have uK:decide ((k:Int)<(low:Int))=true:=by simp;omega
         have pU:((now:Int)==0)=false:=by simp;omega
         go_wp2
         go_meet
         exact⟨rfl,rfl⟩
        ·have uK:decide ((k:Int)<(low:Int))=false:=by simp;omega
         go_wp2
         go_meet
         exact⟨rfl,rfl⟩
       case rest=>
       obtain⟨rfl,uV⟩:=hcut;subst wc
       go_upto_region 11 with fail
       have fP:prog.follows .mixedOrders=true:=by kernel_rfl
       refine yj 10 (λw'=>∃n,w'=W1.drewN n) fP ⟨1,rfl⟩ (by decide) (by kernel_rfl) ?_;intro os bW;simp only[nH,ue]at bW;subst bW
       repeat (go_big_quiet_step (fail))
       refine wpQuiet_nil ?_;rintro w' ⟨nq,rfl⟩ r' bV;simp only[wV,wW]at bV;subst bV
       go_wp2_with fail
       refine(kC nq).mono ?_;rintro e2 W2 ⟨x,b2,rfl,hx,hm,hn,hs,st,tc,km⟩;have H3:zc _:=(oP.out nq).read HR.out (Yn t L9) (by rw[Ci.out,ui.out];exact⟨λz=>⟨by have:=ui.out;omega,z⟩,λz=>z.2⟩) hx hm hn hs st tc km;obtain⟨pa,pc,Va⟩:=DA H3.out.pa;subst Va;obtain⟨j0,j1,j2,j3⟩:=qm H3.out.box;have aB:=H3.out.pa;have dC:=H3.out.len;have Vt:=H3.out.tc.size;have mZ:w2.heap.size<W2.heap.size:=(ah.1 H3.out.box).1;have Dj:ps.length<=100000000:=by omega
       obtain⟨pn,jn⟩:∃pn,ps.length=pn:=⟨_,rfl⟩;rw[jn]at aB j3 Dj;have s9:zc _:=jn;have Cr:zc (∀k,(Value.slice pa pn pc).ownBlock=zb k->k≠w2.heap.size):=by rw[<-jn];exact λk e=>(H3.out.FD e).1
       obtain⟨i1,hj,qO,kY,od⟩:=info_parts Tryz.zxS;have Sd:zc _:=H3.out.box;clear kC oP hx hm hn hs st tc km q6 dC jn
       go_wp2_with (at_builtin;refine WJ W2 _ rfl rfl (.tmp 86) (.tmp 88) 23 rfl w.heap.size 3 i1 (zf .i64 0) 8 underlying23 hj qO kY od rfl (.slice pa pn pc) pn (vp ps) (zf .i64 (x:Int)) rfl aB rfl rfl Dj (by omega) Vt ?_;intro g7 bG W7 fh er iI;have qC:=(er.block w2.heap.size mZ (λe=>Cr.out _ e.symm rfl)).trans Sd.out;have f7:=cT _ _ 3 _ _ qC;have k7:=(qm qC).2.2.2)
       have HP:zc (gV w O1 O2 s v a b ne t.data.toList M (λq=>q<64*ne/\au ET q=true) high w2.heap.size w1.heap.size (W7.setCell ⟨w2.heap.size,3,za⟩ (zh (zb ⟨g7,0,za⟩) (pn+1) bG)) (p+1) p p x b2 (news O (W1.drewN nq) W2) S (zh (zb ⟨g7,0,za⟩) (pn+1) bG) (ps++[x])):=by
        have hh:=H3.out;rw[<-s9.out]at fh er iI ⊢;exact hh.push fh er (iI.imp id Nat.le_of_lt) hB EN
       clear H3 fh er iI qC f7 k7
       go_roundw
       case rel=>exact⟨p,x,b2,_,_,_,_,rfl,by congr 1,HP⟩
       case measure=>simp[intOf];have:=ui.out;omega
end
def RF(O1 O2:Nat->Prop)(w:zg)(s:Nat)(v:eE)(a b:cz)(u:aJ)(M:PA)(E:Nat->Prop)(fr:Nat)(e:Ending)(w':zg):Prop:=
 ∃(k now n cI:Nat) (ok:Bool) (a':cz) (O:Nat->Prop),e=.returned (.tuple #[zf .i64 cI,.bool ok])/\sQ w O1 O2 s v a b u M E fr w' k now a' O/\k<=max fr u.length/\(∀x,E x->x<=n)/\ug u M E fr n cI ok
def YL(O1:Nat->Prop)(w:zg)(nw:Nat)(u:aJ)(M:PA)(E:Nat->Prop)(fr high:Nat)(av:zi):Prop:=
 av=zd za\/∃(t:Nat) (Bk:Nat->Nat->Prop),av=zd (zb ⟨t,0,za⟩)/\(∀W,ap O1 w W->∀k,k<high->zl prog 219 #[zd (zb ⟨t,0,za⟩),zf .i64 k] W λe w'=>∃rv,e=.returned rv/\((rv=zh za 0 0/\∀p,¬Bk k p)\/∃(g:Nat) (T:Nat->Nat),rv=zh (zb ⟨g,0,za⟩) nw nw/\aH w' nw g T/\sD nw T (Bk k))/\zj W.heap.size W w')/\∀k,fr<=k->k<high->(∀p,jg u M fr (k+1) p->¬Bk k p)->∀x,k<x->E x->¬rE u M fr x
theorem zpt{M:PA}{n nw:Nat}{f:Nat->Nat->Bool}{F G:Nat->Nat->Nat}{X Y:Nat->Nat}(hR:pF M n nw f F G X Y){u:aJ}{i j:Nat}{T U:Nat->Nat}{B:Nat->Prop}(hT:sD nw T (jg u M i j))(hl:∀x,T x<18446744073709551616)(hU:sD nw U B)(hm:kO nw T U=false):∀p,jg u M i j p->¬B p:=λp h1 h2=>by
 have hp:=(hR.D p).1 (h1.2.2.inside hR.fi hR.fo);have hn:=hR.kE;have:kO nw T U=true:=(XG nw T U hl).2 ⟨p,by omega,(hT p (by omega)).2 h1,(hU p (by omega)).2 h2⟩;rw[hm]at this;cases this
theorem zk7{O1 O2:Nat->Prop}{w:zg}{s:Nat}{v:eE}{a b:cz}(h:gW O1 O2 w s v a b)(M:PA)(hR:pF M v.n v.nw v.f v.F v.G v.A v.L)(qJ:v.e=true↔M.e)(t:ByteArray)(ht:t.size<=4096)(ne ge cap fr:Nat)(ET:Nat->Nat)(hE:aH w ne ge ET)(hne:ne<=100)(hO:¬O1 ge)(hx:∃q,q<64*ne/\au ET q=true)(hq:∀q,q<64*ne->au ET q=true->q<=t.size)(fC:fr<=t.size)(vV:fr<64*ne)(ham:a.m<=90000000)(av:zi)
  (pS:∀high,(high<64*ne/\au ET high=true)->(∀q,q<64*ne->au ET q=true->q<=high)->YL O1 w v.nw t.data.toList M (λq=>q<64*ne/\au ET q=true) fr high av):
  zl prog 231 #[zd (zb ⟨s,0,za⟩),.string t,zf .i64 fr,zh (zb ⟨ge,0,za⟩) ne cap,av] w λe w'=>RF O1 O2 w s v a b t.data.toList M (λq=>q<64*ne/\au ET q=true) fr e w':=by
 have hB:=h.c.c1.le;have PB:=QY ne ge cap ET fr w hE vV (by omega);obtain⟨ve,GX⟩:∃ve,zc (v.e=ve):=⟨_,rfl⟩;obtain⟨x0,td⟩:∃x0,zc (x0=(ve&&au ET fr)):=⟨_,rfl⟩;obtain⟨ef,ZD⟩:∃ef,zc (ef=au ET fr):=⟨_,rfl⟩;rw[<-ZD.out]at PB;have c1:=(mB h.box).2.1;rw[GX.out]at c1;have rr:zc (sQ w O1 O2 s v a b t.data.toList M (λq=>q<64*ne/\au ET q=true) fr w fr 0 a O1):=by
  refine⟨ap.refl _ _,λ_ _ e=>e,h,rH.refl a,aj _,λ_ x=>x,λ_ x=>.inl x,aj _,h.ra.pos,λq hq'=>⟨λh1=>?_,λh1=>?_⟩⟩
  ·have h2:=h.ra.zero (q/64) (by omega);unfold au at h1;rw[h2]at h1;simp at h1
  ·have:=h1.1;omega
 have du:zc (ug t.data.toList M (λq=>q<64*ne/\au ET q=true) fr fr fr x0):=by
  have hL:rE t.data.toList M fr fr↔M.e:=⟨λx=>x.elim (λy=>y.2) (λy=>by omega),λx=>.inl ⟨rfl,x⟩⟩;cases hb:x0
  ·refine .inr ⟨rfl,rfl,λx hx ze Ih=>?_⟩;have hxe:x=fr:=by
    rcases Ih with ⟨e,_⟩|⟨e,_⟩<;>omega
   subst hxe;have h1:=qJ.2 (hL.1 Ih);have:=td.out;rw[hb,<-GX.out,h1,ze.2]at this;cases this
  ·have:=td.out;rw[hb,<-GX.out]at this;have h2:=Bool.and_eq_true_iff.1 this.symm;exact .inl ⟨rfl,⟨vV,h2.2⟩,hL.2 (qJ.1 h2.1),aj _,λx h _ _=>h⟩
 have hg:=WV ne ge cap ET w hE (by omega);have TF:ge<w.heap.size:=hE.cB;have Ek:zc (∀W:zg,ap O1 w W->aH W ne ge ET):=λW tc=>⟨(tc.same ge TF hO).trans hE.row,hE.lt⟩
 have HR:zc _:=hR;have Zr:=aA pS;clear h hE hR qJ pS hO
 go_enter func231,ntmps231
 go_upto_region 1 with fail
 go_cut [12,13] from 17 to 27 (λv12 v13 wx=>v12=zf .i64 fr/\v13=.bool x0/\wx=w)
 case first=>
  have j9:=td.out;rw[<-ZD.out]at j9;have Au:zc _:=j9;clear j9 rr du hg;cases ve with
  |false=>
   go_wp2
   go_meet
   exact⟨rfl,by rw[Au.out];rfl,rfl⟩
  |true=>
   go_wp2_with fail
   refine PB.mono ?_;rintro e1 W ⟨rfl,hW⟩;subst W;clear PB;go_wp2
   go_meet
   exact⟨rfl,by rw[Au.out];rfl,rfl⟩
 case rest=>
  obtain⟨rfl,rfl,uV⟩:=hcut;subst wc;clear PB c1
  go_wp2_with fail
  refine hg.mono ?_;rintro e w1 ⟨hv,rfl,qK,ag⟩;obtain⟨high,rfl,zu,Bl,xG⟩:∃high:Nat,hv=high/\high<64*ne/\au ET high=true/\∀q,high<q->q<64*ne->au ET q=false:=by
   rcases qK with ⟨-,h1⟩|⟨p,h1⟩
   ·obtain⟨q,h2,h3⟩:=hx;rw[h1 q h2]at h3;cases h3
   ·exact⟨p,h1⟩
  have hht:=hq high zu Bl;have UT:∀q,q<64*ne->au ET q=true->q<=high:=λq h1 h2=>by
   rcases ig high q with e|e
   ·have:=xG q e h1;rw[h2]at this;cases this
   ·exact e
  have rp:=aA (Zr.out high ⟨zu,Bl⟩ UT);have ZU:zc _:=UT;have fA:zc _:=rr.out.below ag;clear hg qK xG Bl hx Zr rr UT ag;go_wp2
  go_loopw [12,13,15,16] (λev kv nv av wr=>∃(k now cI:Nat) (ok:Bool) (a':cz) (O:Nat->Prop),ev=zf .i64 cI/\kv=.bool ok/\nv=zf .i64 now/\av=zf .i64 k/\zc (sQ w O1 O2 s v a b t.data.toList M (λq=>q<64*ne/\au ET q=true) fr wr k now a' O)/\zc (ug t.data.toList M (λq=>q<64*ne/\au ET q=true) fr k cI ok)/\k<=max fr high)
   (λ_ _ _ av _=>high-(intOf av).toNat)
  case atStart=>exact⟨fr,0,fr,x0,a,O1,rfl,rfl,rfl,rfl,fA,du,by omega⟩
  case round=>
   clear fA du;obtain⟨k,now,cI,ok,a',O,rfl,rfl,rfl,rfl,HS,vy,hkh⟩:=hrel
   by_cases hlt:k<high
   ·have hd:decide ((k:Int)<(high:Int))=true:=by simp;omega
    have nY:k<t.size:=by omega
    have oP:zc (∀n,sQ w O1 O2 s v a b t.data.toList M (λq=>q<64*ne/\au ET q=true) fr (wr.drewN n) k now a' O):=λn=>HS.out.below ⟨rfl,rfl,rfl,aj _,λ_ _=>rfl⟩
    obtain⟨bg,Zv⟩:∃bg,zc (bg=decide (k=fr)):=⟨_,rfl⟩;have zzt:((k:Int)==(fr:Int))=bg:=by
     rw[Zv.out]
     by_cases e:k=fr
     ·simp[e]
     ·have e2:¬(k:Int)=(fr:Int):=by omega
      simp[e,e2]
    have pX:=HS.out.mb;have kC:=λn=>zrX (oP.out n).st now (t[k]'nY).toNat bg (oP.out n).nw (UInt8.toNat_lt _) (by omega)
    have q5:=(mB HS.out.st.box).2.2.2.2.2.1;have gZ:(0:Int)<=(k:Int):=by omega
    have db:(k:Int)<(t.size:Int):=by omega
    have hle:=HS.out.le;clear HS
    go_upto_region 7 with fail
    have fP:prog.follows .mixedOrders=true:=by kernel_rfl
    refine yj 11 (λw'=>∃n,w'=wr.drewN n) fP ⟨1,rfl⟩ (by decide) (by kernel_rfl) ?_;intro os bW;simp only[nH,ue]at bW;subst bW
    repeat (go_big_quiet_step (fail))
    refine wpQuiet_nil ?_;rintro w' ⟨nq,rfl⟩ r' bV;simp only[wV,wW]at bV;subst bV
    go_wp2_with fail
    refine(kC nq).mono ?_;rintro e2 W2 ⟨x,a2,rfl,hx,hm,hn,hs,st,tc,km⟩;have H3:zc _:=(oP.out nq).read HR.out (Yn t nY) (by rw[Zv.out];simp) hx hm hn hs st tc km;clear kC oP hm hn hs st tc km q5 zzt;obtain⟨-,-,-,-,-,q5,-⟩:=mB H3.out.st.box;have d5:=(oA H3.out.st.ra.s.box).2.2.2.2.2.1;obtain⟨gS,cS,eS,E5,Iq⟩:=H3.out.st.ra.kZ;have dS:=Iq x hx;rw[eS]at d5;have lH:=H3.out.st.ra.s.set x hx;have j9:(0:Int)<=(x:Int):=by omega
    have rY:(x:Int)<(a2.m:Int):=by omega
    have zz7:=H3.out.st.c.c1.ic;clear Iq eS
    go_upto_region 8 with fail
    go_cut [70] from 48 to 70 (λv70 wx=>∃bb:Bool,v70=.bool bb/\zj W2.heap.size W2 wx/\zc (bb=true->∀y,k<y->(y<64*ne/\au ET y=true)->¬rE t.data.toList M fr y))
    case first=>
     by_cases hz:x=0
     ·have HD:zc (∀y,k<y->(y<64*ne/\au ET y=true)->¬rE t.data.toList M fr y):=by
       have h4:=H3.out;rw[hz]at h4;exact λy hy _=>h4.dead HR.out (by omega) y hy
      have Lt:((x:Int)==0)=true:=by simp[hz]
      have Hz:zc _:=hz;clear hz H3 vy
      go_region
      all_goals
       go_wp2
       go_meet
       exact⟨true,rfl,(Below.refl _ _).drew,λ_=>HD.out⟩
     ·have Lt:((x:Int)==0)=false:=by simp[hz]
      have Hz:zc _:=hz;clear hz;rcases rp.out with T7|⟨tt,Bk,T7,dF,UU⟩
      ·subst T7;clear H3 vy
       go_region
       all_goals
        go_wp2
        go_meet
        exact⟨false,rfl,(Below.refl _ _).drew,λe=>by cases e⟩
      ·subst T7;have zzo:=dF W2.drew H3.out.tc.drew k hlt;have fD:=lH.cB;have mf:s<W2.heap.size:=(ah.1 H3.out.st.box).1;have kX:a2.r<W2.heap.size:=(ah.1 H3.out.st.ra.s.box).1;have yP:zc (∀(W3:zg) (rv:zi),zj W2.heap.size W2 W3->((rv=zh za 0 0/\∀p,¬Bk k p)\/∃(g:Nat) (T:Nat->Nat),rv=zh (zb ⟨g,0,za⟩) v.nw v.nw/\aH W3 v.nw g T/\sD v.nw T (Bk k))->zl prog 195 #[zh (zb ⟨a2.gx x,0,za⟩) v.nw v.nw,rv] W3 λe w'=>∃mb:Bool,e=.returned (.bool mb)/\zc (mb=false->∀y,k<y->(y<64*ne/\au ET y=true)->¬rE t.data.toList M fr y)/\zj W3.heap.size W3 w'):=by
        intro W3 rv aG wu;rcases wu with ⟨rfl,hno⟩|⟨g,T,rfl,hT,rK⟩
        ·refine(zlq v.nw _ v.nw W3).mono ?_;rintro e w' ⟨rfl,hb⟩;exact⟨false,rfl,λ_=>UU k hle hlt (λp _=>hno p),hb⟩
        ·refine(zmr v.nw _ g v.nw v.nw (a2.Ts x) T W3 (lH.below aG) hT zz7).mono ?_;rintro e w' ⟨rfl,hb⟩;exact⟨_,rfl,λhm=>UU k hle hlt (zpt HR.out H3.out.fw lH.lt rK hm),hb⟩
       clear H3 vy dF UU rp
       go_region_held3 (λw'=>w'.cell? ⟨s,5,za⟩=zb (zd (zb ⟨a2.r,0,za⟩))/\w'.cell? ⟨a2.r,5,za⟩=zb (zh (zb ⟨gS,0,za⟩) a2.m cS)/\w'.cell? ⟨gS,x,za⟩=zb (zh (zb ⟨a2.gx x,0,za⟩) v.nw v.nw)) ((first|exact⟨q5,d5,dS⟩|exact⟨n5,m5,nS⟩|exact⟨o5,p5,oS⟩|go_keep)) ((first|(go_at_call 219;refine zzo.mono ?_;rintro e3 W3 ⟨rv,rfl,wu,aG⟩;have qE:zj W2.heap.size W2 W3:=⟨aG.os,aG.tape,aG.output,aG.size,aG.block⟩;have n5:=(qE.cell (p:=⟨s,5,za⟩) mf).trans q5;have m5:=(qE.cell (p:=⟨a2.r,5,za⟩) kX).trans d5;have nS:=(qE.cell (p:=⟨gS,x,za⟩) E5).trans dS;have tH:=yP.out W3 rv qE wu;clear wu)|(go_at_call 195;refine tH.mono ?_;rintro e4 W4 ⟨mb,rfl,Hmb,bE⟩;have o5:=(bE.cell (p:=⟨s,5,za⟩) (bA mf qE.size)).trans n5;have p5:=(bE.cell (p:=⟨a2.r,5,za⟩) (bA kX qE.size)).trans m5;have oS:=(bE.cell (p:=⟨gS,x,za⟩) (bA E5 qE.size)).trans nS)))
       go_wp2
       go_meet
       exact⟨!mb,rfl,qE.trans (bE.mono qE.size),λe=>Hmb.out (by simpa using e)⟩
    case rest=>
     obtain⟨bb,rfl,fO,yM⟩:=hcut;cases bb with
     |true=>
      have tN:t.data.toList.length=t.size:=by simp
      have HF:zc (RF O1 O2 w s v a b t.data.toList M (λq=>q<64*ne/\au ET q=true) fr (.returned (.tuple #[zf .i64 cI,.bool ok])) wc):=⟨k+1,x,high,cI,ok,a2,_,rfl,H3.out.below fO,by omega,λy hy=>ZU.out y hy.1 hy.2,vy.out.last (yM.out rfl) high (by omega)⟩;clear H3 vy rp yM lH;go_wp2
      go_ret2
      exact HF.out
     |false=>
      have H4:zc _:=H3.out.below fO;have ze:=Ek.out wc H4.out.tc;have vY:=QY ne ge cap ET (k+1) wc ze (by omega) (by omega);obtain⟨-,-,-,-,-,r5,-⟩:=mB H4.out.st.box;have d6:=(oA H4.out.st.ra.s.box).2.2.2.2.2.2.1;obtain⟨gP,cP,eP,hgP,Lq⟩:=H4.out.st.ra.zx6;have dP:=Lq x hx;rw[eP]at d6;have zwE:=aA (H4.out.ends HR.out (by omega));obtain⟨m0,GU⟩:∃m0,zc (m0=kO v.nw (a2.Ts x) v.L):=⟨_,rfl⟩;rw[<-GU.out]at dP;obtain⟨e0,Ci⟩:∃e0,zc (e0=au ET (k+1)):=⟨_,rfl⟩;rw[<-Ci.out]at vY;have mP:((k+1:Nat):Int)=(k:Int)+1:=by omega
      rw[mP]at vY;clear H3 ze Lq eP q5 d5 dS lH yM fO rp mP;cases m0 with
      |false=>
       have pJ:zc _:=vy.out.zxY (λ_ hL=>by have:=zwE.out.1 hL;rw[<-GU.out]at this;cases this);clear vY vy;go_wp2
       go_roundw
       case rel=>exact⟨k+1,x,cI,ok,a2,_,rfl,rfl,rfl,by go_num,H4,pJ,by omega⟩
       case measure=>simp[intOf];omega
      |true=>
       go_wp2_with fail
       refine vY.mono ?_;rintro e3 W5 ⟨rfl,tE⟩;subst W5;clear vY;cases e0 with
       |false=>
        have pJ:zc _:=vy.out.zxY (λhE3 _=>by have:=hE3.2;rw[<-Ci.out]at this;cases this);clear vy;go_wp2
        go_roundw
        case rel=>exact⟨k+1,x,cI,ok,a2,_,rfl,rfl,rfl,by go_num,H4,pJ,by omega⟩
        case measure=>simp[intOf];omega
       |true=>
        have pJ:zc (ug t.data.toList M (λq=>q<64*ne/\au ET q=true) fr (k+1) (k+1) true):=ug.hit ⟨by omega,Ci.out.symm⟩ (zwE.out.2 GU.out.symm);clear vy;go_wp2
        go_roundw
        case rel=>exact⟨k+1,x,k+1,true,a2,_,by go_num,rfl,rfl,by go_num,H4,pJ,by omega⟩
        case measure=>simp[intOf];omega
   ·have hd:decide ((k:Int)<(high:Int))=false:=by simp;omega
    have tN:t.data.toList.length=t.size:=by simp
    have nY:k<=max fr t.data.toList.length:=by omega
    have HF:zc (RF O1 O2 w s v a b t.data.toList M (λq=>q<64*ne/\au ET q=true) fr (.returned (.tuple #[zf .i64 cI,.bool ok])) wr):=⟨k,now,k,cI,ok,a',O,rfl,HS.out,nY,λx hx=>by have:=ZU.out x hx.1 hx.2;omega,vy.out⟩;clear HS vy rp;go_wp2
    go_ret2
    exact HF.out
variable {lo cE pl a sz n B k:Nat}{w w':zg}{Q Q' R:Nat -> Option Pt}{p q:Pt}{v:zi}{xs:List zi}
def iY(xs:List (Nat×Pt)):List zi:=xs.map λx=>zd (zb ⟨x.1,0,za⟩)
def gJ:List (Nat×fW)->List zi
 |[]=>[]
 |(a,(_,o))::xs=>zd (zb ⟨a,0,za⟩) :: .bool o::gJ xs
theorem Nk:∀(xs ys:List (Nat×fW)),gJ (xs++ys)=gJ xs++gJ ys
 |[],_=>rfl
 |(_,_,_)::xs,ys=>by simp[gJ,Nk xs ys]
theorem YE:∀(xs:List (Nat×fW)) (i a:Nat) (q:Pt) (o:Bool),xs[i]?=zb (a,q,o)->(gJ xs)[i*2]?=zb (zd (zb ⟨a,0,za⟩))/\(gJ xs)[i*2+1]?=zb (.bool o)
 |(a0,q0,o0)::xs,0,a,q,o,h=>by simp at h;obtain⟨rfl,-,rfl⟩:=h;exact⟨rfl,rfl⟩
 |(a0,q0,o0)::xs,i+1,a,q,o,h=>by
  obtain⟨h1,h2⟩:=YE xs i a q o (by simpa using h);rw[show (i+1)*2=i*2+1+1 from by omega];exact⟨h1,h2⟩
structure tf(lo:Nat)(w:zg)(pl:Nat)(Q:Nat->Option Pt)(a:Nat)(p:Pt)(f:zi):Prop where
 lo:lo<=a
 q:Q a=zb p
 box:∃v,w.heap[a]?=zb (zk #[zd (zb ⟨pl,0,za⟩),v,f,zd za] 222 (0,0))/\aU w v p
 wt:aE p<=2000
def mF:Pt->List fW
 |.seq p q=>ua (jO (.seq p q))
 |.az b mn mx=>gM b mn.toNat mx
 |_=>[]
inductive dU (lo:Nat) (w:zg) (pl:Nat) (Q:Nat->Option Pt):Nat->Pt->Prop
 |leaf (a:Nat) (p:Pt):tf lo w pl Q a p .nilIface->lK p->dU lo w pl Q a p
 |group (a a':Nat) (b:Pt) (g:Int):tf lo w pl Q a (.aT b g) (.iface 242 (.agg #[zf .i64 g,zd (zb ⟨a',0,za⟩)]))->dU lo w pl Q a' b->dU lo w pl Q a (.aT b g)
 |choice (a:Nat) (l r:Pt) (go cap:Nat) (xs:List (Nat×Pt)):tf lo w pl Q a (.aN l r) (.iface 311 (.agg #[zh (zb ⟨go,0,za⟩) xs.length cap]))->w.ownsRow lo 198 1 (zh (zb ⟨go,0,za⟩) xs.length cap) xs.length (iY xs)->xs.map Prod.snd=dA (.aN l r)->(∀x,x∈xs->dU lo w pl Q x.1 x.2)->dU lo w pl Q a (.aN l r)
 |chain (a:Nat) (p:Pt) (go cap:Nat) (xs:List (Nat×fW)):tf lo w pl Q a p (.iface 305 (.agg #[zh (zb ⟨go,0,za⟩) xs.length cap]))->w.ownsRow lo 299 2 (zh (zb ⟨go,0,za⟩) xs.length cap) xs.length (gJ xs)->xs.map Prod.snd=mF p->(∀l r,p≠.aN l r)->(∀b g,p≠.aT b g)->(∀b,p≠.az b 0 (-1))->(∀f,p≠.set f)->(∀x,x∈xs->dU lo w pl Q x.1 x.2.1)->dU lo w pl Q a p
 |rounds (a a':Nat) (b:Pt):tf lo w pl Q a (.az b 0 (-1)) (.iface 313 (.agg #[zd (zb ⟨a,0,za⟩),zd (zb ⟨a',0,za⟩)]))->dU lo w pl Q a' b->dU lo w pl Q a (.az b 0 (-1))
theorem tf.keep{f:zi}(h:tf lo w pl Q a p f)(hl:cE<=lo)(hk:∀k,lo<=k->k<w.heap.size->w'.heap[k]?=w.heap[k]?)(hm:bJ w w')(hQ:∀k q,Q k=zb q->Q' k=zb q):tf cE w' pl Q' a p f:=by
 obtain⟨v,h1,h2⟩:=h.box;exact⟨aW hl h.lo,hQ a p h.q,⟨v,(hk a h.lo (ah.1 h1).1).trans h1,aU.keep hm p v h2⟩,h.wt⟩
theorem ny{e:zm}(h:w.ownsRow lo e sz v n xs)(hl:cE<=lo):w.ownsRow cE e sz v n xs:=by
 refine⟨h.1,?_⟩;rcases h.2 with h2|⟨g,cap,ax,h1,h2,h3⟩
 ·exact .inl h2
 ·exact .inr ⟨g,cap,ax,h1,by omega,h3⟩
theorem QB{e:zm}(h:w.ownsRow lo e sz v n xs)(hk:∀k,lo<=k->k<w.heap.size->w'.heap[k]?=w.heap[k]?):w'.ownsRow lo e sz v n xs:=by
 refine⟨h.1,?_⟩;rcases h.2 with h2|⟨g,cap,ax,h1,h2,h3,h4⟩
 ·exact .inl h2
 ·exact .inr ⟨g,cap,ax,h1,h2,(hk g h2 (ah.1 h3).1).trans h3,h4⟩
theorem dU.keep(h:dU lo w pl Q a p)(hl:cE<=lo)(hk:∀k,lo<=k->k<w.heap.size->w'.heap[k]?=w.heap[k]?)(hm:bJ w w')(hQ:∀k q,Q k=zb q->Q' k=zb q):dU cE w' pl Q' a p:=by
 induction h with
 |leaf a p h1 h2=>exact .leaf a p (h1.keep hl hk hm hQ) h2
 |group a a' b g h1 _ ih=>exact .group a a' b g (h1.keep hl hk hm hQ) ih
 |choice a l r go cap xs h1 h2 h3 _ ih=>exact .choice a l r go cap xs (h1.keep hl hk hm hQ) (ny (QB h2 hk) hl) h3 ih
 |chain a p go cap xs h1 h2 h3 h4 h5 h6 h7 _ ih=>exact .chain a p go cap xs (h1.keep hl hk hm hQ) (ny (QB h2 hk) hl) h3 h4 h5 h6 h7 ih
 |rounds a a' b h1 _ ih=>exact .rounds a a' b (h1.keep hl hk hm hQ) ih
theorem dU.KH(h:dU lo w pl Q a p):∃f,tf lo w pl Q a p f/\(f=.nilIface->lK p)/\(f=.nilIface\/∃t x,f=.iface t x):=by
 cases h with
 |leaf _ _ h1 h2=>exact⟨_,h1,λ_=>h2,.inl rfl⟩
 |group _ a' b g h1 _=>exact⟨_,h1,λe=>(by cases e),.inr ⟨_,_,rfl⟩⟩
 |choice _ l r go cap xs h1 _ _ _=>exact⟨_,h1,λe=>(by cases e),.inr ⟨_,_,rfl⟩⟩
 |chain _ _ go cap xs h1 _ _ _ _ _ _ _=>exact⟨_,h1,λe=>(by cases e),.inr ⟨_,_,rfl⟩⟩
 |rounds _ a' b h1 _=>exact⟨_,h1,λe=>(by cases e),.inr ⟨_,_,rfl⟩⟩
def kj(B:Nat)(w:zg)(pl:Nat)(Q:Nat->Option Pt):Prop:=∀a q,Q a=zb q->B<=a/\aE q<=2000/\∃v f,w.heap[a]?=zb (zk #[zd (zb ⟨pl,0,za⟩),v,f,zd za] 222 (0,0))/\aU w v q
theorem kj.keep{B':Nat}(h:kj B w pl Q)(hl:B'<=B)(hk:∀k,B<=k->k<w.heap.size->w'.heap[k]?=w.heap[k]?)(hm:bJ w w'):kj B' w' pl Q:=λa q hq=>by
 obtain⟨h1,h2,v,f,h3,h4⟩:=h a q hq;exact⟨by omega,h2,v,f,(hk a h1 (ah.1 h3).1).trans h3,aU.keep hm q v h4⟩
def qU(Q R:Nat->Option Pt)(k:Nat):Option Pt:=match Q k with
 |some q=>zb q
 |none=>R k
theorem Yu(h:Q k=zb q):qU Q R k=zb q:=by unfold qU;rw[h]
theorem Ya(h0:Q k=za)(h:R k=zb q):qU Q R k=zb q:=by unfold qU;rw[h0];exact h
theorem zun(h:qU Q R k=zb q):Q k=zb q\/R k=zb q:=by
 unfold qU at h;split at h
 ·rename_i q' hq;rw[hq];exact .inl h
 ·exact .inr h
theorem kj.Td(h:kj B w pl Q){k:Nat}(hk:k<B):Q k=za:=by
 cases hq:Q k with
 |none=>rfl
 |some q=>have:=(h k q hq).1;omega
theorem kj.high(h:kj B w pl Q){k:Nat}(hk:w.heap.size<=k):Q k=za:=by
 cases hq:Q k with
 |none=>rfl
 |some q=>
  obtain⟨_,_,v,f,h3,_⟩:=h k q hq;have:=(ah.1 h3).1;omega
theorem kj.union(h:kj B w pl Q)(k:kj B w pl R):kj B w pl (qU Q R):=λa q hq=>(zun hq).elim (h a q) (k a q)
def zM(a:Nat)(p:Pt)(k:Nat):Option Pt:=if k=a then zb p else za
theorem XJ(a:Nat)(p:Pt):zM a p a=zb p:=aC rfl
theorem Yt(h:zM a p k=zb q):k=a/\p=q:=by
 unfold zM at h;split at h
 ·rename_i e;exact⟨e,Option.some.inj h⟩
 ·cases h
theorem kj.nothing(B:Nat)(w:zg)(pl:Nat):kj B w pl (λ_=>za):=λa q h=>by cases h
def xk(w:zg)(pl:Nat)(p:Pt)(e:Ending)(w':zg):Prop:=
 ∃(a:Nat) (Q:Nat->Option Pt),e=.returned (zd (zb ⟨a,0,za⟩))/\zj w.heap.size w w'/\kj w.heap.size w' pl Q/\dU w.heap.size w' pl Q a p
def sy(p:Pt):Prop:=∀(pl:Nat) (v:zi) (w:zg),aU w v p->aE p<=2000->zl prog 139 #[zd (zb ⟨pl,0,za⟩),v] w λe w'=>xk w pl p e w'
theorem XP{x y:Int}(h:cM x<=2000)(hxy:y<=x):y<=2000:=by unfold cM at h;split at h<;>omega
theorem ztF{b:Pt}{mn mx:Int}(hT:aU w v (.az b mn mx))(hw:aE (.az b mn mx)<=2000):aE b<=2000:=by
 obtain⟨lv,_,h1,h2⟩:=hT;have h3:=iP b _ h1;have hc:=FY h2;refine XP (x:=aE b*ed mn mx) hw ?_;have:aE b*1<=aE b*ed mn mx:=Int.mul_le_mul_of_nonneg_left (by omega) (by omega);omega
theorem Nu{l r:Pt}(hT:aU w v (.seq l r)\/aU w v (.aN l r))(hw:cM (aE l+aE r)<=2000):aE l<=2000/\aE r<=2000:=by
 have:∃lv rv,aU w lv l/\aU w rv r:=by
  rcases hT with ⟨lv,rv,_,h1,h2⟩|⟨lv,rv,_,h1,h2⟩<;>exact⟨lv,rv,h1,h2⟩
 obtain⟨lv,rv,h1,h2⟩:=this;have h3:=iP l _ h1;have h4:=iP r _ h2;exact⟨XP hw (by omega),XP hw (by omega)⟩
theorem Gg:∀(p:Pt) (v:zi),aU w v p->oT p
 |.set _,_,_=>trivial
 |.seq l r,_,⟨_,_,_,h1,h2⟩=>⟨Gg l _ h1,Gg r _ h2⟩
 |.aN l r,_,⟨_,_,_,h1,h2⟩=>⟨Gg l _ h1,Gg r _ h2⟩
 |.az b mn mx,_,⟨_,_,h1,h2⟩=>by
  refine⟨Gg b _ h1,?_⟩;simp[fj]at h2;omega
 |.aT b _,_,⟨_,_,h1⟩=>Gg b _ h1
end Go.Proofs.YtdimhpfiieepiaaGreatDoor
