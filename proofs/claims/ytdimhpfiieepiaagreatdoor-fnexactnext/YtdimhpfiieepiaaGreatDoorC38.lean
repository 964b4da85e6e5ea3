import Derived.Test.YtdimhpfiieepiaaGreatDoorC37
import Derived.WalkSpells
namespace Go.Proofs.YtdimhpfiieepiaaGreatDoor
open Proofs.Tryz
open Option renaming none->za,some->zb
open RowKit renaming Hid->zc,Below->zk
open Value renaming pointer->zd,int->ze,slice->zg
open Go renaming World->zf,Value->zh,Calls->zm,TypeId->zn
open Obj renaming cells->zl
set_option maxHeartbeats 2000000
set_option maxRecDepth 100000
open Go.RowKit
section
attribute [local go_sem ↓] wp_at_zero wp_at_succ
def Ng(w0:zf)(pl:Nat)(Q:Nat->Option Pt)(a:Nat)(p:Pt)(Ow:Nat->Nat->Prop)(w:zf)(e:Ending)(w':zf):Prop:=
 ∃(s:Nat) (aI:Nat->Nat->Prop) (X:Nat->Prop) (v:ey) (ra rb:cd) (O1 O2:Nat->Prop),e=.returned (zd (zb ⟨s,0,za⟩))/\lS w0 pl Q a p aI w' s X v ra rb O1 O2/\ra.m<=8192/\rb.m<=8192/\pB pl a Ow w aI w' X
theorem bR.set{w:zf}{b o:Nat}{x:zh}{cs:Array zh}{t:zn}(h:w.heap[b]?=zb (zl cs t (0,0)))(ht:t≠293):bR w (w.setCell ⟨b,o,za⟩ x):=λmg f e=>by
 refine(cu _ _ _ _ (show mg≠b from λe2=>?_)).trans e;rw[e2,h]at e;exact ht (bP e)
section
variable {w0:zf} {pl:Nat} {Q:Nat->Option Pt} {Ow:Nat->Nat->Prop}
theorem zhk{a:Nat}{p:Pt}{w w2:zf}(h:cE w0 pl Q Ow w)(ha:Q a=zb p){s:Nat}{v:ey}{ra rb:cd}{O1 O2:Nat->Prop}(hst:gR O1 O2 w2 s v ra rb)(pb:py (bY p 0) v.n v.nw v.f v.F v.G v.A v.L)(qu:v.e=true↔(bY p 0).e)(ae:w.heap.size<=v.b0)(hn:v.n<=2000)(bV:v.nw=((aF p).toNat+63)/64)(cO:ra.m=1)(cD:rb.m=1)(bu:zk w.heap.size w w2){f k0 v0 x0 x1 x2:zh}{room z:Nat}(h2:w.heap[a]?=zb (zl #[zd (zb ⟨pl,0,za⟩),v0,f,k0] 222 (0,0)))(hp:w.heap[pl]?=zb (zl #[x0,x1,x2,ze .i64 room] 189 (0,0)))(hr:room<=1048576)(hz:z<=room):
  Ng w0 pl Q a p Ow w (.returned (zd (zb ⟨s,0,za⟩))) ((w2.setCell ⟨pl,3,za⟩ (ze .i64 ((room:Int)-z))).setCell ⟨a,3,za⟩ (zd (zb ⟨s,0,za⟩))):=by
 have qp:=h.aQ ha;have du:=h.AZ;have hsz:=h.size;have iY:=bu.size;have hne:=h.ne ha;have p2:=(bu.block pl (by omega)).trans hp;have a2:=(bu.block a (by omega)).trans h2;have p3:=dF w2 pl 3 _ _ (ze .i64 ((room:Int)-z)) p2;have a3:(w2.setCell ⟨pl,3,za⟩ (ze .i64 ((room:Int)-z))).heap[a]?=_:=(cu _ _ _ _ (show a≠pl from hne)).trans a2;have p4:((w2.setCell ⟨pl,3,za⟩ (ze .i64 ((room:Int)-z))).setCell ⟨a,3,za⟩ (zd (zb ⟨s,0,za⟩))).heap[pl]?=_:=(cu _ _ _ _ (show pl≠a from λe=>hne e.symm)).trans p3;have a4:=dF _ a 3 _ _ (zd (zb ⟨s,0,za⟩)) a3;have km:bR w2 ((w2.setCell ⟨pl,3,za⟩ (ze .i64 ((room:Int)-z))).setCell ⟨a,3,za⟩ (zd (zb ⟨s,0,za⟩))):=(bR.set p2 (by decide)).trans (bR.set a3 (by decide));have ot:∀k,k≠pl->k≠a->((w2.setCell ⟨pl,3,za⟩ (ze .i64 ((room:Int)-z))).setCell ⟨a,3,za⟩ (zd (zb ⟨s,0,za⟩))).heap[k]?=w2.heap[k]?:=λk h1 h2=>(cu _ _ _ _ (show k≠a from h2)).trans (cu _ _ _ _ (show k≠pl from h1))
 have hsX:((w2.setCell ⟨pl,3,za⟩ (ze .i64 ((room:Int)-z))).setCell ⟨a,3,za⟩ (zd (zb ⟨s,0,za⟩))).heap.size=w2.heap.size:=by simp
 have eos:((w2.setCell ⟨pl,3,za⟩ (ze .i64 ((room:Int)-z))).setCell ⟨a,3,za⟩ (zd (zb ⟨s,0,za⟩))).os=w.os:=bu.os;have etp:((w2.setCell ⟨pl,3,za⟩ (ze .i64 ((room:Int)-z))).setCell ⟨a,3,za⟩ (zd (zb ⟨s,0,za⟩))).tape=w.tape:=bu.tape;have eop:((w2.setCell ⟨pl,3,za⟩ (ze .i64 ((room:Int)-z))).setCell ⟨a,3,za⟩ (zd (zb ⟨s,0,za⟩))).output=w.output:=bu.output;rw[show ((room:Int)-z)=((room-z:Nat):Int) from by omega]at *;generalize ((w2.setCell ⟨pl,3,za⟩ (ze .i64 ((room-z:Nat):Int))).setCell ⟨a,3,za⟩ (zd (zb ⟨s,0,za⟩)))=W at *;have hB:=hst.c.c1.le;have KH:ue W s p (λk=>w.heap.size<=k/\k<W.heap.size) v ra rb O1 O2:=by
  refine⟨hst.keep (λk hk=>ot k ?_ ?_) km (ot 0 (λe=>h.p0 e.symm) (λe=>by have:=h.q0;rw[e,ha]at this;cases this)) (by omega),pb,qu,hn,bV,λk h1 h2=>⟨by omega,by omega⟩,λk h1=>?_,λk h1=>?_⟩
  ·rcases hk with h1|h1|h1
   ·omega
   ·have:=hst.o1 k h1;have:=hst.c.s0;have:=hst.c.s1;omega
   ·have:=hst.o2 k h1;have:=hst.c.s0;have:=hst.c.s1;omega
  ·rcases hk with h1|h1|h1
   ·omega
   ·have:=hst.o1 k h1;have:=hst.c.s0;have:=hst.c.s1;omega
   ·have:=hst.o2 k h1;have:=hst.c.s0;have:=hst.c.s1;omega
  ·have:=hst.o1 k h1;have:=hst.c.s0;have:=hst.c.s1;exact⟨by omega,by omega⟩
  ·have:=hst.o2 k h1;have:=hst.c.s0;have:=hst.c.s1;exact⟨by omega,by omega⟩
 have tcF:aE (λk=>k=pl\/k=a\/False) w W:=⟨eos,etp,eop,by omega,λk hk hn=>(ot k (λe=>hn (.inl e)) (λe=>hn (.inr (.inl e)))).trans (bu.block k hk)⟩;have kmw:=(bR.of bu).trans km;refine⟨s,_,λk=>w.heap.size<=k/\k<W.heap.size,v,ra,rb,O1,O2,rfl,⟨h.turn ha (X:=λ_=>False) (X':=λk=>w.heap.size<=k/\k<W.heap.size) (λk hk=>hk.elim) tcF kmw ⟨_,_,_,_,_,hp,p4,by omega⟩ ⟨_,_,_,_,h2,a4,.inr ⟨s,v,ra,rb,O1,O2,rfl,KH,by omega,by omega⟩⟩ (λk hk=>⟨by omega,hk.2,.inr (.inl hk.1)⟩),ha,KH,λk hk=>⟨by omega,hk.2⟩,.inl ⟨λk=>⟨λhk=>.inl ⟨rfl,hk⟩,λhk=>hk.elim (λx=>x.2) (λx=>absurd rfl x.1)⟩,(qb a4).2.2.2⟩⟩,by omega,by omega,⟨tcF.mono λk _ hk=>hk.elim .inl λhk=>hk.elim (λe=>.inr (.inl e)) False.elim,kmw,λk b hb=>⟨λx=>x.elim (λy=>absurd y.1 hb) (λy=>y.2),λx=>.inr ⟨hb,x⟩⟩,λk hk=>hk.elim (λy=>.inr y.2.1) (λy=>absurd rfl y.1),λk hk=>.inr hk.1⟩⟩
theorem zhj{a:Nat}{p:Pt}{w w2:zf}(h:cE w0 pl Q Ow w)(ha:Q a=zb p){s:Nat}{v:ey}{ra rb:cd}{O1 O2:Nat->Prop}(hst:gR O1 O2 w2 s v ra rb)(pb:py (bY p 0) v.n v.nw v.f v.F v.G v.A v.L)(qu:v.e=true↔(bY p 0).e)(ae:w.heap.size<=v.b0)(hn:v.n<=2000)(bV:v.nw=((aF p).toNat+63)/64)(cO:ra.m=1)(cD:rb.m=1)(bu:zk w.heap.size w w2):
  Ng w0 pl Q a p Ow w (.returned (zd (zb ⟨s,0,za⟩))) w2:=by
 have hsz:=h.size;have iY:=bu.size;have hB:=hst.c.c1.le;have bX:=hst.c.s0;have dB:=hst.c.s1;refine⟨s,Ow,λk=>w.heap.size<=k/\k<w2.heap.size,v,ra,rb,O1,O2,rfl,⟨h.below bu,ha,⟨hst,pb,qu,hn,bV,λk h1 h2=>⟨by omega,by omega⟩,λk h1=>?_,λk h1=>?_⟩,λk hk=>⟨by omega,hk.2⟩,.inr λk b hk ho=>by have:=h.ow k b ho;omega⟩,by omega,by omega,⟨.cH bu,bR.of bu,λ_ _ _=>Iff.rfl,λ_ hk=>.inl hk,λk hk=>.inr hk.1⟩⟩
 ·have:=hst.o1 k h1;exact⟨by omega,by omega⟩
 ·have:=hst.o2 k h1;exact⟨by omega,by omega⟩
theorem zif{a:Nat}{p:Pt}{w w2:zf}(h:cE w0 pl Q Ow w)(ha:Q a=zb p){s:Nat}{v:ey}{ra rb wj zj:cd}{O1 O2 zO wU:Nat->Prop}(hq:ue w s p (λk=>Ow k a) v ra rb O1 O2){f v0:zh}(h2:w.heap[a]?=zb (zl #[zd (zb ⟨pl,0,za⟩),v0,f,zd (zb ⟨s,0,za⟩)] 222 (0,0)))(hst:gR zO wU w2 s v wj zj)(DY:∀k,zO k->O1 k\/w.heap.size<=k)(hO2:∀k,wU k->O2 k\/w.heap.size<=k)(tc:aE (· = s) w w2)(cO:wj.m<=8192)(cD:zj.m<=8192):
  Ng w0 pl Q a p Ow w (.returned (zd (zb ⟨s,0,za⟩))) w2:=by
 have mY:lS w0 pl Q a p Ow w s (λk=>Ow k a) v ra rb O1 O2:=⟨h,ha,hq,λk hk=>h.ow k a hk,.inl ⟨λ_=>Iff.rfl,(qb h2).2.2.2⟩⟩;have km:bR w w2:=λmg f e=>(tc.same mg (ap.1 e).1 (λe2=>by
  have e2:mg=s:=e2;rw[e2,hq.st.box]at e;exact absurd (bP e) (by decide))).trans e
 have hsz:=tc.size;have hlt:∀k,Ow k a->k<w.heap.size:=λk hk=>(h.ow k a hk).2
 have mZ:ue w2 s p (λk=>Ow k a\/(w.heap.size<=k/\k<w2.heap.size)) v wj zj zO wU:=by
  refine⟨hst,hq.rw,hq.em,hq.nl,hq.G7,λk h1 h2=>.inl (hq.lo k h1 h2),λk h1=>?_,λk h1=>?_⟩
  ·rcases DY k h1 with h3|h3
   ·exact .inl (hq.x1 k h3)
   ·exact .inr ⟨h3,(hst.o1 k h1).2⟩
  ·rcases hO2 k h1 with h3|h3
   ·exact .inl (hq.x2 k h3)
   ·exact .inr ⟨h3,(hst.o2 k h1).2⟩
 obtain⟨aI,hs,-,hc⟩:=mY.step (w':=w2) (X':=λk=>Ow k a\/(w.heap.size<=k/\k<w2.heap.size)) (tc.mono λk _ hk=>by have hk:k=s:=hk;rw[hk];exact hq.sX) km mZ (by omega) (by omega) (λk hk=>hk.elim .inl λhk=>.inr hk.1) (λk hk=>hk.elim (λhk=>by have:=hlt k hk;omega) λhk=>hk.2);exact⟨s,aI,_,v,wj,zj,zO,wU,rfl,hs,cO,cD,hc _ _ (pB.refl pl a Ow w)⟩
theorem Ik(a:Nat)(p:Pt)(w:zf)(h:cE w0 pl Q Ow w)(ha:Q a=zb p):
  zm prog 124 #[zd (zb ⟨a,0,za⟩)] w λe w'=>Ng w0 pl Q a p Ow w e w':=by
 obtain⟨v0,f,k0,h1,h2,h3,h4,h5⟩:=h.pc a p ha;obtain⟨c0,c1,c2,c3⟩:=qb h2;have qp:=h.aQ ha;have hsz:=h.size;have Hi:zc _:=h;rcases h5 with rfl|⟨s,v,ra,rb,O1,O2,rfl,hq,xq,pM⟩
 ·obtain⟨x0,x1,x2,r0,room,-,hp,hr⟩:=h.wi;have du:=h.AZ;have J1:fG w:=h.dR.keep h.zero;have Oj:=zj6 p v0 w (aR.keep h.marks p v0 h3) h4 J1 (by omega);have H2:zc _:=h2;have Hp:zc _:=hp;clear h h1 h2 h3 h4 hp J1
  go_enter func124,ntmps124
  go_wp2_with fail
  refine Oj.mono ?_;rintro e w1 ⟨s,v,ra,rb,O1,O2,rfl,hst,cO,cD,pb,qu,ae,hn,bV,bu⟩;have vU:=zs9 O1 O2 s v ra rb w1 hst (by omega);obtain⟨z,hz⟩:∃z:Nat,(v.n:Int)*v.nw=z:=⟨v.n*v.nw,by simp⟩;rw[hz]at vU;have iY:=bu.size;have GY:=hst.c.c1.le;have jY:zc _:=hst;have M0:zc _:=pb;have FT:zc _:=qu;have Yd:zc _:=bu;have Yx:zc _:=bV;clear hst pb qu bu Oj hz bV c1 c2 c3 c0
  go_wp2_with fail
  refine vU.mono ?_;rintro e w2 ⟨rfl,af⟩;have j8:zk w.heap.size w w2:=Yd.out.trans (af.mono iY);have c0:=(qb ((j8.block a (by omega)).trans H2.out)).1;have p3:=(qb ((j8.block pl (by omega)).trans Hp.out)).2.2.2;have pf:=cF _ _ 3 _ _ ((j8.block pl (by omega)).trans Hp.out);have tq:gR O1 O2 w2 s v ra rb:=jY.out.keep (λk hk=>af.block k (by
   rcases hk with h1|h1|h1
   ·omega
   ·exact(jY.out.o1 k h1).2
   ·exact(jY.out.o2 k h1).2)) (bR.of af) (af.block 0 (by omega)) af.size
  have FY:zc _:=tq;have zzB:zc _:=j8;have XY:zc _:=ae;have Hn:zc _:=hn;have Yv:zc _:=cO;have MT:zc _:=cD;clear tq vU ae hn cO cD
  by_cases hle:z<=room
  ·have hd:decide ((z:Int)<=(room:Int))=true:=by simp;omega
   have HF:zc _:=zhk Hi.out ha FY.out M0.out FT.out XY.out Hn.out Yx.out Yv.out MT.out j8 H2.out Hp.out hr hle;have a2:=(j8.block a (by omega)).trans H2.out;have p2:=(j8.block pl (by omega)).trans Hp.out;have hne:=Hi.out.ne ha;have a3:(w2.setCell ⟨pl,3,za⟩ (ze .i64 ((room:Int)-z))).heap[a]?=_:=(cu _ _ _ _ (show a≠pl from hne)).trans a2;have d3:=(qb a3).2.2.2;have df:=cF _ _ 3 _ _ a3;clear a2 a3 j8 af p2;go_wp2;go_ret;exact HF.out
  ·have hd:decide ((z:Int)<=(room:Int))=false:=by simp;omega
   have lz:¬z<=room:=hle;have HF:zc _:=zhj Hi.out ha FY.out M0.out FT.out XY.out Hn.out Yx.out Yv.out MT.out j8;clear j8 af;go_wp2;go_ret;exact HF.out
 ·have ke:=zrb O1 O2 s v ra rb w hq.st (by omega) (by omega);have H2:zc _:=h2;have Hq:zc _:=hq;clear h h1 h2 h3 h4 c0 c1 c2
  go_enter func124,ntmps124
  go_wp2_with fail
  refine ke.mono ?_;rintro e w1 ⟨rfl,ak⟩;have TQ:=(Hi.out.ow s a Hq.out.sX).2;have GY:gR O1 O2 w1 s v ra rb:=Hq.out.st.keep (λk hk=>ak.block k (by
   rcases hk with h1|h1|h1
   ·exact(Hi.out.ow k a (Hq.out.lo k h1.1 h1.2)).2
   ·exact(Hi.out.ow k a (Hq.out.x1 k h1)).2
   ·exact(Hi.out.ow k a (Hq.out.x2 k h1)).2)) (bR.of ak) (ak.block 0 (by omega)) ak.size
  have e3:=(qb ((ak.block a (by omega)).trans H2.out)).2.2.2
  by_cases AD:8192<ra.m+rb.m
  ·have hd:decide ((8192:Int)<(ra.m:Int)+rb.m)=true:=by simp;omega
   have Ed:=zjJ s v _ _ w1 GY.box GY.c;have lm:zc _:=ak;clear GY ak ke c3
   go_wp2_with fail
   refine Ed.mono ?_;rintro e w2 ⟨rfl,a',b',zO,wU,tq,cO,cD,qy,pW⟩;have hne:a≠s:=by have:=(Hi.out.ow s a Hq.out.sX).1;omega
   have e4:w2.cell? ⟨a,3,za⟩=zb (zd (zb ⟨s,0,za⟩)):=(World.cell?_of_block (pW.same a (by have:=lm.out.size;omega) hne)).trans e3;have HF:zc _:=zif Hi.out ha Hq.out H2.out tq (λk hk=>.inr (by have:=qy k (.inl hk);have:=lm.out.size;omega)) (λk hk=>.inr (by have:=qy k (.inr hk);have:=lm.out.size;omega)) ((aE.cH lm.out).trans pW) (by omega) (by omega);clear tq qy pW e3 Ed;go_wp2;go_ret;exact HF.out
  ·have hd:decide ((8192:Int)<(ra.m:Int)+rb.m)=false:=by simp;omega
   have HF:zc _:=zif Hi.out ha Hq.out H2.out GY (λk hk=>.inl hk) (λk hk=>.inl hk) (.cH ak) (by omega) (by omega);clear GY ak ke c3;go_wp2;go_ret;exact HF.out
end
end
section
attribute [local go_sem ↓] wp_at_zero wp_at_succ
theorem aC{p:Prop}(h:p):zc p:=h
theorem znl{w:zf}{B:Nat}{pv:zh}{ps:List Nat}(h:w.ownsRow B 3 1 pv ps.length (uW ps))(hp:0<ps.length):∃g c:Nat,pv=zg (zb ⟨g,0,za⟩) ps.length c/\g<w.heap.size/\∀j,j<ps.length->w.cell? ⟨g,j,za⟩=zb (ze .i64 ((ps.getD j 0:Nat):Int)):=by
 obtain⟨g,cap,aA,h1,h2,h3⟩:=xN h hp;exact⟨g,cap,h1,(ap.1 h2).1,λj hj=>by rw[aO _ _ _ _ _ _ h2,h3 j hj];simp[uW,hj,List.getD_eq_getElem?_getD]⟩
theorem ztX{O:Nat->Prop}{w:zf}{n nw bt ga gl:Nat}{lv:zh}{f:Nat->Nat->Bool}{Lk:Nat->Nat->Nat}{A L:Nat->Nat}{b:cd}(hr:qj O w n nw bt ga gl lv f Lk A L b)(t ne gs high off B:Nat)(pv:zh)(ps:List Nat)(gU:w.heap[t]?=zb (zl #[zd (zb ⟨b.r,0,za⟩),zg (zb ⟨gs,0,za⟩) ne ne,ze .i64 high,pv] 195 (0,0)))(CF:w.ownsRow B 3 1 pv ps.length (uW ps))(GL:∀j,j<ps.length->ps.getD j 0<b.m)(zAq:off<high)(hh:high<=4096):
  zm prog 219 #[zd (zb ⟨t,0,za⟩),ze .i64 off] w λe w'=>((ps.length<=high-1-off/\e=.returned (zg za 0 0))\/(high-1-off<ps.length/\e=.returned (zg (zb ⟨b.gx (ps.getD (high-1-off) 0),0,za⟩) nw nw)))/\zk w.heap.size w w':=by
 obtain⟨c0,-,c2,c3⟩:=qb gU;obtain⟨pa,pc,rfl⟩:=C6 CF;obtain⟨bk,Yc⟩:∃bk,zc (high-1-off=bk):=⟨_,rfl⟩;have hbi:(high:Int)-1-off=(bk:Int):=by have:=Yc.out;omega
 rw[Yc.out];obtain⟨pn,BK⟩:∃pn,zc (ps.length=pn):=⟨_,rfl⟩;rw[BK.out]at c3 ⊢;have xy:=(oe hr.s.box).2.2.2.2.2.1;obtain⟨gS,cS,eS,-,Gx⟩:=hr.kZ;rw[eS]at xy
 by_cases hlt:bk<pn
 ·obtain⟨g,c,hg,-,hc⟩:=znl CF (by have:=BK.out;omega);have d0:=hc bk (by have:=BK.out;omega);have hx:=GL bk (by have:=BK.out;omega);have d1:=Gx _ hx;generalize ps.getD bk 0=x at *;injection hg with h1 _ h3
  subst h1;subst h3;have dO:(0:Int)<=(x:Int):=by omega
  have dh:(x:Int)<(b.m:Int):=by omega
  have ae:(0:Int)<=(bk:Int):=by omega
  have ak:(bk:Int)<(pn:Int):=by omega
  have hd:decide ((pn:Int)<=(bk:Int))=false:=by simp;omega
  clear hc Gx GL CF gU eS hr
  go_enter func219,ntmps219
  go_wp2
  go_region
  all_goals
   go_wp2;go_ret;exact⟨.inr ⟨hlt,rfl⟩,(Below.refl _ _).drew⟩
 ·have hd:decide ((pn:Int)<=(bk:Int))=true:=by simp;omega
  clear Gx GL CF gU eS hr
  go_enter func219,ntmps219
  go_wp2;go_ret;exact⟨.inl ⟨by omega,rfl⟩,Below.refl _ _⟩
theorem zlo(nw g cap:Nat)(w:zf):
  zm prog 195 #[zg (zb ⟨g,0,za⟩) nw cap,zg za 0 0] w λe w'=>e=.returned (.bool false)/\zk w.heap.size w w':=by
 go_enter func195,ntmps195
 go_wp2
 go_loopw [9] (λi wr=>i=ze .i64 0/\wr=w) (λi _=>0)
 case atStart=>exact⟨rfl,rfl⟩
 case round=>
  obtain⟨rfl,rfl⟩:=hrel;go_wp2;go_ret;exact⟨rfl,Below.refl _ _⟩
def rp(u:aJ)(M:PA)(fr e:Nat):Prop:=(e=fr/\M.e)\/(fr<e/\∃q,jm u M fr e q/\M.last q)
theorem zl8{u:aJ}{M:PA}{i j:Nat}(dA:i<j)(h:∀p,¬jm u M i j p):∀k p,¬jm u M i (j+k) p
 |0,p=>h p
 |k+1,p=>λhf=>by
  obtain⟨c,hc,-⟩:=hf.byte (show i<=j+k by omega);obtain⟨q,h1,-⟩:=(LW (show i<j+k by omega) hc).1 hf;exact zl8 dA h k q h1
def tY(u:aJ)(M:PA)(E:Nat->Prop)(fr k e:Nat)(ok:Bool):Prop:=(ok=true/\E e/\rp u M fr e/\e<=k/\∀x,x<=k->E x->rp u M fr x->x<=e)\/(ok=false/\e=fr/\∀x,x<=k->E x->¬rp u M fr x)
structure sE(w:zf)(O1 O2:Nat->Prop)(s:Nat)(v:ey)(a b:cd)(u:aJ)(M:PA)(E:Nat->Prop)(fr:Nat)(W:zf)(k now:Nat)(a':cd)(O:Nat->Prop):Prop where
 tc:aE O1 w W
 km:bR w W
 st:gR O O2 W s v a' b
 rn:ru a a'
 mb:a'.m+fr<=a.m+k
 o1:∀k,O1 k->O k
 OJ:∀k,O k->O1 k\/w.heap.size<=k
 le:fr<=k
 nw:now<a'.m
 fw:si v.nw (a'.Ts now) (jm u M fr k)
section
variable {w:zf} {O1 O2:Nat->Prop} {s:Nat} {v:ey} {a b:cd} {u:aJ} {M:PA} {E:Nat->Prop} {fr:Nat} {W:zf} {k now:Nat} {a':cd} {O:Nat->Prop}
theorem sE.below(h:sE w O1 O2 s v a b u M E fr W k now a' O){W':zf}(hb:zk W.heap.size W W'):sE w O1 O2 s v a b u M E fr W' k now a' O:=
 ⟨h.tc.trans (.cH hb),h.km.trans (bR.of hb),h.st.other (S:=λ_=>False) (.cH hb) (λ_ e=>e.elim) (λ_ e=>e.elim) (λ_ e=>e.elim),h.rn,h.mb,h.o1,h.OJ,h.le,h.nw,h.fw⟩
theorem sE.read(hR:py M v.n v.nw v.f v.F v.G v.A v.L)(h:sE w O1 O2 s v a b u M E fr W k now a' O){c:UInt8}(hc:u[k]?=zb c){bg:Bool}(Sn:bg=true↔k=fr){x:Nat}{a2:cd}{W':zf}(hx:x<a2.m)(hm:a2.m<=a'.m+1)(hn:ru a' a2)(hs:xU v.nw v.f v.F v.A (a'.Ts now) c.toNat bg (a2.Ts x))(st:gR (news O W W') O2 W' s v a2 b)(tc:aE O W W')(km:bR W W'):sE w O1 O2 s v a b u M E fr W' (k+1) x a2 (news O W W'):=by
 have hsz:=h.tc.size;refine⟨⟨tc.os.trans h.tc.os,tc.tape.trans h.tc.tape,tc.output.trans h.tc.output,aU h.tc.size tc.size,λk hk hn=>(tc.same k (by omega) (λe=>(h.OJ k e).elim hn λe=>by omega)).trans (h.tc.same k hk hn)⟩,h.km.trans km,st,h.rn.trans hn,by have:=h.mb;omega,λk hk=>.inl (h.o1 k hk),λk hk=>hk.elim (h.OJ k) λe=>.inr (by omega),by have:=h.le;omega,hx,?_⟩;exact zqT hR h.le hc Sn (λq h1 h2=>h.st.ra.EJ now q h.nw h1 h2) (λq h1 h2=>st.ra.EJ x q hx h1 h2) h.fw hs
theorem sE.ends(hR:py M v.n v.nw v.f v.F v.G v.A v.L)(h:sE w O1 O2 s v a b u M E fr W (k+1) now a' O)(hlt:fr<k+1):rp u M fr (k+1)↔kI v.nw (a'.Ts now) v.L=true:=by
 rw[<-zqN hR (λx=>(h.st.ra.s.set now h.nw).lt x) h.fw];constructor
 ·rintro (⟨e,_⟩|⟨_,h1⟩)
  ·omega
  ·exact h1
 ·intro h1;exact .inr ⟨hlt,h1⟩
theorem sE.dead(hR:py M v.n v.nw v.f v.F v.G v.A v.L)(h:sE w O1 O2 s v a b u M E fr W (k+1) 0 a' O)(hlt:fr<k+1):∀x,k<x->¬rp u M fr x:=λx hx hL=>by
 have h0:∀p,¬jm u M fr (k+1) p:=λp hf=>by
  have hp:=(hR.D p).1 (hf.2.2.inside hR.fi hR.fo);have hn:=hR.kC;have h1:=(h.fw p (by omega)).2 hf;have h2:=h.st.ra.zero (p/64) (by omega);unfold ax at h1;rw[h2]at h1;simp at h1
 rcases hL with ⟨e,_⟩|⟨_,q,hq,_⟩
 ·omega
 ·exact zl8 hlt h0 (x-(k+1)) q (by rw[show k+1+(x-(k+1))=x from by omega];exact hq)
end
theorem tY.last{u:aJ}{M:PA}{E:Nat->Prop}{fr k e:Nat}{ok:Bool}(h:tY u M E fr k e ok)(hd:∀x,k<x->E x->¬rp u M fr x)(n:Nat)(ke:k<=n):tY u M E fr n e ok:=by
 rcases h with ⟨h1,h2,h3,h4,h5⟩|⟨h1,h2,h3⟩
 ·refine .inl ⟨h1,h2,h3,by omega,λx _ hE hL=>?_⟩;rcases gh k x with h|h
  ·exact absurd hL (hd x h hE)
  ·exact h5 x h hE hL
 ·refine .inr ⟨h1,h2,λx _ hE hL=>?_⟩;rcases gh k x with h|h
  ·exact hd x h hE hL
  ·exact h3 x h hE hL
theorem tY.hit{u:aJ}{M:PA}{E:Nat->Prop}{fr k:Nat}(h1:E (k+1))(h2:rp u M fr (k+1)):tY u M E fr (k+1) (k+1) true:=.inl ⟨rfl,h1,h2,ai _,λ_ h _ _=>h⟩
theorem tY.zwJ{u:aJ}{M:PA}{E:Nat->Prop}{fr k e:Nat}{ok:Bool}(h:tY u M E fr k e ok)(hd:E (k+1)->¬rp u M fr (k+1)):tY u M E fr (k+1) e ok:=by
 rcases h with ⟨h1,h2,h3,h4,h5⟩|⟨h1,h2,h3⟩
 ·refine .inl ⟨h1,h2,h3,by omega,λx hx hE hL=>?_⟩
  by_cases e:x=k+1
  ·subst e;exact absurd hL (hd hE)
  ·exact h5 x (by omega) hE hL
 ·refine .inr ⟨h1,h2,λx hx hE hL=>?_⟩
  by_cases e:x=k+1
  ·subst e;exact hd hE hL
  ·exact h3 x (by omega) hE hL
end
section
attribute [local go_sem ↓] wp_at_zero wp_at_succ
def mkS(t:zn)(x y:zh):Sem zh:=Instr.makeSlice t x y
theorem ziQ(x y:zh):Instr.makeSlice 193 x y=mkS 193 x y:=rfl
attribute [local go_sem ↓] ziQ
theorem zkT(r g ne:Nat)(hi:Int):prog.built 195 [(0,zd (zb ⟨r,0,za⟩)),(1,zg (zb ⟨g,0,za⟩) ne ne),(2,ze .i64 hi)]=zb #[zd (zb ⟨r,0,za⟩),zg (zb ⟨g,0,za⟩) ne ne,ze .i64 hi,zg za 0 0]:=by kernel_rfl
theorem Tryz.zwD:(prog.info? 3).map (λi=>(i.zero,i.size,i.bytes))=zb (zb (ze .i64 0),1,8):=by kernel_rfl
theorem Wy(t:ByteArray){p:Nat}(h:p<t.size):t.data.toList[p]?=zb (t[p]'h):=by
 rw[eY (by simpa using h)];simp;rfl
def zwW(O1 O2:Nat->Prop)(w:zf)(s:Nat)(v:ey)(a b:cd)(ne:Nat)(u:aJ)(M:PA)(E:Nat->Prop)(e:Ending)(w':zf):Prop:=
 ∃(high t gs:Nat) (b':cd) (O:Nat->Prop) (S:Nat->Nat) (pv:zh) (ps:List Nat),e=.returned (zd (zb ⟨t,0,za⟩))/\E high/\Mq w O1 O2 s v a b ne u M E high t gs w' b' O S pv ps
theorem zkQ{O1 O2:Nat->Prop}{w:zf}{s:Nat}{v:ey}{a b:cd}(h:gR O1 O2 w s v a b)(M:PA)(hR:py M v.n v.nw v.f v.F v.G v.A v.L)(qu:v.e=true↔M.e)(t:ByteArray)(ht:t.size<=4096)(ne ge cap:Nat)(ET:Nat->Nat)(hE:aH w ne ge ET)(hne:ne<=100)(hO:¬O2 ge)(hx:∃q,q<64*ne/\ax ET q=true)(hq:∀q,q<64*ne->ax ET q=true->q<=t.size)(yP:b.m<=90000000):
  zm prog 125 #[zd (zb ⟨s,0,za⟩),.string t,zg (zb ⟨ge,0,za⟩) ne cap] w λe w'=>zwW O1 O2 w s v a b ne t.data.toList M (λq=>q<64*ne/\ax ET q=true) e w':=by
 obtain⟨i0,hi,bK,bh,bz⟩:=info_parts Tryz.Ue;have hB:=h.c.c1.le;have DY:∀k,O1 k->k<w.heap.size:=λk hk=>(h.o1 k hk).2
 have hl:=VQ ne ge cap ET w hE (by omega) h.c.c1.dR;have hg:=Vh ne ge cap ET w hE (by omega);have Hh:zc _:=h
 go_enter func125,ntmps125
 go_wp2_with fail
 refine hl.mono ?_;rintro e w1 ⟨lv,rfl,Ko,lG⟩;subst w1;obtain⟨low,rfl,-,-,oX⟩:∃low:Nat,lv=low/\low<64*ne/\ax ET low=true/\∀q,q<low->ax ET q=false:=by
  rcases Ko with ⟨-,h1⟩|⟨p,h1⟩
  ·obtain⟨q,h2,h3⟩:=hx;rw[h1 q h2]at h3;cases h3
  ·exact⟨p,h1⟩
 clear hl Ko
 go_wp2_with fail
 refine hg.mono ?_;rintro e w1 ⟨hv,rfl,qw,ak⟩;obtain⟨high,rfl,yS,AE,xk⟩:∃high:Nat,hv=high/\high<64*ne/\ax ET high=true/\∀q,high<q->q<64*ne->ax ET q=false:=by
  rcases qw with ⟨-,h1⟩|⟨p,h1⟩
  ·obtain⟨q,h2,h3⟩:=hx;rw[h1 q h2]at h3;cases h3
  ·exact⟨p,h1⟩
 have hht:=hq high yS AE;have MR:zc _:=oX;have I9:zc _:=xk;have MO:zc _:=AE;clear hg qw oX xk AE hx;have dB:=ak.size;have wu:gR O1 O2 w1 s v a b:=h.other (S:=λ_=>False) (.cH ak) (λk e=>e.elim) (λk e=>e.elim) (λk e=>e.elim);obtain⟨w2,xu,kV,bU⟩:=run_make_full (P:=prog) w1.drew w1.heap.size 193 236 i0 _ 1 underlying193 hi bK bh .i64 .i64 ne (by rw[bz];omega) (by unfold maxLen;omega) (ai _);have zv2:(mkS 193 (ze .i64 (ne:Int)) (ze .i64 (ne:Int))).run prog w1.drew=.ok (zg (zb ⟨w1.heap.size,0,za⟩) ne ne) w2:=xu;have oW:w2.heap[w1.heap.size]?=zb (zl (kK ne cK) 236 (0,0)):=by
  have:=O9 kV;rw[Vi]at this;exact this
 have af:zk w1.heap.size w1 w2:=⟨bU.os,bU.tape,bU.output,bU.size,λk hk=>bU.block k hk (by simp)⟩;have cZ:w1.heap.size<w2.heap.size:=(ap.1 oW).1;have c6:=(mD wu.box).2.2.2.2.2.2;have iL:s<w1.heap.size:=(ap.1 wu.box).1;have d6:=(mD ((af.block s iL).trans wu.box)).2.2.2.2.2.2;have jN:=zkT b.r w1.heap.size ne (high:Int);obtain⟨W3,ff⟩:∃W3,w2.alloc (zl #[zd (zb ⟨b.r,0,za⟩),zg (zb ⟨w1.heap.size,0,za⟩) ne ne,ze .i64 high,zg za 0 0] 195)=W3:=⟨_,rfl⟩;have ay:zk w2.heap.size w2 W3:=by rw[<-ff];exact au
 have x3:W3.heap[w2.heap.size]?=zb (zl #[zd (zb ⟨b.r,0,za⟩),zg (zb ⟨w1.heap.size,0,za⟩) ne ne,ze .i64 high,zg za 0 0] 195 (0,0)):=by rw[<-ff];exact aL _ _
 have yO:zk w1.heap.size w1 W3:=af.trans (ay.mono (by omega));have Au:zk w.heap.size w W3:=ak.trans (yO.mono dB);have HS:zc (gQ w O1 O2 s v a b ne t.data.toList M (λq=>q<64*ne/\ax ET q=true) high w2.heap.size w1.heap.size W3 (high+1) high high 0 b O2 cK (zg za 0 0) []):=by
  refine⟨.cH Au,bR.of Au,h.other (S:=λ_=>False) (.cH Au) (λk e=>e.elim) (λk e=>e.elim) (λk e=>e.elim),ru.refl b,ai _,λk hk=>hk,λk hk=>.inl hk,λho=>by have:=(h.o2 _ ho).2;omega,λho=>by have:=(h.o2 _ ho).2;omega,λk e=>by simp[Value.ownBlock]at e,x3,⟨(ay.block _ cZ).trans oW,λ_=>by simp[cK]⟩,⟨rfl,.inl ⟨rfl,rfl⟩⟩,by omega,by omega,ai _,by simp,h.rb.pos,λq hq'=>?_,λj hj=>by simp at hj,λq=>?_⟩
  ·constructor
   ·intro h1;have h2:=h.rb.zero (q/64) (by omega);unfold ax at h1;rw[h2]at h1;simp at h1
   ·intro hb;have:=zjn (hi:=high) (λm hm=>by
     rcases gh high m with e|e
     ·have:=I9.out m e hm.1;rw[hm.2]at this;cases this
     ·exact e) hb
    omega
  ·rw[Ba];constructor
   ·intro e;cases e
   ·rintro ⟨h1,h2|⟨p,_,h2⟩⟩
    ·have:=I9.out q (by omega) h2.1.1;rw[h2.1.2]at this;cases this
    ·have:=zjn (hi:=high) (λm hm=>by
      rcases gh high m with e|e
      ·have:=I9.out m e hm.1;rw[hm.2]at this;cases this
      ·exact e) h2
     omega
 have RS:ge<w.heap.size:=hE.cj;have Dw:zc (∀W:zf,aE O2 w W->aH W ne ge ET):=λW tc=>⟨(tc.same ge RS hO).trans hE.row,hE.lt⟩
 have HR:zc _:=hR;have FT:zc _:=qu;clear h wu kV bU xu oW af ay x3 yO Au hE hi bK bh bz hR qu;go_wp2
 go_region
 all_goals
  clear ff zv2 c6 d6 jN;go_wp2
  go_loopw [10,11] (λnv av wr=>∃(k now:Nat) (b':cd) (O:Nat->Prop) (S:Nat->Nat) (pv:zh) (ps:List Nat),nv=ze .i64 now/\av=ze .i64 k/\zc (gQ w O1 O2 s v a b ne t.data.toList M (λq=>q<64*ne/\ax ET q=true) high w2.heap.size w1.heap.size wr (k+1) k k now b' O S pv ps))
   (λ_ av _=>(intOf av).toNat)
  case atStart=>exact⟨high,0,b,O2,cK,_,[],rfl,rfl,HS⟩
  case round=>
   clear HS;obtain⟨k,now,b',O,S,pv,ps,rfl,rfl,HS⟩:=hrel;have hkh:=HS.out.le;have yI:=Dw.out wr HS.out.tc;have vM:=PD ne ge cap ET k wr yI (by omega) (by omega);obtain⟨-,c1,-,-,-,-,c6⟩:=mD HS.out.st.box;have d6:=(oe HS.out.st.rb.s.box).2.2.2.2.2.2.1;obtain⟨gP,cP,eP,hgP,J4⟩:=HS.out.st.rb.zwO;have dP:=J4 now HS.out.nw;rw[eP]at d6;have zyG:=HS.out.nw;have Oi:(0:Int)<=(now:Int):=by omega
   have oZ:(now:Int)<(b'.m:Int):=by omega
   have zwn:=zrW HR.out (λx=>(HS.out.st.rb.s.set now zyG).lt x) HS.out.bk;have YH:zc _:=zwn;obtain⟨e0,BC⟩:∃e0,zc (e0=ax ET k):=⟨_,rfl⟩;obtain⟨m0,FW⟩:∃m0,zc (m0=kI v.nw (b'.Ts now) v.A):=⟨_,rfl⟩;rw[<-BC.out]at vM;rw[<-FW.out]at dP;have Hm:zc (zR t.data.toList M (λq=>q<64*ne/\ax ET q=true) k↔(e0&&v.e || m0)=true):=by
    refine YH.out.trans ?_;rw[sw,dE,<-FW.out,FT.out,BC.out];exact or_congr (and_congr ⟨λx=>x.2,λx=>⟨by omega,x⟩⟩ Iff.rfl) Iff.rfl
   obtain⟨x0,sK⟩:∃x0,zc (x0=(e0&&v.e || m0)):=⟨_,rfl⟩;clear yI zwn YH J4
   go_wp2_with fail
   refine vM.mono ?_;rintro e1 W ⟨rfl,hW⟩;subst W;clear vM
   go_upto_region 7 with fail
   go_cut [52] from 33 to 52 (λv52 wx=>v52=.bool x0/\wx=wr)
   case first=>
    obtain⟨ve,F6⟩:∃ve,zc (v.e=ve):=⟨_,rfl⟩;rw[F6.out]at c1;clear HS;cases e0<;>cases ve<;>cases m0
    all_goals
     go_wp2
     go_meet
     exact⟨by rw[sK.out,F6.out];rfl,rfl⟩
   case rest=>
    obtain⟨rfl,uJ⟩:=hcut;subst wc;cases x0 with
    |true=>
     have lW:=Fj ne w1.heap.size ne S k wr HS.out.sp.row (by omega) (by omega) HS.out.sp.lt;obtain⟨-,b1,-,-⟩:=qb HS.out.box
     go_upto_region 8 with fail
     clear c1 c6 d6 dP
     go_wp2_with fail
     refine lW.mono ?_;rintro e2 W1 ⟨rfl,eH,eC⟩;have fI:zc _:=HS.out.add eH eC (Hm.out.2 sK.out.symm) hB DY;clear HS Hm sK lW eH eC b1;obtain⟨S2,fI⟩:∃S2,zc (gQ w O1 O2 s v a b ne t.data.toList M (λq=>q<64*ne/\ax ET q=true) high w2.heap.size w1.heap.size W1 k k k now b' O S2 pv ps):=⟨_,fI⟩
     by_cases il:k=0
     ·subst il;have HF:zc _:=fI.out.bottom;clear fI;go_wp2;go_ret;exact⟨high,_,_,_,_,_,_,_,rfl,⟨yS,MO.out⟩,HF.out⟩
     ·obtain⟨p,ua⟩:∃p,zc (k=p+1):=⟨k-1,by show _=_;omega⟩;have AA:((k:Int)==0)=false:=by simp;omega
      by_cases hc:k<low/\now=0
      ·obtain⟨qq,rfl⟩:=hc;have HF:zc _:=fI.out.early HR.out (λm hm hE=>by have:=MR.out m (by omega);rw[hE.2]at this;cases this);have oV:decide ((k:Int)<(low:Int))=true:=by simp;omega
       clear fI;go_wp2;go_ret;exact⟨high,_,_,_,_,_,_,_,rfl,⟨yS,MO.out⟩,HF.out⟩
      ·have oJ:zc (∀n,gQ w O1 O2 s v a b ne t.data.toList M (λq=>q<64*ne/\ax ET q=true) high w2.heap.size w1.heap.size (W1.drewN n) (p+1) (p+1) (p+1) now b' O S2 pv ps):=by rw[<-ua.out];exact λn=>fI.out.drewN n hB DY
       have hle:=fI.out.le;have Ky:p<t.size:=by have:=ua.out;omega
       have mW:=λn=>zmx (oJ.out n).st now (t[p]'Ky).toNat e0 (oJ.out n).nw (UInt8.toNat_lt _) (by have:=(oJ.out n).mb;omega)
       obtain⟨-,-,-,-,-,-,q6⟩:=mD fI.out.st.box;have Tz:(k:Int)-1=(p:Int):=by have:=ua.out;omega
       have ja:(0:Int)<=(p:Int):=by omega
       have fD:(p:Int)<(t.size:Int):=by omega
       have Gy:zc (¬(k<low/\now=0)):=hc;clear hc fI il
       go_upto_region 9 with fail
       go_cut [69] from 59 to 69 (λv69 wx=>v69=.bool false/\wx=W1)
       case first=>
        clear mW q6 oJ
        by_cases h1:k<low
        ·have h2:now≠0:=λe=>Gy.out ⟨h1,e⟩
         have oV:decide ((k:Int)<(low:Int))=true:=by simp;omega
         have lz:((now:Int)==0)=false:=by simp;omega
         go_wp2
         go_meet
         exact⟨rfl,rfl⟩
        ·have oV:decide ((k:Int)<(low:Int))=false:=by simp;omega
         go_wp2
         go_meet
         exact⟨rfl,rfl⟩
       case rest=>
       obtain⟨rfl,uJ⟩:=hcut;subst wc
       go_upto_region 11 with fail
       have fU:prog.follows .mixedOrders=true:=by kernel_rfl
       refine xM 10 (λw'=>∃n,w'=W1.drewN n) fU ⟨1,rfl⟩ (by decide) (by kernel_rfl) ?_;intro os ck;simp only[nE,tV]at ck;subst ck
       repeat (go_big_quiet_step (fail))
       refine wpQuiet_nil ?_;rintro w' ⟨nq,rfl⟩ r' bZ;simp only[wM,wN]at bZ;subst bZ
       go_wp2_with fail
       refine(mW nq).mono ?_;rintro e2 W2 ⟨x,b2,rfl,hx,hm,hn,hs,st,tc,km⟩;have H3:zc _:=(oJ.out nq).read HR.out (Wy t Ky) (by rw[BC.out,ua.out];exact⟨λz=>⟨by have:=ua.out;omega,z⟩,λz=>z.2⟩) hx hm hn hs st tc km;obtain⟨pa,pc,Tx⟩:=C6 H3.out.pa;subst Tx;obtain⟨j0,j1,j2,j3⟩:=qb H3.out.box;have az:=H3.out.pa;have du:=H3.out.len;have TR:=H3.out.tc.size;have nh:w2.heap.size<W2.heap.size:=(ap.1 H3.out.box).1;have CE:ps.length<=100000000:=by omega
       obtain⟨pn,jw⟩:∃pn,ps.length=pn:=⟨_,rfl⟩;rw[jw]at az j3 CE;have vy:zc _:=jw;have BK:zc (∀k,(Value.slice pa pn pc).ownBlock=zb k->k≠w2.heap.size):=by rw[<-jw];exact λk e=>(H3.out.ED e).1
       obtain⟨i1,hj,qB,kW,n9⟩:=info_parts Tryz.zwD;have Qx:zc _:=H3.out.box;clear mW oJ hx hm hn hs st tc km q6 du jw
       go_wp2_with (at_builtin;refine U2 W2 _ rfl rfl (.tmp 86) (.tmp 88) 23 rfl w.heap.size 3 i1 (ze .i64 0) 8 underlying23 hj qB kW n9 rfl (.slice pa pn pc) pn (uW ps) (ze .i64 (x:Int)) rfl az rfl rfl CE (by omega) TR ?_;intro g7 bS W7 fu dW iH;have qm:=(dW.block w2.heap.size nh (λe=>BK.out _ e.symm rfl)).trans Qx.out;have f7:=cF _ _ 3 _ _ qm;have k7:=(qb qm).2.2.2)
       have HP:zc (gQ w O1 O2 s v a b ne t.data.toList M (λq=>q<64*ne/\ax ET q=true) high w2.heap.size w1.heap.size (W7.setCell ⟨w2.heap.size,3,za⟩ (zg (zb ⟨g7,0,za⟩) (pn+1) bS)) (p+1) p p x b2 (news O (W1.drewN nq) W2) S2 (zg (zb ⟨g7,0,za⟩) (pn+1) bS) (ps++[x])):=by
        have hh:=H3.out;rw[<-vy.out]at fu dW iH ⊢;exact hh.push fu dW (iH.imp id Nat.le_of_lt) hB DY
       clear H3 fu dW iH qm f7 k7
       go_roundw
       case rel=>exact⟨p,x,b2,_,_,_,_,rfl,by congr 1,HP⟩
       case measure=>simp[intOf];have:=ua.out;omega
    |false=>
     have fI:zc _:=HS.out.skip (λx=>by have:=Hm.out.1 x;rw[<-sK.out]at this;cases this);clear HS Hm sK c1 c6 d6 dP;obtain⟨W1,cC⟩:∃W1,wr=W1:=⟨_,rfl⟩;subst wr
     by_cases il:k=0
     ·subst il;have HF:zc _:=fI.out.bottom;clear fI;go_wp2;go_ret;exact⟨high,_,_,_,_,_,_,_,rfl,⟨yS,MO.out⟩,HF.out⟩
     ·obtain⟨p,ua⟩:∃p,zc (k=p+1):=⟨k-1,by show _=_;omega⟩;have AA:((k:Int)==0)=false:=by simp;omega
      by_cases hc:k<low/\now=0
      ·obtain⟨qq,rfl⟩:=hc;have HF:zc _:=fI.out.early HR.out (λm hm hE=>by have:=MR.out m (by omega);rw[hE.2]at this;cases this);have oV:decide ((k:Int)<(low:Int))=true:=by simp;omega
       clear fI;go_wp2;go_ret;exact⟨high,_,_,_,_,_,_,_,rfl,⟨yS,MO.out⟩,HF.out⟩
      ·have oJ:zc (∀n,gQ w O1 O2 s v a b ne t.data.toList M (λq=>q<64*ne/\ax ET q=true) high w2.heap.size w1.heap.size (W1.drewN n) (p+1) (p+1) (p+1) now b' O S pv ps):=by rw[<-ua.out];exact λn=>fI.out.drewN n hB DY
       have hle:=fI.out.le;have Ky:p<t.size:=by have:=ua.out;omega
       have mW:=λn=>zmx (oJ.out n).st now (t[p]'Ky).toNat e0 (oJ.out n).nw (UInt8.toNat_lt _) (by have:=(oJ.out n).mb;omega)
       obtain⟨-,-,-,-,-,-,q6⟩:=mD fI.out.st.box;have Tz:(k:Int)-1=(p:Int):=by have:=ua.out;omega
       have ja:(0:Int)<=(p:Int):=by omega
       have fD:(p:Int)<(t.size:Int):=by omega
       have Gy:zc (¬(k<low/\now=0)):=hc;clear hc fI il
       go_upto_region 9 with fail
       go_cut [69] from 59 to 69 (λv69 wx=>v69=.bool false/\wx=W1)
       case first=>
        clear mW q6 oJ
        by_cases h1:k<low
        ·have h2:now≠0:=λe=>Gy.out ⟨h1,e⟩
         have oV:decide ((k:Int)<(low:Int))=true:=by simp;omega
         have lz:((now:Int)==0)=false:=by simp;omega
         go_wp2
         go_meet
         exact⟨rfl,rfl⟩
        ·have oV:decide ((k:Int)<(low:Int))=false:=by simp;omega
         go_wp2
         go_meet
         exact⟨rfl,rfl⟩
       case rest=>
       obtain⟨rfl,uJ⟩:=hcut;subst wc
       go_upto_region 11 with fail
       have fU:prog.follows .mixedOrders=true:=by kernel_rfl
       refine xM 10 (λw'=>∃n,w'=W1.drewN n) fU ⟨1,rfl⟩ (by decide) (by kernel_rfl) ?_;intro os ck;simp only[nE,tV]at ck;subst ck
       repeat (go_big_quiet_step (fail))
       refine wpQuiet_nil ?_;rintro w' ⟨nq,rfl⟩ r' bZ;simp only[wM,wN]at bZ;subst bZ
       go_wp2_with fail
       refine(mW nq).mono ?_;rintro e2 W2 ⟨x,b2,rfl,hx,hm,hn,hs,st,tc,km⟩;have H3:zc _:=(oJ.out nq).read HR.out (Wy t Ky) (by rw[BC.out,ua.out];exact⟨λz=>⟨by have:=ua.out;omega,z⟩,λz=>z.2⟩) hx hm hn hs st tc km;obtain⟨pa,pc,Tx⟩:=C6 H3.out.pa;subst Tx;obtain⟨j0,j1,j2,j3⟩:=qb H3.out.box;have az:=H3.out.pa;have du:=H3.out.len;have TR:=H3.out.tc.size;have nh:w2.heap.size<W2.heap.size:=(ap.1 H3.out.box).1;have CE:ps.length<=100000000:=by omega
       obtain⟨pn,jw⟩:∃pn,ps.length=pn:=⟨_,rfl⟩;rw[jw]at az j3 CE;have vy:zc _:=jw;have BK:zc (∀k,(Value.slice pa pn pc).ownBlock=zb k->k≠w2.heap.size):=by rw[<-jw];exact λk e=>(H3.out.ED e).1
       obtain⟨i1,hj,qB,kW,n9⟩:=info_parts Tryz.zwD;have Qx:zc _:=H3.out.box;clear mW oJ hx hm hn hs st tc km q6 du jw
       go_wp2_with (at_builtin;refine U2 W2 _ rfl rfl (.tmp 86) (.tmp 88) 23 rfl w.heap.size 3 i1 (ze .i64 0) 8 underlying23 hj qB kW n9 rfl (.slice pa pn pc) pn (uW ps) (ze .i64 (x:Int)) rfl az rfl rfl CE (by omega) TR ?_;intro g7 bS W7 fu dW iH;have qm:=(dW.block w2.heap.size nh (λe=>BK.out _ e.symm rfl)).trans Qx.out;have f7:=cF _ _ 3 _ _ qm;have k7:=(qb qm).2.2.2)
       have HP:zc (gQ w O1 O2 s v a b ne t.data.toList M (λq=>q<64*ne/\ax ET q=true) high w2.heap.size w1.heap.size (W7.setCell ⟨w2.heap.size,3,za⟩ (zg (zb ⟨g7,0,za⟩) (pn+1) bS)) (p+1) p p x b2 (news O (W1.drewN nq) W2) S (zg (zb ⟨g7,0,za⟩) (pn+1) bS) (ps++[x])):=by
        have hh:=H3.out;rw[<-vy.out]at fu dW iH ⊢;exact hh.push fu dW (iH.imp id Nat.le_of_lt) hB DY
       clear H3 fu dW iH qm f7 k7
       go_roundw
       case rel=>exact⟨p,x,b2,_,_,_,_,rfl,by congr 1,HP⟩
       case measure=>simp[intOf];have:=ua.out;omega
end
section
attribute [local go_sem ↓] wp_at_zero wp_at_succ
def P4(O1 O2:Nat->Prop)(w:zf)(s:Nat)(v:ey)(a b:cd)(u:aJ)(M:PA)(E:Nat->Prop)(fr:Nat)(e:Ending)(w':zf):Prop:=
 ∃(k now n cG:Nat) (ok:Bool) (a':cd) (O:Nat->Prop),e=.returned (.tuple #[ze .i64 cG,.bool ok])/\sE w O1 O2 s v a b u M E fr w' k now a' O/\k<=max fr u.length/\(∀x,E x->x<=n)/\tY u M E fr n cG ok
def WV(O1:Nat->Prop)(w:zf)(nw:Nat)(u:aJ)(M:PA)(E:Nat->Prop)(fr high:Nat)(av:zh):Prop:=
 av=zd za\/∃(t:Nat) (Bk:Nat->Nat->Prop),av=zd (zb ⟨t,0,za⟩)/\(∀W,aE O1 w W->∀k,k<high->zm prog 219 #[zd (zb ⟨t,0,za⟩),ze .i64 k] W λe w'=>∃rv,e=.returned rv/\((rv=zg za 0 0/\∀p,¬Bk k p)\/∃(g:Nat) (T:Nat->Nat),rv=zg (zb ⟨g,0,za⟩) nw nw/\aH w' nw g T/\si nw T (Bk k))/\zk W.heap.size W w')/\∀k,fr<=k->k<high->(∀p,jm u M fr (k+1) p->¬Bk k p)->∀x,k<x->E x->¬rp u M fr x
theorem zpm{M:PA}{n nw:Nat}{f:Nat->Nat->Bool}{F G:Nat->Nat->Nat}{X Y:Nat->Nat}(hR:py M n nw f F G X Y){u:aJ}{i j:Nat}{T U:Nat->Nat}{B:Nat->Prop}(hT:si nw T (jm u M i j))(hl:∀x,T x<18446744073709551616)(hU:si nw U B)(hm:kI nw T U=false):∀p,jm u M i j p->¬B p:=λp h1 h2=>by
 have hp:=(hR.D p).1 (h1.2.2.inside hR.fi hR.fo);have hn:=hR.kC;have:kI nw T U=true:=(VS nw T U hl).2 ⟨p,by omega,(hT p (by omega)).2 h1,(hU p (by omega)).2 h2⟩;rw[hm]at this;cases this
theorem zk7{O1 O2:Nat->Prop}{w:zf}{s:Nat}{v:ey}{a b:cd}(h:gR O1 O2 w s v a b)(M:PA)(hR:py M v.n v.nw v.f v.F v.G v.A v.L)(qu:v.e=true↔M.e)(t:ByteArray)(ht:t.size<=4096)(ne ge cap fr:Nat)(ET:Nat->Nat)(hE:aH w ne ge ET)(hne:ne<=100)(hO:¬O1 ge)(hx:∃q,q<64*ne/\ax ET q=true)(hq:∀q,q<64*ne->ax ET q=true->q<=t.size)(eT:fr<=t.size)(vJ:fr<64*ne)(ham:a.m<=90000000)(av:zh)
  (qp:∀high,(high<64*ne/\ax ET high=true)->(∀q,q<64*ne->ax ET q=true->q<=high)->WV O1 w v.nw t.data.toList M (λq=>q<64*ne/\ax ET q=true) fr high av):
  zm prog 231 #[zd (zb ⟨s,0,za⟩),.string t,ze .i64 fr,zg (zb ⟨ge,0,za⟩) ne cap,av] w λe w'=>P4 O1 O2 w s v a b t.data.toList M (λq=>q<64*ne/\ax ET q=true) fr e w':=by
 have hB:=h.c.c1.le;have N6:=PD ne ge cap ET fr w hE vJ (by omega);obtain⟨ve,F6⟩:∃ve,zc (v.e=ve):=⟨_,rfl⟩;obtain⟨x0,sK⟩:∃x0,zc (x0=(ve&&ax ET fr)):=⟨_,rfl⟩;obtain⟨ef,Yi⟩:∃ef,zc (ef=ax ET fr):=⟨_,rfl⟩;rw[<-Yi.out]at N6;have c1:=(mD h.box).2.1;rw[F6.out]at c1;have qY:zc (sE w O1 O2 s v a b t.data.toList M (λq=>q<64*ne/\ax ET q=true) fr w fr 0 a O1):=by
  refine⟨aE.refl _ _,λ_ _ e=>e,h,ru.refl a,ai _,λ_ x=>x,λ_ x=>.inl x,ai _,h.ra.pos,λq hq'=>⟨λh1=>?_,λh1=>?_⟩⟩
  ·have h2:=h.ra.zero (q/64) (by omega);unfold ax at h1;rw[h2]at h1;simp at h1
  ·have:=h1.1;omega
 have dr:zc (tY t.data.toList M (λq=>q<64*ne/\ax ET q=true) fr fr fr x0):=by
  have hL:rp t.data.toList M fr fr↔M.e:=⟨λx=>x.elim (λy=>y.2) (λy=>by omega),λx=>.inl ⟨rfl,x⟩⟩;cases hb:x0
  ·refine .inr ⟨rfl,rfl,λx hx yI Gr=>?_⟩;have hxe:x=fr:=by
    rcases Gr with ⟨e,_⟩|⟨e,_⟩<;>omega
   subst hxe;have h1:=qu.2 (hL.1 Gr);have:=sK.out;rw[hb,<-F6.out,h1,yI.2]at this;cases this
  ·have:=sK.out;rw[hb,<-F6.out]at this;have h2:=Bool.and_eq_true_iff.1 this.symm;exact .inl ⟨rfl,⟨vJ,h2.2⟩,hL.2 (qu.1 h2.1),ai _,λx h _ _=>h⟩
 have hg:=Vh ne ge cap ET w hE (by omega);have RS:ge<w.heap.size:=hE.cj;have Dw:zc (∀W:zf,aE O1 w W->aH W ne ge ET):=λW tc=>⟨(tc.same ge RS hO).trans hE.row,hE.lt⟩
 have HR:zc _:=hR;have XV:=aC qp;clear h hE hR qu qp hO
 go_enter func231,ntmps231
 go_upto_region 1 with fail
 go_cut [12,13] from 17 to 27 (λv12 v13 wx=>v12=ze .i64 fr/\v13=.bool x0/\wx=w)
 case first=>
  have fE:=sK.out;rw[<-Yi.out]at fE;have zK:zc _:=fE;clear fE qY dr hg;cases ve with
  |false=>
   go_wp2
   go_meet
   exact⟨rfl,by rw[zK.out];rfl,rfl⟩
  |true=>
   go_wp2_with fail
   refine N6.mono ?_;rintro e1 W ⟨rfl,hW⟩;subst W;clear N6;go_wp2
   go_meet
   exact⟨rfl,by rw[zK.out];rfl,rfl⟩
 case rest=>
  obtain⟨rfl,rfl,uJ⟩:=hcut;subst wc;clear N6 c1
  go_wp2_with fail
  refine hg.mono ?_;rintro e w1 ⟨hv,rfl,qw,ak⟩;obtain⟨high,rfl,yS,AE,xk⟩:∃high:Nat,hv=high/\high<64*ne/\ax ET high=true/\∀q,high<q->q<64*ne->ax ET q=false:=by
   rcases qw with ⟨-,h1⟩|⟨p,h1⟩
   ·obtain⟨q,h2,h3⟩:=hx;rw[h1 q h2]at h3;cases h3
   ·exact⟨p,h1⟩
  have hht:=hq high yS AE;have Tf:∀q,q<64*ne->ax ET q=true->q<=high:=λq h1 h2=>by
   rcases gh high q with e|e
   ·have:=xk q e h1;rw[h2]at this;cases this
   ·exact e
  have qV:=aC (XV.out high ⟨yS,AE⟩ Tf);have Yw:zc _:=Tf;have eO:zc _:=qY.out.below ak;clear hg qw xk AE hx XV qY Tf ak;go_wp2
  go_loopw [12,13,15,16] (λev kv nv av wr=>∃(k now cG:Nat) (ok:Bool) (a':cd) (O:Nat->Prop),ev=ze .i64 cG/\kv=.bool ok/\nv=ze .i64 now/\av=ze .i64 k/\zc (sE w O1 O2 s v a b t.data.toList M (λq=>q<64*ne/\ax ET q=true) fr wr k now a' O)/\zc (tY t.data.toList M (λq=>q<64*ne/\ax ET q=true) fr k cG ok)/\k<=max fr high)
   (λ_ _ _ av _=>high-(intOf av).toNat)
  case atStart=>exact⟨fr,0,fr,x0,a,O1,rfl,rfl,rfl,rfl,eO,dr,by omega⟩
  case round=>
   clear eO dr;obtain⟨k,now,cG,ok,a',O,rfl,rfl,rfl,rfl,HS,vt,hkh⟩:=hrel
   by_cases hlt:k<high
   ·have hd:decide ((k:Int)<(high:Int))=true:=by simp;omega
    have iZ:k<t.size:=by omega
    have oJ:zc (∀n,sE w O1 O2 s v a b t.data.toList M (λq=>q<64*ne/\ax ET q=true) fr (wr.drewN n) k now a' O):=λn=>HS.out.below ⟨rfl,rfl,rfl,ai _,λ_ _=>rfl⟩
    obtain⟨bg,Yb⟩:∃bg,zc (bg=decide (k=fr)):=⟨_,rfl⟩;have zx4:((k:Int)==(fr:Int))=bg:=by
     rw[Yb.out]
     by_cases e:k=fr
     ·simp[e]
     ·have e2:¬(k:Int)=(fr:Int):=by omega
      simp[e,e2]
    have pM:=HS.out.mb;have mW:=λn=>zrG (oJ.out n).st now (t[k]'iZ).toNat bg (oJ.out n).nw (UInt8.toNat_lt _) (by omega)
    have q5:=(mD HS.out.st.box).2.2.2.2.2.1;have il:(0:Int)<=(k:Int):=by omega
    have cM:(k:Int)<(t.size:Int):=by omega
    have hle:=HS.out.le;clear HS
    go_upto_region 7 with fail
    have fU:prog.follows .mixedOrders=true:=by kernel_rfl
    refine xM 11 (λw'=>∃n,w'=wr.drewN n) fU ⟨1,rfl⟩ (by decide) (by kernel_rfl) ?_;intro os ck;simp only[nE,tV]at ck;subst ck
    repeat (go_big_quiet_step (fail))
    refine wpQuiet_nil ?_;rintro w' ⟨nq,rfl⟩ r' bZ;simp only[wM,wN]at bZ;subst bZ
    go_wp2_with fail
    refine(mW nq).mono ?_;rintro e2 W2 ⟨x,a2,rfl,hx,hm,hn,hs,st,tc,km⟩;have H3:zc _:=(oJ.out nq).read HR.out (Wy t iZ) (by rw[Yb.out];simp) hx hm hn hs st tc km;clear mW oJ hm hn hs st tc km q5 zx4;obtain⟨-,-,-,-,-,q5,-⟩:=mD H3.out.st.box;have d5:=(oe H3.out.st.ra.s.box).2.2.2.2.2.1;obtain⟨gS,cS,eS,Ef,Gx⟩:=H3.out.st.ra.kZ;have dS:=Gx x hx;rw[eS]at d5;have n8:=H3.out.st.ra.s.set x hx;have fE:(0:Int)<=(x:Int):=by omega
    have mj:(x:Int)<(a2.m:Int):=by omega
    have zyJ:=H3.out.st.c.c1.gY;clear Gx eS
    go_upto_region 8 with fail
    go_cut [70] from 48 to 70 (λv70 wx=>∃bb:Bool,v70=.bool bb/\zk W2.heap.size W2 wx/\zc (bb=true->∀y,k<y->(y<64*ne/\ax ET y=true)->¬rp t.data.toList M fr y))
    case first=>
     by_cases hz:x=0
     ·have HD:zc (∀y,k<y->(y<64*ne/\ax ET y=true)->¬rp t.data.toList M fr y):=by
       have h4:=H3.out;rw[hz]at h4;exact λy hy _=>h4.dead HR.out (by omega) y hy
      have AA:((x:Int)==0)=true:=by simp[hz]
      have Hz:zc _:=hz;clear hz H3 vt
      go_region
      all_goals
       go_wp2
       go_meet
       exact⟨true,rfl,(Below.refl _ _).drew,λ_=>HD.out⟩
     ·have AA:((x:Int)==0)=false:=by simp[hz]
      have Hz:zc _:=hz;clear hz;rcases qV.out with Si|⟨tt,Bk,Si,dg,Tg⟩
      ·subst Si;clear H3 vt
       go_region
       all_goals
        go_wp2
        go_meet
        exact⟨false,rfl,(Below.refl _ _).drew,λe=>by cases e⟩
      ·subst Si;have zxZ:=dg W2.drew H3.out.tc.drew k hlt;have fC:=n8.cj;have iL:s<W2.heap.size:=(ap.1 H3.out.st.box).1;have lF:a2.r<W2.heap.size:=(ap.1 H3.out.st.ra.s.box).1;have yu:zc (∀(W3:zf) (rv:zh),zk W2.heap.size W2 W3->((rv=zg za 0 0/\∀p,¬Bk k p)\/∃(g:Nat) (T:Nat->Nat),rv=zg (zb ⟨g,0,za⟩) v.nw v.nw/\aH W3 v.nw g T/\si v.nw T (Bk k))->zm prog 195 #[zg (zb ⟨a2.gx x,0,za⟩) v.nw v.nw,rv] W3 λe w'=>∃mb:Bool,e=.returned (.bool mb)/\zc (mb=false->∀y,k<y->(y<64*ne/\ax ET y=true)->¬rp t.data.toList M fr y)/\zk W3.heap.size W3 w'):=by
        intro W3 rv ay CG;rcases CG with ⟨rfl,hno⟩|⟨g,T,rfl,hT,rE⟩
        ·refine(zlo v.nw _ v.nw W3).mono ?_;rintro e w' ⟨rfl,hb⟩;exact⟨false,rfl,λ_=>Tg k hle hlt (λp _=>hno p),hb⟩
        ·refine(zml v.nw _ g v.nw v.nw (a2.Ts x) T W3 (n8.below ay) hT zyJ).mono ?_;rintro e w' ⟨rfl,hb⟩;exact⟨_,rfl,λhm=>Tg k hle hlt (zpm HR.out H3.out.fw n8.lt rE hm),hb⟩
       clear H3 vt dg Tg qV
       go_region_held3 (λw'=>w'.cell? ⟨s,5,za⟩=zb (zd (zb ⟨a2.r,0,za⟩))/\w'.cell? ⟨a2.r,5,za⟩=zb (zg (zb ⟨gS,0,za⟩) a2.m cS)/\w'.cell? ⟨gS,x,za⟩=zb (zg (zb ⟨a2.gx x,0,za⟩) v.nw v.nw)) ((first|exact⟨q5,d5,dS⟩|exact⟨n5,m5,nS⟩|exact⟨o5,p5,oS⟩|go_keep)) ((first|(go_at_call 219;refine zxZ.mono ?_;rintro e3 W3 ⟨rv,rfl,CG,ay⟩;have Av:zk W2.heap.size W2 W3:=⟨ay.os,ay.tape,ay.output,ay.size,ay.block⟩;have n5:=(Av.cell (p:=⟨s,5,za⟩) iL).trans q5;have m5:=(Av.cell (p:=⟨a2.r,5,za⟩) lF).trans d5;have nS:=(Av.cell (p:=⟨gS,x,za⟩) Ef).trans dS;have ti:=yu.out W3 rv Av CG;clear CG)|(go_at_call 195;refine ti.mono ?_;rintro e4 W4 ⟨mb,rfl,Hmb,aG⟩;have o5:=(aG.cell (p:=⟨s,5,za⟩) (bA iL Av.size)).trans n5;have p5:=(aG.cell (p:=⟨a2.r,5,za⟩) (bA lF Av.size)).trans m5;have oS:=(aG.cell (p:=⟨gS,x,za⟩) (bA Ef Av.size)).trans nS)))
       go_wp2
       go_meet
       exact⟨!mb,rfl,Av.trans (aG.mono Av.size),λe=>Hmb.out (by simpa using e)⟩
    case rest=>
     obtain⟨bb,rfl,ed,yp⟩:=hcut;cases bb with
     |true=>
      have vV:t.data.toList.length=t.size:=by simp
      have HF:zc (P4 O1 O2 w s v a b t.data.toList M (λq=>q<64*ne/\ax ET q=true) fr (.returned (.tuple #[ze .i64 cG,.bool ok])) wc):=⟨k+1,x,high,cG,ok,a2,_,rfl,H3.out.below ed,by omega,λy hy=>Yw.out y hy.1 hy.2,vt.out.last (yp.out rfl) high (by omega)⟩;clear H3 vt qV yp n8;go_wp2
      go_ret2
      exact HF.out
     |false=>
      have H4:zc _:=H3.out.below ed;have yI:=Dw.out wc H4.out.tc;have vM:=PD ne ge cap ET (k+1) wc yI (by omega) (by omega);obtain⟨-,-,-,-,-,r5,-⟩:=mD H4.out.st.box;have d6:=(oe H4.out.st.ra.s.box).2.2.2.2.2.2.1;obtain⟨gP,cP,eP,hgP,J4⟩:=H4.out.st.ra.zwO;have dP:=J4 x hx;rw[eP]at d6;have zvC:=aC (H4.out.ends HR.out (by omega));obtain⟨m0,FW⟩:∃m0,zc (m0=kI v.nw (a2.Ts x) v.L):=⟨_,rfl⟩;rw[<-FW.out]at dP;obtain⟨e0,BC⟩:∃e0,zc (e0=ax ET (k+1)):=⟨_,rfl⟩;rw[<-BC.out]at vM;have iA:((k+1:Nat):Int)=(k:Int)+1:=by omega
      rw[iA]at vM;clear H3 yI J4 eP q5 d5 dS n8 yp ed qV iA;cases m0 with
      |false=>
       have kN:zc _:=vt.out.zwJ (λ_ hL=>by have:=zvC.out.1 hL;rw[<-FW.out]at this;cases this);clear vM vt;go_wp2
       go_roundw
       case rel=>exact⟨k+1,x,cG,ok,a2,_,rfl,rfl,rfl,by go_num,H4,kN,by omega⟩
       case measure=>simp[intOf];omega
      |true=>
       go_wp2_with fail
       refine vM.mono ?_;rintro e3 W5 ⟨rfl,td⟩;subst W5;clear vM;cases e0 with
       |false=>
        have kN:zc _:=vt.out.zwJ (λhE3 _=>by have:=hE3.2;rw[<-BC.out]at this;cases this);clear vt;go_wp2
        go_roundw
        case rel=>exact⟨k+1,x,cG,ok,a2,_,rfl,rfl,rfl,by go_num,H4,kN,by omega⟩
        case measure=>simp[intOf];omega
       |true=>
        have kN:zc (tY t.data.toList M (λq=>q<64*ne/\ax ET q=true) fr (k+1) (k+1) true):=tY.hit ⟨by omega,BC.out.symm⟩ (zvC.out.2 FW.out.symm);clear vt;go_wp2
        go_roundw
        case rel=>exact⟨k+1,x,k+1,true,a2,_,by go_num,rfl,rfl,by go_num,H4,kN,by omega⟩
        case measure=>simp[intOf];omega
   ·have hd:decide ((k:Int)<(high:Int))=false:=by simp;omega
    have vV:t.data.toList.length=t.size:=by simp
    have iZ:k<=max fr t.data.toList.length:=by omega
    have HF:zc (P4 O1 O2 w s v a b t.data.toList M (λq=>q<64*ne/\ax ET q=true) fr (.returned (.tuple #[ze .i64 cG,.bool ok])) wr):=⟨k,now,k,cG,ok,a',O,rfl,HS.out,iZ,λx hx=>by have:=Yw.out x hx.1 hx.2;omega,vt.out⟩;clear HS vt qV;go_wp2
    go_ret2
    exact HF.out
end
variable {lo cU pl a sz n B k:Nat}{w w':zf}{Q Q' R:Nat -> Option Pt}{p q:Pt}{v:zh}{xs:List zh}
def je(xs:List (Nat×Pt)):List zh:=xs.map λx=>zd (zb ⟨x.1,0,za⟩)
def gH:List (Nat×fR)->List zh
 |[]=>[]
 |(a,(_,o))::xs=>zd (zb ⟨a,0,za⟩) :: .bool o::gH xs
theorem LQ:∀(xs ys:List (Nat×fR)),gH (xs++ys)=gH xs++gH ys
 |[],_=>rfl
 |(_,_,_)::xs,ys=>by simp[gH,LQ xs ys]
theorem WM:∀(xs:List (Nat×fR)) (i a:Nat) (q:Pt) (o:Bool),xs[i]?=zb (a,q,o)->(gH xs)[i*2]?=zb (zd (zb ⟨a,0,za⟩))/\(gH xs)[i*2+1]?=zb (.bool o)
 |(a0,q0,o0)::xs,0,a,q,o,h=>by simp at h;obtain⟨rfl,-,rfl⟩:=h;exact⟨rfl,rfl⟩
 |(a0,q0,o0)::xs,i+1,a,q,o,h=>by
  obtain⟨h1,h2⟩:=WM xs i a q o (by simpa using h);rw[show (i+1)*2=i*2+1+1 from by omega];exact⟨h1,h2⟩
structure sN(lo:Nat)(w:zf)(pl:Nat)(Q:Nat->Option Pt)(a:Nat)(p:Pt)(f:zh):Prop where
 lo:lo<=a
 q:Q a=zb p
 box:∃v,w.heap[a]?=zb (zl #[zd (zb ⟨pl,0,za⟩),v,f,zd za] 222 (0,0))/\aR w v p
 wt:aF p<=2000
def mG:Pt->List fR
 |.seq p q=>tS (jV (.seq p q))
 |.aw b mn mx=>gI b mn.toNat mx
 |_=>[]
inductive dI (lo:Nat) (w:zf) (pl:Nat) (Q:Nat->Option Pt):Nat->Pt->Prop
 |leaf (a:Nat) (p:Pt):sN lo w pl Q a p .nilIface->lJ p->dI lo w pl Q a p
 |group (a a':Nat) (b:Pt) (g:Int):sN lo w pl Q a (.aT b g) (.iface 242 (.agg #[ze .i64 g,zd (zb ⟨a',0,za⟩)]))->dI lo w pl Q a' b->dI lo w pl Q a (.aT b g)
 |choice (a:Nat) (l r:Pt) (go cap:Nat) (xs:List (Nat×Pt)):sN lo w pl Q a (.aQ l r) (.iface 311 (.agg #[zg (zb ⟨go,0,za⟩) xs.length cap]))->w.ownsRow lo 198 1 (zg (zb ⟨go,0,za⟩) xs.length cap) xs.length (je xs)->xs.map Prod.snd=dw (.aQ l r)->(∀x,x∈xs->dI lo w pl Q x.1 x.2)->dI lo w pl Q a (.aQ l r)
 |chain (a:Nat) (p:Pt) (go cap:Nat) (xs:List (Nat×fR)):sN lo w pl Q a p (.iface 305 (.agg #[zg (zb ⟨go,0,za⟩) xs.length cap]))->w.ownsRow lo 299 2 (zg (zb ⟨go,0,za⟩) xs.length cap) xs.length (gH xs)->xs.map Prod.snd=mG p->(∀l r,p≠.aQ l r)->(∀b g,p≠.aT b g)->(∀b,p≠.aw b 0 (-1))->(∀f,p≠.set f)->(∀x,x∈xs->dI lo w pl Q x.1 x.2.1)->dI lo w pl Q a p
 |rounds (a a':Nat) (b:Pt):sN lo w pl Q a (.aw b 0 (-1)) (.iface 313 (.agg #[zd (zb ⟨a,0,za⟩),zd (zb ⟨a',0,za⟩)]))->dI lo w pl Q a' b->dI lo w pl Q a (.aw b 0 (-1))
theorem sN.keep{f:zh}(h:sN lo w pl Q a p f)(hl:cU<=lo)(hk:∀k,lo<=k->k<w.heap.size->w'.heap[k]?=w.heap[k]?)(hm:bR w w')(hQ:∀k q,Q k=zb q->Q' k=zb q):sN cU w' pl Q' a p f:=by
 obtain⟨v,h1,h2⟩:=h.box;exact⟨aU hl h.lo,hQ a p h.q,⟨v,(hk a h.lo (ap.1 h1).1).trans h1,aR.keep hm p v h2⟩,h.wt⟩
theorem qO{e:zn}(h:w.ownsRow lo e sz v n xs)(hl:cU<=lo):w.ownsRow cU e sz v n xs:=by
 refine⟨h.1,?_⟩;rcases h.2 with h2|⟨g,cap,aA,h1,h2,h3⟩
 ·exact .inl h2
 ·exact .inr ⟨g,cap,aA,h1,by omega,h3⟩
theorem Pa{e:zn}(h:w.ownsRow lo e sz v n xs)(hk:∀k,lo<=k->k<w.heap.size->w'.heap[k]?=w.heap[k]?):w'.ownsRow lo e sz v n xs:=by
 refine⟨h.1,?_⟩;rcases h.2 with h2|⟨g,cap,aA,h1,h2,h3,h4⟩
 ·exact .inl h2
 ·exact .inr ⟨g,cap,aA,h1,h2,(hk g h2 (ap.1 h3).1).trans h3,h4⟩
theorem dI.keep(h:dI lo w pl Q a p)(hl:cU<=lo)(hk:∀k,lo<=k->k<w.heap.size->w'.heap[k]?=w.heap[k]?)(hm:bR w w')(hQ:∀k q,Q k=zb q->Q' k=zb q):dI cU w' pl Q' a p:=by
 induction h with
 |leaf a p h1 h2=>exact .leaf a p (h1.keep hl hk hm hQ) h2
 |group a a' b g h1 _ ih=>exact .group a a' b g (h1.keep hl hk hm hQ) ih
 |choice a l r go cap xs h1 h2 h3 _ ih=>exact .choice a l r go cap xs (h1.keep hl hk hm hQ) (qO (Pa h2 hk) hl) h3 ih
 |chain a p go cap xs h1 h2 h3 h4 h5 h6 h7 _ ih=>exact .chain a p go cap xs (h1.keep hl hk hm hQ) (qO (Pa h2 hk) hl) h3 h4 h5 h6 h7 ih
 |rounds a a' b h1 _ ih=>exact .rounds a a' b (h1.keep hl hk hm hQ) ih
theorem dI.Rp(h:dI lo w pl Q a p):∃f,sN lo w pl Q a p f/\(f=.nilIface->lJ p)/\(f=.nilIface\/∃t x,f=.iface t x):=by
 cases h with
 |leaf _ _ h1 h2=>exact⟨_,h1,λ_=>h2,.inl rfl⟩
 |group _ a' b g h1 _=>exact⟨_,h1,λe=>(by cases e),.inr ⟨_,_,rfl⟩⟩
 |choice _ l r go cap xs h1 _ _ _=>exact⟨_,h1,λe=>(by cases e),.inr ⟨_,_,rfl⟩⟩
 |chain _ _ go cap xs h1 _ _ _ _ _ _ _=>exact⟨_,h1,λe=>(by cases e),.inr ⟨_,_,rfl⟩⟩
 |rounds _ a' b h1 _=>exact⟨_,h1,λe=>(by cases e),.inr ⟨_,_,rfl⟩⟩
def kx(B:Nat)(w:zf)(pl:Nat)(Q:Nat->Option Pt):Prop:=∀a q,Q a=zb q->B<=a/\aF q<=2000/\∃v f,w.heap[a]?=zb (zl #[zd (zb ⟨pl,0,za⟩),v,f,zd za] 222 (0,0))/\aR w v q
theorem kx.keep{B':Nat}(h:kx B w pl Q)(hl:B'<=B)(hk:∀k,B<=k->k<w.heap.size->w'.heap[k]?=w.heap[k]?)(hm:bR w w'):kx B' w' pl Q:=λa q hq=>by
 obtain⟨h1,h2,v,f,h3,h4⟩:=h a q hq;exact⟨by omega,h2,v,f,(hk a h1 (ap.1 h3).1).trans h3,aR.keep hm q v h4⟩
def qU(Q R:Nat->Option Pt)(k:Nat):Option Pt:=match Q k with
 |some q=>zb q
 |none=>R k
theorem WU(h:Q k=zb q):qU Q R k=zb q:=by unfold qU;rw[h]
theorem Wl(h0:Q k=za)(h:R k=zb q):qU Q R k=zb q:=by unfold qU;rw[h0];exact h
theorem ztY(h:qU Q R k=zb q):Q k=zb q\/R k=zb q:=by
 unfold qU at h;split at h
 ·rename_i q' hq;rw[hq];exact .inl h
 ·exact .inr h
theorem kx.Rn(h:kx B w pl Q){k:Nat}(hk:k<B):Q k=za:=by
 cases hq:Q k with
 |none=>rfl
 |some q=>have:=(h k q hq).1;omega
theorem kx.high(h:kx B w pl Q){k:Nat}(hk:w.heap.size<=k):Q k=za:=by
 cases hq:Q k with
 |none=>rfl
 |some q=>
  obtain⟨_,_,v,f,h3,_⟩:=h k q hq;have:=(ap.1 h3).1;omega
theorem kx.union(h:kx B w pl Q)(k:kx B w pl R):kx B w pl (qU Q R):=λa q hq=>(ztY hq).elim (h a q) (k a q)
def zi(a:Nat)(p:Pt)(k:Nat):Option Pt:=if k=a then zb p else za
theorem VH(a:Nat)(p:Pt):zi a p a=zb p:=aD rfl
theorem WT(h:zi a p k=zb q):k=a/\p=q:=by
 unfold zi at h;split at h
 ·rename_i e;exact⟨e,Option.some.inj h⟩
 ·cases h
theorem kx.nothing(B:Nat)(w:zf)(pl:Nat):kx B w pl (λ_=>za):=λa q h=>by cases h
def wV(w:zf)(pl:Nat)(p:Pt)(e:Ending)(w':zf):Prop:=
 ∃(a:Nat) (Q:Nat->Option Pt),e=.returned (zd (zb ⟨a,0,za⟩))/\zk w.heap.size w w'/\kx w.heap.size w' pl Q/\dI w.heap.size w' pl Q a p
def sf(p:Pt):Prop:=∀(pl:Nat) (v:zh) (w:zf),aR w v p->aF p<=2000->zm prog 139 #[zd (zb ⟨pl,0,za⟩),v] w λe w'=>wV w pl p e w'
theorem VY{x y:Int}(h:cJ x<=2000)(hxy:y<=x):y<=2000:=by unfold cJ at h;split at h<;>omega
theorem zth{b:Pt}{mn mx:Int}(hT:aR w v (.aw b mn mx))(hw:aF (.aw b mn mx)<=2000):aF b<=2000:=by
 obtain⟨lv,_,h1,h2⟩:=hT;have h3:=iS b _ h1;have hc:=E2 h2;refine VY (x:=aF b*dV mn mx) hw ?_;have:aF b*1<=aF b*dV mn mx:=Int.mul_le_mul_of_nonneg_left (by omega) (by omega);omega
theorem L6{l r:Pt}(hT:aR w v (.seq l r)\/aR w v (.aQ l r))(hw:cJ (aF l+aF r)<=2000):aF l<=2000/\aF r<=2000:=by
 have:∃lv rv,aR w lv l/\aR w rv r:=by
  rcases hT with ⟨lv,rv,_,h1,h2⟩|⟨lv,rv,_,h1,h2⟩<;>exact⟨lv,rv,h1,h2⟩
 obtain⟨lv,rv,h1,h2⟩:=this;have h3:=iS l _ h1;have h4:=iS r _ h2;exact⟨VY hw (by omega),VY hw (by omega)⟩
theorem Fg:∀(p:Pt) (v:zh),aR w v p->oO p
 |.set _,_,_=>trivial
 |.seq l r,_,⟨_,_,_,h1,h2⟩=>⟨Fg l _ h1,Fg r _ h2⟩
 |.aQ l r,_,⟨_,_,_,h1,h2⟩=>⟨Fg l _ h1,Fg r _ h2⟩
 |.aw b mn mx,_,⟨_,_,h1,h2⟩=>by
  refine⟨Fg b _ h1,?_⟩;simp[eK]at h2;omega
 |.aT b _,_,⟨_,_,h1⟩=>Fg b _ h1
end Go.Proofs.YtdimhpfiieepiaaGreatDoor
