import Derived.Test.YtdimhpfiieepiaaGreatDoorC43
namespace Go.Proofs.YtdimhpfiieepiaaGreatDoor
open Proofs.Tryz
open Option renaming some->za,none->zb
open Value renaming pointer->zc,slice->ze,int->zg,agg->zl
open Obj renaming cells->zd
open Go renaming World->zf,Value->aa,Calls->zm,TypeId->zn
open RowKit renaming Below->zj,Hid->zk
set_option maxHeartbeats 4000000
set_option maxRecDepth 100000
open Go.RowKit
attribute [local go_sem ↓] wp_at_zero wp_at_succ
section
variable {Q:Nat -> Option Pt}{w wr:zf}{pl bf bo bp:Nat}{vO:aa}{xs:List (Nat×Pt)}
theorem zea{P:Program}{ops:Array Oper}{o:Oper}{a:Act}{K:Act->zf->Prop}{Q:Exit->Act->zf->Prop}{E:Prop}{W:zf}(lY:o.guard=zb)(s x:Operand)(t:zn)
  (ho:o.op=.call {callee:=.builtin .append,args:=#[s,x],argTypes:=#[t,t]}) (w:zf) (us:Array aa) (e:zn) (hW:W=w.alloc (zd us e)) (H:Nat) (hH:w.heap.size=H)
  (base:Nat) (i:TypeInfo) (z:aa) (sz bytes:Nat) (ht:P.underlying t=za (.slice e)) (hi:P.info? e=za i) (hz:i.zero=za z)
  (xA:i.size=sz) (uz:i.bytes=bytes) (xD:z.cells.size=sz) (hsz:0<sz)
  (v:aa) (n:Nat) (xs:List aa) (hs:a.eval s=v) (az:w.ownsRow base e sz v n xs)
  (hx:a.eval x=ze (za ⟨H,0,zb⟩) 1 1) (hl:us.size=sz) (h1:∀u∈us.toList,u.oneCell'=true) (hn:n<=2000000) (xg:bytes<=1000) (Gv:base<=w.heap.size)
  (h:∀g' cap' w',w'.ownsRow base e sz (ze (za ⟨g',0,zb⟩) (n+1) cap') (n+1) (xs++us.toList)->w.grownBy w' v.ownBlock->(v.ownBlock=za g'\/w.heap.size<=g')->K (a.put o.dst (ze (za ⟨g',0,zb⟩) (n+1) cap')) w'):
  if Region.wanted o (yielded ops a.tmps)=true then Oper.wp P o a W K Q else E:=by
 subst hW hH;refine step_append_lies _ lY s x t ho base e i z sz bytes ht hi hz xA uz xD hsz v n xs hs (az.alloc _) ⟨w.heap.size,0,zb⟩ 1 1 us.toList hx (by simp[hl]) ?_ h1 (by omega) (by unfold maxLen;omega) ?_ (by simp;omega) (w.heap.size+1) (by simp) ?_
 ·intro j y hv;have e1:(⟨w.heap.size,0,zb⟩:Addr).add j=⟨w.heap.size,j,zb⟩:=by unfold Addr.add;split<;>simp_all
  rw[e1,aO _ _ _ _ _ _ (aL w _)];rw[<-hv];simp
 ·have:(n+1)*bytes<=2000001*1000:=Nat.mul_le_mul (by omega) xg;omega
 ·intro g' cap' w' AM cR dg hlt;refine h g' cap' w' AM ⟨cR.os,cR.tape,cR.output,aU (by simp) cR.size,λk hk hne=>?_⟩ ?_
  ·rw[cR.block k (by simp;omega) hne,Below.heap_alloc _ _ _ hk]
  ·rcases dg with dg|dg
   ·exact .inl dg
   ·exact .inr (by omega)
theorem Tryz.zwF:(prog.info? 198).map (λi=>(i.zero,i.size,i.bytes))=za (za (zc zb),1,8):=by kernel_rfl
theorem Vs(xs:Array aa)(w:zf):(callFunc 139 xs).run prog w=.ok (.enter 139 xs) w:=by kernel_rfl
theorem zr1:∀(p:Pt) (v:aa),aR w v p->∃b lv rv,(∀w,Sem.run prog (Instr.typeAssert v 184 258 true) w=.ok (.tuple #[zl #[lv,rv],.bool b]) w)/\((b=false/\lv=.nilIface/\rv=.nilIface/\dw p=[p])\/(b=true/\∃l r,p=.aQ l r/\aR w lv l/\aR w rv r))
 |.aQ l r,_,⟨lv,rv,rfl,h1,h2⟩=>⟨true,lv,rv,λw=>by kernel_rfl,.inr ⟨rfl,l,r,rfl,h1,h2⟩⟩
 |.set f,_,⟨mg,rfl,_⟩=>⟨false,.nilIface,.nilIface,λw=>by kernel_rfl,.inl ⟨rfl,rfl,rfl,rfl⟩⟩
 |.seq l r,_,⟨lv,rv,rfl,_⟩=>⟨false,.nilIface,.nilIface,λw=>by kernel_rfl,.inl ⟨rfl,rfl,rfl,rfl⟩⟩
 |.aw b mn mx,_,⟨lv,rfl,_⟩=>⟨false,.nilIface,.nilIface,λw=>by kernel_rfl,.inl ⟨rfl,rfl,rfl,rfl⟩⟩
 |.aT b g,_,⟨lv,rfl,_⟩=>⟨false,.nilIface,.nilIface,λw=>by kernel_rfl,.inl ⟨rfl,rfl,rfl,rfl⟩⟩
structure wO(w:zf)(pl bf bo bp:Nat)(wr:zf)(Q:Nat->Option Pt)(vO:aa)(xs:List (Nat×Pt)):Prop where
 kd:jF w pl wr Q (λk=>vO.ownBlock=za k\/k=bo) xs
 own:wr.ownsRow w.heap.size 198 1 vO xs.length (je xs)
 xf:wr.heap[bf]?=za (zd #[.func (.func 182) #[] #[zc (za ⟨bf,0,zb⟩),zc (za ⟨bo,0,zb⟩),zc (za ⟨bp,0,zb⟩)]] 306 (0,0))
 xo:wr.heap[bo]?=za (zd #[vO] 187 (0,0))
 xp:wr.heap[bp]?=za (zd #[zc (za ⟨pl,0,zb⟩)] 161 (0,0))
 lo:w.heap.size<=bo
theorem wO.below(h:wO w pl bf bo bp wr Q vO xs){pu:zf}(hb:zj wr.heap.size wr pu):wO w pl bf bo bp pu Q vO xs:=
 ⟨h.kd.below hb,cI h.own hb,(hb.block _ (ap.1 h.xf).1).trans h.xf,(hb.block _ (ap.1 h.xo).1).trans h.xo,(hb.block _ (ap.1 h.xp).1).trans h.xp,h.lo⟩
theorem wO.push{w7:zf}{a:Nat}{q:Pt}{g7 bS:Nat}(h:jF w pl wr Q (λk=>vO.ownBlock=za k\/k=bo) (xs++[(a,q)]))(AP:wr.ownsRow w.heap.size 198 1 vO xs.length (je xs))
  (xf:wr.heap[bf]?=za (zd #[.func (.func 182) #[] #[zc (za ⟨bf,0,zb⟩),zc (za ⟨bo,0,zb⟩),zc (za ⟨bp,0,zb⟩)]] 306 (0,0))) (xo:wr.heap[bo]?=za (zd #[vO] 187 (0,0))) (xp:wr.heap[bp]?=za (zd #[zc (za ⟨pl,0,zb⟩)] 161 (0,0))) (lo:w.heap.size<=bo)
  (az:w7.ownsRow w.heap.size 198 1 (ze (za ⟨g7,0,zb⟩) (xs.length+1) bS) (xs.length+1) (je xs++[zc (za ⟨a,0,zb⟩)])) (hg:wr.grownBy w7 vO.ownBlock) (dg:vO.ownBlock=za g7\/wr.heap.size<=g7):
  w7.heap[bo]?=za (zd #[vO] 187 (0,0))/\wO w pl bf bo bp (w7.setCell ⟨bo,0,zb⟩ (ze (za ⟨g7,0,zb⟩) (xs.length+1) bS)) Q (ze (za ⟨g7,0,zb⟩) (xs.length+1) bS) (xs++[(a,q)]):=by
 have ty:∀{k:Nat} {cs:Array aa} {t:zn},wr.heap[k]?=za (zd cs t (0,0))->t≠198->¬za k=vO.ownBlock:=λe1 e2 e3=>by
  obtain⟨_,aA,z⟩:=iD AP e3.symm;rw[e1]at z;exact e2 (bP z)
 have sm:∀{k:Nat} {cs:Array aa} {t:zn},wr.heap[k]?=za (zd cs t (0,0))->t≠198->w7.heap[k]?=za (zd cs t (0,0)):=λe1 e2=>(hg.block _ (ap.1 e1).1 (ty e1 e2)).trans e1
 have UZ:=sm xo (by decide);refine⟨UZ,?_⟩;have Ku:=dF w7 bo 0 #[vO] _ (ze (za ⟨g7,0,zb⟩) (xs.length+1) bS) UZ;obtain⟨w8,KQ⟩:∃w8,w7.setCell ⟨bo,0,zb⟩ (ze (za ⟨g7,0,zb⟩) (xs.length+1) bS)=w8:=⟨_,rfl⟩;have g8:w7.grownBy w8 (za bo):=by rw[<-KQ];exact jf w7 bo 0 _
 rw[KQ]at Ku ⊢;have xo8:w8.heap[bo]?=za (zd #[ze (za ⟨g7,0,zb⟩) (xs.length+1) bS] 187 (0,0)):=by rw[Ku];rfl
 have tc:aE (λk=>vO.ownBlock=za k\/k=bo) wr w8:=((aE.refl _ wr).grown hg (λk e=>.inl (.inl e))).grown g8 (λk e=>.inl (.inr (Option.some.inj e).symm));have Lh:∀{k:Nat} {cs:Array aa} {t:zn},w7.heap[k]?=za (zd cs t (0,0))->t≠187->w8.heap[k]?=za (zd cs t (0,0)):=λe1 e2=>(g8.block _ (ap.1 e1).1 (λe=>by
  injection e with e
  rw[e,UZ]at e1;exact e2 (bP e1).symm)).trans e1
 have kD:w8.ownsRow w.heap.size 198 1 (ze (za ⟨g7,0,zb⟩) (xs.length+1) bS) (xs.length+1) (je xs++[zc (za ⟨a,0,zb⟩)]):=kH az (λb e=>by
  obtain⟨_,aA,z⟩:=iD az e;exact(Lh z (by decide)).trans z.symm)
 refine⟨h.turn tc (λk e=>?_) (λk e=>?_),?_,Lh (sm xf (by decide)) (by decide),xo8,Lh (sm xp (by decide)) (by decide),lo⟩
 ·rcases e with e|e
  ·have e:g7=k:=by simpa [Value.ownBlock]using e
   subst e;rcases dg with h1|h1
   ·exact .inl (.inl h1)
   ·exact .inr h1
  ·exact .inl (.inr e)
 ·rcases e with e|e
  ·obtain⟨z1,aA,z2⟩:=iD kD e;exact⟨z1,aA,_,z2,by decide,by decide⟩
  ·subst e;exact⟨lo,_,_,xo8,by decide,by decide⟩
 ·have e:je (xs++[(a,q)])=je xs++[zc (za ⟨a,0,zb⟩)]:=by simp[je]
  rw[e,pz];exact kD
end
section
variable {w:zf}{pl bf bo bp:Nat}
def IM(w:zf)(pl bf bo bp:Nat)(x:Pt):Prop:=∀(wr:zf) (Q:Nat->Option Pt) (vO:aa) (xs:List (Nat×Pt)) (v:aa),wO w pl bf bo bp wr Q vO xs->aR w v x->aF x<=2000->xs.length+(dw x).length<=2000->
 zm prog 182 #[v,zc (za ⟨bf,0,zb⟩),zc (za ⟨bo,0,zb⟩),zc (za ⟨bp,0,zb⟩)] wr λe w'=>∃(Q':Nat->Option Pt) (vO':aa) (ys:List (Nat×Pt)),e=.returned (.tuple #[])/\wO w pl bf bo bp w' Q' vO' (xs++ys)/\ys.map Prod.snd=dw x/\aE (λk=>vO.ownBlock=za k\/k=bo) wr w'/\∀k,vO'.ownBlock=za k->vO.ownBlock=za k\/wr.heap.size<=k
theorem aE.UH{S S1:Nat->Prop}{A B:zf}(h:aE S w A)(k:aE S1 A B)(hs:∀j,j<w.heap.size->S1 j->S j):aE S w B:=
 ⟨k.os.trans h.os,k.tape.trans h.tape,k.output.trans h.output,aU h.size k.size,λi hi hn=>(k.same i (bA hi h.size) (λe=>hn (hs i hi e))).trans (h.same i hi hn)⟩
theorem zsq(l r:Pt)(hl:IM w pl bf bo bp l)(hr:IM w pl bf bo bp r):IM w pl bf bo bp (.aQ l r):=by
 intro wr Q vO xs v hA hT hw hn;have hk:=L6 (.inr hT) hw;obtain⟨lv,rv,rfl,h1,h2⟩:=hT;obtain⟨t1,x1,rfl⟩:=ji h1;obtain⟨t2,x2,rfl⟩:=ji h2;have jO:xs.length+((dw l).length+(dw r).length)<=2000:=by simpa [dw]using hn
 obtain⟨W0,ah⟩:∃W0,wr.alloc (zd #[.iface t1 x1,.iface t2 x2] 258)=W0:=⟨_,rfl⟩;have ae:zj wr.heap.size wr W0:=by rw[<-ah];exact au
 have x0:W0.heap[wr.heap.size]?=za (zd #[.iface t1 x1,.iface t2 x2] 258 (0,0)):=by rw[<-ah];exact aL _ _
 have mM:=hA.below ae;have c0:=(jA x0).1;have Cl:∀w,Sem.run prog (Instr.typeAssert (.iface 258 (zl #[.iface t1 x1,.iface t2 x2])) 184 258 true) w=.ok (.tuple #[zl #[.iface t1 x1,.iface t2 x2],.bool true]) w:=λw=>by kernel_rfl
 have cf:W0.cell? ⟨bf,0,zb⟩=za (.func (.func 182) #[] #[zc (za ⟨bf,0,zb⟩),zc (za ⟨bo,0,zb⟩),zc (za ⟨bp,0,zb⟩)]):=(aO _ _ _ _ _ _ mM.xf:_=_);have qq:=hl W0 Q vO xs _ mM h1 hk.1 (by omega);have HA:=aC mM;have H2:=aC h2;have Hr:=aC hr;clear hA mM h1 h2 hl hr
 go_enter func182,ntmps182
 go_wp2_with fail
 refine qq.mono ?_;rintro e1 W1 ⟨Q1,vO1,Ly,rfl,Nu,kW,OQ,Ur⟩;have X1:W1.heap[wr.heap.size]?=_:=(OQ.same wr.heap.size (ap.1 x0).1 (λe=>by
  obtain⟨_,aA,ty,z,_⟩:=HA.out.kd.ob _ e;rcases e with e|e
  ·obtain⟨_,aA,z⟩:=iD HA.out.own e;rw[x0]at z;exact absurd (bP z) (by decide)
  ·have:=HA.out.xo;rw[<-e,x0]at this;exact absurd (bP this) (by decide))).trans x0
 have c1:=(jA X1).2;have cf1:W1.cell? ⟨bf,0,zb⟩=za (.func (.func 182) #[] #[zc (za ⟨bf,0,zb⟩),zc (za ⟨bo,0,zb⟩),zc (za ⟨bp,0,zb⟩)]):=(aO _ _ _ _ _ _ Nu.xf:_=_);have G3:Ly.length=(dw l).length:=by rw[<-kW];simp
 have dx:=Hr.out W1 Q1 vO1 (xs++Ly) _ Nu H2.out hk.2 (by simp;omega);have HA1:=aC Nu;clear qq Nu c0 cf X1 Cl
 go_wp2_with fail
 refine dx.mono ?_;rintro e2 W2 ⟨Q2,UX,U1,rfl,oT,n9,pW,ob2⟩;have HF:zk (wO w pl bf bo bp W2 Q2 UX (xs++(Ly++U1))/\(Ly++U1).map Prod.snd=dw (.aQ l r)/\aE (λk=>vO.ownBlock=za k\/k=bo) wr W2/\∀k,UX.ownBlock=za k->vO.ownBlock=za k\/wr.heap.size<=k):=by
  have bX:=ae.size;have dB:=OQ.size;refine⟨by rw[<-pA];exact oT,by rw[Dl,kW,n9];rfl,((aE.cH ae).UH OQ (λ_ _ e=>e)).UH pW (λk hk e=>?_),λk e=>?_⟩
  ·rcases e with e|e
   ·rcases Ur k e with h|h
    ·exact .inl h
    ·omega
   ·exact .inr e
  ·rcases ob2 k e with h|h
   ·rcases Ur k h with h|h
    ·exact .inl h
    ·exact .inr (by omega)
   ·exact .inr (by omega)
 clear dx oT c1 cf1 OQ pW Ur ob2 HA HA1;go_wp2;exact bD (v:=.tuple #[]) (results_none rfl _ _ _) rfl ⟨Q2,UX,Ly++U1,rfl,HF.out⟩
theorem PI(x:Pt)(hf:dw x=[x])(hx:sf x):IM w pl bf bo bp x:=by
 intro wr Q vO xs v hA hT hw hn;obtain⟨i0,hi,bK,bh,bz⟩:=info_parts Tryz.zwF;obtain⟨b,lv,rv,Cl,hb⟩:=zr1 x v hT;obtain⟨rfl,rfl,rfl⟩:b=false/\lv=.nilIface/\rv=.nilIface:=by
  rcases hb with ⟨h1,h2,h3,_⟩|⟨_,l,r,rfl,_⟩
  ·exact⟨h1,h2,h3⟩
  ·have h1:=congrArg List.length hf;have h2:=LN l;have h3:=LN r;simp[dw]at h1;omega
 clear hb;obtain⟨t1,x1,rfl⟩:=ji hT;have jO:xs.length+1<=2000:=by rw[hf]at hn;simpa using hn
 obtain⟨W0,ah⟩:∃W0,wr.alloc (zd #[.nilIface,.nilIface] 258)=W0:=⟨_,rfl⟩;have ae:zj wr.heap.size wr W0:=by rw[<-ah];exact au
 have mM:=hA.below (ae.drew);have hc:=hx pl (.iface t1 x1) W0.drew (aR.keep (od mM.kd.bj) x _ hT) hw;have co:W0.cell? ⟨bo,0,zb⟩=za vO:=(aO _ _ _ _ _ _ mM.xo:_=_);have cp:W0.cell? ⟨bp,0,zb⟩=za (zc (za ⟨pl,0,zb⟩)):=(aO _ _ _ _ _ _ mM.xp:_=_);have rf:zk (∀(e:Ending) (w':zf),wV W0.drew pl x e w'->∃(a:Nat) (Q2:Nat->Option Pt),e=.returned (zc (za ⟨a,0,zb⟩))/\w'.ownsRow w.heap.size 198 1 vO xs.length (je xs)/\w.heap.size<=w'.heap.size/\bo<w'.heap.size/\w'.cell? ⟨bo,0,zb⟩=za vO/\∀w7 g7 bS,w7.ownsRow w.heap.size 198 1 (ze (za ⟨g7,0,zb⟩) (xs.length+1) bS) (xs.length+1) (je xs++[zc (za ⟨a,0,zb⟩)])->w'.grownBy w7 vO.ownBlock->(vO.ownBlock=za g7\/w'.heap.size<=g7)->w7.cell? ⟨bo,0,zb⟩=za vO/\w7.frozen? ⟨bo,0,zb⟩=false/\wO w pl bf bo bp (w7.setCell ⟨bo,0,zb⟩ (ze (za ⟨g7,0,zb⟩) (xs.length+1) bS)) Q2 (ze (za ⟨g7,0,zb⟩) (xs.length+1) bS) (xs++[(a,x)])/\aE (λk=>vO.ownBlock=za k\/k=bo) wr (w7.setCell ⟨bo,0,zb⟩ (ze (za ⟨g7,0,zb⟩) (xs.length+1) bS))/\∀k,(Value.slice (za ⟨g7,0,zb⟩) (xs.length+1) bS).ownBlock=za k->vO.ownBlock=za k\/wr.heap.size<=k):=λe w' hR=>by
  obtain⟨a,Q2,rfl,af,Aq⟩:=mM.kd.add hR;have oT:=mM.below af;have cZ:=af.size;refine⟨a,Q2,rfl,oT.own,Aq.bj.size,(ap.1 oT.xo).1,(aO _ _ _ _ _ _ oT.xo:_=_),λw7 g7 bS h1 h2 h3=>?_⟩;obtain⟨k1,k2⟩:=wO.push Aq oT.own oT.xf oT.xo oT.xp oT.lo h1 h2 h3;refine⟨(aO _ _ _ _ _ _ k1:_=_),cF _ _ 0 _ _ k1,k2,?_,λk e=>?_⟩
  ·have t1:aE (λk=>vO.ownBlock=za k\/k=bo) W0.drew w':=.cH af;exact(((aE.cH ae.drew).UH t1 (λ_ _ e=>e)).grown h2 (λk e=>.inl (.inl e))).grown (jf w7 bo 0 _) (λk e=>.inl (.inr (Option.some.inj e).symm))
  ·have e:g7=k:=by simpa [Value.ownBlock]using e
   subst e;rcases h3 with h|h
   ·exact .inl h
   ·have:=ae.size;have h5:W0.drew.heap.size=W0.heap.size:=rfl;exact .inr (by omega)
 have hbo:=(ap.1 mM.xo).1;have D8:zm prog 139 #[zc (za ⟨pl,0,zb⟩),.iface t1 x1] W0.drew λe w'=>∃v,e=.returned v/\wV W0.drew pl x (.returned v) w':=hc.mono λe w' h=>by
  obtain⟨a,Q2,rfl,h2⟩:=h;exact⟨_,rfl,a,Q2,rfl,h2⟩
 have I2:=aC ah;clear hA mM hc hT ah
 go_enter func182,ntmps182
 go_upto_region 4 with fail
 rw[I2.out];clear I2
 go_region_law ((first|(refine A9 (by rfl) 139 #[.tmp 22,.tmp 23] #[161,184] (by rfl) #[zc (za ⟨pl,0,zb⟩),.iface t1 x1] (by simp[Act.eval]) _ (Vs _ _) D8 ?_;intro v4 W4 sY;obtain⟨a4,Q4,Ey,jS,pP,Sq,Np,BG⟩:=rf.out _ W4 sY;injection Ey with Ey;subst Ey;have Zo:(W4.alloc (zd #[zc (za ⟨a4,0,zb⟩)] 198)).cell? ⟨bo,0,zb⟩=za vO:=(((Below.refl W4.heap.size W4).alloc (ai _) _).cell (p:=⟨bo,0,zb⟩) Sq).trans Np;have BG:=aC BG;clear sY)|(refine zea (by rfl) (.tmp 21) (.tmp 25) 187 (by rfl) W4 #[zc (za ⟨a4,0,zb⟩)] 198 (by rfl) W4.heap.size (by rfl) w.heap.size i0 _ 1 8 underlying187 hi bK bh bz (by rfl) (by omega) vO xs.length (je xs) (by rfl) jS (by rfl) (by rfl) (by intro u hu;simp at hu;subst hu;rfl) (by omega) (by omega) pP ?_;intro g7 bS W7 fu dW iH;obtain⟨Zp,DU,JK⟩:=BG.out W7 g7 bS fu dW iH;have My:=aC JK;clear fu dW iH JK)|fail))
 all_goals exact bodyPost_end (v:=.tuple #[]) (results_none rfl _ _ _) rfl ⟨Q4,_,[(a4,x)],rfl,My.out.1,by rw[hf];rfl,My.out.2⟩
theorem Ww:∀(x:Pt),(∀q,q∈dw x->sf q)->IM w pl bf bo bp x
 |.aQ l r,h=>zsq l r (Ww l λq hq=>h q (er.2 (.inl hq))) (Ww r λq hq=>h q (er.2 (.inr hq)))
 |.set _,h=>PI _ rfl (h _ (eM.2 rfl))
 |.seq _ _,h=>PI _ rfl (h _ (eM.2 rfl))
 |.aw _ _ _,h=>PI _ rfl (h _ (eM.2 rfl))
 |.aT _ _,h=>PI _ rfl (h _ (eM.2 rfl))
end
section
variable {xs:List (Nat×Pt)}
theorem Wk{w:zf}{B go cap:Nat}(hr:w.ownsRow B 198 1 (ze (za ⟨go,0,zb⟩) xs.length cap) xs.length (je xs)){i:Nat}{x:Nat×Pt}(hx:xs[i]?=za x):w.cell? ⟨go,i,zb⟩=za (zc (za ⟨x.1,0,zb⟩)):=by
 have e:(⟨go,0,zb⟩:Addr).add i=⟨go,i,zb⟩:=by unfold Addr.add;split<;>simp_all
 have:=Iq hr i (zc (za ⟨x.1,0,zb⟩)) (by simp[je,hx]);rw[e]at this;exact this
def qI(xs:List (Nat×Pt))(i:Nat):Nat:=(xs.getD i (0,.set λ_=>false)).1
def kY(xs:List (Nat×Pt))(i:Nat):Pt:=(xs.getD i (0,.set λ_=>false)).2
theorem Ft{i:Nat}(hi:i<xs.length):xs[i]?=za (qI xs i,kY xs i):=by
 unfold qI kY;rw[cL,eY hi]
 rfl
theorem zkY(l r:Pt)(lT:∀q,mz q<mz (.aQ l r)->sf q)(pl:Nat)(lv rv:aa)(w:zf)(hl:aR w lv l)(hr:aR w rv r)(hw:aF (.aQ l r)<=2000):
  zm prog 159 #[zc (za ⟨pl,0,zb⟩),zl #[lv,rv]] w λe w'=>FG w pl (.aQ l r) e w':=by
 have lU:aR w (.iface 258 (zl #[lv,rv])) (.aQ l r):=⟨lv,rv,rfl,hl,hr⟩;have hlen:=Pd _ _ lU hw;obtain⟨t1,x1,rfl⟩:=ji hl;obtain⟨t2,x2,rfl⟩:=ji hr;obtain⟨W4,rF⟩:∃W4,(((w.alloc (zd #[zc (za ⟨pl,0,zb⟩)] 161)).alloc (zd #[.iface t1 x1,.iface t2 x2] 258)).alloc (zd #[] 198)).alloc (zd #[ze (za ⟨w.heap.size+1+1,0,zb⟩) 0 0] 187)=W4:=⟨_,rfl⟩;have pP:W4.heap.size=w.heap.size+1+1+1+1:=by rw[<-rF];simp
 have aG:zj w.heap.size w W4:=by rw[<-rF];exact(((au).alloc (by simp) _).alloc (by simp;omega) _).alloc (by simp;omega) _
 have q0:W4.heap[w.heap.size]?=za (zd #[zc (za ⟨pl,0,zb⟩)] 161 (0,0)):=by rw[<-rF];exact cQ (cQ (cQ (aL _ _)))
 have q1:W4.heap[w.heap.size+1]?=za (zd #[.iface t1 x1,.iface t2 x2] 258 (0,0)):=by rw[<-rF];exact cQ (cQ (Dc _ _ _))
 have q2:W4.heap[w.heap.size+1+1]?=za (zd #[] 198 (0,0)):=by
  rw[<-rF];refine cQ ?_;have:=aL ((w.alloc (zd #[zc (za ⟨pl,0,zb⟩)] 161)).alloc (zd #[.iface t1 x1,.iface t2 x2] 258)) (zd #[] 198)
  simpa using this
 have q3:W4.heap[w.heap.size+1+1+1]?=za (zd #[ze (za ⟨w.heap.size+1+1,0,zb⟩) 0 0] 187 (0,0)):=by
  rw[<-rF];have:=aL (((w.alloc (zd #[zc (za ⟨pl,0,zb⟩)] 161)).alloc (zd #[.iface t1 x1,.iface t2 x2] 258)).alloc (zd #[] 198)) (zd #[ze (za ⟨w.heap.size+1+1,0,zb⟩) 0 0] 187)
  simpa using this
 have lW:=Ww (w:=w) (pl:=pl) (bf:=W4.heap.size) (bo:=w.heap.size+1+1+1) (bp:=w.heap.size) (.aQ l r) (λq hq=>lT q (by
  rcases er.1 (show q∈dw l++dw r from hq) with h|h
  ·have:=Ip l q h;exact su (by simp[fz];omega)
  ·have:=Ip r q h;exact su (by simp[fz];omega)))
 have st:=Ij (P:=prog) W4 #[.nilFunc] 306 (.func (.func 182) #[] #[zc (za ⟨W4.heap.size,0,zb⟩),zc (za ⟨w.heap.size+1+1+1,0,zb⟩),zc (za ⟨w.heap.size,0,zb⟩)]) rfl 0 (by simp);simp only[FB,List.set_cons_zero]at st;obtain⟨W5,td⟩:∃W5,W4.alloc (zd #[.func (.func 182) #[] #[zc (za ⟨W4.heap.size,0,zb⟩),zc (za ⟨w.heap.size+1+1+1,0,zb⟩),zc (za ⟨w.heap.size,0,zb⟩)]] 306)=W5:=⟨_,rfl⟩;have bE:zj W4.heap.size W4 W5:=by rw[<-td];exact au
 have q4:W5.heap[W4.heap.size]?=za (zd #[.func (.func 182) #[] #[zc (za ⟨W4.heap.size,0,zb⟩),zc (za ⟨w.heap.size+1+1+1,0,zb⟩),zc (za ⟨w.heap.size,0,zb⟩)]] 306 (0,0)):=by rw[<-td];exact aL _ _
 have z:∀k,k<W4.heap.size->W5.heap[k]?=W4.heap[k]?:=bE.block;have p0:=(z _ (by omega)).trans q0;have p1:=(z _ (by omega)).trans q1;have p2:=(z _ (by omega)).trans q2;have p3:=(z _ (by omega)).trans q3;have zvu:zj w.heap.size w W5:=aj aG aG.size bE;have ZH:wO w pl W4.heap.size (w.heap.size+1+1+1) w.heap.size W5 (λ_=>zb) (ze (za ⟨w.heap.size+1+1,0,zb⟩) 0 0) []:=
  ⟨jF.start w pl _ W5 zvu (λk e=>by
   rcases e with e|e
   ·have e:w.heap.size+1+1=k:=by simpa [Value.ownBlock]using e
    subst e;exact⟨by omega,_,_,p2,by decide,by decide⟩
   ·subst e;exact⟨by omega,_,_,p3,by decide,by decide⟩),⟨rfl,.inr ⟨w.heap.size+1+1,0,#[],rfl,by omega,p2,ai _,by unfold maxLen;omega,rfl,rfl⟩⟩,q4,p3,p0,by omega⟩
 have hc:=lW W5 _ _ [] _ ZH lU hw (by simp;omega);have c1:=(jA p1).1;have c2:=(jA p1).2;have cf:W5.cell? ⟨W4.heap.size,0,zb⟩=za (.func (.func 182) #[] #[zc (za ⟨W4.heap.size,0,zb⟩),zc (za ⟨w.heap.size+1+1+1,0,zb⟩),zc (za ⟨w.heap.size,0,zb⟩)]):=(aO _ _ _ _ _ _ q4:_=_);rw[pP]at st td hc cf;clear lT hl hr lU lW ZH q0 q1 q2 q3 q4 p0 p1 p2 p3 z
 go_enter func159,ntmps159
 go_wp2_with fail
 refine hc.mono ?_;rintro e6 W6 ⟨Q6,vO6,ys,rfl,B9,hy,-,-⟩;rw[wJ]at B9;have G3:ys.length=(dw (.aQ l r)).length:=by rw[<-hy];simp
 have gX:=LN (.aQ l r);obtain⟨n6,El⟩:∃n,ys.length=n:=⟨_,rfl⟩;obtain⟨g6,Ad,rfl⟩:∃g cap,vO6=ze (za ⟨g,0,zb⟩) n6 cap:=by
  rcases B9.own.2 with ⟨_,e2⟩|⟨g,cap,aA,e,_⟩
  ·omega
  ·exact⟨g,cap,by rw[e,El]⟩
 have co:W6.cell? ⟨w.heap.size+1+1+1,0,zb⟩=za (ze (za ⟨g6,0,zb⟩) n6 Ad):=(aO _ _ _ _ _ _ B9.xo:_=_);have uH:=(ap.1 B9.xo).1;have Gz:zm prog 183 #[ze (za ⟨g6,0,zb⟩) n6 Ad,.func (.func 184) #[] #[]] W6 λe w'=>∃b:Bool,e=.returned (.bool b)/\zk (b=false->lJ (.aQ l r))/\zj W6.heap.size W6 w':=by
  have dg:∀i,i<n6->dI w.heap.size W6 pl Q6 (qI ys i) (kY ys i):=λi hi=>B9.kd.fin _ (Bq (Ft (xs:=ys) (i:=i) (by omega)))
  obtain⟨fs,f1,f2,f3⟩:=zl7 n6 (qI ys) (kY ys) dg;refine(zjw g6 Ad n6 (qI ys) fs W6 (λi hi=>?_) f1 f2 (by omega)).mono ?_
  ·have:=B9.own;rw[<-El]at this;exact Wk this (Ft (by omega))
  ·rintro e w' ⟨b,rfl,k1,k2,hb⟩;refine⟨b,rfl,λe=>VL _ λq hq=>?_,hb⟩;rw[<-hy]at hq;obtain⟨x,hx,rfl⟩:=sy.1 hq;obtain⟨i,hi,rfl⟩:=List.getElem_of_mem hx;have h3:=f3 i (by omega) (k1 e i (by omega));have h4:=Ft (xs:=ys) (i:=i) hi;rw[eY hi]at h4;rw[Option.some.inj h4];exact h3
 have HA6:=aC B9;have Hy:=aC hy;clear hc B9 hy c1 c2 cf st rF td aG bE zvu
 go_wp2_with fail
 refine Gz.mono ?_;rintro e8 W8 ⟨b8,rfl,re,dX⟩;have DV:=HA6.out.below dX;have co8:=(dX.cell (p:=⟨w.heap.size+1+1+1,0,zb⟩) uH).trans co;have fT:=DV.kd.bj;cases b8 with
 |false=>
  have HF:zk (FG w pl (.aQ l r) (.returned .nilIface) W8):=⟨Q6,.nilIface,rfl,fT,DV.kd.pm,zoT (re.out rfl)⟩;clear DV re Gz;go_wp2;go_ret;exact HF.out
 |true=>
  have HF:zk (FG w pl (.aQ l r) (.returned (.iface 311 (zl #[ze (za ⟨g6,0,zb⟩) n6 Ad]))) W8):=by
   refine⟨Q6,_,rfl,fT,DV.kd.pm,?_⟩;have h1:=DV.own;have h2:=DV.kd.fin;rw[<-El]at h1 ⊢;exact znh h1 Hy.out h2
  clear DV re Gz;go_wp2;go_ret;exact HF.out
end
variable {w:zf}
def P3(a lo:Nat)(w:zf)(pl:Nat)(Q:Nat->Option Pt)(p:Pt)(f:aa):Prop:=
 (f=.nilIface\/∃t x,f=.iface t x)/\∀(y9:Nat) (w1:zf) (Q1:Nat->Option Pt),y9<=lo->(∀k,lo<=k->k<w.heap.size->w1.heap[k]?=w.heap[k]?)->bR w w1->(∀k q,Q k=za q->Q1 k=za q)->sN y9 w1 pl Q1 a p f->dI y9 w1 pl Q1 a p
theorem Dn.to{lo:Nat}{pl:Nat}{Q:Nat->Option Pt}{p:Pt}{f:aa}(h:Dn lo w pl Q p f)(a:Nat):P3 a lo w pl Q p f:=⟨h.1,λy9 w1 Q1=>h.2 y9 w1 Q1 a⟩
def Ga(a lo:Nat)(Q0:Nat->Option Pt)(w:zf)(pl:Nat)(p:Pt)(e:Ending)(w':zf):Prop:=
 ∃(Q:Nat->Option Pt) (f:aa),e=.returned f/\zj w.heap.size w w'/\kx lo w' pl Q/\(∀k q,Q0 k=za q->Q k=za q)/\P3 a lo w' pl Q p f
theorem zs2(a:Nat)(b:Pt)(o:Bool)(m:Nat):pU (zc (za ⟨a,0,zb⟩)) (.bool o) m=gH (List.replicate m (a,(b,o))):=by
 induction m with
 |zero=>rfl
 |succ m ih=>
  rw[List.replicate_succ',LQ,<-ih];show pU _ _ (m+1)=pU _ _ m++[zc (za ⟨a,0,zb⟩),.bool o];unfold pU;rw[show (m+1)*2=m*2+1+1 from by omega,yd,yd];simp
theorem zhG(pl:Nat)(bv:aa)(b:Pt)(w:zf)(a a' lo:Nat)(Q0:Nat->Option Pt)(hT:aR w bv b)(hp:dI lo w pl Q0 a' b)(hm:kx lo w pl Q0):
  zm prog 160 #[zc (za ⟨pl,0,zb⟩),zl #[bv,zg .i64 0,zg .i64 (-1)],zc (za ⟨a,0,zb⟩),zc (za ⟨a',0,zb⟩)] w λe w'=>Ga a lo Q0 w pl (.aw b 0 (-1)) e w':=by
 obtain⟨t1,x1,rfl⟩:=ji hT;have ae:zj w.heap.size w (w.alloc (zd #[.iface t1 x1,zg .i64 0,zg .i64 (-1)] 261)):=au;have HF:zk (Ga a lo Q0 w pl (.aw b 0 (-1)) (.returned (.iface 313 (zl #[zc (za ⟨a,0,zb⟩),zc (za ⟨a',0,zb⟩)]))) (w.alloc (zd #[.iface t1 x1,zg .i64 0,zg .i64 (-1)] 261))):=by
  refine⟨Q0,_,rfl,ae,hm.keep (ai _) (λk _ hk=>ae.block k hk) (od ae),λ_ _ e=>e,.inr ⟨_,_,rfl⟩,λy9 w1 Q1 h1 h2 h3 h4 h5=>?_⟩;exact .rounds a a' b h5 (hp.keep h1 (λk k1 k2=>(h2 k k1 (bA k2 ae.size)).trans (ae.block k k2)) ((od ae).trans h3) h4)
 clear hT hp hm ae
 go_enter func160,ntmps160
 go_wp2;go_ret;exact HF.out
theorem LF{g:Nat}{a0 a1 a2:aa}{t:zn}(h:w.heap[g]?=za (zd #[a0,a1,a2] t (0,0))):w.cell? ⟨g,0,zb⟩=za a0/\w.cell? ⟨g,1,zb⟩=za a1/\w.cell? ⟨g,2,zb⟩=za a2:=by
 have:∀o,w.cell? ⟨g,o,zb⟩=#[a0,a1,a2][o]?:=λ_=>aO _ _ _ _ _ _ h
 exact⟨this 0,this 1,this 2⟩
def ni(a':Nat)(b:Pt)(m k:Nat):List (Nat×fR):=List.replicate m (a',(b,false))++List.replicate k (a',(b,true))
theorem zs7(a':Nat)(b:Pt)(m k:Nat):(ni a' b m k).length=m+k:=by simp[ni]
theorem zrQ(a':Nat)(b:Pt)(m k:Nat):ni a' b m (k+1)=ni a' b m k++[(a',(b,true))]:=by simp[ni,List.replicate_succ']
theorem zp3{a':Nat}{b:Pt}{m k:Nat}{x:Nat×fR}(h:x∈ni a' b m k):x.1=a'/\x.2.1=b:=by
 rcases er.1 h with h|h<;>rw[(List.mem_replicate.1 h).2]<;>exact⟨rfl,rfl⟩
theorem zhF(pl:Nat)(bv:aa)(b:Pt)(m:Nat)(mx:Int)(dZ:eK (m:Int) mx=true)(hne:¬((m:Int)=0/\mx=-1))(w:zf)(a a' lo:Nat)(Q0:Nat->Option Pt)(hT:aR w bv b)(tu:aF b<=2000)(hp:dI lo w pl Q0 a' b)(hm:kx lo w pl Q0)(uE:lo<=w.heap.size):
  zm prog 160 #[zc (za ⟨pl,0,zb⟩),zl #[bv,zg .i64 (m:Int),zg .i64 mx],zc (za ⟨a,0,zb⟩),zc (za ⟨a',0,zb⟩)] w λe w'=>Ga a lo Q0 w pl (.aw b m mx) e w':=by
 obtain⟨i0,hi,bK,bh,bz⟩:=info_parts Tryz.Uc;obtain⟨t1,x1,rfl⟩:=ji hT;have cX:m<=255/\(mx=-1\/((m:Int)<=mx/\mx<=255)):=by simp[eK]at dZ;omega
 obtain⟨hm9,hmx⟩:=cX;obtain⟨d,Hd⟩:∃d,zk ((mx-(m:Int)).toNat=d):=⟨_,rfl⟩;have N3:d<=255:=by have:=Hd.out;omega
 have tf:∀k:Nat,(k:Int)<mx-(m:Int)↔k<d:=λk=>by have:=Hd.out;omega
 obtain⟨W0,ah⟩:∃W0,w.alloc (zd #[.iface t1 x1,zg .i64 (m:Int),zg .i64 mx] 261)=W0:=⟨_,rfl⟩;have ae:zj w.heap.size w W0:=by rw[<-ah];exact au
 have x0:W0.heap[w.heap.size]?=za (zd #[.iface t1 x1,zg .i64 (m:Int),zg .i64 mx] 261 (0,0)):=by rw[<-ah];exact aL _ _
 obtain⟨c0,c1,c2⟩:=LF x0;have HT:=aC hT;have Hp:=aC hp;have Hm:=aC hm;have AH:∀k,(ni a' b m k).length=m+k:=zs7 a' b m;have I2:=aC ah;clear hT hp hm ah
 go_enter func160,ntmps160
 go_upto_region 1 with fail
 rw[I2.out]
 go_cut [18] from 11 to 18 (λv18 wx=>v18=.bool false/\wx=W0)
 case first=>
  by_cases h0:m=0
  ·subst h0;have h2:(mx == -1)=false:=by simp;omega
   go_wp2
   go_meet
   exact⟨rfl,rfl⟩
  ·have h2:((m:Int)==0)=false:=by simp;omega
   go_wp2
   go_meet
   exact⟨rfl,rfl⟩
 case rest=>
  obtain⟨rfl,rfl⟩:=hcut;obtain⟨W1,cC⟩:∃W1,wc.alloc (zd #[zc (za ⟨a',0,zb⟩),.bool false] 299)=W1:=⟨_,rfl⟩;have ak:zj wc.heap.size wc W1:=by rw[<-cC];exact au
  have y1:W1.heap[wc.heap.size]?=za (zd #[zc (za ⟨a',0,zb⟩),.bool false] 299 (0,0)):=by rw[<-cC];exact aL _ _
  have KB:=zi3 (zc (za ⟨a',0,zb⟩)) (.bool false) rfl rfl wc.heap.size m W1 (jA y1).1 (jA y1).2 (by omega);have mB:=(ak.block _ (ap.1 x0).1).trans x0;obtain⟨e0,e1,e2⟩:=LF mB;have lX:zj w.heap.size w W1:=aj ae ae.size ak;clear c0 c1 c2 x0 y1 I2
  go_wp2_with fail
  refine KB.mono ?_;rintro e W2 ⟨rfl,eJ,af⟩;rw[zs2 a' b]at eJ;have jK:zj w.heap.size w W2:=aj lX lX.size af;have jy:=(af.block _ (ap.1 mB).1).trans mB;obtain⟨g0,g1,g2⟩:=LF jy;have Hx2:=aC jy;have Jh:zk (W2.ownsRow w.heap.size 299 2 (ze (za ⟨W1.heap.size,0,zb⟩) (m+0) m) (m+0) (gH (ni a' b m 0))):=by
   show World.ownsRow _ _ _ _ _ _ _;have:ni a' b m 0=List.replicate m (a',(b,false)):=by simp[ni]
   rw[this];exact qO eJ lX.size
  clear KB eJ e0 e1 e2 mB jy cC;have dB:-9223372036854775808<=mx-(m:Int):=by omega
  have cZ:mx-(m:Int)<=9223372036854775807:=by omega
  go_wp2;clear g0 g1 g2
  go_loopw [9,34] (λlv iv wr=>∃(k gL BZ:Nat),lv=ze (za ⟨gL,0,zb⟩) (m+k) BZ/\iv=zg .i64 k/\k<=d/\zk (zj w.heap.size w wr)/\zk (wr.heap[w.heap.size]?=za (zd #[.iface t1 x1,zg .i64 (m:Int),zg .i64 mx] 261 (0,0)))/\zk (wr.ownsRow w.heap.size 299 2 (ze (za ⟨gL,0,zb⟩) (m+k) BZ) (m+k) (gH (ni a' b m k))))
   (λ_ iv _=>d-(intOf iv).toNat)
  case atStart=>exact⟨0,W1.heap.size,m,rfl,rfl,aZ _,jK,Hx2,Jh⟩
  case round=>
   clear Jh jK af ak;obtain⟨k,gL,BZ,rfl,rfl,hk,HB,HX,HO⟩:=hrel;have jx:=HB.out.size
   by_cases hlt:k<d
   ·have rK:decide ((k:Int)<mx-(m:Int))=true:=by simp;exact(tf k).2 hlt
    have own:=HO.out
    go_wp2_with (at_builtin;refine EN rfl (.tmp 36) (.tmp 39) 300 rfl wr #[zc (za ⟨a',0,zb⟩),.bool true] 299 rfl wr.heap.size rfl w.heap.size i0 _ 2 16 underlying300 hi bK bh bz rfl (by omega) _ (m+k) (gH (ni a' b m k)) rfl own rfl rfl (by intro u hu;simp at hu;rcases hu with rfl|rfl<;>rfl) (by omega) (by omega) jx ?_;intro g7 bS W7 fu dW iH)
    have fC:=(Fc own).2.1;have HB7:zk (zj w.heap.size w W7):=HB.out.grown dW jx (by intro k' h;have h:za gL=za k':=h;injection h with h;omega);have HX7:zk (W7.heap[w.heap.size]?=za (zd #[.iface t1 x1,zg .i64 (m:Int),zg .i64 mx] 261 (0,0))):=(dW.block _ (ap.1 HX.out).1 (λe=>by
     obtain⟨_,aA,z2⟩:=iD own (k:=w.heap.size) e.symm;have hX:=HX.out;rw[hX]at z2;exact absurd (bP z2) (by decide))).trans HX.out
    have HO7:zk (W7.ownsRow w.heap.size 299 2 (ze (za ⟨g7,0,zb⟩) (m+(k+1)) bS) (m+(k+1)) (gH (ni a' b m (k+1)))):=by
     show World.ownsRow _ _ _ _ _ _ _;rw[zrQ,LQ];exact fu
    clear own fu dW iH HB HX HO
    go_roundw
    case rel=>exact⟨k+1,g7,bS,by rw[Nat.add_assoc],by go_num,by omega,HB7,HX7,HO7⟩
    case measure=>simp[intOf];omega
   ·obtain rfl:k=d:=by omega
    have rK:decide ((k:Int)<mx-(m:Int))=false:=by simp;have:=tf k;omega
    obtain⟨g0,g1,g2⟩:=LF HX.out;have Kz:∀W,zj w.heap.size w W->dI lo W pl Q0 a' b:=λW hb=>Hp.out.keep (ai _) (λj _ h2=>hb.block j h2) (od hb) (λ_ _ e=>e)
    have hmw:∀W,zj w.heap.size w W->kx lo W pl Q0:=λW hb=>Hm.out.keep (ai _) (λj _ h2=>hb.block j h2) (od hb)
    have MY:=aC Kz;have MV:=aC hmw;clear Kz hmw;rcases hmx with rfl|⟨zAm,zAn⟩
    ·
     obtain⟨n7,BH⟩:∃n7,zk (m+k=n7):=⟨_,rfl⟩;have zyC:n7<=2000:=by have:=BH.out;omega
     have own:=HO.out;rw[BH.out]at own ⊢;obtain⟨W3,ff⟩:∃W3,wr.alloc (zd #[zc (za ⟨pl,0,zb⟩),.iface 261 (zl #[.iface t1 x1,zg .i64 0,zg .i64 (-1)]),.iface 313 (zl #[zc (za ⟨wr.heap.size,0,zb⟩),zc (za ⟨a',0,zb⟩)]),zc zb] 222)=W3:=⟨_,rfl⟩;have ay:zj wr.heap.size wr W3:=by rw[<-ff];exact au
     have s3:W3.heap[wr.heap.size]?=za (zd #[zc (za ⟨pl,0,zb⟩),.iface 261 (zl #[.iface t1 x1,zg .i64 0,zg .i64 (-1)]),.iface 313 (zl #[zc (za ⟨wr.heap.size,0,zb⟩),zc (za ⟨a',0,zb⟩)]),zc zb] 222 (0,0)):=by rw[<-ff];exact aL _ _
     have kh:=cI own ay;have Au:zj w.heap.size w W3:=aj HB.out jx ay;have mh:=Au.size;have zw2:zk (∀W7 g7 bS,W7.ownsRow w.heap.size 299 2 (ze (za ⟨g7,0,zb⟩) (n7+1) bS) (n7+1) (gH (ni a' b m k)++[zc (za ⟨wr.heap.size,0,zb⟩),.bool false])->W3.grownBy W7 (za gL)->Ga a lo Q0 w pl (.aw b m (-1)) (.returned (.iface 305 (zl #[ze (za ⟨g7,0,zb⟩) (n7+1) bS]))) W7):=λW7 g7 bS fu dW=>by
      have fC:=(Fc own).2.1;have NN:zj w.heap.size w W7:=Au.grown dW mh (by intro k' h;have h:za gL=za k':=h;injection h with h;omega);have s7:=(dW.block _ (ap.1 s3).1 (λe=>by
       obtain⟨_,aA,z2⟩:=iD kh (k:=wr.heap.size) (by simp[Value.ownBlock];injection e with e;exact e.symm);rw[s3]at z2;exact absurd (bP z2) (by decide))).trans s3
      have hT7:aR W7 (.iface t1 x1) b:=aR.keep (od NN) b _ HT.out;have rE:aR W7 (.iface 261 (zl #[.iface t1 x1,zg .i64 0,zg .i64 (-1)])) (.aw b 0 (-1)):=⟨_,rfl,hT7,by decide⟩;have R3:Q0 wr.heap.size=zb:=Hm.out.high jx;have yW:=MY.out W7 NN;have hq:∀j q,Q0 j=za q->qU Q0 (zi wr.heap.size (.aw b 0 (-1))) j=za q:=λj q e=>WU e
      have GW:qU Q0 (zi wr.heap.size (.aw b 0 (-1))) wr.heap.size=za (.aw b 0 (-1)):=Wl R3 (VH _ _);have tx:aF (.aw b 0 (-1))<=2000:=by rw[zmN tu];exact tu
      have NF:dI lo W7 pl (qU Q0 (zi wr.heap.size (.aw b 0 (-1)))) wr.heap.size (.aw b 0 (-1)):=.rounds _ a' b ⟨by omega,GW,⟨_,s7,rE⟩,tx⟩ (yW.keep (ai _) (λ_ _ _=>rfl) (λ_ _ e=>e) hq);refine⟨qU Q0 (zi wr.heap.size (.aw b 0 (-1))),_,rfl,NN,(MV.out W7 NN).union (λj q e=>?_),hq,?_⟩
      ·obtain⟨rfl,rfl⟩:=WT e;exact⟨by omega,tx,_,_,s7,rE⟩
      ·obtain⟨xs,Oy⟩:∃xs,ni a' b m k++[(wr.heap.size,(.aw b 0 (-1),false))]=xs:=⟨_,rfl⟩;have KS:xs.length=n7+1:=by rw[<-Oy,<-BH.out];simp[AH]
       have il:k=0:=by have:=Hd.out;omega
       have Kq:xs.map Prod.snd=mG (.aw b m (-1)):=by
        rw[<-Oy];subst il;show _=gI b (m:Int).toNat (-1);unfold gI;rw[sx,aD rfl,show ((-1:Int)-((m:Nat):Int)).toNat=0 from by omega];simp[ni]
       have e7:gH xs=gH (ni a' b m k)++[zc (za ⟨wr.heap.size,0,zb⟩),.bool false]:=by rw[<-Oy,LQ];rfl
       rw[<-e7,<-KS]at fu;rw[<-KS];exact(VM (qO fu uE) Kq (λ_ _ e=>(by cases e)) (λ_ _ e=>(by cases e)) (λb' e=>by injection e with _ e1;exact hne ⟨e1,rfl⟩) (λ_ e=>(by cases e)) (λx hx=>by
        rw[<-Oy]at hx;rcases er.1 hx with hx|hx
        ·obtain⟨z1,z2⟩:=zp3 hx;rw[z1,z2];exact yW.keep (ai _) (λ_ _ _=>rfl) (λ_ _ e=>e) hq
        ·rw[eM.1 hx];exact NF)).to a
     clear HB HX HO MY MV s3 ay
     go_wp2_with (at_builtin;refine EN rfl (.tmp 59) (.tmp 62) 300 rfl W3 #[zc (za ⟨wr.heap.size,0,zb⟩),.bool false] 299 rfl W3.heap.size rfl w.heap.size i0 _ 2 16 underlying300 hi bK bh bz rfl (by omega) _ n7 (gH (ni a' b m k)) rfl kh rfl rfl (by intro u hu;simp at hu;rcases hu with rfl|rfl<;>rfl) (by omega) (by omega) mh ?_;intro g7 bS W7 fu dW iH;have HF:=aC (zw2.out W7 g7 bS fu dW);clear fu dW iH)
     go_ret
     exact HF.out
    ·have HF:zk (Ga a lo Q0 w pl (.aw b m mx) (.returned (.iface 305 (zl #[ze (za ⟨gL,0,zb⟩) (m+k) BZ]))) wr):=by
      refine⟨Q0,_,rfl,HB.out,MV.out wr HB.out,λ_ _ e=>e,?_⟩;have Kq:(ni a' b m k).map Prod.snd=mG (.aw b m mx):=by
       show _=gI b (m:Int).toNat mx;unfold gI;rw[sx,aq (by omega),Hd.out];simp[ni]
      have own:=HO.out;rw[<-AH k]at own ⊢;exact(VM (qO own uE) Kq (λ_ _ e=>(by cases e)) (λ_ _ e=>(by cases e)) (λb' e=>by injection e with _ e1 e2;exact hne ⟨e1,e2⟩) (λ_ e=>(by cases e)) (λx hx=>by
       obtain⟨z1,z2⟩:=zp3 hx;rw[z1,z2];exact MY.out wr HB.out)).to a
     have lz:(mx == -1)=false:=by simp;omega
     clear HB HX HO MY MV;go_wp2;go_ret;exact HF.out
end Go.Proofs.YtdimhpfiieepiaaGreatDoor
