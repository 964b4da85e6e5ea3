import Derived.Test.YtdimhpfiieepiaaGreatDoorC32
import Derived.WalkMore
namespace Go.Proofs.YtdimhpfiieepiaaGreatDoor
open Proofs.Tryz
open Option renaming some->za,none->zb
open Value renaming pointer->zc,int->ze,agg->zf,slice->zl
open Obj renaming cells->zd
open RowKit renaming Below->zg,Hid->zi
open Go renaming World->zk,Value->zm,Calls->zn,TypeId->zo
set_option maxHeartbeats 4000000
set_option maxRecDepth 100000
open Go.RowKit
attribute [local go_sem ↓] wp_at_zero wp_at_succ
section
variable {Q:Nat -> Option Pt}{w wr:zk}{pl bf bo bp:Nat}{vO:zm}{xs:List (Nat×Pt)}
theorem zeb{P:Program}{ops:Array Oper}{o:Oper}{a:Act}{K:Act->zk->Prop}{Q:Exit->Act->zk->Prop}{E:Prop}{W:zk}(lZ:o.guard=zb)(s x:Operand)(t:zo)
  (ho:o.op=.call {callee:=.builtin .append,args:=#[s,x],argTypes:=#[t,t]}) (w:zk) (us:Array zm) (e:zo) (hW:W=w.alloc (zd us e)) (H:Nat) (hH:w.heap.size=H)
  (base:Nat) (i:TypeInfo) (z:zm) (sz bytes:Nat) (ht:P.underlying t=za (.slice e)) (hi:P.info? e=za i) (hz:i.zero=za z)
  (xN:i.size=sz) (uI:i.bytes=bytes) (tQ:z.cells.size=sz) (hsz:0<sz)
  (v:zm) (n:Nat) (xs:List zm) (hs:a.eval s=v) (aB:w.ownsRow base e sz v n xs)
  (hx:a.eval x=zl (za ⟨H,0,zb⟩) 1 1) (hl:us.size=sz) (h1:∀u∈us.toList,u.oneCell'=true) (hn:n<=2000000) (xD:bytes<=1000) (Io:base<=w.heap.size)
  (h:∀g' cap' w',w'.ownsRow base e sz (zl (za ⟨g',0,zb⟩) (n+1) cap') (n+1) (xs++us.toList)->w.grownBy w' v.ownBlock->(v.ownBlock=za g'\/w.heap.size<=g')->K (a.put o.dst (zl (za ⟨g',0,zb⟩) (n+1) cap')) w'):
  if Region.wanted o (yielded ops a.tmps)=true then Oper.wp P o a W K Q else E:=by
 subst hW hH;refine step_append_lies _ lZ s x t ho base e i z sz bytes ht hi hz xN uI tQ hsz v n xs hs (aB.alloc _) ⟨w.heap.size,0,zb⟩ 1 1 us.toList hx (by simp[hl]) ?_ h1 (by omega) (by unfold maxLen;omega) ?_ (by simp;omega) (w.heap.size+1) (by simp) ?_
 ·intro j y hv;have e1:(⟨w.heap.size,0,zb⟩:Addr).add j=⟨w.heap.size,j,zb⟩:=by unfold Addr.add;split<;>simp_all
  rw[e1,aM _ _ _ _ _ _ (aI w _)];rw[<-hv];simp
 ·have:(n+1)*bytes<=2000001*1000:=Nat.mul_le_mul (by omega) xD;omega
 ·intro g' cap' w' wj cJ dF hlt;refine h g' cap' w' wj ⟨cJ.os,cJ.tape,cJ.output,aW (by simp) cJ.size,λk hk hne=>?_⟩ ?_
  ·rw[cJ.block k (by simp;omega) hne,Below.heap_alloc _ _ _ hk]
  ·rcases dF with dF|dF
   ·exact .inl dF
   ·exact .inr (by omega)
theorem Tryz.zxU:(prog.info? 198).map (λi=>(i.zero,i.size,i.bytes))=za (za (zc zb),1,8):=by kernel_rfl
theorem Xt(xs:Array zm)(w:zk):(callFunc 139 xs).run prog w=.ok (.enter 139 xs) w:=by kernel_rfl
theorem zso:∀(p:Pt) (v:zm),aU w v p->∃b lv rv,(∀w,Sem.run prog (Instr.typeAssert v 184 258 true) w=.ok (.tuple #[zf #[lv,rv],.bool b]) w)/\((b=false/\lv=.nilIface/\rv=.nilIface/\dA p=[p])\/(b=true/\∃l r,p=.aN l r/\aU w lv l/\aU w rv r))
 |.aN l r,_,⟨lv,rv,rfl,h1,h2⟩=>⟨true,lv,rv,λw=>by kernel_rfl,.inr ⟨rfl,l,r,rfl,h1,h2⟩⟩
 |.set f,_,⟨mg,rfl,_⟩=>⟨false,.nilIface,.nilIface,λw=>by kernel_rfl,.inl ⟨rfl,rfl,rfl,rfl⟩⟩
 |.seq l r,_,⟨lv,rv,rfl,_⟩=>⟨false,.nilIface,.nilIface,λw=>by kernel_rfl,.inl ⟨rfl,rfl,rfl,rfl⟩⟩
 |.az b mn mx,_,⟨lv,rfl,_⟩=>⟨false,.nilIface,.nilIface,λw=>by kernel_rfl,.inl ⟨rfl,rfl,rfl,rfl⟩⟩
 |.aT b g,_,⟨lv,rfl,_⟩=>⟨false,.nilIface,.nilIface,λw=>by kernel_rfl,.inl ⟨rfl,rfl,rfl,rfl⟩⟩
structure xc(w:zk)(pl bf bo bp:Nat)(wr:zk)(Q:Nat->Option Pt)(vO:zm)(xs:List (Nat×Pt)):Prop where
 kd:jA w pl wr Q (λk=>vO.ownBlock=za k\/k=bo) xs
 own:wr.ownsRow w.heap.size 198 1 vO xs.length (iY xs)
 xf:wr.heap[bf]?=za (zd #[.func (.func 182) #[] #[zc (za ⟨bf,0,zb⟩),zc (za ⟨bo,0,zb⟩),zc (za ⟨bp,0,zb⟩)]] 306 (0,0))
 xo:wr.heap[bo]?=za (zd #[vO] 187 (0,0))
 xp:wr.heap[bp]?=za (zd #[zc (za ⟨pl,0,zb⟩)] 161 (0,0))
 lo:w.heap.size<=bo
theorem xc.below(h:xc w pl bf bo bp wr Q vO xs){pB:zk}(hb:zg wr.heap.size wr pB):xc w pl bf bo bp pB Q vO xs:=
 ⟨h.kd.below hb,dQ h.own hb,(hb.block _ (ah.1 h.xf).1).trans h.xf,(hb.block _ (ah.1 h.xo).1).trans h.xo,(hb.block _ (ah.1 h.xp).1).trans h.xp,h.lo⟩
theorem xc.push{w7:zk}{a:Nat}{q:Pt}{g7 bG:Nat}(h:jA w pl wr Q (λk=>vO.ownBlock=za k\/k=bo) (xs++[(a,q)]))(Bs:wr.ownsRow w.heap.size 198 1 vO xs.length (iY xs))
  (xf:wr.heap[bf]?=za (zd #[.func (.func 182) #[] #[zc (za ⟨bf,0,zb⟩),zc (za ⟨bo,0,zb⟩),zc (za ⟨bp,0,zb⟩)]] 306 (0,0))) (xo:wr.heap[bo]?=za (zd #[vO] 187 (0,0))) (xp:wr.heap[bp]?=za (zd #[zc (za ⟨pl,0,zb⟩)] 161 (0,0))) (lo:w.heap.size<=bo)
  (aB:w7.ownsRow w.heap.size 198 1 (zl (za ⟨g7,0,zb⟩) (xs.length+1) bG) (xs.length+1) (iY xs++[zc (za ⟨a,0,zb⟩)])) (hg:wr.grownBy w7 vO.ownBlock) (dF:vO.ownBlock=za g7\/wr.heap.size<=g7):
  w7.heap[bo]?=za (zd #[vO] 187 (0,0))/\xc w pl bf bo bp (w7.setCell ⟨bo,0,zb⟩ (zl (za ⟨g7,0,zb⟩) (xs.length+1) bG)) Q (zl (za ⟨g7,0,zb⟩) (xs.length+1) bG) (xs++[(a,q)]):=by
 have ty:∀{k:Nat} {cs:Array zm} {t:zo},wr.heap[k]?=za (zd cs t (0,0))->t≠198->¬za k=vO.ownBlock:=λe1 e2 e3=>by
  obtain⟨_,ax,z⟩:=dy Bs e3.symm;rw[e1]at z;exact e2 (bL z)
 have sm:∀{k:Nat} {cs:Array zm} {t:zo},wr.heap[k]?=za (zd cs t (0,0))->t≠198->w7.heap[k]?=za (zd cs t (0,0)):=λe1 e2=>(hg.block _ (ah.1 e1).1 (ty e1 e2)).trans e1
 have WE:=sm xo (by decide);refine⟨WE,?_⟩;have LY:=dE w7 bo 0 #[vO] _ (zl (za ⟨g7,0,zb⟩) (xs.length+1) bG) WE;obtain⟨w8,Mp⟩:∃w8,w7.setCell ⟨bo,0,zb⟩ (zl (za ⟨g7,0,zb⟩) (xs.length+1) bG)=w8:=⟨_,rfl⟩;have g8:w7.grownBy w8 (za bo):=by rw[<-Mp];exact iZ w7 bo 0 _
 rw[Mp]at LY ⊢;have xo8:w8.heap[bo]?=za (zd #[zl (za ⟨g7,0,zb⟩) (xs.length+1) bG] 187 (0,0)):=by rw[LY];rfl
 have tc:ap (λk=>vO.ownBlock=za k\/k=bo) wr w8:=((ap.refl _ wr).grown hg (λk e=>.inl (.inl e))).grown g8 (λk e=>.inl (.inr (Option.some.inj e).symm));have MJ:∀{k:Nat} {cs:Array zm} {t:zo},w7.heap[k]?=za (zd cs t (0,0))->t≠187->w8.heap[k]?=za (zd cs t (0,0)):=λe1 e2=>(g8.block _ (ah.1 e1).1 (λe=>by
  injection e with e
  rw[e,WE]at e1;exact e2 (bL e1).symm)).trans e1
 have lN:w8.ownsRow w.heap.size 198 1 (zl (za ⟨g7,0,zb⟩) (xs.length+1) bG) (xs.length+1) (iY xs++[zc (za ⟨a,0,zb⟩)]):=gR aB (λb e=>by
  obtain⟨_,ax,z⟩:=dy aB e;exact(MJ z (by decide)).trans z.symm)
 refine⟨h.turn tc (λk e=>?_) (λk e=>?_),?_,MJ (sm xf (by decide)) (by decide),xo8,MJ (sm xp (by decide)) (by decide),lo⟩
 ·rcases e with e|e
  ·have e:g7=k:=by simpa [Value.ownBlock]using e
   subst e;rcases dF with h1|h1
   ·exact .inl (.inl h1)
   ·exact .inr h1
  ·exact .inl (.inr e)
 ·rcases e with e|e
  ·obtain⟨z1,ax,z2⟩:=dy lN e;exact⟨z1,ax,_,z2,by decide,by decide⟩
  ·subst e;exact⟨lo,_,_,xo8,by decide,by decide⟩
 ·have e:iY (xs++[(a,q)])=iY xs++[zc (za ⟨a,0,zb⟩)]:=by simp[iY]
  rw[e,nG];exact lN
end
section
variable {w:zk}{pl bf bo bp:Nat}
def JW(w:zk)(pl bf bo bp:Nat)(x:Pt):Prop:=∀(wr:zk) (Q:Nat->Option Pt) (vO:zm) (xs:List (Nat×Pt)) (v:zm),xc w pl bf bo bp wr Q vO xs->aU w v x->aE x<=2000->xs.length+(dA x).length<=2000->
 zn prog 182 #[v,zc (za ⟨bf,0,zb⟩),zc (za ⟨bo,0,zb⟩),zc (za ⟨bp,0,zb⟩)] wr λe w'=>∃(Q':Nat->Option Pt) (vO':zm) (ys:List (Nat×Pt)),e=.returned (.tuple #[])/\xc w pl bf bo bp w' Q' vO' (xs++ys)/\ys.map Prod.snd=dA x/\ap (λk=>vO.ownBlock=za k\/k=bo) wr w'/\∀k,vO'.ownBlock=za k->vO.ownBlock=za k\/wr.heap.size<=k
theorem ap.Wp{S S1:Nat->Prop}{A B:zk}(h:ap S w A)(k:ap S1 A B)(hs:∀j,j<w.heap.size->S1 j->S j):ap S w B:=
 ⟨k.os.trans h.os,k.tape.trans h.tape,k.output.trans h.output,aW h.size k.size,λi hi hn=>(k.same i (bA hi h.size) (λe=>hn (hs i hi e))).trans (h.same i hi hn)⟩
theorem zsM(l r:Pt)(hl:JW w pl bf bo bp l)(hr:JW w pl bf bo bp r):JW w pl bf bo bp (.aN l r):=by
 intro wr Q vO xs v hA hT hw hn;have hk:=Nu (.inr hT) hw;obtain⟨lv,rv,rfl,h1,h2⟩:=hT;obtain⟨t1,x1,rfl⟩:=je h1;obtain⟨t2,x2,rfl⟩:=je h2;have jH:xs.length+((dA l).length+(dA r).length)<=2000:=by simpa [dA]using hn
 obtain⟨W0,ai⟩:∃W0,wr.alloc (zd #[.iface t1 x1,.iface t2 x2] 258)=W0:=⟨_,rfl⟩;have af:zg wr.heap.size wr W0:=by rw[<-ai];exact aw
 have x0:W0.heap[wr.heap.size]?=za (zd #[.iface t1 x1,.iface t2 x2] 258 (0,0)):=by rw[<-ai];exact aI _ _
 have mM:=hA.below af;have c0:=(jr x0).1;have C4:∀w,Sem.run prog (Instr.typeAssert (.iface 258 (zf #[.iface t1 x1,.iface t2 x2])) 184 258 true) w=.ok (.tuple #[zf #[.iface t1 x1,.iface t2 x2],.bool true]) w:=λw=>by kernel_rfl
 have cf:W0.cell? ⟨bf,0,zb⟩=za (.func (.func 182) #[] #[zc (za ⟨bf,0,zb⟩),zc (za ⟨bo,0,zb⟩),zc (za ⟨bp,0,zb⟩)]):=(aM _ _ _ _ _ _ mM.xf:_=_);have uJ:=hl W0 Q vO xs _ mM h1 hk.1 (by omega);have HA:=aA mM;have H2:=aA h2;have Hr:=aA hr;clear hA mM h1 h2 hl hr
 go_enter func182,ntmps182
 go_wp2_with fail
 refine uJ.mono ?_;rintro e1 W1 ⟨Q1,vO1,MX,rfl,OU,kY,vg,V6⟩;have X1:W1.heap[wr.heap.size]?=_:=(vg.same wr.heap.size (ah.1 x0).1 (λe=>by
  obtain⟨_,ax,ty,z,_⟩:=HA.out.kd.ob _ e;rcases e with e|e
  ·obtain⟨_,ax,z⟩:=dy HA.out.own e;rw[x0]at z;exact absurd (bL z) (by decide)
  ·have:=HA.out.xo;rw[<-e,x0]at this;exact absurd (bL this) (by decide))).trans x0
 have c1:=(jr X1).2;have cf1:W1.cell? ⟨bf,0,zb⟩=za (.func (.func 182) #[] #[zc (za ⟨bf,0,zb⟩),zc (za ⟨bo,0,zb⟩),zc (za ⟨bp,0,zb⟩)]):=(aM _ _ _ _ _ _ OU.xf:_=_);have Fw:MX.length=(dA l).length:=by rw[<-kY];simp
 have eW:=Hr.out W1 Q1 vO1 (xs++MX) _ OU H2.out hk.2 (by simp;omega);have HA1:=aA OU;clear uJ OU c0 cf X1 C4
 go_wp2_with fail
 refine eW.mono ?_;rintro e2 W2 ⟨Q2,WC,WH,rfl,oZ,od,lg,ob2⟩;have HF:zi (xc w pl bf bo bp W2 Q2 WC (xs++(MX++WH))/\(MX++WH).map Prod.snd=dA (.aN l r)/\ap (λk=>vO.ownBlock=za k\/k=bo) wr W2/\∀k,WC.ownBlock=za k->vO.ownBlock=za k\/wr.heap.size<=k):=by
  have dD:=af.size;have dH:=vg.size;refine⟨by rw[<-pG];exact oZ,by rw[zX,kY,od];rfl,((ap.bR af).Wp vg (λ_ _ e=>e)).Wp lg (λk hk e=>?_),λk e=>?_⟩
  ·rcases e with e|e
   ·rcases V6 k e with h|h
    ·exact .inl h
    ·omega
   ·exact .inr e
  ·rcases ob2 k e with h|h
   ·rcases V6 k h with h|h
    ·exact .inl h
    ·exact .inr (by omega)
   ·exact .inr (by omega)
 clear eW oZ c1 cf1 vg lg V6 ob2 HA HA1;go_wp2;exact bh (v:=.tuple #[]) (results_none rfl _ _ _) rfl ⟨Q2,WC,MX++WH,rfl,HF.out⟩
theorem Ra(x:Pt)(hf:dA x=[x])(hx:sy x):JW w pl bf bo bp x:=by
 intro wr Q vO xs v hA hT hw hn;obtain⟨i0,hi,bI,aO,aQ⟩:=info_parts Tryz.zxU;obtain⟨b,lv,rv,C4,hb⟩:=zso x v hT;obtain⟨rfl,rfl,rfl⟩:b=false/\lv=.nilIface/\rv=.nilIface:=by
  rcases hb with ⟨h1,h2,h3,_⟩|⟨_,l,r,rfl,_⟩
  ·exact⟨h1,h2,h3⟩
  ·have h1:=congrArg List.length hf;have h2:=Ng l;have h3:=Ng r;simp[dA]at h1;omega
 clear hb;obtain⟨t1,x1,rfl⟩:=je hT;have jH:xs.length+1<=2000:=by rw[hf]at hn;simpa using hn
 obtain⟨W0,ai⟩:∃W0,wr.alloc (zd #[.nilIface,.nilIface] 258)=W0:=⟨_,rfl⟩;have af:zg wr.heap.size wr W0:=by rw[<-ai];exact aw
 have mM:=hA.below (af.drew);have hc:=hx pl (.iface t1 x1) W0.drew (aU.keep (ou mM.kd.bu) x _ hT) hw;have co:W0.cell? ⟨bo,0,zb⟩=za vO:=(aM _ _ _ _ _ _ mM.xo:_=_);have cp:W0.cell? ⟨bp,0,zb⟩=za (zc (za ⟨pl,0,zb⟩)):=(aM _ _ _ _ _ _ mM.xp:_=_);have rz:zi (∀(e:Ending) (w':zk),xk W0.drew pl x e w'->∃(a:Nat) (Q2:Nat->Option Pt),e=.returned (zc (za ⟨a,0,zb⟩))/\w'.ownsRow w.heap.size 198 1 vO xs.length (iY xs)/\w.heap.size<=w'.heap.size/\bo<w'.heap.size/\w'.cell? ⟨bo,0,zb⟩=za vO/\∀w7 g7 bG,w7.ownsRow w.heap.size 198 1 (zl (za ⟨g7,0,zb⟩) (xs.length+1) bG) (xs.length+1) (iY xs++[zc (za ⟨a,0,zb⟩)])->w'.grownBy w7 vO.ownBlock->(vO.ownBlock=za g7\/w'.heap.size<=g7)->w7.cell? ⟨bo,0,zb⟩=za vO/\w7.frozen? ⟨bo,0,zb⟩=false/\xc w pl bf bo bp (w7.setCell ⟨bo,0,zb⟩ (zl (za ⟨g7,0,zb⟩) (xs.length+1) bG)) Q2 (zl (za ⟨g7,0,zb⟩) (xs.length+1) bG) (xs++[(a,x)])/\ap (λk=>vO.ownBlock=za k\/k=bo) wr (w7.setCell ⟨bo,0,zb⟩ (zl (za ⟨g7,0,zb⟩) (xs.length+1) bG))/\∀k,(Value.slice (za ⟨g7,0,zb⟩) (xs.length+1) bG).ownBlock=za k->vO.ownBlock=za k\/wr.heap.size<=k):=λe w' hR=>by
  obtain⟨a,Q2,rfl,ae,pQ⟩:=mM.kd.add hR;have oZ:=mM.below ae;have cV:=ae.size;refine⟨a,Q2,rfl,oZ.own,pQ.bu.size,(ah.1 oZ.xo).1,(aM _ _ _ _ _ _ oZ.xo:_=_),λw7 g7 bG h1 h2 h3=>?_⟩;obtain⟨k1,k2⟩:=xc.push pQ oZ.own oZ.xf oZ.xo oZ.xp oZ.lo h1 h2 h3;refine⟨(aM _ _ _ _ _ _ k1:_=_),cT _ _ 0 _ _ k1,k2,?_,λk e=>?_⟩
  ·have t1:ap (λk=>vO.ownBlock=za k\/k=bo) W0.drew w':=.bR ae;exact(((ap.bR af.drew).Wp t1 (λ_ _ e=>e)).grown h2 (λk e=>.inl (.inl e))).grown (iZ w7 bo 0 _) (λk e=>.inl (.inr (Option.some.inj e).symm))
  ·have e:g7=k:=by simpa [Value.ownBlock]using e
   subst e;rcases h3 with h|h
   ·exact .inl h
   ·have:=af.size;have h5:W0.drew.heap.size=W0.heap.size:=rfl;exact .inr (by omega)
 have hbo:=(ah.1 mM.xo).1;have EX:zn prog 139 #[zc (za ⟨pl,0,zb⟩),.iface t1 x1] W0.drew λe w'=>∃v,e=.returned v/\xk W0.drew pl x (.returned v) w':=hc.mono λe w' h=>by
  obtain⟨a,Q2,rfl,h2⟩:=h;exact⟨_,rfl,a,Q2,rfl,h2⟩
 have J8:=aA ai;clear hA mM hc hT ai
 go_enter func182,ntmps182
 go_upto_region 4 with fail
 rw[J8.out];clear J8
 go_region_law ((first|(refine BK (by rfl) 139 #[.tmp 22,.tmp 23] #[161,184] (by rfl) #[zc (za ⟨pl,0,zb⟩),.iface t1 x1] (by simp[Act.eval]) _ (Xt _ _) EX ?_;intro v4 W4 tz;obtain⟨a4,Q4,Ft,lM,qc,Uf,OM,Cl⟩:=rz.out _ W4 tz;injection Ft with Ft;subst Ft;have co5:(W4.alloc (zd #[zc (za ⟨a4,0,zb⟩)] 198)).cell? ⟨bo,0,zb⟩=za vO:=(((Below.refl W4.heap.size W4).alloc (aj _) _).cell (p:=⟨bo,0,zb⟩) Uf).trans OM;have Cl:=aA Cl;clear tz)|(refine zeb (by rfl) (.tmp 21) (.tmp 25) 187 (by rfl) W4 #[zc (za ⟨a4,0,zb⟩)] 198 (by rfl) W4.heap.size (by rfl) w.heap.size i0 _ 1 8 underlying187 hi bI aO aQ (by rfl) (by omega) vO xs.length (iY xs) (by rfl) lM (by rfl) (by rfl) (by intro u hu;simp at hu;subst hu;rfl) (by omega) (by omega) qc ?_;intro g7 bG W7 fh er iI;obtain⟨co7,EG,CP⟩:=Cl.out W7 g7 bG fh er iI;have NS:=aA CP;clear fh er iI CP)|fail))
 all_goals exact bodyPost_end (v:=.tuple #[]) (results_none rfl _ _ _) rfl ⟨Q4,_,[(a4,x)],rfl,NS.out.1,by rw[hf];rfl,NS.out.2⟩
theorem Yl:∀(x:Pt),(∀q,q∈dA x->sy q)->JW w pl bf bo bp x
 |.aN l r,h=>zsM l r (Yl l λq hq=>h q (fm.2 (.inl hq))) (Yl r λq hq=>h q (fm.2 (.inr hq)))
 |.set _,h=>Ra _ rfl (h _ (eK.2 rfl))
 |.seq _ _,h=>Ra _ rfl (h _ (eK.2 rfl))
 |.az _ _ _,h=>Ra _ rfl (h _ (eK.2 rfl))
 |.aT _ _,h=>Ra _ rfl (h _ (eK.2 rfl))
end
section
variable {xs:List (Nat×Pt)}
theorem X9{w:zk}{B go cap:Nat}(hr:w.ownsRow B 198 1 (zl (za ⟨go,0,zb⟩) xs.length cap) xs.length (iY xs)){i:Nat}{x:Nat×Pt}(hx:xs[i]?=za x):w.cell? ⟨go,i,zb⟩=za (zc (za ⟨x.1,0,zb⟩)):=by
 have e:(⟨go,0,zb⟩:Addr).add i=⟨go,i,zb⟩:=by unfold Addr.add;split<;>simp_all
 have:=JA hr i (zc (za ⟨x.1,0,zb⟩)) (by simp[iY,hx]);rw[e]at this;exact this
def qV(xs:List (Nat×Pt))(i:Nat):Nat:=(xs.getD i (0,.set λ_=>false)).1
def kG(xs:List (Nat×Pt))(i:Nat):Pt:=(xs.getD i (0,.set λ_=>false)).2
theorem Gq{i:Nat}(hi:i<xs.length):xs[i]?=za (qV xs i,kG xs i):=by
 unfold qV kG;rw[bP,dh hi]
 rfl
theorem zkX(l r:Pt)(lT:∀q,mz q<mz (.aN l r)->sy q)(pl:Nat)(lv rv:zm)(w:zk)(hl:aU w lv l)(hr:aU w rv r)(hw:aE (.aN l r)<=2000):
  zn prog 159 #[zc (za ⟨pl,0,zb⟩),zf #[lv,rv]] w λe w'=>GD w pl (.aN l r) e w':=by
 have lU:aU w (.iface 258 (zf #[lv,rv])) (.aN l r):=⟨lv,rv,rfl,hl,hr⟩;have hlen:=QE _ _ lU hw;obtain⟨t1,x1,rfl⟩:=je hl;obtain⟨t2,x2,rfl⟩:=je hr;obtain⟨W4,rL⟩:∃W4,(((w.alloc (zd #[zc (za ⟨pl,0,zb⟩)] 161)).alloc (zd #[.iface t1 x1,.iface t2 x2] 258)).alloc (zd #[] 198)).alloc (zd #[zl (za ⟨w.heap.size+1+1,0,zb⟩) 0 0] 187)=W4:=⟨_,rfl⟩;have qc:W4.heap.size=w.heap.size+1+1+1+1:=by rw[<-rL];simp
 have bE:zg w.heap.size w W4:=by rw[<-rL];exact(((aw).alloc (by simp) _).alloc (by simp;omega) _).alloc (by simp;omega) _
 have q0:W4.heap[w.heap.size]?=za (zd #[zc (za ⟨pl,0,zb⟩)] 161 (0,0)):=by rw[<-rL];exact cX (cX (cX (aI _ _)))
 have q1:W4.heap[w.heap.size+1]?=za (zd #[.iface t1 x1,.iface t2 x2] 258 (0,0)):=by rw[<-rL];exact cX (cX (DM _ _ _))
 have q2:W4.heap[w.heap.size+1+1]?=za (zd #[] 198 (0,0)):=by
  rw[<-rL];refine cX ?_;have:=aI ((w.alloc (zd #[zc (za ⟨pl,0,zb⟩)] 161)).alloc (zd #[.iface t1 x1,.iface t2 x2] 258)) (zd #[] 198)
  simpa using this
 have q3:W4.heap[w.heap.size+1+1+1]?=za (zd #[zl (za ⟨w.heap.size+1+1,0,zb⟩) 0 0] 187 (0,0)):=by
  rw[<-rL];have:=aI (((w.alloc (zd #[zc (za ⟨pl,0,zb⟩)] 161)).alloc (zd #[.iface t1 x1,.iface t2 x2] 258)).alloc (zd #[] 198)) (zd #[zl (za ⟨w.heap.size+1+1,0,zb⟩) 0 0] 187)
  simpa using this
 have lX:=Yl (w:=w) (pl:=pl) (bf:=W4.heap.size) (bo:=w.heap.size+1+1+1) (bp:=w.heap.size) (.aN l r) (λq hq=>lT q (by
  rcases fm.1 (show q∈dA l++dA r from hq) with h|h
  ·have:=Jz l q h;exact sH (by simp[fI];omega)
  ·have:=Jz r q h;exact sH (by simp[fI];omega)))
 have st:=zO (P:=prog) W4 #[.nilFunc] 306 (.func (.func 182) #[] #[zc (za ⟨W4.heap.size,0,zb⟩),zc (za ⟨w.heap.size+1+1+1,0,zb⟩),zc (za ⟨w.heap.size,0,zb⟩)]) rfl 0 (by simp);simp only[List.setIfInBounds_toArray,List.set_cons_zero]at st;obtain⟨W5,tE⟩:∃W5,W4.alloc (zd #[.func (.func 182) #[] #[zc (za ⟨W4.heap.size,0,zb⟩),zc (za ⟨w.heap.size+1+1+1,0,zb⟩),zc (za ⟨w.heap.size,0,zb⟩)]] 306)=W5:=⟨_,rfl⟩;have bD:zg W4.heap.size W4 W5:=by rw[<-tE];exact aw
 have q4:W5.heap[W4.heap.size]?=za (zd #[.func (.func 182) #[] #[zc (za ⟨W4.heap.size,0,zb⟩),zc (za ⟨w.heap.size+1+1+1,0,zb⟩),zc (za ⟨w.heap.size,0,zb⟩)]] 306 (0,0)):=by rw[<-tE];exact aI _ _
 have z:∀k,k<W4.heap.size->W5.heap[k]?=W4.heap[k]?:=bD.block;have p0:=(z _ (by omega)).trans q0;have p1:=(z _ (by omega)).trans q1;have p2:=(z _ (by omega)).trans q2;have p3:=(z _ (by omega)).trans q3;have zwv:zg w.heap.size w W5:=aq bE bE.size bD;have hA5:xc w pl W4.heap.size (w.heap.size+1+1+1) w.heap.size W5 (λ_=>zb) (zl (za ⟨w.heap.size+1+1,0,zb⟩) 0 0) []:=
  ⟨jA.start w pl _ W5 zwv (λk e=>by
   rcases e with e|e
   ·have e:w.heap.size+1+1=k:=by simpa [Value.ownBlock]using e
    subst e;exact⟨by omega,_,_,p2,by decide,by decide⟩
   ·subst e;exact⟨by omega,_,_,p3,by decide,by decide⟩),⟨rfl,.inr ⟨w.heap.size+1+1,0,#[],rfl,by omega,p2,aj _,by unfold maxLen;omega,rfl,rfl⟩⟩,q4,p3,p0,by omega⟩
 have hc:=lX W5 _ _ [] _ hA5 lU hw (by simp;omega);have c1:=(jr p1).1;have c2:=(jr p1).2;have cf:W5.cell? ⟨W4.heap.size,0,zb⟩=za (.func (.func 182) #[] #[zc (za ⟨W4.heap.size,0,zb⟩),zc (za ⟨w.heap.size+1+1+1,0,zb⟩),zc (za ⟨w.heap.size,0,zb⟩)]):=(aM _ _ _ _ _ _ q4:_=_);rw[qc]at st tE hc cf;clear lT hl hr lU lX hA5 q0 q1 q2 q3 q4 p0 p1 p2 p3 z
 go_enter func159,ntmps159
 go_wp2_with fail
 refine hc.mono ?_;rintro e6 W6 ⟨Q6,vO6,ys,rfl,CO,hy,-,-⟩;rw[wX]at CO;have Fw:ys.length=(dA (.aN l r)).length:=by rw[<-hy];simp
 have gz:=Ng (.aN l r);obtain⟨n6,Fb⟩:∃n,ys.length=n:=⟨_,rfl⟩;obtain⟨g6,AR,rfl⟩:∃g cap,vO6=zl (za ⟨g,0,zb⟩) n6 cap:=by
  rcases CO.own.2 with ⟨_,e2⟩|⟨g,cap,ax,e,_⟩
  ·omega
  ·exact⟨g,cap,by rw[e,Fb]⟩
 have co:W6.cell? ⟨w.heap.size+1+1+1,0,zb⟩=za (zl (za ⟨g6,0,zb⟩) n6 AR):=(aM _ _ _ _ _ _ CO.xo:_=_);have pk:=(ah.1 CO.xo).1;have Is:zn prog 183 #[zl (za ⟨g6,0,zb⟩) n6 AR,.func (.func 184) #[] #[]] W6 λe w'=>∃b:Bool,e=.returned (.bool b)/\zi (b=false->lK (.aN l r))/\zg W6.heap.size W6 w':=by
  have dF:∀i,i<n6->dU w.heap.size W6 pl Q6 (qV ys i) (kG ys i):=λi hi=>CO.kd.fin _ (B8 (Gq (xs:=ys) (i:=i) (by omega)))
  obtain⟨fs,f1,f2,f3⟩:=zme n6 (qV ys) (kG ys) dF;refine(zjv g6 AR n6 (qV ys) fs W6 (λi hi=>?_) f1 f2 (by omega)).mono ?_
  ·have:=CO.own;rw[<-Fb]at this;exact X9 this (Gq (by omega))
  ·rintro e w' ⟨b,rfl,k1,k2,hb⟩;refine⟨b,rfl,λe=>XR _ λq hq=>?_,hb⟩;rw[<-hy]at hq;obtain⟨x,hx,rfl⟩:=rh.1 hq;obtain⟨i,hi,rfl⟩:=DW hx;have h3:=f3 i (by omega) (k1 e i (by omega));have h4:=Gq (xs:=ys) (i:=i) hi;rw[dh hi]at h4;rw[Option.some.inj h4];exact h3
 have HA6:=aA CO;have Hy:=aA hy;clear hc CO hy c1 c2 cf st rL tE bE bD zwv
 go_wp2_with fail
 refine Is.mono ?_;rintro e8 W8 ⟨b8,rfl,ry,eY⟩;have EJ:=HA6.out.below eY;have co8:=(eY.cell (p:=⟨w.heap.size+1+1+1,0,zb⟩) pk).trans co;have dK:=EJ.kd.bu;cases b8 with
 |false=>
  have HF:zi (GD w pl (.aN l r) (.returned .nilIface) W8):=⟨Q6,.nilIface,rfl,dK,EJ.kd.pm,zo1 (ry.out rfl)⟩;clear EJ ry Is;go_wp2;go_ret;exact HF.out
 |true=>
  have HF:zi (GD w pl (.aN l r) (.returned (.iface 311 (zf #[zl (za ⟨g6,0,zb⟩) n6 AR]))) W8):=by
   refine⟨Q6,_,rfl,dK,EJ.kd.pm,?_⟩;have h1:=EJ.own;have h2:=EJ.kd.fin;rw[<-Fb]at h1 ⊢;exact znq h1 Hy.out h2
  clear EJ ry Is;go_wp2;go_ret;exact HF.out
end
section
variable {w:zk}
def RE(a lo:Nat)(w:zk)(pl:Nat)(Q:Nat->Option Pt)(p:Pt)(f:zm):Prop:=
 (f=.nilIface\/∃t x,f=.iface t x)/\∀(zF:Nat) (w1:zk) (Q1:Nat->Option Pt),zF<=lo->(∀k,lo<=k->k<w.heap.size->w1.heap[k]?=w.heap[k]?)->bJ w w1->(∀k q,Q k=za q->Q1 k=za q)->tf zF w1 pl Q1 a p f->dU zF w1 pl Q1 a p
theorem Ec.to{lo:Nat}{pl:Nat}{Q:Nat->Option Pt}{p:Pt}{f:zm}(h:Ec lo w pl Q p f)(a:Nat):RE a lo w pl Q p f:=⟨h.1,λzF w1 Q1=>h.2 zF w1 Q1 a⟩
def G4(a lo:Nat)(Q0:Nat->Option Pt)(w:zk)(pl:Nat)(p:Pt)(e:Ending)(w':zk):Prop:=
 ∃(Q:Nat->Option Pt) (f:zm),e=.returned f/\zg w.heap.size w w'/\kj lo w' pl Q/\(∀k q,Q0 k=za q->Q k=za q)/\RE a lo w' pl Q p f
theorem zto(a:Nat)(b:Pt)(o:Bool)(m:Nat):qg (zc (za ⟨a,0,zb⟩)) (.bool o) m=gJ (List.replicate m (a,(b,o))):=by
 induction m with
 |zero=>rfl
 |succ m ih=>
  rw[List.replicate_succ',Nk,<-ih];show qg _ _ (m+1)=qg _ _ m++[zc (za ⟨a,0,zb⟩),.bool o];unfold qg;rw[show (m+1)*2=m*2+1+1 from by omega,yD,yD];simp
theorem zhy(pl:Nat)(bv:zm)(b:Pt)(w:zk)(a a' lo:Nat)(Q0:Nat->Option Pt)(hT:aU w bv b)(hp:dU lo w pl Q0 a' b)(hm:kj lo w pl Q0):
  zn prog 160 #[zc (za ⟨pl,0,zb⟩),zf #[bv,ze .i64 0,ze .i64 (-1)],zc (za ⟨a,0,zb⟩),zc (za ⟨a',0,zb⟩)] w λe w'=>G4 a lo Q0 w pl (.az b 0 (-1)) e w':=by
 obtain⟨t1,x1,rfl⟩:=je hT;have af:zg w.heap.size w (w.alloc (zd #[.iface t1 x1,ze .i64 0,ze .i64 (-1)] 261)):=aw;have HF:zi (G4 a lo Q0 w pl (.az b 0 (-1)) (.returned (.iface 313 (zf #[zc (za ⟨a,0,zb⟩),zc (za ⟨a',0,zb⟩)]))) (w.alloc (zd #[.iface t1 x1,ze .i64 0,ze .i64 (-1)] 261))):=by
  refine⟨Q0,_,rfl,af,hm.keep (aj _) (λk _ hk=>af.block k hk) (ou af),λ_ _ e=>e,.inr ⟨_,_,rfl⟩,λzF w1 Q1 h1 h2 h3 h4 h5=>?_⟩;exact .rounds a a' b h5 (hp.keep h1 (λk k1 k2=>(h2 k k1 (bA k2 af.size)).trans (af.block k k2)) ((ou af).trans h3) h4)
 clear hT hp hm af
 go_enter func160,ntmps160
 go_wp2;go_ret;exact HF.out
theorem Na{g:Nat}{a0 a1 a2:zm}{t:zo}(h:w.heap[g]?=za (zd #[a0,a1,a2] t (0,0))):w.cell? ⟨g,0,zb⟩=za a0/\w.cell? ⟨g,1,zb⟩=za a1/\w.cell? ⟨g,2,zb⟩=za a2:=by
 have:∀o,w.cell? ⟨g,o,zb⟩=#[a0,a1,a2][o]?:=λ_=>aM _ _ _ _ _ _ h
 exact⟨this 0,this 1,this 2⟩
def ni(a':Nat)(b:Pt)(m k:Nat):List (Nat×fW):=List.replicate m (a',(b,false))++List.replicate k (a',(b,true))
theorem ztv(a':Nat)(b:Pt)(m k:Nat):(ni a' b m k).length=m+k:=by simp[ni]
theorem zsa(a':Nat)(b:Pt)(m k:Nat):ni a' b m (k+1)=ni a' b m k++[(a',(b,true))]:=by simp[ni,List.replicate_succ']
theorem zqc{a':Nat}{b:Pt}{m k:Nat}{x:Nat×fW}(h:x∈ni a' b m k):x.1=a'/\x.2.1=b:=by
 rcases fm.1 h with h|h<;>rw[(List.mem_replicate.1 h).2]<;>exact⟨rfl,rfl⟩
theorem zhx(pl:Nat)(bv:zm)(b:Pt)(m:Nat)(mx:Int)(dV:fj (m:Int) mx=true)(hne:¬((m:Int)=0/\mx=-1))(w:zk)(a a' lo:Nat)(Q0:Nat->Option Pt)(hT:aU w bv b)(tO:aE b<=2000)(hp:dU lo w pl Q0 a' b)(hm:kj lo w pl Q0)(jZ:lo<=w.heap.size):
  zn prog 160 #[zc (za ⟨pl,0,zb⟩),zf #[bv,ze .i64 (m:Int),ze .i64 mx],zc (za ⟨a,0,zb⟩),zc (za ⟨a',0,zb⟩)] w λe w'=>G4 a lo Q0 w pl (.az b m mx) e w':=by
 obtain⟨i0,hi,bI,aO,aQ⟩:=info_parts Tryz.VM;obtain⟨t1,x1,rfl⟩:=je hT;have cN:m<=255/\(mx=-1\/((m:Int)<=mx/\mx<=255)):=by simp[fj]at dV;omega
 obtain⟨hm9,hmx⟩:=cN;obtain⟨d,Hd⟩:∃d,zi ((mx-(m:Int)).toNat=d):=⟨_,rfl⟩;have hd9:d<=255:=by have:=Hd.out;omega
 have zj:∀k:Nat,(k:Int)<mx-(m:Int)↔k<d:=λk=>by have:=Hd.out;omega
 obtain⟨W0,ai⟩:∃W0,w.alloc (zd #[.iface t1 x1,ze .i64 (m:Int),ze .i64 mx] 261)=W0:=⟨_,rfl⟩;have af:zg w.heap.size w W0:=by rw[<-ai];exact aw
 have x0:W0.heap[w.heap.size]?=za (zd #[.iface t1 x1,ze .i64 (m:Int),ze .i64 mx] 261 (0,0)):=by rw[<-ai];exact aI _ _
 obtain⟨c0,c1,c2⟩:=Na x0;have HT:=aA hT;have Hp:=aA hp;have Hm:=aA hm;have Bm:∀k,(ni a' b m k).length=m+k:=ztv a' b m;have J8:=aA ai;clear hT hp hm ai
 go_enter func160,ntmps160
 go_upto_region 1 with fail
 rw[J8.out]
 go_cut [18] from 11 to 18 (λv18 wx=>v18=.bool false/\wx=W0)
 case first=>
  by_cases h0:m=0
  ·subst h0;have h2:(mx == -1)=false:=by simp;omega
   go_wp2
   go_meet
   exact⟨rfl,rfl⟩
  ·have h2:((m:Int)==0)=false:=by simp;omega
   go_wp2
   go_meet
   exact⟨rfl,rfl⟩
 case rest=>
  obtain⟨rfl,rfl⟩:=hcut;obtain⟨W1,cm⟩:∃W1,wc.alloc (zd #[zc (za ⟨a',0,zb⟩),.bool false] 299)=W1:=⟨_,rfl⟩;have ag:zg wc.heap.size wc W1:=by rw[<-cm];exact aw
  have y1:W1.heap[wc.heap.size]?=za (zd #[zc (za ⟨a',0,zb⟩),.bool false] 299 (0,0)):=by rw[<-cm];exact aI _ _
  have Mc:=ziZ (zc (za ⟨a',0,zb⟩)) (.bool false) rfl rfl wc.heap.size m W1 (jr y1).1 (jr y1).2 (by omega);have mA:=(ag.block _ (ah.1 x0).1).trans x0;obtain⟨e0,e1,e2⟩:=Na mA;have lY:zg w.heap.size w W1:=aq af af.size ag;clear c0 c1 c2 x0 y1 J8
  go_wp2_with fail
  refine Mc.mono ?_;rintro e W2 ⟨rfl,ff,ae⟩;rw[zto a' b]at ff;have jF:zg w.heap.size w W2:=aq lY lY.size ae;have jp:=(ae.block _ (ah.1 mA).1).trans mA;obtain⟨g0,g1,g2⟩:=Na jp;have Hx2:=aA jp;have Kn:zi (W2.ownsRow w.heap.size 299 2 (zl (za ⟨W1.heap.size,0,zb⟩) (m+0) m) (m+0) (gJ (ni a' b m 0))):=by
   show World.ownsRow _ _ _ _ _ _ _;have:ni a' b m 0=List.replicate m (a',(b,false)):=by simp[ni]
   rw[this];exact ny ff lY.size
  clear Mc ff e0 e1 e2 mA jp cm;have dH:-9223372036854775808<=mx-(m:Int):=by omega
  have cV:mx-(m:Int)<=9223372036854775807:=by omega
  go_wp2;clear g0 g1 g2
  go_loopw [9,34] (λlv iv wr=>∃(k gL CF:Nat),lv=zl (za ⟨gL,0,zb⟩) (m+k) CF/\iv=ze .i64 k/\k<=d/\zi (zg w.heap.size w wr)/\zi (wr.heap[w.heap.size]?=za (zd #[.iface t1 x1,ze .i64 (m:Int),ze .i64 mx] 261 (0,0)))/\zi (wr.ownsRow w.heap.size 299 2 (zl (za ⟨gL,0,zb⟩) (m+k) CF) (m+k) (gJ (ni a' b m k))))
   (λ_ iv _=>d-(intOf iv).toNat)
  case atStart=>exact⟨0,W1.heap.size,m,rfl,rfl,aR _,jF,Hx2,Kn⟩
  case round=>
   clear Kn jF ae ag;obtain⟨k,gL,CF,rfl,rfl,hk,HB,HX,HO⟩:=hrel;have jo:=HB.out.size
   by_cases hlt:k<d
   ·have xF:decide ((k:Int)<mx-(m:Int))=true:=by simp;exact(zj k).2 hlt
    have own:=HO.out
    go_wp2_with (at_builtin;refine wM rfl (.tmp 36) (.tmp 39) 300 rfl wr #[zc (za ⟨a',0,zb⟩),.bool true] 299 rfl wr.heap.size rfl w.heap.size i0 _ 2 16 underlying300 hi bI aO aQ rfl (by omega) _ (m+k) (gJ (ni a' b m k)) rfl own rfl rfl (by intro u hu;simp at hu;rcases hu with rfl|rfl<;>rfl) (by omega) (by omega) jo ?_;intro g7 bG W7 fh er iI)
    have fD:=(Gd own).2.1;have HB7:zi (zg w.heap.size w W7):=HB.out.grown er jo (by intro k' h;have h:za gL=za k':=h;injection h with h;omega);have HX7:zi (W7.heap[w.heap.size]?=za (zd #[.iface t1 x1,ze .i64 (m:Int),ze .i64 mx] 261 (0,0))):=(er.block _ (ah.1 HX.out).1 (λe=>by
     obtain⟨_,ax,z2⟩:=dy own (k:=w.heap.size) e.symm;have hX:=HX.out;rw[hX]at z2;exact absurd (bL z2) (by decide))).trans HX.out
    have HO7:zi (W7.ownsRow w.heap.size 299 2 (zl (za ⟨g7,0,zb⟩) (m+(k+1)) bG) (m+(k+1)) (gJ (ni a' b m (k+1)))):=by
     show World.ownsRow _ _ _ _ _ _ _;rw[zsa,Nk];exact fh
    clear own fh er iI HB HX HO
    go_roundw
    case rel=>exact⟨k+1,g7,bG,by rw[Nat.add_assoc],by go_num,by omega,HB7,HX7,HO7⟩
    case measure=>simp[intOf];omega
   ·obtain rfl:k=d:=by omega
    have xF:decide ((k:Int)<mx-(m:Int))=false:=by simp;have:=zj k;omega
    obtain⟨g0,g1,g2⟩:=Na HX.out;have Vi:∀W,zg w.heap.size w W->dU lo W pl Q0 a' b:=λW hb=>Hp.out.keep (aj _) (λj _ h2=>hb.block j h2) (ou hb) (λ_ _ e=>e)
    have hmw:∀W,zg w.heap.size w W->kj lo W pl Q0:=λW hb=>Hm.out.keep (aj _) (λj _ h2=>hb.block j h2) (ou hb)
    have Oq:=aA Vi;have Oj:=aA hmw;clear Vi hmw;rcases hmx with rfl|⟨zBA,zBB⟩
    ·
     obtain⟨n7,Cm⟩:∃n7,zi (m+k=n7):=⟨_,rfl⟩;have zz0:n7<=2000:=by have:=Cm.out;omega
     have own:=HO.out;rw[Cm.out]at own ⊢;obtain⟨W3,eN⟩:∃W3,wr.alloc (zd #[zc (za ⟨pl,0,zb⟩),.iface 261 (zf #[.iface t1 x1,ze .i64 0,ze .i64 (-1)]),.iface 313 (zf #[zc (za ⟨wr.heap.size,0,zb⟩),zc (za ⟨a',0,zb⟩)]),zc zb] 222)=W3:=⟨_,rfl⟩;have aG:zg wr.heap.size wr W3:=by rw[<-eN];exact aw
     have s3:W3.heap[wr.heap.size]?=za (zd #[zc (za ⟨pl,0,zb⟩),.iface 261 (zf #[.iface t1 x1,ze .i64 0,ze .i64 (-1)]),.iface 313 (zf #[zc (za ⟨wr.heap.size,0,zb⟩),zc (za ⟨a',0,zb⟩)]),zc zb] 222 (0,0)):=by rw[<-eN];exact aI _ _
     have kH:=dQ own aG;have Bb:zg w.heap.size w W3:=aq HB.out jo aG;have l9:=Bb.size;have zyk:zi (∀W7 g7 bG,W7.ownsRow w.heap.size 299 2 (zl (za ⟨g7,0,zb⟩) (n7+1) bG) (n7+1) (gJ (ni a' b m k)++[zc (za ⟨wr.heap.size,0,zb⟩),.bool false])->W3.grownBy W7 (za gL)->G4 a lo Q0 w pl (.az b m (-1)) (.returned (.iface 305 (zf #[zl (za ⟨g7,0,zb⟩) (n7+1) bG]))) W7):=λW7 g7 bG fh er=>by
      have fD:=(Gd own).2.1;have Pf:zg w.heap.size w W7:=Bb.grown er l9 (by intro k' h;have h:za gL=za k':=h;injection h with h;omega);have s7:=(er.block _ (ah.1 s3).1 (λe=>by
       obtain⟨_,ax,z2⟩:=dy kH (k:=wr.heap.size) (by simp[Value.ownBlock];injection e with e;exact e.symm);rw[s3]at z2;exact absurd (bL z2) (by decide))).trans s3
      have hT7:aU W7 (.iface t1 x1) b:=aU.keep (ou Pf) b _ HT.out;have rK:aU W7 (.iface 261 (zf #[.iface t1 x1,ze .i64 0,ze .i64 (-1)])) (.az b 0 (-1)):=⟨_,rfl,hT7,by decide⟩;have TS:Q0 wr.heap.size=zb:=Hm.out.high jo;have zC:=Oq.out W7 Pf;have hq:∀j q,Q0 j=za q->qU Q0 (zM wr.heap.size (.az b 0 (-1))) j=za q:=λj q e=>Yu e
      have IV:qU Q0 (zM wr.heap.size (.az b 0 (-1))) wr.heap.size=za (.az b 0 (-1)):=Ya TS (XJ _ _);have wz:aE (.az b 0 (-1))<=2000:=by rw[zmS tO];exact tO
      have O8:dU lo W7 pl (qU Q0 (zM wr.heap.size (.az b 0 (-1)))) wr.heap.size (.az b 0 (-1)):=.rounds _ a' b ⟨by omega,IV,⟨_,s7,rK⟩,wz⟩ (zC.keep (aj _) (λ_ _ _=>rfl) (λ_ _ e=>e) hq);refine⟨qU Q0 (zM wr.heap.size (.az b 0 (-1))),_,rfl,Pf,(Oj.out W7 Pf).union (λj q e=>?_),hq,?_⟩
      ·obtain⟨rfl,rfl⟩:=Yt e;exact⟨by omega,wz,_,_,s7,rK⟩
      ·obtain⟨xs,PZ⟩:∃xs,ni a' b m k++[(wr.heap.size,(.az b 0 (-1),false))]=xs:=⟨_,rfl⟩;have Mq:xs.length=n7+1:=by rw[<-PZ,<-Cm.out];simp[Bm]
       have gZ:k=0:=by have:=Hd.out;omega
       have LU:xs.map Prod.snd=mF (.az b m (-1)):=by
        rw[<-PZ];subst gZ;show _=gM b (m:Int).toNat (-1);unfold gM;rw[sM,aC rfl,show ((-1:Int)-((m:Nat):Int)).toNat=0 from by omega];simp[ni]
       have e7:gJ xs=gJ (ni a' b m k)++[zc (za ⟨wr.heap.size,0,zb⟩),.bool false]:=by rw[<-PZ,Nk];rfl
       rw[<-e7,<-Mq]at fh;rw[<-Mq];exact(XS (ny fh jZ) LU (λ_ _ e=>(by cases e)) (λ_ _ e=>(by cases e)) (λb' e=>by injection e with _ e1;exact hne ⟨e1,rfl⟩) (λ_ e=>(by cases e)) (λx hx=>by
        rw[<-PZ]at hx;rcases fm.1 hx with hx|hx
        ·obtain⟨z1,z2⟩:=zqc hx;rw[z1,z2];exact zC.keep (aj _) (λ_ _ _=>rfl) (λ_ _ e=>e) hq
        ·rw[eK.1 hx];exact O8)).to a
     clear HB HX HO Oq Oj s3 aG
     go_wp2_with (at_builtin;refine wM rfl (.tmp 59) (.tmp 62) 300 rfl W3 #[zc (za ⟨wr.heap.size,0,zb⟩),.bool false] 299 rfl W3.heap.size rfl w.heap.size i0 _ 2 16 underlying300 hi bI aO aQ rfl (by omega) _ n7 (gJ (ni a' b m k)) rfl kH rfl rfl (by intro u hu;simp at hu;rcases hu with rfl|rfl<;>rfl) (by omega) (by omega) l9 ?_;intro g7 bG W7 fh er iI;have HF:=aA (zyk.out W7 g7 bG fh er);clear fh er iI)
     go_ret
     exact HF.out
    ·have HF:zi (G4 a lo Q0 w pl (.az b m mx) (.returned (.iface 305 (zf #[zl (za ⟨gL,0,zb⟩) (m+k) CF]))) wr):=by
      refine⟨Q0,_,rfl,HB.out,Oj.out wr HB.out,λ_ _ e=>e,?_⟩;have LU:(ni a' b m k).map Prod.snd=mF (.az b m mx):=by
       show _=gM b (m:Int).toNat mx;unfold gM;rw[sM,ak (by omega),Hd.out];simp[ni]
      have own:=HO.out;rw[<-Bm k]at own ⊢;exact(XS (ny own jZ) LU (λ_ _ e=>(by cases e)) (λ_ _ e=>(by cases e)) (λb' e=>by injection e with _ e1 e2;exact hne ⟨e1,e2⟩) (λ_ e=>(by cases e)) (λx hx=>by
       obtain⟨z1,z2⟩:=zqc hx;rw[z1,z2];exact Oq.out wr HB.out)).to a
     have pU:(mx == -1)=false:=by simp;omega
     clear HB HX HO Oq Oj;go_wp2;go_ret;exact HF.out
end
section
variable {w W2:zk}{pl:Nat}{v:zm}{p:Pt}
theorem wN{g:Nat}{a0 a1 a2 a3:zm}{t:zo}(h:w.heap[g]?=za (zd #[a0,a1,a2,a3] t (0,0))):w.cell? ⟨g,2,zb⟩=za a2/\w.frozen? ⟨g,2,zb⟩=false:=by
 have:∀o,w.cell? ⟨g,o,zb⟩=#[a0,a1,a2,a3][o]?:=λ_=>aM _ _ _ _ _ _ h
 exact⟨this 2,cT _ _ 2 _ _ h⟩
theorem QF{lo:Nat}{Q:Nat->Option Pt}{f:zm}(hb:zg w.heap.size w W2)(hx:W2.heap[w.heap.size]?=za (zd #[zc (za ⟨pl,0,zb⟩),v,.nilIface,zc zb] 222 (0,0)))(hm:kj lo W2 pl Q)(jZ:w.heap.size<lo)(hf:RE w.heap.size lo W2 pl Q p f)(hT:aU w v p)(hw:aE p<=2000):
  xk w pl p (.returned (zc (za ⟨w.heap.size,0,zb⟩))) (W2.setCell ⟨w.heap.size,2,zb⟩ f):=by
 have h3:=dE W2 w.heap.size 2 _ _ f hx;have h4:∀k,k≠w.heap.size->(W2.setCell ⟨w.heap.size,2,zb⟩ f).heap[k]?=W2.heap[k]?:=λk e=>cH _ _ _ _ (show k≠w.heap.size from e)
 obtain⟨W3,eN⟩:∃W3,W2.setCell ⟨w.heap.size,2,zb⟩ f=W3:=⟨_,rfl⟩;have aG:zg w.heap.size w W3:=by rw[<-eN];exact hb.setCell (aj _) _
 rw[eN]at h3 h4 ⊢;have x3:W3.heap[w.heap.size]?=za (zd #[zc (za ⟨pl,0,zb⟩),v,f,zc zb] 222 (0,0)):=by rw[h3];rfl
 have km:bJ W2 W3:=λmg g e=>(h4 mg (λe2=>by rw[e2,hx]at e;exact absurd (bL e) (by decide))).trans e
 have TS:Q w.heap.size=zb:=hm.Td jZ;have lW:=aU.keep (ou aG) p _ hT;have IV:qU Q (zM w.heap.size p) w.heap.size=za p:=Ya TS (XJ _ _);refine⟨w.heap.size,qU Q (zM w.heap.size p),rfl,aG,kj.union (hm.keep (Nat.le_of_lt jZ) (λk hk _=>h4 k (by omega)) km) (λk q e=>?_),?_⟩
 ·obtain⟨rfl,rfl⟩:=Yt e;exact⟨aj _,hw,v,f,x3,lW⟩
 ·exact hf.2 w.heap.size W3 _ (Nat.le_of_lt jZ) (λk hk _=>h4 k (by omega)) km (λk q e=>Yu e) ⟨aj _,IV,⟨v,x3,lW⟩,hw⟩
theorem zhM(hb:zg w.heap.size w W2)(hx:W2.heap[w.heap.size]?=za (zd #[zc (za ⟨pl,0,zb⟩),v,.nilIface,zc zb] 222 (0,0)))(hn:lK p)(hT:aU w v p)(hw:aE p<=2000):xk w pl p (.returned (zc (za ⟨w.heap.size,0,zb⟩))) W2:=by
 have lV:=aU.keep (ou hb) p _ hT;refine⟨w.heap.size,zM w.heap.size p,rfl,hb,λk q e=>?_,.leaf _ _ ⟨aj _,XJ _ _,⟨v,hx,lV⟩,hw⟩ hn⟩;obtain⟨rfl,rfl⟩:=Yt e;exact⟨aj _,hw,v,_,hx,lV⟩
theorem zpR(f:Nat->Bool):sy (.set f):=by
 intro pl v w hT hw;have tC:=hT;obtain⟨mg,rfl,hmg⟩:=hT;have a1:∀w,Sem.run prog (Instr.typeAssert (.iface 297 (zf #[zc (za ⟨mg,0,zb⟩)])) 184 256 true) w=.ok (.tuple #[zf #[.nilIface,.nilIface],.bool false]) w:=λw=>by kernel_rfl
 have a2:∀w,Sem.run prog (Instr.typeAssert (.iface 297 (zf #[zc (za ⟨mg,0,zb⟩)])) 184 258 true) w=.ok (.tuple #[zf #[.nilIface,.nilIface],.bool false]) w:=λw=>by kernel_rfl
 have a3:∀w,Sem.run prog (Instr.typeAssert (.iface 297 (zf #[zc (za ⟨mg,0,zb⟩)])) 184 261 true) w=.ok (.tuple #[zf #[.nilIface,ze .i64 0,ze .i64 0],.bool false]) w:=λw=>by kernel_rfl
 have a4:∀w,Sem.run prog (Instr.typeAssert (.iface 297 (zf #[zc (za ⟨mg,0,zb⟩)])) 184 264 true) w=.ok (.tuple #[zf #[.nilIface,ze .i64 0],.bool false]) w:=λw=>by kernel_rfl
 obtain⟨W0,ai⟩:∃W0,w.alloc (zd #[zc (za ⟨pl,0,zb⟩),.iface 297 (zf #[zc (za ⟨mg,0,zb⟩)]),.nilIface,zc zb] 222)=W0:=⟨_,rfl⟩;have af:zg w.heap.size w W0:=by rw[<-ai];exact aw
 have x0:W0.heap[w.heap.size]?=za (zd #[zc (za ⟨pl,0,zb⟩),.iface 297 (zf #[zc (za ⟨mg,0,zb⟩)]),.nilIface,zc zb] 222 (0,0)):=by rw[<-ai];exact aI _ _
 have HF:=aA (zhM (p:=.set f) af x0 trivial tC hw);clear tC hmg af x0
 go_enter func139,ntmps139
 go_wp2;go_ret;exact HF.out
theorem zpQ(l r:Pt)(lT:∀q,mz q<mz (.seq l r)->sy q):sy (.seq l r):=by
 intro pl v w hT hw;have tC:=hT;obtain⟨lv,rv,rfl,hl,hr⟩:=hT;obtain⟨t1,x1,rfl⟩:=je hl;obtain⟨t2,x2,rfl⟩:=je hr;have a1:∀w,Sem.run prog (Instr.typeAssert (.iface 256 (zf #[.iface t1 x1,.iface t2 x2])) 184 256 true) w=.ok (.tuple #[zf #[.iface t1 x1,.iface t2 x2],.bool true]) w:=λw=>by kernel_rfl
 obtain⟨W0,ai⟩:∃W0,w.alloc (zd #[zc (za ⟨pl,0,zb⟩),.iface 256 (zf #[.iface t1 x1,.iface t2 x2]),.nilIface,zc zb] 222)=W0:=⟨_,rfl⟩;have af:zg w.heap.size w W0:=by rw[<-ai];exact aw
 have x0:W0.heap[w.heap.size]?=za (zd #[zc (za ⟨pl,0,zb⟩),.iface 256 (zf #[.iface t1 x1,.iface t2 x2]),.nilIface,zc zb] 222 (0,0)):=by rw[<-ai];exact aI _ _
 have dD:W0.heap.size=w.heap.size+1:=by rw[<-ai];simp
 obtain⟨W1,cm⟩:∃W1,W0.alloc (zd #[.iface t1 x1,.iface t2 x2] 256)=W1:=⟨_,rfl⟩;have ag:zg W0.heap.size W0 W1:=by rw[<-cm];exact aw
 have y1:W1.heap[W0.heap.size]?=za (zd #[.iface t1 x1,.iface t2 x2] 256 (0,0)):=by rw[<-cm];exact aI _ _
 have lY:zg w.heap.size w W1:=aq af af.size ag;have mA:=(ag.block _ (ah.1 x0).1).trans x0;have dH:w.heap.size+1<W1.heap.size:=by have:=(ah.1 y1).1;omega
 have hc:=zm5 l r lT pl _ _ W1 (aU.keep (ou lY) l _ hl) (aU.keep (ou lY) r _ hr) hw;obtain⟨c0,c1⟩:=jr y1;have HT:=aA tC;clear tC hl hr lT y1 x0;rw[dD]at ag c0 c1
 go_enter func139,ntmps139
 go_wp2_with fail
 refine hc.mono ?_;rintro e2 W2 ⟨Q,fv,rfl,ae,dG,zp⟩;have jF:zg w.heap.size w W2:=aq lY lY.size ae;have jp:=(ae.block _ (ah.1 mA).1).trans mA;have HF:=aA (QF jF jp dG (by omega) (zp.to w.heap.size) HT.out hw);obtain⟨d2,f2⟩:=wN jp;have rR:=zp.1;clear hc dG zp jp c0 c1 ai cm;rcases rR with rfl|⟨t9,x9,rfl⟩
 ·go_wp2;go_ret;exact HF.out
 ·go_wp2;go_ret;exact HF.out
theorem zpN(l r:Pt)(lT:∀q,mz q<mz (.aN l r)->sy q):sy (.aN l r):=by
 intro pl v w hT hw;have tC:=hT;obtain⟨lv,rv,rfl,hl,hr⟩:=hT;obtain⟨t1,x1,rfl⟩:=je hl;obtain⟨t2,x2,rfl⟩:=je hr;have a1:∀w,Sem.run prog (Instr.typeAssert (.iface 258 (zf #[.iface t1 x1,.iface t2 x2])) 184 256 true) w=.ok (.tuple #[zf #[.nilIface,.nilIface],.bool false]) w:=λw=>by kernel_rfl
 have a2:∀w,Sem.run prog (Instr.typeAssert (.iface 258 (zf #[.iface t1 x1,.iface t2 x2])) 184 258 true) w=.ok (.tuple #[zf #[.iface t1 x1,.iface t2 x2],.bool true]) w:=λw=>by kernel_rfl
 obtain⟨W0,ai⟩:∃W0,w.alloc (zd #[zc (za ⟨pl,0,zb⟩),.iface 258 (zf #[.iface t1 x1,.iface t2 x2]),.nilIface,zc zb] 222)=W0:=⟨_,rfl⟩;have af:zg w.heap.size w W0:=by rw[<-ai];exact aw
 have x0:W0.heap[w.heap.size]?=za (zd #[zc (za ⟨pl,0,zb⟩),.iface 258 (zf #[.iface t1 x1,.iface t2 x2]),.nilIface,zc zb] 222 (0,0)):=by rw[<-ai];exact aI _ _
 have dD:W0.heap.size=w.heap.size+1:=by rw[<-ai];simp
 obtain⟨W1,cm⟩:∃W1,W0.alloc (zd #[.iface t1 x1,.iface t2 x2] 258)=W1:=⟨_,rfl⟩;have ag:zg W0.heap.size W0 W1:=by rw[<-cm];exact aw
 have y1:W1.heap[W0.heap.size]?=za (zd #[.iface t1 x1,.iface t2 x2] 258 (0,0)):=by rw[<-cm];exact aI _ _
 have lY:zg w.heap.size w W1:=aq af af.size ag;have mA:=(ag.block _ (ah.1 x0).1).trans x0;have dH:w.heap.size+1<W1.heap.size:=by have:=(ah.1 y1).1;omega
 have hc:=zkX l r lT pl _ _ W1 (aU.keep (ou lY) l _ hl) (aU.keep (ou lY) r _ hr) hw;obtain⟨c0,c1⟩:=jr y1;have HT:=aA tC;clear tC hl hr lT y1 x0;rw[dD]at ag c0 c1
 go_enter func139,ntmps139
 go_wp2_with fail
 refine hc.mono ?_;rintro e2 W2 ⟨Q,fv,rfl,ae,dG,zp⟩;have jF:zg w.heap.size w W2:=aq lY lY.size ae;have jp:=(ae.block _ (ah.1 mA).1).trans mA;have HF:=aA (QF jF jp dG (by omega) (zp.to w.heap.size) HT.out hw);obtain⟨d2,f2⟩:=wN jp;have rR:=zp.1;clear hc dG zp jp c0 c1 ai cm;rcases rR with rfl|⟨t9,x9,rfl⟩
 ·go_wp2;go_ret;exact HF.out
 ·go_wp2;go_ret;exact HF.out
theorem zpP(b:Pt)(mn mx:Int)(lT:sy b):sy (.az b mn mx):=by
 intro pl v w hT hw;have tC:=hT;have tO:=ztF hT hw;obtain⟨lv,rfl,hl,dV⟩:=hT;obtain⟨t1,x1,rfl⟩:=je hl;obtain⟨m,rfl⟩:∃m:Nat,mn=m:=⟨mn.toNat,by simp[fj]at dV;omega⟩;have a1:∀w,Sem.run prog (Instr.typeAssert (.iface 261 (zf #[.iface t1 x1,ze .i64 (m:Int),ze .i64 mx])) 184 256 true) w=.ok (.tuple #[zf #[.nilIface,.nilIface],.bool false]) w:=λw=>by kernel_rfl
 have a2:∀w,Sem.run prog (Instr.typeAssert (.iface 261 (zf #[.iface t1 x1,ze .i64 (m:Int),ze .i64 mx])) 184 258 true) w=.ok (.tuple #[zf #[.nilIface,.nilIface],.bool false]) w:=λw=>by kernel_rfl
 have a3:∀w,Sem.run prog (Instr.typeAssert (.iface 261 (zf #[.iface t1 x1,ze .i64 (m:Int),ze .i64 mx])) 184 261 true) w=.ok (.tuple #[zf #[.iface t1 x1,ze .i64 (m:Int),ze .i64 mx],.bool true]) w:=λw=>by kernel_rfl
 obtain⟨W0,ai⟩:∃W0,w.alloc (zd #[zc (za ⟨pl,0,zb⟩),.iface 261 (zf #[.iface t1 x1,ze .i64 (m:Int),ze .i64 mx]),.nilIface,zc zb] 222)=W0:=⟨_,rfl⟩;have af:zg w.heap.size w W0:=by rw[<-ai];exact aw
 have x0:W0.heap[w.heap.size]?=za (zd #[zc (za ⟨pl,0,zb⟩),.iface 261 (zf #[.iface t1 x1,ze .i64 (m:Int),ze .i64 mx]),.nilIface,zc zb] 222 (0,0)):=by rw[<-ai];exact aI _ _
 have dD:W0.heap.size=w.heap.size+1:=by rw[<-ai];simp
 obtain⟨W1,cm⟩:∃W1,W0.alloc (zd #[.iface t1 x1,ze .i64 (m:Int),ze .i64 mx] 261)=W1:=⟨_,rfl⟩;have ag:zg W0.heap.size W0 W1:=by rw[<-cm];exact aw
 have y1:W1.heap[W0.heap.size]?=za (zd #[.iface t1 x1,ze .i64 (m:Int),ze .i64 mx] 261 (0,0)):=by rw[<-cm];exact aI _ _
 have lY:zg w.heap.size w W1:=aq af af.size ag;have mA:=(ag.block _ (ah.1 x0).1).trans x0;have dH:w.heap.size+1<W1.heap.size:=by have:=(ah.1 y1).1;omega
 have hc:=lT pl (.iface t1 x1) W1 (aU.keep (ou lY) b _ hl) tO;obtain⟨c0,c1,c2⟩:=Na y1;have HT:=aA tC;have Hl:=aA hl;have Fw:=(ah.1 y1).1;rw[dD]at ag c0 c1 c2 Fw;clear tC hl lT y1 x0
 go_enter func139,ntmps139
 go_wp2_with fail
 refine hc.mono ?_;rintro e2 W2 ⟨a',Q,rfl,ae,dG,iW⟩;have jF:zg w.heap.size w W2:=aq lY lY.size ae;have jp:=(ae.block _ (ah.1 mA).1).trans mA;obtain⟨fb,ku,Bp,rP⟩:=iW.KH;obtain⟨vb,uH,-⟩:=ku.box;have cb:=(wN uH).1;rcases rP with rfl|⟨t9,x9,rfl⟩
 ·have HF:=aA (zhM jF jp (show lK (.az b m mx) from Bp rfl) HT.out hw);clear hc dG iW jp ku uH Bp c0 c1 c2;go_wp2;go_ret;exact HF.out
 ·have e0:W2.cell? ⟨w.heap.size+1,0,zb⟩=za (.iface t1 x1):=(ae.cell (p:=⟨w.heap.size+1,0,zb⟩) Fw).trans c0;have e1:W2.cell? ⟨w.heap.size+1,1,zb⟩=za (ze .i64 (m:Int)):=(ae.cell (p:=⟨w.heap.size+1,1,zb⟩) Fw).trans c1;have e2:W2.cell? ⟨w.heap.size+1,2,zb⟩=za (ze .i64 mx):=(ae.cell (p:=⟨w.heap.size+1,2,zb⟩) Fw).trans c2;have eZ:=aU.keep (ou jF) b _ Hl.out;have Mc:zn prog 160 #[zc (za ⟨pl,0,zb⟩),zf #[.iface t1 x1,ze .i64 (m:Int),ze .i64 mx],zc (za ⟨w.heap.size,0,zb⟩),zc (za ⟨a',0,zb⟩)] W2 λe w'=>G4 w.heap.size W1.heap.size Q W2 pl (.az b m mx) e w':=by
   by_cases hz:(m:Int)=0/\mx=-1
   ·obtain⟨h1,rfl⟩:=hz;rw[h1];exact zhy pl _ b W2 w.heap.size a' W1.heap.size Q eZ iW dG
   ·exact zhx pl _ b m mx dV hz W2 w.heap.size a' W1.heap.size Q eZ tO iW dG ae.size
  clear hc dG iW ku uH Bp c0 c1 c2 eZ
  go_wp2_with fail
  refine Mc.mono ?_;rintro e3 W3 ⟨Q3,fv,rfl,aG,we,-,Un⟩;have Bb:zg w.heap.size w W3:=aq jF jF.size aG;have WD:=(aG.block _ (ah.1 jp).1).trans jp;have HF:=aA (QF Bb WD we (by omega) Un HT.out hw);obtain⟨d2,f2⟩:=wN WD;have rR:=Un.1;clear Mc we Un WD jp e0 e1 e2 ai cm;rcases rR with rfl|⟨t9,x9,rfl⟩
  ·go_wp2;go_ret;exact HF.out
  ·go_wp2;go_ret;exact HF.out
theorem zpO(b:Pt)(g:Int)(lT:sy b):sy (.aT b g):=by
 intro pl v w hT hw;have tC:=hT;obtain⟨lv,rfl,hl⟩:=hT;obtain⟨t1,x1,rfl⟩:=je hl;have a1:∀w,Sem.run prog (Instr.typeAssert (.iface 264 (zf #[.iface t1 x1,ze .i64 g])) 184 256 true) w=.ok (.tuple #[zf #[.nilIface,.nilIface],.bool false]) w:=λw=>by kernel_rfl
 have a2:∀w,Sem.run prog (Instr.typeAssert (.iface 264 (zf #[.iface t1 x1,ze .i64 g])) 184 258 true) w=.ok (.tuple #[zf #[.nilIface,.nilIface],.bool false]) w:=λw=>by kernel_rfl
 have a3:∀w,Sem.run prog (Instr.typeAssert (.iface 264 (zf #[.iface t1 x1,ze .i64 g])) 184 261 true) w=.ok (.tuple #[zf #[.nilIface,ze .i64 0,ze .i64 0],.bool false]) w:=λw=>by kernel_rfl
 have a4:∀w,Sem.run prog (Instr.typeAssert (.iface 264 (zf #[.iface t1 x1,ze .i64 g])) 184 264 true) w=.ok (.tuple #[zf #[.iface t1 x1,ze .i64 g],.bool true]) w:=λw=>by kernel_rfl
 obtain⟨W0,ai⟩:∃W0,w.alloc (zd #[zc (za ⟨pl,0,zb⟩),.iface 264 (zf #[.iface t1 x1,ze .i64 g]),.nilIface,zc zb] 222)=W0:=⟨_,rfl⟩;have af:zg w.heap.size w W0:=by rw[<-ai];exact aw
 have x0:W0.heap[w.heap.size]?=za (zd #[zc (za ⟨pl,0,zb⟩),.iface 264 (zf #[.iface t1 x1,ze .i64 g]),.nilIface,zc zb] 222 (0,0)):=by rw[<-ai];exact aI _ _
 have dD:W0.heap.size=w.heap.size+1:=by rw[<-ai];simp
 obtain⟨W1,cm⟩:∃W1,W0.alloc (zd #[.iface t1 x1,ze .i64 g] 264)=W1:=⟨_,rfl⟩;have ag:zg W0.heap.size W0 W1:=by rw[<-cm];exact aw
 have y1:W1.heap[W0.heap.size]?=za (zd #[.iface t1 x1,ze .i64 g] 264 (0,0)):=by rw[<-cm];exact aI _ _
 have lY:zg w.heap.size w W1:=aq af af.size ag;have mA:=(ag.block _ (ah.1 x0).1).trans x0;have dH:w.heap.size+1<W1.heap.size:=by have:=(ah.1 y1).1;omega
 have hc:=lT pl (.iface t1 x1) W1.drew (aU.keep (ou lY.drew) b _ hl) hw;have EX:zn prog 139 #[zc (za ⟨pl,0,zb⟩),.iface t1 x1] W1.drew λe w'=>∃v,e=.returned v/\xk W1.drew pl b (.returned v) w':=hc.mono λe w' h=>by
  obtain⟨a,Q2,rfl,h2⟩:=h;exact⟨_,rfl,a,Q2,rfl,h2⟩
 obtain⟨c0,c1⟩:=jr y1;have rz:zi (∀(v:zm) (W2:zk),xk W1.drew pl b (.returned v) W2->∃a',v=zc (za ⟨a',0,zb⟩)/\W2.cell? ⟨w.heap.size,2,zb⟩=za .nilIface/\W2.frozen? ⟨w.heap.size,2,zb⟩=false/\W2.cell? ⟨w.heap.size+1,1,zb⟩=za (ze .i64 g)/\xk w pl (.aT b g) (.returned (zc (za ⟨w.heap.size,0,zb⟩))) (W2.setCell ⟨w.heap.size,2,zb⟩ (.iface 242 (zf #[ze .i64 g,zc (za ⟨a',0,zb⟩)])))):=λv W2 hR=>by
  obtain⟨a',Q,e,ae,dG,iW⟩:=hR;injection e with e
  subst e;have jF:zg w.heap.size w W2:=aq lY.drew (by have:=lY.size;exact this) ae;have jp:=(ae.block _ (ah.1 mA).1).trans mA;have y2':=(ae.cell (p:=⟨W0.heap.size,1,zb⟩) (ah.1 y1).1).trans c1;rw[dD]at y2';exact⟨a',rfl,(wN jp).1,(wN jp).2,y2',QF jF jp dG (by have:W1.drew.heap.size=W1.heap.size:=rfl;omega) ((zo0 iW).to w.heap.size) tC hw⟩
 rw[dD]at ag c0 c1;clear tC hl lT y1 x0 hc mA
 go_enter func139,ntmps139
 go_upto_region 16 with fail
 refine wp_mono (Q:=wT _) ?_ Jm
 go_region_law ((refine BK (by rfl) 139 #[.tmp 60,.tmp 62] #[161,184] (by rfl) #[zc (za ⟨pl,0,zb⟩),.iface t1 x1] (by simp[Act.eval]) _ (Xt _ _) EX ?_;intro v4 W4 tz;obtain⟨a4,rfl,d4,f4,g4,A6⟩:=rz.out _ W4 tz;have HF:=aA A6;clear tz A6))
 all_goals
  rw[vl];clear EX d4 f4 g4 c0 c1;go_wp2;go_ret;exact HF.out
theorem zrN(p:Pt):sy p:=by
 induction hn:mz p using Nat.strongRecOn generalizing p with
 |_ n ih=>
  subst hn;have hk:∀q,mz q<mz p->sy q:=λq hq=>ih (mz q) hq q rfl
  cases p with
  |set f=>exact zpR f
  |seq l r=>exact zpQ l r hk
  |aN l r=>exact zpN l r hk
  |az b mn mx=>exact zpP b mn mx (hk b (sH (by simp[fI])))
  |aT b g=>exact zpO b g (hk b (sH (by simp[fI])))
end
section
variable {lo pl:Nat}{w:zk}{Q:Nat -> Option Pt}{p:Pt}
theorem XQ(t:ByteArray)(a b:Nat):(t.extract a b).data.toList=(t.data.toList.drop a).take (b-a):=by
 simp[ByteArray.data_extract,List.extract]
def AsG(f:zm)(p:Pt):Prop:=∃(g:Int) (gp:Option Addr) (b:Bool),(∀w,Sem.run prog (Instr.typeAssert f 220 242 true) w=.ok (.tuple #[zf #[ze .i64 g,.pointer gp],.bool b]) w)/\((b=true/\∃k,p=.aT k g)\/(b=false/\∀i j,sF p i j=[]))
theorem dU.asG{a:Nat}(h:dU lo w pl Q a p):∃f,tf lo w pl Q a p f/\AsG f p/\((f=.nilIface/\lK p)\/∃t x,f=.iface t x):=by
 cases h with
 |leaf _ _ h1 h2=>exact⟨_,h1,⟨0,zb,false,λw=>by kernel_rfl,.inr ⟨rfl,λi j=>zjJ h2 i j⟩⟩,.inl ⟨rfl,h2⟩⟩
 |group _ a' b g h1 _=>exact⟨_,h1,⟨g,za ⟨a',0,zb⟩,true,λw=>by kernel_rfl,.inl ⟨rfl,b,rfl⟩⟩,.inr ⟨_,_,rfl⟩⟩
 |choice _ l r go cap xs h1 _ _ _=>exact⟨_,h1,⟨0,zb,false,λw=>by kernel_rfl,.inr ⟨rfl,λi j=>rfl⟩⟩,.inr ⟨_,_,rfl⟩⟩
 |chain _ _ go cap xs h1 _ _ _ h5 _ _ _=>exact⟨_,h1,⟨0,zb,false,λw=>by kernel_rfl,.inr ⟨rfl,λi j=>by
   cases p with
   |aT b g=>exact absurd rfl (h5 b g)
   |_=>rfl⟩⟩,.inr ⟨_,_,rfl⟩⟩
 |rounds _ a' b h1 _=>exact⟨_,h1,⟨0,zb,false,λw=>by kernel_rfl,.inr ⟨rfl,λi j=>rfl⟩⟩,.inr ⟨_,_,rfl⟩⟩
def SP(w0:zk)(pl:Nat)(Q:Nat->Option Pt)(bs bt bp gs m cap:Nat)(t:ByteArray)(Ow:Nat->Nat->Prop)(w:zk)(sp:List (Int×Int))(p:Pt)(i j:Nat)(e:Ending)(w':zk):Prop:=
 ∃(aF:Nat->Nat->Prop) (l:List Up),e=.returned (.tuple #[])/\Pl t.data.toList p i j l/\oW w0 pl Q bs bt bp gs m cap t aF w' (gQ sp l)/\Ay w0 gs Ow w aF w'
def SN(w0:zk)(pl:Nat)(Q:Nat->Option Pt)(lo bs bt bp gs m cap:Nat)(t:ByteArray)(p:Pt):Prop:=
 ∀(w:zk) (Ow:Nat->Nat->Prop) (sp:List (Int×Int)) (a i j:Nat),oW w0 pl Q bs bt bp gs m cap t Ow w sp->dU lo w0 pl Q a p->Lg t.data.toList p i j->(∀l,Pl t.data.toList p i j l->∀x∈l,1<=x.1/\x.1<(m:Int))->
  zn prog 150 #[zc (za ⟨a,0,zb⟩),ze .i64 i,ze .i64 j,zc (za ⟨bs,0,zb⟩),zc (za ⟨bt,0,zb⟩),zc (za ⟨bp,0,zb⟩)] w λe w'=>SP w0 pl Q bs bt bp gs m cap t Ow w sp p i j e w'
structure LdA(w0:zk)(pl:Nat)(Q:Nat->Option Pt)(lo:Nat)(u:aJ)(p:Pt)(i j:Nat)(ys:List ul):Prop where
 ok:yS u j (qh i (oe ys)) i
 I7:∀l,rD u (qh i (oe ys)) i l->Pl u p i j (sF p i j++l)
 pc:∀y,y∈ys->dU lo w0 pl Q y.1 y.2.1/\mz y.2.1<mz p
theorem zs8{w0:zk}{Ow:Nat->Nat->Prop}{t:ByteArray}{i j:Nat}{e:Ending}{w':zk}(h:cF w0 pl Q Ow w)(ho:oT p)(hL:Lg t.data.toList p i j)(hB:zvU w0 pl Q Ow w lo (t.extract i j).data.toList (j-i) p e w'):∃(aF:Nat->Nat->Prop) (ys:List ul) (v:zm),e=.returned v/\cY w0 pl Q Ow w aF w'/\w'.ownsRow w.heap.size 247 2 v ys.length (mw ys)/\(∀k,v.ownBlock=za k->∀b,¬aF k b)/\LdA w0 pl Q lo t.data.toList p i j ys:=by
 rcases hB with ⟨h1,rfl,rfl⟩|⟨h1,aF,ys,v,rfl,h3,h4,h5,h6,h7⟩
 ·refine⟨Ow,[],_,rfl,cY.bR h (Below.refl _ _),⟨rfl,.inl ⟨rfl,rfl⟩⟩,λk e=>by simp[Value.ownBlock]at e,⟨trivial,λl hl=>?_,λy hy=>by cases hy⟩⟩;cases hl;rw[zjJ h1,ud];obtain⟨l,hl⟩:=ym p ho i j hL;have:=Gs p h1 i j l hl;subst this;exact hl
 ·rw[XQ]at h6;have dL:=hL.1;have hju:=hL.2.1;have h8:=zro (u:=t.data.toList) (i:=i) (n:=j-i) (by omega) p _ h6;rw[show i+(j-i)=j from by omega]at h8;obtain⟨k1,k2⟩:=zta hju p _ ho h1 hL h8;exact⟨aF,ys,v,rfl,h3,h4,h5,⟨k1,k2,λy hy=>⟨h7 y hy,zs9 p _ h6 y.2 (rh.2 ⟨y,hy,rfl⟩)⟩⟩⟩
end
variable {ys:List ul}{cap pl lo bs bt bp gs m:Nat}{w0:zk}{Q:Nat -> Option Pt}{t:ByteArray}
theorem zru{k:Nat}{y:ul}(h:ys[k]?=za y)(i:Nat):qh i (oe (ys.drop k))=(y.2.1,i+y.2.2)::qh i (oe (ys.drop (k+1))):=by
 have hk:=(zY.1 h).1;rw[oK hk,(zY.1 h).2]
 rfl
theorem ztm{w:zk}{B n g:Nat}(h:w.ownsRow B 247 2 (zl (za ⟨g,0,zb⟩) n cap) ys.length (mw ys)){k:Nat}{y:ul}(hy:ys[k]?=za y):w.cell? ⟨g,k*2,zb⟩=za (zc (za ⟨y.1,0,zb⟩))/\w.cell? ⟨g,k*2+1,zb⟩=za (ze .i64 (y.2.2:Int)):=by
 have hk:=(zY.1 hy).1;obtain⟨h1,h2⟩:=zpM ys k y.1 y.2.1 y.2.2 hy;have hn:n=ys.length:=by
  rcases h.2 with ⟨e,_⟩|⟨g',c',ax,e,_⟩
  ·cases e
  ·cases e;rfl
 subst hn;have e:∀n,(⟨g,0,zb⟩:Addr).add n=⟨g,n,zb⟩:=λn=>by unfold Addr.add;split<;>simp_all
 have c1:=JA h (k*2) _ h1;have c2:=JA h (k*2+1) _ h2;rw[e]at c1 c2;exact⟨c1,c2⟩
theorem znV(ht:t.size<=4096)(p:Pt)(lT:∀q,mz q<mz p->SN w0 pl Q lo bs bt bp gs m cap t q):SN w0 pl Q lo bs bt bp gs m cap t p:=by
 intro w Ow sp a i j hW hp hL hG;obtain⟨f,hB,⟨g,gp,isg,C4,LH⟩,rR⟩:=hp.asG;have c2:=(hW.inv.form hB).1;have ho:=hW.inv.MK hp.q;have dL:=hL.1;have hju:j<=t.size:=by have:=hL.2.1;simpa using this
 have wz:=hW.inv.size;obtain⟨W0,ai⟩:∃W0,w.alloc (zd #[ze .i64 g,.pointer gp] 242)=W0:=⟨_,rfl⟩;have af:zg w.heap.size w W0:=by rw[<-ai];exact aw
 obtain⟨TM,lU⟩:=hW.We (cY.bR hW.inv af);have x0:W0.heap[w.heap.size]?=za (zd #[ze .i64 g,.pointer gp] 242 (0,0)):=by rw[<-ai];exact aI _ _
 have y0:=(jr x0).1;have cs0:W0.cell? ⟨bs,0,zb⟩=za (zl (za ⟨gs,0,zb⟩) m cap):=(aM _ _ _ _ _ _ TM.xs:_=_);have zw3:=λ(W:zk) (dX:Nat->Nat->Prop) (hI:cF w0 pl Q dX W)=>zlv W hI lo a p hp (t.extract i j) (by rw[ByteArray.size_extract];omega) (by rw[XQ];have:=(zV (u:=t.data.toList) (i:=i) (n:=j-i) (by simp;omega) (p:=p) (a:=0) (b:=j-i) (aj _)).2 (by rw[uf,show i+(j-i)=j from by omega];exact hL);rw[show (t.extract i j).size=j-i from by rw[ByteArray.size_extract];omega];exact this)
 have HW:=aA hW;have N3:=aA TM;have nJ:=aA lU;have Hp:=aA hp;have HL:=aA hL;have HG:=aA hG;have Sq:=aA zw3;have J2:=aA lT;have hex:(t.extract i j).size=j-i:=by rw[ByteArray.size_extract];omega
 clear hW TM lU hp hL hG zw3 lT x0
 go_enter func150,ntmps150
 go_step3
 go_upto_if 23 with fail
 go_cut [] from 9 to 30 (λwx=>zi (oW w0 pl Q bs bt bp gs m cap t Ow wx (gQ sp (sF p i j)))/\zi (Ay w0 gs Ow w Ow wx))
 case first=>
  clear Sq J2;cases isg with
  |false=>
   have HF:zi (oW w0 pl Q bs bt bp gs m cap t Ow W0 (gQ sp (sF p i j))):=by
    rcases LH with ⟨e,_⟩|⟨_,e⟩
    ·cases e
    ·show oW _ _ _ _ _ _ _ _ _ _ _ _ _;rw[e];exact N3.out
   clear LH y0 cs0;go_wp2
   go_meet
   exact⟨HF,nJ⟩
  |true=>
   obtain⟨kk,rW⟩:∃k,p=.aT k g:=by
    rcases LH with ⟨_,e⟩|⟨e,_⟩
    ·exact e
    ·cases e
   have eO:1<=g/\g<(m:Int):=by
    obtain⟨l,hl⟩:=ym p ho i j HL.out;rw[rW]at hl;obtain⟨l',rfl,uN⟩:=hl;exact HG.out _ (by rw[rW];exact⟨l',rfl,uN⟩) (g,i,j) (by simp)
   obtain⟨gi,rfl⟩:∃gi:Nat,g=gi:=⟨g.toNat,by omega⟩;have LC:gi<m:=by omega
   obtain⟨O8,rK⟩:=N3.out.store gi LC (i:Int) (j:Int);have HF:zi (oW w0 pl Q bs bt bp gs m cap t Ow ((W0.setCell ⟨gs,gi*2,zb⟩ (ze .i64 i)).setCell ⟨gs,gi*2+1,zb⟩ (ze .i64 j)) (gQ sp (sF p i j))):=by
    have e:gQ sp (sF p i j)=sp.set gi ((i:Int),(j:Int)):=by rw[rW];show sp.set (gi:Int).toNat _=_;rw[sM]
    rw[e];exact O8
   have HT:=aA (nJ.out.trans rK);obtain⟨u0,u1,s0,s1,f0,f1⟩:=DG N3.out.row LC;have Bh:(0:Int)<=(gi:Int):=by omega
   have bU:(gi:Int)<(m:Int):=by omega
   clear LH rW eO O8 rK;go_wp2
   go_meet
   exact⟨HF,HT⟩
 case rest=>
  obtain⟨xg,ly⟩:=hcut;have hl:=Sq.out wc Ow xg.out.inv;have ct:wc.cell? ⟨bt,0,zb⟩=za (.string t):=(aM _ _ _ _ _ _ xg.out.xt:_=_);clear Sq LH C4 rR y0 cs0 c2 af N3 nJ;have i0:(0:Int)<=(i:Int):=by omega
  have i1:(i:Int)<=(j:Int):=by omega
  have i2:(j:Int)<=(t.size:Int):=by omega
  go_wp2
  go_step3
  go_wp2_with fail
  refine hl.mono ?_;rintro e2 W2 ku;rw[hex]at ku;obtain⟨nM,ys,v,rfl,lV,ff,U5,LN⟩:=zs8 xg.out.inv ho HL.out ku;obtain⟨La,zwp⟩:=xg.out.We lV;have zwo:=ly.out.trans zwp;have hcs:=ly.out.size;obtain⟨va,vc,hv,qa⟩:∃va vc,v=.slice va ys.length vc/\ys.length<=maxLen:=by
   rcases ff.2 with ⟨e,e2⟩|⟨g,c,ax,e,_,_,e3,e4,_⟩
   ·exact⟨_,_,e2 ▸ e,by omega⟩
   ·exact⟨_,_,e,by omega⟩
  subst hv;obtain⟨n,Hn⟩:∃n,zi (ys.length=n):=⟨_,rfl⟩;rw[Hn.out]at ff U5 qa ⊢;have fD:=HW.out.cB;have pL:zi (∀k,(Value.slice va n vc).ownBlock=za k->k≠gs/\w0.heap.size<=k/\w.heap.size<=k/\k<W2.heap.size/\∀b,¬nM k b):=λk e=>by
   obtain⟨z1,ax,z2⟩:=dy ff e;exact⟨by omega,by omega,by omega,(ah.1 z2).1,U5 k e⟩
  have GS:zi (∀k,k<n->∃y:ul,ys[k]?=za y/\y∈ys):=λk hk=>by
   have xH:k<ys.length:=by have:=Hn.out;omega
   exact⟨_,dh xH,kg _⟩
  have Co:zi (∀y,y∈ys->oT y.2.1):=λy hy=>HW.out.inv.MK (LN.pc y hy).1.q
  have zyt:zi (∀k at',yS t.data.toList j (qh i (oe (ys.drop k))) at'->∃l2,rD t.data.toList (qh i (oe (ys.drop k))) at' l2):=λk at' h=>zmn _ _ h λx hx=>by
   obtain⟨z,z1,rfl⟩:=rh.1 hx;obtain⟨y,z2,rfl⟩:=rh.1 z1;exact Co.out y (List.mem_of_mem_drop z2)
  have xi:zi (qh i (oe (ys.drop n))=[]):=by show _=_;rw[<-Hn.out];simp[oe,qh]
  have N4:=aA La;have mI:=aA zwo;have Cq:=aA ff;have Sr:=aA LN;have zBC:n<=9223372036854775807:=by unfold maxLen at qa;omega
  clear hl ku lV La zwp zwo ff U5 LN xg ly qa ct;go_wp2
  go_loopw [11,39] (λav iv wr=>∃(k at':Nat) (lB:Nat->Nat->Prop) (l1:List Up),av=ze .i64 at'/\iv=ze .i64 k/\k<=n/\at'<=j/\zi (oW w0 pl Q bs bt bp gs m cap t lB wr (gQ sp (sF p i j++l1)))/\zi (Ay w0 gs Ow w lB wr)/\zi (yS t.data.toList j (qh i (oe (ys.drop k))) at')/\zi (∀l2,rD t.data.toList (qh i (oe (ys.drop k))) at' l2->Pl t.data.toList p i j (sF p i j++(l1++l2)))/\zi (wr.ownsRow wc.heap.size 247 2 (.slice va n vc) n (mw ys))/\zi (∀k,(Value.slice va n vc).ownBlock=za k->∀b,¬lB k b))
   (λ_ iv _=>n-(intOf iv).toNat)
  case atStart=>exact⟨0,i,nM,[],rfl,rfl,aR _,dL,by rw[ud];exact N4,mI,Sr.out.ok,Sr.out.I7,Cq,λk e=>(pL.out k e).2.2.2.2⟩
  case round=>
   clear N4 mI Cq;obtain⟨k,at',lB,l1,rfl,rfl,jY,zA5,HP,HT,HO,HC,Cq,Ek⟩:=hrel
   by_cases hlt:k<n
   ·have hd:decide ((k:Int)<(n:Int))=true:=by simp;omega
    obtain⟨⟨ya,yq,ye⟩,hy,hym⟩:=GS.out k hlt;obtain⟨zD,IK⟩:=Sr.out.pc _ hym;obtain⟨gv,rfl⟩:∃gv,va=za ⟨gv,0,zb⟩:=by
     rcases Cq.out.2 with ⟨e,e2⟩|⟨g,c,ax,e,_⟩
     ·omega
     ·injection e with e1 e2 e3;exact⟨_,e1⟩
    obtain⟨l0,I2⟩:=ztm (by rw[Hn.out];exact Cq.out) hy;simp only at l0 I2 zD IK;obtain⟨V,hV⟩:∃V,wr.alloc (zd #[zc (za ⟨ya,0,zb⟩),ze .i64 (ye:Int)] 247)=V:=⟨_,rfl⟩;have gG:zg wr.heap.size wr V:=by rw[<-hV];exact aw
    have xV:V.heap[wr.heap.size]?=za (zd #[zc (za ⟨ya,0,zb⟩),ze .i64 (ye:Int)] 247 (0,0)):=by rw[<-hV];exact aI _ _
    have v0:=(jr xV).1;have v1:=(jr xV).2;obtain⟨O5,zh⟩:=HP.out.We (cY.bR HP.out.inv gG);obtain⟨fy,hBy,-,hfy⟩:=zD.asG;have cy:=(O5.inv.form hBy).1;have qL:=zru hy i;simp only at qL;have fE:=HO.out;rw[qL]at fE;obtain⟨k1,k2,k3⟩:=fE;have gZ:(0:Int)<=(k:Int):=by omega
    have db:(k:Int)<(n:Int):=by omega
    have dD:(0:Int)<=(i:Int)+(ye:Int):=by omega
    have dH:(i:Int)+(ye:Int)<=4096:=by omega
    have vD:=aA qL;have yK:=aA k3;have RZ:=aA O5;have sY:=aA (HT.out.trans zh);have Ef:=aA k1;have mV:∀W:zk,(∀g,(Value.slice (za ⟨gv,0,zb⟩) n vc).ownBlock=za g->W.heap[g]?=wr.heap[g]?)->W.ownsRow wc.heap.size 247 2 (zl (za ⟨gv,0,zb⟩) n vc) n (mw ys):=λW hW=>gR Cq.out hW
    have Z6:=aA mV;have cp:V.cell? ⟨bp,0,zb⟩=za (.func (.func 150) #[] #[zc (za ⟨bs,0,zb⟩),zc (za ⟨bt,0,zb⟩),zc (za ⟨bp,0,zb⟩)]):=(aM _ _ _ _ _ _ O5.xp:_=_);have Aq:zi (gv<wr.heap.size/\gv≠gs/\w0.heap.size<=gv):=by
     have z:=pL.out gv (by simp[Value.ownBlock]);exact⟨(Gd Cq.out).2.2.1,z.1,z.2.1⟩
    have Sb:=aA gG;clear O5 zh k1 k3 mV gG xV;rcases hfy with ⟨rfl,hno⟩|⟨ty,xx,rfl⟩
    ·have RM:zi (∀l2,rD t.data.toList (qh i (oe (ys.drop (k+1)))) (i+ye) l2->Pl t.data.toList p i j (sF p i j++(l1++l2))):=λl2 h2=>by
      obtain⟨l3,h3⟩:=ym yq (Co.out _ hym) at' (i+ye) Ef.out;have e3:=Gs yq hno _ _ _ h3;subst e3;exact HC.out ([]++l2) (by rw[vD.out];exact .cons _ _ _ _ _ _ h3 h2)
     clear HC HO HP HT;go_wp2
     go_roundw
     case rel=>exact⟨k+1,i+ye,lB,l1,by go_num,by go_num,by omega,k2,RZ,sY,yK,RM,Z6.out V (λg e=>by
       have e:gv=g:=by simpa [Value.ownBlock]using e
       subst e;exact Sb.out.block _ Aq.out.1),Ek⟩
     case measure=>simp[intOf];omega
    ·have hc:=J2.out yq IK V lB (gQ sp (sF p i j++l1)) ya at' (i+ye) RZ.out zD Ef.out (λl hl x hx=>by
      obtain⟨l2,h2⟩:=zyt.out (k+1) (i+ye) yK.out;exact HG.out _ (HC.out (l++l2) (by rw[vD.out];exact .cons _ _ _ _ _ _ hl h2)) x (by simp[hx]))
     rw[show ((i+ye:Nat):Int)=(i:Int)+(ye:Int) from by omega]at hc
     go_wp2_with fail
     refine hc.mono ?_;rintro e3 W3 ⟨jC,l3,rfl,h3,hP3,lW⟩;have Ed:zi (∀l2,rD t.data.toList (qh i (oe (ys.drop (k+1)))) (i+ye) l2->Pl t.data.toList p i j (sF p i j++((l1++l3)++l2))):=λl2 h2=>by
      have:=HC.out (l3++l2) (by rw[vD.out];exact .cons _ _ _ _ _ _ h3 h2);rw[pG];exact this
     have RY:zi (oW w0 pl Q bs bt bp gs m cap t jC W3 (gQ sp (sF p i j++(l1++l3)))):=by
      show oW _ _ _ _ _ _ _ _ _ _ _ _ _;rw[<-pG,Yq];exact hP3
     have nK:=aA (sY.out.trans lW);have hgV:=Sb.out.size;have ZI:zi (W3.heap[gv]?=wr.heap[gv]?/\∀b,¬jC gv b):=by
      obtain⟨z1,z2⟩:=lW.eG gv Aq.out.2.2 (by have:=Aq.out.1;omega) Aq.out.2.1 (Ek.out gv (by simp[Value.ownBlock]));exact⟨z1.trans (Sb.out.block _ Aq.out.1),z2⟩
     clear hc h3 hP3 lW HC HO HP HT RZ sY;go_wp2
     go_roundw
     case rel=>exact⟨k+1,i+ye,jC,l1++l3,by go_num,by go_num,by omega,k2,RY,nK,yK,Ed,Z6.out W3 (λg e=>by
       have e:gv=g:=by simpa [Value.ownBlock]using e
       subst e;exact ZI.out.1),λg e=>by
       have e:gv=g:=by simpa [Value.ownBlock]using e
       subst e;exact ZI.out.2⟩
     case measure=>simp[intOf];omega
   ·obtain rfl:k=n:=by omega
    have hd:decide ((k:Int)<(k:Int))=false:=by simp
    have HF:zi (SP w0 pl Q bs bt bp gs m cap t Ow w sp p i j (.returned (.tuple #[])) wr):=by
     refine⟨lB,sF p i j++l1,rfl,?_,HP.out,HT.out⟩;have:=HC.out [] (by rw[xi.out];exact .nil _);rw[ud]at this;exact this
    clear HP HT HO HC Cq Ek;go_wp2;exact bodyPost_end (v:=.tuple #[]) (results_none rfl _ _ _) rfl HF.out
theorem zrP(ht:t.size<=4096)(p:Pt):SN w0 pl Q lo bs bt bp gs m cap t p:=by
 induction hn:mz p using Nat.strongRecOn generalizing p with
 |_ n ih=>subst hn;exact znV ht p λq hq=>ih (mz q) hq q rfl
end Go.Proofs.YtdimhpfiieepiaaGreatDoor
