import Derived.Test.YtdimhpfiieepiaaGreatDoorC41
import Derived.WalkMore
namespace Go.Proofs.YtdimhpfiieepiaaGreatDoor
open Proofs.Tryz
open Option renaming some->za,none->zb
open Go renaming World->zc,Value->aa
open Value renaming slice->zd,int->ze,pointer->zg,agg->ab
open Obj renaming cells->zf
set_option maxHeartbeats 2000000
set_option maxRecDepth 100000
open Go.RowKit
section
variable {p:Pt}
attribute [local go_sem ↓] wp_at_zero wp_at_succ
def IG:List fR->Prop
 |[]=>True
 |(_,o)::ls=>(o=true->∀(u:aJ) (N:Nat),N<=u.length->ig u N ls N)/\IG ls
theorem zms{u:aJ}{N:Nat}(hN:N<=u.length):∀(ls:List fR) (m:Nat),IG ls->ig u N ls m->∀k,k<=ls.length->∃m',ig u N (ls.drop k) m'
 |ls,m,_,h,0,_=>⟨m,h⟩
 |[],m,_,h,k+1,hk=>by simp at hk
 |(q,o)::ls,m,ho,h,k+1,hk=>by
  have:∃e,ig u N ls e:=by
   rcases h with ⟨e,h1,_⟩|⟨h1,_⟩
   ·exact⟨e,h1⟩
   ·exact⟨N,ho.1 h1 u N hN⟩
  obtain⟨e,he⟩:=this;exact zms hN ls e ho.2 he k (by simpa using hk)
theorem zg0:∀(qs:List Pt),IG (tS qs)
 |[]=>trivial
 |_::qs=>⟨λe=>(by cases e),zg0 qs⟩
theorem zka(b:Pt):∀(mn:Nat) (mx:Int),(mx=-1\/(mn:Int)<=mx)->IG (gI b mn mx)
 |mn+1,mx,h=>by
  rw[VJ b mn mx (by omega)];exact⟨λe=>(by cases e),zka b mn (sr mx) (by unfold sr;split<;>omega)⟩
 |0,mx,h=>by
  rcases h with rfl|h
  ·rw[VI];exact⟨λe=>(by cases e),trivial⟩
  ·obtain⟨k,rfl⟩:∃k:Nat,mx=k:=⟨mx.toNat,by omega⟩;clear h
   induction k with
   |zero=>show IG (gI b 0 0);rw[VZ];trivial
   |succ k ih=>
    rw[V9];refine⟨λ_ u N hN=>?_,ih⟩;rw[Fm hN 0 (k:Int) (.inr (by omega))];exact Mc hN _ (.inr (by omega))
theorem zqJ(ho:oO p)(h1:∀l r,p≠.aQ l r)(h2:∀b g,p≠.aT b g)(h0:∀f,p≠.set f){u:aJ}{N m:Nat}(hN:N<=u.length):IG (mG p)/\(ig u N (mG p) m↔Lg u p m N):=by
 cases p with
 |set f=>exact absurd rfl (h0 f)
 |aQ l r=>exact absurd rfl (h1 l r)
 |aT b g=>exact absurd rfl (h2 b g)
 |seq l r=>exact⟨zg0 _,Mg (.seq l r) m⟩
 |aw b mn mx=>
  obtain⟨_,h3,h4⟩:=ho;have e:((mn.toNat:Nat):Int)=mn:=by omega
  refine⟨zka b mn.toNat mx (by omega),?_⟩;have:=Fm (u:=u) hN (b:=b) mn.toNat mx (by omega) m;rw[e]at this;exact this
theorem zm1(h1:∀l r,p≠.aQ l r)(h2:∀b g,p≠.aT b g)(h3:∀b,p≠.aw b 0 (-1))(h0:∀f,p≠.set f){u:aJ}{i N:Nat}{L:Laid}(h:jD u N (mG p) i L):yy u i N p L:=by
 cases p with
 |set f=>exact absurd rfl (h0 f)
 |aQ l r=>exact absurd rfl (h1 l r)
 |aT b g=>exact absurd rfl (h2 b g)
 |seq l r=>exact h
 |aw b mn mx=>
  show if mn=0/\mx=-1 then nK u N b i L else jD u N (gI b mn.toNat mx) i L
  rw[aq (λe=>by obtain⟨rfl,rfl⟩:=e;exact h3 b rfl)];exact h
theorem zm9(xs:Array aa)(w:zc):(callFunc 229 xs).run prog w=.ok (.enter 229 xs) w:=by kernel_rfl
theorem zkX{w0:zc}{pl:Nat}{Q:Nat->Option Pt}{Ow:Nat->Nat->Prop}(w:zc)(h:cE w0 pl Q Ow w)(lo go cap:Nat)(p:Pt)(xs:List (Nat×fR))(hr:w0.ownsRow lo 299 2 (zd (za ⟨go,0,zb⟩) xs.length cap) xs.length (gH xs))(hf:xs.map Prod.snd=mG p)(h1:∀l r,p≠.aQ l r)(h2:∀b g,p≠.aT b g)(h3:∀b,p≠.aw b 0 (-1))(hp:∀x,x∈xs->dI lo w0 pl Q x.1 x.2.1)(hQ:∀x,x∈xs->Q x.1=za x.2.1)(ho:oO p)(lD:∀f,p≠.set f)(pN:xs.length<=100000)(t:ByteArray)(ht:t.size<=4096)(hL:Lg t.data.toList p 0 t.size):
  Calls prog 227 #[ab #[zd (za ⟨go,0,zb⟩) xs.length cap],.string t] w λe w'=>sL w0 pl Q Ow w lo t.data.toList t.size p e w':=by
 obtain⟨i0,hi,bK,bh,bz⟩:=info_parts Tryz.zwG;have vV:t.data.toList.length=t.size:=by simp
 have Of:(mG p).length=xs.length:=by rw[<-hf];simp
 obtain⟨zwd,nh⟩:=zqJ ho h1 h2 lD (u:=t.data.toList) (N:=t.size) (m:=0) (by omega);have TV:=nh.2 hL;have En:=zms (by omega) _ 0 zwd TV;have hta:=λW (hI:cE w0 pl Q Ow W)=>zrZ (Ow:=Ow) W hI lo go cap xs hr hQ pN t ht (λk hk=>by rw[hf];exact En k (by omega))
 obtain⟨n,Hn⟩:∃n,Hid (xs.length=n):=⟨_,rfl⟩;obtain⟨ne,Dy⟩:∃ne,Hid (t.size/64+1=ne):=⟨_,rfl⟩;have Em:ne<=100:=by have:=Dy.out;omega
 have mU:t.size<64*ne:=by have:=Dy.out;omega
 have tx:=h.size;have zH:Hid (∀W dQ,cE w0 pl Q dQ W->∀i,i<n->W.cell? ⟨go,i*2,zb⟩=za (zg (za ⟨vZ xs i,0,zb⟩))/\W.cell? ⟨go,i*2+1,zb⟩=za (.bool (xF xs i))):=λW dQ hI i hi=>zph hr hI (Dg (by have:=Hn.out;omega))
 have HQ:Hid (∀i,i<n->Q (vZ xs i)=za (tB xs i)/\dI lo w0 pl Q (vZ xs i) (tB xs i)):=λi hi=>by
  have hx:=Bq (Dg (xs:=xs) (i:=i) (by have:=Hn.out;omega));exact⟨hQ _ hx,hp _ hx⟩
 have Qy:Hid (∀i,i<n->(xs.map Prod.snd).drop i=(tB xs i,xF xs i)::(xs.map Prod.snd).drop (i+1)):=λi hi=>zpi (by have:=Hn.out;omega)
 have wS:Hid ((xs.map Prod.snd).drop n=[]):=by show _=_;rw[<-Hn.out];simp
 have lq:Hid (∀L,jD t.data.toList t.size (xs.map Prod.snd) 0 L->yy t.data.toList 0 t.size p L):=λL hc=>zm1 h1 h2 h3 lD (by rw[<-hf];exact hc)
 have jY:Hid (ig t.data.toList t.size (xs.map Prod.snd) 0):=by rw[hf];exact TV
 have QH:Hid (∀k,k<=n->∃m,ig t.data.toList t.size ((xs.map Prod.snd).drop k) m):=λk hk=>by rw[hf];exact En k (by have:=Hn.out;omega)
 have ae:Below w.heap.size w (w.alloc (zf #[zd (za ⟨go,0,zb⟩) xs.length cap] 305)):=au;have x0:(w.alloc (zf #[zd (za ⟨go,0,zb⟩) xs.length cap] 305)).heap[w.heap.size]?=za (zf #[zd (za ⟨go,0,zb⟩) xs.length cap] 305 (0,0)):=aL _ _;have nG:=aC (da.cH h ae);have KL:=hta _ (h.below ae);have eT:∀k,w.heap.size<=k->∀c,¬Ow k c:=λk hk c ho=>by have:=(h.ow _ c ho).2;omega
 rw[Hn.out]at pN ae x0 nG KL ⊢;rw[Dy.out]at KL;generalize xs.map Prod.snd=ls at *;generalize vZ xs=pa at *;generalize xF xs=po at *;generalize tB xs=pq at *;clear hr hQ En h Hn hf hp hta nh TV zwd h1 h2 h3 hL Of
 go_enter func227,ntmps227
 obtain⟨W0,ah⟩:∃W0,w.alloc (zf #[zd (za ⟨go,0,zb⟩) n cap] 305)=W0:=⟨_,rfl⟩;rw[ah]at x0 nG KL;have Rs:W0.cell? ⟨w.heap.size,0,zb⟩=za (zd (za ⟨go,0,zb⟩) n cap):=(aO _ _ _ _ _ _ x0:_=_);have bX:w.heap.size<W0.heap.size:=(ap.1 x0).1;go_wp2
 go_step3
 go_wp2_with fail
 refine KL.mono ?_;rintro e W1 ⟨dQ,gt,gx,TT,rfl,s9,AD,zvK,SQ,n8⟩;obtain⟨W2,dH⟩:∃W2,W1.alloc (zf #[] 247)=W2:=⟨_,rfl⟩;have af:Below W1.heap.size W1 W2:=by rw[<-dH];exact au
 have eJ:W2.ownsRow w.heap.size 247 2 (zd (za ⟨W1.heap.size,0,zb⟩) 0 0) 0 []:=by rw[<-dH];exact LJ _ _ 2 _ _ (by have:=s9.size;omega) rfl
 have zwj:W1.heap.size<W2.heap.size:=by rw[<-dH];simp
 have nP:=(nG.out.trans s9).below af;have Ea:=s9.eG w.heap.size tx bX (eT _ (ai _));have x2:W2.heap[w.heap.size]?=_:=(af.block _ (by have:=s9.size;omega)).trans (Ea.1.trans x0);have c2:W2.cell? ⟨w.heap.size,0,zb⟩=za (zd (za ⟨go,0,zb⟩) n cap):=(aO _ _ _ _ _ _ x2:_=_)
 -- what must stay
 obtain⟨Pr,sG⟩:∃Pr:Nat->Prop,Hid (∀k,Pr k↔k=w.heap.size\/(k=gt/\0<n)\/∃j,j<n/\k=gx j):=⟨_,λ_=>Iff.rfl⟩;have FQ:Hid (∀k,Pr k->w.heap.size<=k/\k<W1.heap.size/\∀b,¬dQ k b):=λk hk=>by
  have h01:=s9.size;rcases(sG.out k).1 hk with rfl|⟨rfl,h0⟩|⟨j,hj,rfl⟩
  ·exact⟨ai _,by omega,Ea.2⟩
  ·exact⟨by omega,block_lt_of_cell (SQ 0 h0),zvK⟩
  ·obtain⟨q1,q2,q3,_⟩:=n8 j hj;exact⟨by omega,q1.cj,q3⟩
 have Hgt:Hid (∀W:zc,(∀k,Pr k->W.heap[k]?=W1.heap[k]?)->∀j,j<n->W.cell? ⟨gt,j,zb⟩=za (zd (za ⟨gx j,0,zb⟩) ne ne)/\aH W ne (gx j) (TT j)/\∀q,ax (TT j) q=true↔ig t.data.toList t.size (ls.drop (j+1)) q):=λW hW j hj=>by
  obtain⟨q1,q2,q3,q4⟩:=n8 j hj;exact⟨(World.cell?_of_block (hW gt ((sG.out _).2 (.inr (.inl ⟨rfl,by omega⟩))))).trans (SQ j hj),⟨(hW _ ((sG.out _).2 (.inr (.inr ⟨j,hj,rfl⟩)))).trans q1.row,q1.lt⟩,q4⟩
 have sH:=aC nP;have Jh:=aC eJ;have yw:Hid (∀k,Pr k->W2.heap[k]?=W1.heap[k]?):=λk hk=>af.block k (FQ.out k hk).2.1
 have FU:Hid (∀b,¬dQ W1.heap.size b):=λb hb=>by have:=(s9.inv.ow _ b hb).2;omega
 clear KL s9 nP eJ af AD zvK SQ n8 Ea x0 x2 nG;go_wp2
 go_step3
 go_wp2;clear ah dH Rs c2
 go_loopw [6,7,19] (λlv av iv wr=>∃(k fr:Nat) (ys:List ud) (vL:aa) (lx:Nat->Nat->Prop),lv=vL/\av=ze .i64 fr/\iv=ze .i64 k/\k<=n/\fr<=t.size/\ys.length<=k/\Hid (da w0 pl Q Ow w lx wr)/\Hid (∀k,Pr k->wr.heap[k]?=W1.heap[k]?/\∀b,¬lx k b)/\W1.heap.size<=wr.heap.size/\Hid (ig t.data.toList t.size (ls.drop k) fr)/\Hid (∀L,jD t.data.toList t.size (ls.drop k) fr L->jD t.data.toList t.size ls 0 (oa ys++L))/\Hid (wr.ownsRow w.heap.size 247 2 vL ys.length (my ys))/\Hid (∀k,vL.ownBlock=za k->(∀c,¬lx k c)/\W1.heap.size<=k)/\Hid (∀y,y∈ys->dI lo w0 pl Q y.1 y.2.1))
  (λ_ _ iv _=>n-(intOf iv).toNat)
 case atStart=>exact⟨0,0,[],_,dQ,rfl,rfl,rfl,aZ _,aZ _,ai _,sH,λk hk=>⟨yw.out k hk,(FQ.out k hk).2.2⟩,by omega,jY,λL hL=>hL,Jh,λk e=>by
   have e:W1.heap.size=k:=by simpa [Value.ownBlock]using e
   subst e;exact⟨FU.out,ai _⟩,λy hy=>by cases hy⟩
 case round=>
  clear sH Jh yw FU jY;obtain⟨k,fr,ys,vL,lx,Td,rfl,rfl,ke,zye,Ez,HT,HS,hsz,Dv,FL,HO,rh,BB⟩:=hrel;have Te:=Td.symm;subst Te;have fE:=(HS.out w.heap.size ((sG.out _).2 (.inl rfl)))
  by_cases hlt:k<n
  ·have hd:decide ((k:Int)<(n:Int))=true:=by simp;omega
   obtain⟨l0,l1⟩:=zH.out wr lx HT.out.inv k hlt;obtain⟨hQk,ND⟩:=HQ.out k hlt;have il:(0:Int)<=(k:Int):=by omega
   have cM:(k:Int)<(n:Int):=by omega
   obtain⟨V,hV⟩:∃V,wr.alloc (zf #[zg (za ⟨pa k,0,zb⟩),.bool (po k)] 299)=V:=⟨_,rfl⟩;have jL:Below wr.heap.size wr V:=by rw[<-hV];exact au
   have xV:V.heap[wr.heap.size]?=za (zf #[zg (za ⟨pa k,0,zb⟩),.bool (po k)] 299 (0,0)):=by rw[<-hV];exact aL _ _
   have KF:wr.heap.size<V.heap.size:=(ap.1 xV).1;have v0:=(jA xV).1;have yK:=HT.out.below jL;have Qs:∀k,Pr k->V.heap[k]?=W1.heap[k]?:=λk hk=>(jL.block k (by have:=(FQ.out k hk).2.1;omega)).trans (HS.out k hk).1
   obtain⟨g0,g1,g2⟩:=Hgt.out V Qs k hlt;have Z1:=(sG.out (gx k)).2 (.inr (.inr ⟨k,hlt,rfl⟩));have du:=FQ.out (gx k) Z1;obtain⟨q0,tn⟩:=QH.out (k+1) (by omega);have SC:=Qy.out k hlt;have TW:=Dv.out;rw[SC]at TW;have yY:=λnq=>zrF (V.drewN nq) (yK.inv.below ⟨rfl,rfl,rfl,ai _,λ_ _=>rfl⟩) hQk t ht ne (gx k) ne fr (TT k) ⟨g1.row,g1.lt⟩ Em (by omega) (HS.out _ Z1).2 ⟨q0,by have:=tn.le;omega,(g2 q0).2 tn⟩ (λq _ hb=>((g2 q).1 hb).le) zye (by omega) (by
    rcases TW with ⟨e,e1,e2⟩|⟨_,e⟩
    ·exact .inl ⟨e,by have:=e1.le;omega,(g2 e).2 e1,e2⟩
    ·exact .inr e)
   have hcc:Calls prog 229 #[zg (za ⟨pa k,0,zb⟩),.string t,ze .i64 fr,zd (za ⟨gx k,0,zb⟩) ne ne] V.drew λe w'=>∃v,e=.returned v/\∃(aI:Nat->Nat->Prop) (cG:Nat) (ok:Bool),v=.tuple #[ze .i64 cG,.bool ok]/\Nf t.data.toList (pq k) (λq=>q<64*ne/\ax (TT k) q=true) fr cG ok/\da w0 pl Q lx V aI w':=(yY 1).mono λe w' ⟨aI,cG,ok,e1,e2,e3⟩=>⟨_,e1,aI,cG,ok,rfl,e2,(da.cH yK.inv (Below.refl V.heap.size V).drew).trans (e3:da w0 pl Q lx V.drew aI w')⟩
   have QA:=aC g2;have Yh:=aC SC;have sI:=aC yK;have zL:=aC xV;clear yY g1 g2 yK xV SC TW du
   go_upto_region 7 with fail
   clear hV
   go_region_law ((refine A9 (by rfl) 229 #[.tmp 26,.tmp 27,.tmp 28,.tmp 32] #[198,9,3,193] (by rfl) #[zg (za ⟨pa k,0,zb⟩),.string t,ze .i64 fr,zd (za ⟨gx k,0,zb⟩) ne ne] (by simp[Act.eval]) _ (zm9 _ _) hcc ?_;rintro v2 W3 ⟨jG,cG,ok,rfl,hR,DZ⟩;clear hcc))
   all_goals (
    have wR:=aC (sI.out.trans DZ);have Qp:Hid (∀k,Pr k->W3.heap[k]?=W1.heap[k]?/\∀b,¬jG k b):=λk hk=>by
     have:=FQ.out k hk;obtain⟨f1,f2⟩:=DZ.eG k (by omega) (by omega) (HS.out k hk).2;exact⟨f1.trans (Qs k hk),f2⟩
    have Kn:∀b,¬lx wr.heap.size b:=λb hb=>by have:=(HT.out.inv.ow _ b hb).2;omega
    have jx:=HT.out.size;have Ej:=(DZ.eG wr.heap.size (by omega) KF Kn).1.trans zL.out;have y0:=(jA Ej).1;have mh:W1.heap.size<=W3.heap.size:=by have:=DZ.size;omega
    have FP:Hid (W3.ownsRow w.heap.size 247 2 vL ys.length (my ys)):=kH HO.out λk e=>by
     obtain⟨e3,aA,e4⟩:=iD HO.out e;have Kj:=(ap.1 e4).1;exact(DZ.eG k (by omega) (by omega) (rh.out k e).1).1.trans (jL.block k Kj)
    have BI:Hid (∀k,vL.ownBlock=za k->w.heap.size<=k/\(∀c,¬jG k c)/\W1.heap.size<=k/\∃aA,W3.heap[k]?=za (zf aA 247 (0,0))):=λk e=>by
     obtain⟨e3,aA,e4⟩:=iD HO.out e;have Kj:=(ap.1 e4).1;obtain⟨f1,f2⟩:=DZ.eG k (by omega) (by omega) (rh.out k e).1;exact⟨e3,f2,(rh.out k e).2,aA,f1.trans ((jL.block k Kj).trans e4)⟩
    have HR:=aC hR;clear hR DZ Qs v0 jL Ej HT HS HO rh sI zL g0 l0 l1;cases ok with
    |false=>
     have HF:Hid (sL w0 pl Q Ow w lo t.data.toList t.size p (.returned vL) W3):=by
      refine⟨jG,ys,vL,rfl,wR.out,FP.out,λk e=>(BI.out k e).2.1,lq.out _ ?_,BB.out⟩;have:=FL.out [] (by
       rw[Yh.out];refine .stop _ _ _ _ λe he hl=>?_
       rcases HR.out with ⟨e1,_⟩|⟨_,e1⟩
       ·cases e1
       ·exact e1 e ⟨by have:=he.le;omega,(QA.out e).2 he⟩ hl)
      rw[tW]at this;exact this
     clear HR wR Qp FP BI FL Dv;go_wp2;go_ret;exact HF.out
    |true=>
     have uI:(cG<64*ne/\ax (TT k) cG=true)/\Lg t.data.toList (pq k) fr cG/\∀x,(x<64*ne/\ax (TT k) x=true)->Lg t.data.toList (pq k) fr x->x<=cG:=by
      rcases HR.out with ⟨_,e1⟩|⟨e1,_⟩
      ·exact e1
      ·cases e1
     have Oq:=(QA.out cG).1 uI.1.2;have pK:=Oq.le;have zw0:Hid (∀L,jD t.data.toList t.size (ls.drop (k+1)) cG L->jD t.data.toList t.size ls 0 (oa (ys++[(pa k,pq k,cG)])++L)):=λL hL=>by
      have:=FL.out ((pq k,cG)::L) (by
       rw[Yh.out];exact .cons _ _ _ _ _ _ ⟨uI.2.1.1,pK,⟨uI.2.1,Oq⟩,λm h1 h2 h3=>by have:=uI.2.2 m ⟨by omega,(QA.out m).2 h3.2⟩ h3.1;omega⟩ hL)
      simpa [oa]using this
     have HTe:=aC Oq;have kh:=FP.out;have jR:ys.length<=2000000:=by omega
     have iY:w.heap.size<=W3.heap.size:=wR.out.size;obtain⟨va,vn,vc,T3⟩:∃(va:Option Addr) (vn vc:Nat),vL=.slice va vn vc:=by
      rcases kh.2 with ⟨e,_⟩|⟨g,c,_,e,_⟩
      ·exact⟨_,_,_,e⟩
      ·exact⟨_,_,_,e⟩
     subst T3;clear HR uI Oq Dv FL FP
     go_wp2_with (at_builtin;refine EN rfl (.tmp 38) (.tmp 43) 244 rfl W3 #[zg (za ⟨pa k,0,zb⟩),ze .i64 (cG:Int)] 247 rfl W3.heap.size rfl w.heap.size i0 _ 2 16 underlying244 hi bK bh bz rfl (by omega) (.slice va vn vc) ys.length (my ys) rfl kh rfl rfl (by intro u hu;simp at hu;rcases hu with rfl|rfl<;>rfl) jR (by omega) iY ?_;intro g7 bS W7 fu dW iH)
     have OR:aE (λk=>(Value.slice va vn vc).ownBlock=za k) W3 W7:=(aE.refl _ W3).grown dW (λk e=>.inl e);have km7:bR W3 W7:=λmg f e=>(OR.same mg (ap.1 e).1 (λe2=>by
      obtain⟨_,_,_,aA,h5⟩:=BI.out mg e2;rw[h5]at e;exact absurd (bP e) (by decide))).trans e
     have HT7:=aC (wR.out.free OR km7 (λk e=>⟨by have:=(BI.out k e).1;omega,(BI.out k e).2.1,(BI.out k e).1⟩));have Qq:Hid (∀k,Pr k->W7.heap[k]?=W1.heap[k]?/\∀b,¬jG k b):=λk hk=>by
      have:=FQ.out k hk;exact⟨(OR.same k (by omega) (λe=>by have:=(BI.out k e).2.2.1;omega)).trans (Qp.out k hk).1,(Qp.out k hk).2⟩
     have hs7:W1.heap.size<=W7.heap.size:=aU mh OR.size
     go_roundw
     case rel=>exact⟨k+1,cG,ys++[(pa k,pq k,cG)],_,jG,rfl,rfl,by go_num,by omega,pK,by simp;omega,HT7,Qq,hs7,HTe,zw0,by show World.ownsRow _ _ _ _ _ _ _;rw[pz,Vy];exact fu,λk e=>by
       have e:g7=k:=by simpa [Value.ownBlock]using e
       subst e;rcases iH with f|f
       ·obtain⟨z1,z2,z3,_⟩:=BI.out g7 f;exact⟨z2,z3⟩
       ·exact⟨λc hc=>by have:=(wR.out.inv.ow _ c hc).2;omega,by omega⟩,λy hy=>by
       rcases er.1 hy with hy|hy
       ·exact BB.out y hy
       ·rw[eM.1 hy];exact ND⟩
     case measure=>simp[intOf];omega)
  ·obtain rfl:k=n:=by omega
   have hd:decide ((k:Int)<(k:Int))=false:=by simp
   have HF:Hid (sL w0 pl Q Ow w lo t.data.toList t.size p (.returned vL) wr):=by
    refine⟨lx,ys,vL,rfl,HT.out,HO.out,λk e=>(rh.out k e).1,lq.out _ ?_,BB.out⟩;have:=FL.out [] (by rw[wS.out];exact .nil _);rw[tW]at this;exact this
   clear HT HS HO rh BB Dv FL;go_wp2;go_ret;exact HF.out
end
section
variable {w w0:zc}{pl:Nat}{Q:Nat -> Option Pt}{Ow:Nat -> Nat -> Prop}
attribute [local go_sem ↓] wp_at_zero wp_at_succ
theorem Pd:∀(p:Pt) (v:aa),aR w v p->aF p<=2000->((dw p).length:Int)<=aF p
 |.set _,_,_,_=>by simp[dw,aF]
 |.seq l r,v,h,_=>by have:=(iS (.seq l r) v h).1;simp[dw];omega
 |.aw b mn mx,v,h,_=>by have:=(iS (.aw b mn mx) v h).1;simp[dw];omega
 |.aT b g,v,h,_=>by have:=(iS (.aT b g) v h).1;simp[dw];omega
 |.aQ l r,v,⟨lv,rv,h1,h2,h3⟩,hw=>by
  have hk:=L6 (v:=v) (.inr ⟨lv,rv,h1,h2,h3⟩) hw;have i1:=Pd l lv h2 hk.1;have i2:=Pd r rv h3 hk.2;have:aF (.aQ l r)=aF l+aF r:=by
   show cJ _=_;have hw:cJ (aF l+aF r)<=2000:=hw;unfold cJ at hw ⊢;split
   ·rfl
   ·rename_i e;rw[aq e]at hw;omega
  rw[this];simp[dw];omega
theorem LN:∀(p:Pt),0<(dw p).length
 |.set _=>by simp[dw]
 |.seq _ _=>by simp[dw]
 |.aw _ _ _=>by simp[dw]
 |.aT _ _=>by simp[dw]
 |.aQ l r=>by have:=LN l;simp[dw];omega
theorem zjG:∀(p:Pt) (v:aa),aR w v p->aF p<=2000->((jV p).length:Int)<=aF p
 |.set _,_,_,_=>by simp[jV,aF]
 |.aQ l r,v,h,_=>by have:=(iS (.aQ l r) v h).1;simp[jV];omega
 |.aw b mn mx,v,h,_=>by have:=(iS (.aw b mn mx) v h).1;simp[jV];omega
 |.aT b g,v,h,_=>by have:=(iS (.aT b g) v h).1;simp[jV];omega
 |.seq l r,v,⟨lv,rv,h1,h2,h3⟩,hw=>by
  have hk:=L6 (v:=v) (.inl ⟨lv,rv,h1,h2,h3⟩) hw;have i1:=(iS l lv h2).1;have i2:=zjG r rv h3 hk.2;have:aF (.seq l r)=aF l+aF r:=by
   show cJ _=_;have hw:cJ (aF l+aF r)<=2000:=hw;unfold cJ at hw ⊢;split
   ·rfl
   ·rename_i e;rw[aq e]at hw;omega
  rw[this];simp[jV];omega
theorem zjV(p:Pt)(v:aa)(h:aR w v p)(hw:aF p<=2000):(mG p).length<=2000:=by
 cases p with
 |set f=>simp[mG]
 |aQ l r=>simp[mG]
 |aT b g=>simp[mG]
 |seq l r=>have:=zjG (.seq l r) v h hw;simp[mG,tS];omega
 |aw b mn mx=>
  obtain⟨_,_,_,hb⟩:=h;simp[eK]at hb;simp only[mG,gI,pz,List.length_replicate];split<;>simp<;>omega
def YO(w0:zc)(pl:Nat)(Q:Nat->Option Pt)(Ow:Nat->Nat->Prop)(w:zc)(lo:Nat)(u:aJ)(n:Nat)(p:Pt)(e:Ending)(w':zc):Prop:=
 (lJ p/\e=.returned (zd zb 0 0)/\w'=w)\/((∀f,p≠.set f)/\sL w0 pl Q Ow w lo u n p e w')
theorem cE.form(h:cE w0 pl Q Ow w){lo a:Nat}{p:Pt}{f:aa}(hb:sN lo w0 pl Q a p f):w.cell? ⟨a,2,zb⟩=za f/\∃v,aR w0 v p/\aF p<=2000:=by
 obtain⟨v,f',k,h1,h2,h3,h4,_⟩:=h.pc a p hb.q;obtain⟨v',h5,h6⟩:=hb.box;rw[h1]at h5;have e:f'=f:=by injection h5 with h5;injection h5 with h5;simp at h5;exact h5.2
 subst e;exact⟨(aO _ _ _ _ _ _ h2:_=_),v,h3,h4⟩
theorem dI.q{lo:Nat}{a:Nat}{p:Pt}(h:dI lo w pl Q a p):Q a=za p:=by
 obtain⟨f,h1,_⟩:=h.Rp;exact h1.q
theorem PO{P:Program}{o:Oper}{a:Act}{K:Act->zc->Prop}{Q:Exit->Act->zc->Prop}{r:Result Next}(r':Result Next)(e:r=r')(h:Oper.upon P o a K Q r'):Oper.upon P o a K Q r:=e ▸ h
theorem zlt(w:zc)(h:cE w0 pl Q Ow w)(lo a:Nat)(p:Pt)(hp:dI lo w0 pl Q a p)(t:ByteArray)(ht:t.size<=4096)(hL:Lg t.data.toList p 0 t.size):
  Calls prog 151 #[zg (za ⟨a,0,zb⟩),.string t] w λe w'=>YO w0 pl Q Ow w lo t.data.toList t.size p e w':=by
 have ho:=h.Li hp.q;cases hp with
 |leaf _ _ hb hn=>
  obtain⟨c2,-⟩:=h.form hb;have Hn:=aC hn;clear hb hn h ho hL
  go_enter func151,ntmps151
  go_wp2;go_ret;exact .inl ⟨Hn.out,rfl,rfl⟩
 |group _ a' b g hb hk=>
  obtain⟨c2,-⟩:=h.form hb;have hc:=zk9 w h lo a' b g hk t;clear hb h ho hL hk
  go_enter func151,ntmps151
  go_wp2_with fail
  refine PO (.ok (.enter 220 #[ab #[ze .i64 g,zg (za ⟨a',0,zb⟩)],.string t]) w) (by kernel_rfl) ?_;rw[Oper.upon_enter];refine hc.mono ?_;rintro e w' ⟨aI,ys,v,rfl,hT⟩;have HF:Hid (sL w0 pl Q Ow w lo t.data.toList t.size (.aT b g) (.returned v) w'):=⟨aI,ys,v,rfl,hT⟩;clear hc hT;go_wp2;go_ret;exact .inr ⟨λf e=>(by cases e),HF.out⟩
 |choice _ l r go cap xs hb hr hf hk=>
  obtain⟨c2,v,hv,hw⟩:=h.form hb;have hl:=Pd _ v hv hw;have ju:(dw (.aQ l r)).length=xs.length:=by rw[<-hf];simp
  have gW:0<(dw (.aQ l r)).length:=LN _;have hc:=zjr w h lo go cap l r xs hr hf hk (λx hx=>(hk x hx).q) t ht hL (by omega) (by omega);clear hb h ho hL hk hr hf hv hw hl ju gW
  go_enter func151,ntmps151
  go_wp2_with fail
  refine PO (.ok (.enter 233 #[ab #[zd (za ⟨go,0,zb⟩) xs.length cap],.string t]) w) (by kernel_rfl) ?_;rw[Oper.upon_enter];refine hc.mono ?_;rintro e w' ⟨aI,ys,v,rfl,hT⟩;have HF:Hid (sL w0 pl Q Ow w lo t.data.toList t.size (.aQ l r) (.returned v) w'):=⟨aI,ys,v,rfl,hT⟩;clear hc hT;go_wp2;go_ret;exact .inr ⟨λf e=>(by cases e),HF.out⟩
 |chain _ _ go cap xs hb hr hf h1 h2 h3 h0 hk=>
  obtain⟨c2,v,hv,hw⟩:=h.form hb;have hl:=zjV _ v hv hw;have ju:(mG p).length=xs.length:=by rw[<-hf];simp
  have hc:=zkX w h lo go cap p xs hr hf h1 h2 h3 hk (λx hx=>(hk x hx).q) ho h0 (by omega) t ht hL;have hs:=h0;clear hb h ho hL hk hr hf hv hw hl ju h1 h2 h3
  go_enter func151,ntmps151
  go_wp2_with fail
  refine PO (.ok (.enter 227 #[ab #[zd (za ⟨go,0,zb⟩) xs.length cap],.string t]) w) (by kernel_rfl) ?_;rw[Oper.upon_enter];refine hc.mono ?_;rintro e w' ⟨aI,ys,v,rfl,hT⟩;have HF:Hid (sL w0 pl Q Ow w lo t.data.toList t.size p (.returned v) w'):=⟨aI,ys,v,rfl,hT⟩;clear hc hT;go_wp2;go_ret;exact .inr ⟨hs,HF.out⟩
 |rounds _ a' b hb hk=>
  obtain⟨c2,-⟩:=h.form hb;have hc:=zki w h lo a a' b hb.q hk.q hk t ht hL;clear hb h ho hL hk
  go_enter func151,ntmps151
  go_wp2_with fail
  refine PO (.ok (.enter 234 #[ab #[zg (za ⟨a,0,zb⟩),zg (za ⟨a',0,zb⟩)],.string t]) w) (by kernel_rfl) ?_;rw[Oper.upon_enter];refine hc.mono ?_;rintro e w' ⟨aI,ys,v,rfl,hT⟩;have HF:Hid (sL w0 pl Q Ow w lo t.data.toList t.size (.aw b 0 (-1)) (.returned v) w'):=⟨aI,ys,v,rfl,hT⟩;clear hc hT;go_wp2;go_ret;exact .inr ⟨λf e=>(by cases e),HF.out⟩
end
def mz:Pt->Nat
 |.aw b mn mx=>2*(fz b+1)+(if mn=0/\mx=-1 then 0 else 1)
 |p=>2*fz p+1
theorem ztA(p:Pt):2*fz p<=mz p/\mz p<=2*fz p+1:=by
 cases p with
 |aw b mn mx=>simp only[mz,fz];split<;>omega
 |_=>simp[mz]
theorem su{p q:Pt}(h:fz q<fz p):mz q<mz p:=by have:=ztA p;have:=ztA q;omega
theorem Ip:∀(p q:Pt),q∈dw p->fz q<=fz p
 |.aQ l r,q,h=>by
  rcases er.1 (show q∈dw l++dw r from h) with h|h
  ·have:=Ip l q h;simp[fz];omega
  ·have:=Ip r q h;simp[fz];omega
 |.set _,q,h=>by rw[eM.1 (show q∈[_] from h)];exact ai _
 |.seq _ _,q,h=>by rw[eM.1 (show q∈[_] from h)];exact ai _
 |.aw _ _ _,q,h=>by rw[eM.1 (show q∈[_] from h)];exact ai _
 |.aT _ _,q,h=>by rw[eM.1 (show q∈[_] from h)];exact ai _
theorem zl6:∀(p q:Pt),q∈jV p->fz q<=fz p
 |.seq l r,q,h=>by
  rcases oB.1 (show q∈l::jV r from h) with h|h
  ·subst h;simp[fz];omega
  ·have:=zl6 r q h;simp[fz];omega
 |.set _,q,h=>by rw[eM.1 (show q∈[_] from h)];exact ai _
 |.aQ _ _,q,h=>by rw[eM.1 (show q∈[_] from h)];exact ai _
 |.aw _ _ _,q,h=>by rw[eM.1 (show q∈[_] from h)];exact ai _
 |.aT _ _,q,h=>by rw[eM.1 (show q∈[_] from h)];exact ai _
theorem zrM{b q:Pt}{mn:Nat}{mx:Int}{o:Bool}(h:(q,o)∈gI b mn mx):q=b\/(mx=-1/\q=.aw b 0 (-1)):=by
 unfold gI at h;rcases er.1 h with h|h
 ·have:=(List.mem_replicate.1 h).2;injection this with h1;exact .inl h1
 ·rcases er.1 h with h|h
  ·have:=(List.mem_replicate.1 h).2;injection this with h1;exact .inl h1
  ·by_cases e:mx=-1
   ·rw[aD e]at h;have:=eM.1 h;injection this with h1;exact .inr ⟨e,h1⟩
   ·rw[aq e]at h;cases h
theorem zmj{p q:Pt}{o:Bool}(h3:∀b,p≠.aw b 0 (-1))(h:(q,o)∈mG p):mz q<mz p:=by
 cases p with
 |set f=>cases h
 |aQ l r=>cases h
 |aT b g=>cases h
 |seq l r=>
  obtain⟨x,h1,h2⟩:=sy.1 (show (q,o)∈(jV (.seq l r)).map λq=>(q,false) from h);injection h2 with h2
  subst h2;rcases oB.1 (show x∈l::jV r from h1) with e|e
  ·subst e;exact su (by simp[fz];omega)
  ·have:=zl6 r x e;exact su (by simp[fz];omega)
 |aw b mn mx=>
  rcases zrM (show (q,o)∈gI b mn.toNat mx from h) with rfl|⟨rfl,rfl⟩
  ·exact su (by simp[fz])
  ·have:¬mn=0:=λe=>h3 b (by rw[e])
   simp[mz,this]
theorem zon{u:aJ}{n:Nat}{ls:List fR}{i:Nat}{L:Laid}(h:jD u n ls i L):∀x,x∈L->∃o,(x.1,o)∈ls:=by
 induction h with
 |nil i=>intro x hx;cases hx
 |stop q o ls i h=>intro x hx;cases hx
 |cons q o ls i e L g _ ih=>
  intro x hx;rcases oB.1 hx with rfl|hx
  ·exact⟨o,Bp ..⟩
  ·obtain⟨o',h1⟩:=ih x hx;exact⟨o',yc _ h1⟩
theorem zs6{u:aJ}{n:Nat}{b:Pt}{i:Nat}{L:Laid}(h:nK u n b i L):∀x,x∈L->x.1=b:=by
 induction h with
 |done=>intro x hx;cases hx
 |more i e L hi g _ ih=>
  intro x hx;rcases oB.1 hx with rfl|hx
  ·rfl
  ·exact ih x hx
theorem zsQ{u:aJ}{i n:Nat}:∀(p:Pt) (L:Laid),yy u i n p L->∀x,x∈L->mz x.1<mz p
 |.set _,L,h,x,hx=>by have h:L=[]:=h;subst h;cases hx
 |.aT b g,L,h,x,hx=>by
  have h:L=[(b,n)]:=h;subst h;rw[eM.1 hx];exact su (by simp[fz])
 |.aQ p q,L,⟨k,y,h1,_,_,h4⟩,x,hx=>by
  subst h4;rw[eM.1 hx];rcases er.1 (show y∈dw p++dw q from Bq h1) with h|h
  ·have:=Ip p y h;exact su (by simp[fz];omega)
  ·have:=Ip q y h;exact su (by simp[fz];omega)
 |.seq p q,L,h,x,hx=>by
  obtain⟨o,h1⟩:=zon (show jD u n (tS (jV (.seq p q))) i L from h) x hx;exact zmj (p:=.seq p q) (λb e=>(by cases e)) h1
 |.aw b mn mx,L,h,x,hx=>by
  replace h:if mn=0/\mx=-1 then nK u n b i L else jD u n (gI b mn.toNat mx) i L:=h
  by_cases e:mn=0/\mx=-1
  ·rw[aD e]at h;rw[zs6 h x hx];exact su (by simp[fz])
  ·rw[aq e]at h;obtain⟨o,h1⟩:=zon h x hx;exact zmj (p:=.aw b mn mx) (λb' e2=>by injection e2 with _ e3 e4;exact e ⟨e3,e4⟩) h1
theorem zmh{u:aJ}{j:Nat}:∀(L:Laid) (i:Nat),yz u j L i->(∀x,x∈L->oO x.1)->∃l,rk u L i l
 |[],i,_,_=>⟨[],.nil i⟩
 |(q,e)::L,i,⟨h1,_,h3⟩,ho=>by
  obtain⟨l1,k1⟩:=xO q (ho _ (Bp ..)) i e h1;obtain⟨l2,k2⟩:=zmh L e h3 (λx hx=>ho x (yc _ hx));exact⟨l1++l2,.cons q e L i l1 l2 k1 k2⟩
theorem zjL{p:Pt}(h:lJ p)(i j:Nat):sk p i j=[]:=by
 cases p with
 |aT b g=>exact h.elim
 |_=>rfl
structure oP(w0:zc)(pl:Nat)(Q:Nat->Option Pt)(bs bt bp gs m cap:Nat)(t:ByteArray)(Ow:Nat->Nat->Prop)(w:zc)(sp:List (Int×Int)):Prop where
 inv:cE w0 pl Q Ow w
 xs:w.heap[bs]?=za (zf #[zd (za ⟨gs,0,zb⟩) m cap] 33 (0,0))
 xt:w.heap[bt]?=za (zf #[.string t] 9 (0,0))
 xp:w.heap[bp]?=za (zf #[.func (.func 150) #[] #[zg (za ⟨bs,0,zb⟩),zg (za ⟨bt,0,zb⟩),zg (za ⟨bp,0,zb⟩)]] 205 (0,0))
 row:w.ownsRow w0.heap.size 71 2 (zd (za ⟨gs,0,zb⟩) m cap) m (pv sp)
 len:sp.length=m
 fs:w0.heap.size<=bs/\∀b,¬Ow bs b
 ft:w0.heap.size<=bt/\∀b,¬Ow bt b
 fp:w0.heap.size<=bp/\∀b,¬Ow bp b
 fg:w0.heap.size<=gs/\∀b,¬Ow gs b
structure zP(w0:zc)(gs:Nat)(Ow:Nat->Nat->Prop)(w:zc)(aI:Nat->Nat->Prop)(w':zc):Prop where
 size:w.heap.size<=w'.heap.size
 eG:∀k,w0.heap.size<=k->k<w.heap.size->k≠gs->(∀b,¬Ow k b)->w'.heap[k]?=w.heap[k]?/\∀b,¬aI k b
theorem zP.trans{w0:zc}{gs:Nat}{Ow dQ pC:Nat->Nat->Prop}{w w1 w2:zc}(h:zP w0 gs Ow w dQ w1)(k:zP w0 gs dQ w1 pC w2):zP w0 gs Ow w pC w2:=
 ⟨aU h.size k.size,λj h1 h2 h3 h4=>by
  obtain⟨e1,f1⟩:=h.eG j h1 h2 h3 h4;obtain⟨e2,f2⟩:=k.eG j h1 (bA h2 h.size) h3 f1;exact⟨e2.trans e1,f2⟩⟩
section
variable {w0:zc} {pl:Nat} {Q:Nat->Option Pt} {bs bt bp gs m cap:Nat} {t:ByteArray} {Ow aI:Nat->Nat->Prop} {w w':zc} {sp:List (Int×Int)}
theorem oP.cj(h:oP w0 pl Q bs bt bp gs m cap t Ow w sp):gs<w.heap.size:=by
 rcases h.row.2 with ⟨e,_⟩|⟨g,c,aA,e,_,h2,_⟩
 ·cases e
 ·cases e;exact(ap.1 h2).1
theorem oP.Uw(h:oP w0 pl Q bs bt bp gs m cap t Ow w sp)(k:da w0 pl Q Ow w aI w'):oP w0 pl Q bs bt bp gs m cap t aI w' sp/\zP w0 gs Ow w aI w':=by
 have ls:=(ap.1 h.xs).1;have lt:=(ap.1 h.xt).1;have lp:=(ap.1 h.xp).1;obtain⟨s1,s2⟩:=k.eG bs h.fs.1 ls h.fs.2;obtain⟨t1,t2⟩:=k.eG bt h.ft.1 lt h.ft.2;obtain⟨p1,p2⟩:=k.eG bp h.fp.1 lp h.fp.2;obtain⟨g1,g2⟩:=k.eG gs h.fg.1 h.cj h.fg.2;exact⟨⟨k.inv,s1.trans h.xs,t1.trans h.xt,p1.trans h.xp,kH h.row (λb e=>by
  have e:gs=b:=by simpa [Value.ownBlock]using e
  subst e;exact g1),h.len,⟨h.fs.1,s2⟩,⟨h.ft.1,t2⟩,⟨h.fp.1,p2⟩,⟨h.fg.1,g2⟩⟩,⟨k.size,λj h1 h2 _ h4=>k.eG j h1 h2 h4⟩⟩
theorem oP.store(h:oP w0 pl Q bs bt bp gs m cap t Ow w sp)(g:Nat)(hg:g<m)(i j:Int):oP w0 pl Q bs bt bp gs m cap t Ow ((w.setCell ⟨gs,g*2,zb⟩ (ze .i64 i)).setCell ⟨gs,g*2+1,zb⟩ (ze .i64 j)) (sp.set g (i,j))/\zP w0 gs Ow w Ow ((w.setCell ⟨gs,g*2,zb⟩ (ze .i64 i)).setCell ⟨gs,g*2+1,zb⟩ (ze .i64 j)):=by
 obtain⟨o1,k1⟩:=h.row.stored (g*2) (ze .i64 i);obtain⟨o2,k2⟩:=o1.stored (g*2+1) (ze .i64 j);rw[WZ _ _ _ _ (by rw[h.len];exact hg)]at o2;obtain⟨W,hW⟩:∃W,(w.setCell ⟨gs,g*2,zb⟩ (ze .i64 i)).setCell ⟨gs,g*2+1,zb⟩ (ze .i64 j)=W:=⟨_,rfl⟩;rw[hW]at o2 k2 ⊢;have tc:aE (· = gs) w W:=((aE.refl _ w).grown k1 (λk e=>.inl (Option.some.inj e).symm)).grown k2 (λk e=>.inl (Option.some.inj e).symm);have hc:∃aA,w.heap[gs]?=za (zf aA 71 (0,0)):=by
  rcases h.row.2 with ⟨e,_⟩|⟨g,c,aA,e,_,h2,_⟩
  ·cases e
  ·cases e;exact⟨aA,h2⟩
 have ne:∀{k:Nat} {cs:Array aa} {ty:TypeId},w.heap[k]?=za (zf cs ty (0,0))->ty≠71->k≠gs:=λe1 e2 e3=>by
  obtain⟨aA,h2⟩:=hc;rw[e3,h2]at e1;exact e2 (bP e1).symm
 have sm:∀{k:Nat} {cs:Array aa} {ty:TypeId},w.heap[k]?=za (zf cs ty (0,0))->ty≠71->W.heap[k]?=za (zf cs ty (0,0)):=λe1 e2=>(tc.same _ (ap.1 e1).1 (ne e1 e2)).trans e1
 have km:bR w W:=λmg f e=>sm e (by decide)
 exact⟨⟨h.inv.free tc km (λk e=>by have e:k=gs:=e;subst e;exact h.fg),sm h.xs (by decide),sm h.xt (by decide),sm h.xp (by decide),o2,by rw[List.length_set];exact h.len,h.fs,h.ft,h.fp,h.fg⟩,⟨tc.size,λk h1 h2 h3 h4=>⟨tc.same k h2 h3,h4⟩⟩⟩
end
end Go.Proofs.YtdimhpfiieepiaaGreatDoor
