import Derived.Test.YtdimhpfiieepiaaGreatDoorC13
namespace Go.Proofs.YtdimhpfiieepiaaGreatDoor
open Proofs.Tryz
open Option renaming none->za,some->zc
open Value renaming slice->zd,int->ze,agg->zl,pointer->zn
open Obj renaming cells->zg
open RowKit renaming Below->zh,Hid->zj
open Go renaming World->zi,Value->zk,Calls->zm
set_option maxHeartbeats 4000000
set_option maxRecDepth 100000
open Go.RowKit
section
variable {S:Nat -> Prop}{w A B:zi}
attribute [local go_sem] Oper.semAt_some
structure ap(S:Nat->Prop)(w W:zi):Prop where
 os:W.os=w.os
 tape:W.tape=w.tape
 output:W.output=w.output
 size:w.heap.size<=W.heap.size
 same:∀k,k<w.heap.size->¬S k->W.heap[k]?=w.heap[k]?
theorem ap.refl(S:Nat->Prop)(w:zi):ap S w w:=⟨rfl,rfl,rfl,aj _,λ_ _ _=>rfl⟩
theorem ap.turn(h:ap S w A)(t:vu w.heap.size A B):ap S w B:=
 ⟨t.os.trans h.os,t.tape.trans h.tape,t.output.trans h.output,aW h.size t.size,λk hk hs=>by
  have e:=h.same k hk hs;have hA:k<A.heap.size:=bA hk h.size;rw[<-e,t.same k _ (Array.getElem?_eq_getElem hA) (.inl hk),Array.getElem?_eq_getElem hA]⟩
theorem ap.grown{o:Option Nat}(h:ap S w A)(hg:A.grownBy B o)(hS:∀g,o=zc g->S g\/w.heap.size<=g):ap S w B:=
 ⟨hg.os.trans h.os,hg.tape.trans h.tape,hg.output.trans h.output,aW h.size hg.size,λk hk hs=>by
  refine(hg.block k (bA hk h.size) (λe=>?_)).trans (h.same k hk hs);rcases hS k e.symm with h1|h1
  ·exact hs h1
  ·omega⟩
theorem ap.trans(h:ap S w A)(k:ap S A B):ap S w B:=
 ⟨k.os.trans h.os,k.tape.trans h.tape,k.output.trans h.output,aW h.size k.size,λi hi hs=>(k.same i (bA hi h.size) hs).trans (h.same i hi hs)⟩
theorem ap.bR(h:zh w.heap.size w A):ap S w A:=⟨h.os,h.tape,h.output,h.size,λk hk _=>h.block k hk⟩
theorem ap.mono{S':Nat->Prop}(h:ap S w A)(hs:∀k,k<w.heap.size->S k->S' k):ap S' w A:=⟨h.os,h.tape,h.output,h.size,λk hk hn=>h.same k hk λq=>hn (hs k hk q)⟩
theorem aH.kJ{W:zi}{nw g:Nat}{T:Nat->Nat}(h:aH w nw g T)(t:ap S w W)(hs:¬S g):aH W nw g T:=⟨(t.same g h.cB hs).trans h.row,h.lt⟩
structure GF(W:zi)(n nw:Nat)(fr:Nat->Nat)(F:Nat->Nat->Nat):Prop where
 rows:∀p,p<n->aH W nw (fr p) (F p)
 inj:∀p q,p<n->q<n->fr p=fr q->p=q
theorem ztc(n nw bt g1 c1 g2 c2:Nat)(sv fv:zk)(fr:Nat->Nat)(F:Nat->Nat->Nat)(T1 T2:Nat->Nat)(w:zi)
  (gY:vt w bt nw sv fv) (rR:0<n->∃gf cf:Nat,fv=zd (zc ⟨gf,0,za⟩) n cf/\gf<w.heap.size/\(∀p,p<n->w.cell? ⟨gf,p,za⟩=zc (zd (zc ⟨fr p,0,za⟩) nw nw))/\∀p,p<n->fr p≠gf) (hF:GF w n nw fr F) (h1:aH w nw g1 T1) (h2:aH w nw g2 T2)
  (uK:∀p,p<n->fr p≠g1) (pU:∀p,p<n->fr p≠g2) (Lt:∀p,p<n->fr p≠0) (hdb:∀p,p<n->fr p≠bt) (hm:∀p,p<64*nw->au T1 p=true->p<n) (zBD:n<=64*nw) (bY:nw<=1000) (hB:fS w) (h0:0<w.heap.size):
  zm prog 202 #[zn (zc ⟨bt,0,za⟩),zd (zc ⟨g1,0,za⟩) nw c1,zd (zc ⟨g2,0,za⟩) nw c2] w λe w'=>e=.returned (.tuple #[])/\GF w' n nw fr (λp=>if au T1 p=true then eU (F p) T2 else F p)/\ap (λk=>∃p,p<n/\k=fr p) w w':=by
 refine(callsIn_wide (n:=5)).1 ?_;refine callsIn_of_wp_marks func202 rfl trivial ?_ rfl;simp only[ntmps202,yE,qu,oJ,Nat.reduceAdd,Nat.reduceSub,B4,B5,B9,BW,wX,BX]
 gi_wp2
 obtain⟨W0,ai⟩:∃W0,((w.alloc (zg #[zn (zc ⟨bt,0,za⟩)] 224)).alloc (zg #[zd (zc ⟨g2,0,za⟩) nw c2] 193))=W0:=⟨_,rfl⟩;have af:zh w.heap.size w W0:=by rw[<-ai];exact(aw).alloc (by simp) _
 have hsz:W0.heap.size=w.heap.size+1+1:=by rw[<-ai];simp
 have x3:W0.heap[w.heap.size]?=zc (zg #[zn (zc ⟨bt,0,za⟩)] 224 (0,0)):=by rw[<-ai];exact cX (aI _ _)
 have x5:W0.heap[w.heap.size+1]?=zc (zg #[zd (zc ⟨g2,0,za⟩) nw c2] 193 (0,0)):=by
  rw[<-ai];have:=aI (w.alloc (zg #[zn (zc ⟨bt,0,za⟩)] 224)) (zg #[zd (zc ⟨g2,0,za⟩) nw c2] 193)
  simpa using this
 rw[ai];clear ai;have mO:∀p,p<n->fr p<w.heap.size:=λp hp=>(hF.rows p hp).cB
 have eV:bt<w.heap.size:=(ah.1 gY).1;have y1:aH W0 nw g1 T1:=h1.below af;have y2:aH W0 nw g2 T2:=h2.below af;have yb:fS W0:=hB.keep (af.block 0 h0);have yx:vt W0 bt nw sv fv:=(af.block bt eV).trans gY;have yr:∀p,p<n->aH W0 nw (fr p) (F p):=λp hp=>(hF.rows p hp).below af
 refine Jo (by omega) (gf:=165) (fb:=#[zd (zc ⟨g1,0,za⟩) nw c1]) (lb:=#[]) rfl (enters_of func165 (by kernel_rfl) rfl)
  (T:=[0,g1]) (by intro k hk;have:=y1.cB;simp at hk;omega)
  (Nd 4 nw g1 c1 T1 (by omega) bY W0 y1 yb) (λ_=>rfl)
  (λpre W=>ap (λk=>∃p,p<n/\k=fr p) W0 W/\∀p,p<n->aH W nw (fr p) (if p∈jv pre then eU (F p) T2 else F p))
  (λ_ _ _=>False)
  (λs A B hs ht=>⟨hs.1.turn ht,λp hp=>⟨ht.same _ _ (hs.2 p hp).row (.inr rfl),(hs.2 p hp).lt⟩⟩)
  (λc s A B hs ht=>hs)
  ⟨ap.refl _ _,λp hp=>by rw[ak (by simp[jv])];exact yr p hp⟩
  (λx=>{tmps:=#[zn (zc ⟨bt,0,za⟩),zd (zc ⟨g1,0,za⟩) nw c1,zd (zc ⟨g2,0,za⟩) nw c2,zn (zc ⟨w.heap.size,0,za⟩),undef,zn (zc ⟨w.heap.size+1,0,za⟩),ze .i64 (x.1:Int),zd (zc ⟨g1,0,za⟩) nw c1,.func (.func 165) #[zd (zc ⟨g1,0,za⟩) nw c1] #[],ze .i64 (x.1:Int),undef,undef,undef,undef,undef,undef,undef,undef,undef],defers:=[]})
  ?assign ?body ?done ?stop
 case assign=>
  intro l x W K hK
  gi_wp2
  exact hK
 case stop=>
  rintro D c pre W hD _ hf;exact hf.elim
 case body=>
  rintro l pre ⟨x,hx⟩ W hl ⟨ht,hr⟩ hlen;have fK:=hm x hx.1 hx.2;obtain⟨gf,cf,rfl,C9,rR,hdf⟩:=rR (by omega);have yf:∀p,p<n->W0.cell? ⟨gf,p,za⟩=zc (zd (zc ⟨fr p,0,za⟩) nw nw):=λp hp=>(af.cell (p:=⟨gf,p,za⟩) C9).trans (rR p hp)
  have l9:¬∃p,p<n/\w.heap.size=fr p:=λ⟨p,hp,e⟩=>by have:=mO p hp;omega
  have Dl:¬∃p,p<n/\w.heap.size+1=fr p:=λ⟨p,hp,e⟩=>by have:=mO p hp;omega
  have z3:W.cell? ⟨w.heap.size,0,za⟩=zc (zn (zc ⟨bt,0,za⟩)):=(aM _ _ _ _ _ _ ((ht.same _ (by omega) l9).trans x3):W.cell? ⟨w.heap.size,0,za⟩=_);have z5:W.cell? ⟨w.heap.size+1,0,za⟩=zc (zd (zc ⟨g2,0,za⟩) nw c2):=(aM _ _ _ _ _ _ ((ht.same _ (by omega) Dl).trans x5):W.cell? ⟨w.heap.size+1,0,za⟩=_);have zb:W.cell? ⟨bt,2,za⟩=zc (zd (zc ⟨gf,0,za⟩) n cf):=(aM _ _ _ _ _ _ ((ht.same bt (by omega) (λ⟨p,hp,e⟩=>hdb p hp e.symm)).trans yx):W.cell? ⟨bt,2,za⟩=_);have zf:W.cell? ⟨gf,x,za⟩=zc (zd (zc ⟨fr x,0,za⟩) nw nw):=(show W.cell? ⟨gf,x,za⟩=W0.cell? ⟨gf,x,za⟩from World.cell?_of_block (ht.same gf (by omega) (λ⟨p,hp,e⟩=>hdf p hp e.symm))).trans (yf x fK);have hj:=zS nw (fr x) g2 nw c2 _ T2 W.drew ⟨(hr x fK).row,(hr x fK).lt⟩ ⟨(y2.kJ ht (λ⟨p,hp,e⟩=>pU p hp e.symm)).row,y2.lt⟩ (pU x fK) bY;have da:(0:Int)<=(x:Int):=by omega
  have cO:(x:Int)<(n:Int):=by omega
  have fP:prog.follows Departure.mixedOrders=true:=by kernel_rfl
  dsimp only
  gi_wp2
  gi_region_with_o (refine⟨trivial,?_⟩;gi_at_call 168;refine(CallsIn.inRound l (callsIn_wide.2 hj)).mono ?_;rintro e w' ⟨rfl,tI,cZ⟩)
  all_goals
   gi_wp2
   refine⟨KeepsFrom.of_grownBy (W:=W) (row:=zc (fr x)) ⟨cZ.os,cZ.tape,cZ.output,cZ.size,cZ.block⟩ (λj e=>by cases e;have:=mO x fK;omega),λk hk=>?_,ht.grown (A:=W) (o:=zc (fr x)) ⟨cZ.os,cZ.tape,cZ.output,cZ.size,cZ.block⟩ (λg e=>by cases e;exact .inl ⟨x,fK,rfl⟩),λp hp=>?_⟩
   ·refine cZ.block k ?_ (λe=>?_)
    ·have:=ht.size;have:=y1.cB;simp at hk;show k<W.heap.size;omega
    ·have e':k=fr x:=by simpa using e
     simp at hk;rcases hk with hk|hk
     ·exact Lt x fK (by omega)
     ·exact uK x fK (by omega)
   ·rw[Dy]
    by_cases e:p=x
    ·subst e;rw[aC (by simp)];refine⟨?_,zsE (hF.rows p hp).lt h2.lt⟩;rw[tI.row]
     congr 2
     refine Xc λi _=>?_
     by_cases jX:p∈jv pre
     ·rw[aC jX];unfold eU;rw[Nat.or_assoc,Nat.or_self]
     ·rw[ak jX]
    ·have hq:=hr p hp;have e2:(p∈jv pre++[x])↔p∈jv pre:=by simp[e]
     refine⟨(cZ.block (fr p) hq.cB (λq=>e (hF.inj p x hp fK (by simpa using q)))).trans ?_,?_⟩
     ·by_cases jX:p∈jv pre
      ·rw[aC (e2.2 jX)];rw[aC jX]at hq;exact hq.row
      ·rw[ak (λh=>jX (e2.1 h))];rw[ak jX]at hq;exact hq.row
     ·by_cases jX:p∈jv pre
      ·rw[aC (e2.2 jX)];rw[aC jX]at hq;exact hq.lt
      ·rw[ak (λh=>jX (e2.1 h))];rw[ak jX]at hq;exact hq.lt
 case done=>
  rintro D ys W hD iu ⟨ht,hr⟩ hK
  gi_wp2
  have qK:=grownBy_putObj' W D (.deferred za);refine⟨by simp,.inl ⟨_,_,rfl,run_takeDeferred hK,?_⟩⟩;refine⟨.tuple #[],by simp[results,results202,go_sem],rfl,⟨λp hp=>?_,hF.inj⟩,(ap.bR af).trans ?_⟩
  ·have hq:=hr p hp;have hpm:(p∈jv ys)↔au T1 p=true:=(iu p).trans ⟨λh=>h.2,λh=>⟨by omega,h⟩⟩;have hne:fr p≠D:=by have:=mO p hp;omega
   have mV:(W.putObj D (.deferred za)).heap[fr p]?=W.heap[fr p]?:=World.putObj_heap_other hne
   by_cases hb:au T1 p=true
   ·rw[aC hb];rw[aC (hpm.2 hb)]at hq;exact⟨mV.trans hq.row,hq.lt⟩
   ·rw[ak hb];rw[ak (λh=>hb (hpm.1 h))]at hq;exact⟨mV.trans hq.row,hq.lt⟩
  ·exact ht.grown qK (λg e=>.inr (by cases e;exact hD))
end
section
variable {w:zi}{nw g:Nat}
theorem aH.put{b o:Nat}{T:Nat->Nat}{v:zk}(h:aH w nw g T)(hne:g≠b):aH (w.setCell ⟨b,o,za⟩ v) nw g T:=h.grown (iZ w b o v) (by simpa using hne)
structure mH(w:zi)(nw ga gl:Nat)(A L:Nat->Nat):Prop where
 fi:aH w nw ga A
 la:aH w nw gl L
 ne:ga≠gl
theorem mH.below{w':zi}{ga gl:Nat}{A L:Nat->Nat}(h:mH w nw ga gl A L)(hb:zh w.heap.size w w'):mH w' nw ga gl A L:=⟨h.fi.below hb,h.la.below hb,h.ne⟩
def zui(w:zi)(nw:Nat)(b:Bool)(e:Ending)(w':zi):Prop:=
 ∃ga gl:Nat,e=.returned (zl #[.bool b,zd (zc ⟨ga,0,za⟩) nw nw,zd (zc ⟨gl,0,za⟩) nw nw])/\w.heap.size<=ga/\w.heap.size<=gl/\mH w' nw ga gl cQ cQ/\zh w.heap.size w w'
theorem ci{a b c:zk}{t:TypeId}(h:w.heap[g]?=zc (zg #[a,b,c] t (0,0))):w.cell? ⟨g,0,za⟩=zc a/\w.cell? ⟨g,1,za⟩=zc b/\w.cell? ⟨g,2,za⟩=zc c/\w.frozen? ⟨g,0,za⟩=false/\w.frozen? ⟨g,1,za⟩=false/\w.frozen? ⟨g,2,za⟩=false:=by
 have:∀o,w.cell? ⟨g,o,za⟩=#[a,b,c][o]?:=λ_=>aM _ _ _ _ _ _ h
 exact⟨this 0,this 1,this 2,cT _ _ 0 _ _ h,cT _ _ 1 _ _ h,cT _ _ 2 _ _ h⟩
theorem Ym(nw bt:Nat)(b:Bool)(sv fv:zk)(w:zi)(gY:vt w bt nw sv fv)(bY:nw<=1000):
  zm prog 190 #[zn (zc ⟨bt,0,za⟩),.bool b] w λe w'=>zui w nw b e w':=by
 have eV:bt<w.heap.size:=(ah.1 gY).1;have af:zh w.heap.size w (w.alloc (zg #[.bool false,zd za 0 0,zd za 0 0] 226)):=aw;have x0:(w.alloc (zg #[.bool false,zd za 0 0,zd za 0 0] 226)).heap[w.heap.size]?=zc (zg #[.bool false,zd za 0 0,zd za 0 0] 226 (0,0)):=aI _ _;have rT:=Gk nw bt sv fv _ ((af.block bt eV).trans gY) bY
 go_enter func190,ntmps190
 go_wp2_with fail
 refine rT.mono ?_;rintro e w1 ⟨rfl,kB,eO⟩;have ag:zh w.heap.size w w1:=af.grown eO (by simp) (λk e=>by cases e);have x1:=(eO.block _ (by simp) (by simp)).trans x0;have n8:=Gk nw bt sv fv w1 ((ag.block bt eV).trans gY) bY;simp only[World.size_alloc]at kB;obtain⟨ga,LB⟩:∃ga,ga=w.heap.size+1:=⟨_,rfl⟩;rw[<-LB]at kB;have zBf:w.heap.size<ga:=by omega
 go_wp2_with fail
 refine n8.mono ?_;rintro e w2 ⟨rfl,iW,bU⟩;have ae:zh w.heap.size w w2:=ag.grown bU ag.size (λk e=>by cases e);have x2:=(bU.block _ (bA (by simp) eO.size) (by simp)).trans x1;have zAa:=kB.grown bU (by simp);obtain⟨c0,c1,c2,f0,f1,f2⟩:=ci x2;have ia:=kB.cB;have eZ:=iW.cB;clear x0 x1 rT n8 eO bU af kB;go_wp2;subst LB;refine bh (v:=zl #[.bool b,zd (zc ⟨w.heap.size+1,0,za⟩) nw nw,zd (zc ⟨w1.heap.size,0,za⟩) nw nw]) (by simp[results,results190,go_sem,c0,c1,c2]) rfl ⟨_,_,rfl,by omega,by omega,⟨((zAa.put (by omega)).put (by omega)).put (by omega),((iW.put (by omega)).put (by omega)).put (by omega),by omega⟩,?_⟩;exact((ae.setCell (p:=⟨w.heap.size,0,za⟩) (by simp) _).setCell (p:=⟨w.heap.size,1,za⟩) (by simp) _).setCell (p:=⟨w.heap.size,2,za⟩) (by simp) _
def zuj(w:zi)(nw ga gl:Nat)(b:Bool)(A L:Nat->Nat)(e:Ending)(w':zi):Prop:=
 e=.returned (zl #[.bool b,zd (zc ⟨ga,0,za⟩) nw nw,zd (zc ⟨gl,0,za⟩) nw nw])/\mH w' nw ga gl A L/\ap (λk=>k=ga\/k=gl) w w'
theorem zoI(nw bt ga gl ha hl:Nat)(b c:Bool)(A L A' L':Nat->Nat)(w:zi)(h1:mH w nw ga gl A L)(h2:mH w nw ha hl A' L')(d1:ga≠ha)(d2:ga≠hl)(d4:gl≠hl)(bY:nw<=1000):
  zm prog 188 #[zn (zc ⟨bt,0,za⟩),zl #[.bool b,zd (zc ⟨ga,0,za⟩) nw nw,zd (zc ⟨gl,0,za⟩) nw nw],zl #[.bool c,zd (zc ⟨ha,0,za⟩) nw nw,zd (zc ⟨hl,0,za⟩) nw nw]] w λe w'=>zuj w nw ga gl (b || c) (eU A A') (eU L L') e w':=by
 obtain⟨W0,ai⟩:∃W0,((w.alloc (zg #[.bool b,zd (zc ⟨ga,0,za⟩) nw nw,zd (zc ⟨gl,0,za⟩) nw nw] 226)).alloc (zg #[.bool c,zd (zc ⟨ha,0,za⟩) nw nw,zd (zc ⟨hl,0,za⟩) nw nw] 226)).alloc (zg #[.bool false,zd za 0 0,zd za 0 0] 226)=W0:=⟨_,rfl⟩;have af:zh w.heap.size w W0:=by rw[<-ai];exact((aw).alloc (by simp) _).alloc (by simp;omega) _
 have x4:W0.heap[w.heap.size]?=zc (zg #[.bool b,zd (zc ⟨ga,0,za⟩) nw nw,zd (zc ⟨gl,0,za⟩) nw nw] 226 (0,0)):=by rw[<-ai];exact cX (cX (aI _ _))
 have x5:W0.heap[w.heap.size+1]?=zc (zg #[.bool c,zd (zc ⟨ha,0,za⟩) nw nw,zd (zc ⟨hl,0,za⟩) nw nw] 226 (0,0)):=by
  rw[<-ai];refine cX ?_;have:=aI (w.alloc (zg #[.bool b,zd (zc ⟨ga,0,za⟩) nw nw,zd (zc ⟨gl,0,za⟩) nw nw] 226)) (zg #[.bool c,zd (zc ⟨ha,0,za⟩) nw nw,zd (zc ⟨hl,0,za⟩) nw nw] 226)
  simpa using this
 have x6:W0.heap[w.heap.size+1+1]?=zc (zg #[.bool false,zd za 0 0,zd za 0 0] 226 (0,0)):=by
  rw[<-ai];have:=aI ((w.alloc (zg #[.bool b,zd (zc ⟨ga,0,za⟩) nw nw,zd (zc ⟨gl,0,za⟩) nw nw] 226)).alloc (zg #[.bool c,zd (zc ⟨ha,0,za⟩) nw nw,zd (zc ⟨hl,0,za⟩) nw nw] 226)) (zg #[.bool false,zd za 0 0,zd za 0 0] 226)
  simpa using this
 have l1:=h1.fi.cB;have l2:=h1.la.cB;have l3:=h2.fi.cB;have l4:=h2.la.cB;have hne:=h1.ne;have y1:=h1.below af;have y2:=h2.below af;have E7:=zS nw ga ha nw nw A A' W0 y1.fi y2.fi d1 bY;have hsz:W0.heap.size=w.heap.size+1+1+1:=by rw[<-ai];simp
 obtain⟨a0,a1,a2,-,-,-⟩:=ci x4;obtain⟨b0,b1,b2,-,-,-⟩:=ci x5
 go_enter func188,ntmps188
 go_wp2_with fail
 clear a0 a1 a2 b0 b1 b2 ai;refine E7.mono ?_;rintro e w1 ⟨rfl,kB,eO⟩;have dH:=eO.size;have u4:=(eO.block (w.heap.size) (by omega) (by simp;omega)).trans x4;have u5:=(eO.block (w.heap.size+1) (by omega) (by simp;omega)).trans x5;have u6:=(eO.block (w.heap.size+1+1) (by omega) (by simp;omega)).trans x6;have z1:=y1.la.grown eO (by simpa using hne.symm);have z2:=y2.la.grown eO (by simpa using d2.symm);have zw:=zS nw gl hl nw nw L L' w1 z1 z2 d4 bY;obtain⟨a0,a1,a2,-,-,-⟩:=ci u4;obtain⟨b0,b1,b2,-,-,-⟩:=ci u5
 go_wp2_with fail
 clear a0 a1 a2 b0 b1 b2;refine zw.mono ?_;rintro e w2 ⟨rfl,iW,bU⟩;have cV:=bU.size;have v4:=(bU.block (w.heap.size) (by omega) (by simp;omega)).trans u4;have v5:=(bU.block (w.heap.size+1) (by omega) (by simp;omega)).trans u5;have v6:=(bU.block (w.heap.size+1+1) (by omega) (by simp;omega)).trans u6;have Dk:=kB.grown bU (by simpa using hne);have ht:ap (λk=>k=ga\/k=gl) w w2:=((ap.bR af).trans ((ap.refl _ W0).grown eO (λg e=>by cases e;exact .inl (.inl rfl)))).grown bU (λg e=>by cases e;exact .inl (.inr rfl));obtain⟨a0,a1,a2,-,-,-⟩:=ci v4;obtain⟨b0,b1,b2,-,-,-⟩:=ci v5;obtain⟨e0,e1,e2,f0,f1,f2⟩:=ci v6;clear E7 zw eO bU x4 x5 x6 u4 u5 u6 v4 v5 v6 y1 y2 z1 z2 kB af;cases b
 all_goals
  go_wp2;refine bh (v:=zl #[.bool _,zd (zc ⟨ga,0,za⟩) nw nw,zd (zc ⟨gl,0,za⟩) nw nw]) (by simp[results,results188,go_sem,e0,e1,e2]) rfl ⟨rfl,⟨((Dk.put (by omega)).put (by omega)).put (by omega),((iW.put (by omega)).put (by omega)).put (by omega),hne⟩,?_⟩;exact((ht.grown (iZ _ _ _ _) (λg e=>.inr (by cases e;omega))).grown (iZ _ _ _ _) (λg e=>.inr (by cases e;omega))).grown (iZ _ _ _ _) (λg e=>.inr (by cases e;omega))
end
section
attribute [local go_sem ↓] wp_at_zero wp_at_succ
def gB(f:Int×Int)(n:Nat):List (Int×Int):=f::List.replicate n (-1,-1)
theorem DD(f:Int×Int)(n:Nat):(gB f n).length=n+1:=by simp[gB]
theorem zpZ(sp:List (Int×Int))(a b:Int):pv (sp++[(a,b)])=pv sp++[ze .i64 a,ze .i64 b]:=by
 unfold pv;rw[nG,show [(a,b)].length=1 from rfl,zoZ]
 congr 1
 ·exact znp _ λk hk=>by
   unfold xU;rw[bP,bP,pH hk]
 ·simp[xU,List.getD_eq_getElem?_getD]
theorem znR(f:Int×Int)(n:Nat):gB f (n+1)=gB f n++[(-1,-1)]:=by simp[gB,List.replicate_succ']
theorem zt6(w:zi)(B:Nat)(a b:Int)(hB:B<=w.heap.size)(H:Nat)(hH:w.heap.size=H):(w.alloc (zg #[ze .i64 a,ze .i64 b] 71)).ownsRow B 71 2 (zd (zc ⟨H,0,za⟩) 1 1) 1 (pv (gB (a,b) 0)):=by
 subst hH;refine⟨by simp[BQ,gB],.inr ⟨w.heap.size,1,#[ze .i64 a,ze .i64 b],rfl,hB,aI _ _,aj _,by unfold maxLen;omega,rfl,by simp[pv,xU,gB]⟩⟩
theorem zmw(v:zk)(G:Nat)(a b:Int)(w:zi)(hG:G<=500)(B:Nat)(hB:B<=w.heap.size):
  zm prog 31 #[zl #[v,ze .i64 G],zl #[ze .i64 a,ze .i64 b]] w λe w'=>∃g cap,e=.returned (zd (zc ⟨g,0,za⟩) (G+1) cap)/\w'.ownsRow B 71 2 (zd (zc ⟨g,0,za⟩) (G+1) cap) (G+1) (pv (gB (a,b) G))/\zh w.heap.size w w':=by
 obtain⟨i0,hi,bI,aO,aQ⟩:=info_parts Tryz.VN;obtain⟨W0,ai⟩:∃W0,((w.alloc (zg #[v,ze .i64 G] 69)).alloc (zg #[ze .i64 a,ze .i64 b] 71)).alloc (zg #[ze .i64 a,ze .i64 b] 71)=W0:=⟨_,rfl⟩;have af:zh w.heap.size w W0:=by rw[<-ai];exact((aw).alloc (by simp) _).alloc (by simp;omega) _
 have k0:W0.heap[w.heap.size]?=zc (zg #[v,ze .i64 G] 69 (0,0)):=by rw[<-ai];exact cX (cX (aI _ _))
 have Dp:W0.ownsRow B 71 2 (zd (zc ⟨w.heap.size+1+1,0,za⟩) 1 1) 1 (pv (gB (a,b) 0)):=by rw[<-ai];exact zt6 _ _ _ _ (by simp;omega) _ (by simp)
 go_enter func31,ntmps31
 go_wp2;clear ai
 go_loopw [5,6] (λsv i wr=>∃k g cap:Nat,w.heap.size<=g/\k<=G/\sv=zd (zc ⟨g,0,za⟩) (k+1) cap/\i=ze .i64 ((k+1:Nat):Int)/\zh w.heap.size w wr/\wr.heap[w.heap.size]?=zc (zg #[v,ze .i64 G] 69 (0,0))/\wr.ownsRow B 71 2 (zd (zc ⟨g,0,za⟩) (k+1) cap) (k+1) (pv (gB (a,b) k)))
  (λ_ i _=>G+1-(intOf i).toNat)
 case atStart=>exact⟨0,_,1,by omega,aR _,rfl,rfl,af,k0,Dp⟩
 case round=>
  clear Dp k0 af;obtain⟨k,g,cap,Iv,hk,rfl,rfl,hb,kr,own⟩:=hrel;have c1:wr.cell? ⟨w.heap.size,1,za⟩=zc (ze .i64 G):=(aM _ _ _ _ _ _ kr:wr.cell? ⟨w.heap.size,1,za⟩=_);have hlw:w.heap.size<wr.heap.size:=vm kr;have hgw:g≠w.heap.size:=λe=>by
   rcases own.2 with ⟨h,_⟩|⟨g',c',ax,hv,_,hh,_⟩
   ·cases h
   ·cases hv
    rw[e,kr]at hh;injection hh with hh
    injection hh with _ hh
    exact absurd hh (by decide)
  by_cases hlt:k<G
  ·have hle:((k+1:Nat):Int)<=(G:Int):=by omega
   have hd:decide (((k+1:Nat):Int)<=(G:Int))=true:=by simp;omega
   have Ck:zj (pv (gB (a,b) k)++[Value.int .i64 (-1),ze .i64 (-1)]=pv (gB (a,b) (k+1))):=by show _=_;rw[znR,zpZ]
   obtain⟨kk,bK⟩:∃kk,k+1=kk:=⟨_,rfl⟩;rw[bK]at hle hd own ⊢;have xh:zj (k+1=kk):=bK;clear bK
   go_wp2_with (refine wM rfl (.tmp 15) (.tmp 17) 33 rfl wr #[ze .i64 (-1),ze .i64 (-1)] 71 rfl wr.heap.size rfl B i0 _ 2 16 underlying33 hi bI aO aQ rfl (by omega) _ kk _ rfl own rfl rfl (by intro u hu;simp at hu;subst hu;rfl) (by omega) (by omega) (by have:=hb.size;omega) ?_;intro g1 tq w1 lL kU uu)
   have ag:=hb.grown kU hb.size (by intro k' h;have h:zc g=zc k':=h;injection h with h;omega);have kr1:=(kU.block _ hlw (by intro h;have h:zc w.heap.size=zc g:=h;injection h with h;omega)).trans kr;have ff:w1.ownsRow B 71 2 (zd (zc ⟨g1,0,za⟩) (kk+1) tq) (kk+1) (pv (gB (a,b) (k+1))):=by rw[<-Ck.out];exact lL
   have eO:w.heap.size<=g1:=by
    rcases uu with h|h
    ·have h:zc g=zc g1:=h;injection h with h
     omega
    ·have:=hb.size;omega
   go_roundw
   case rel=>exact⟨k+1,g1,tq,eO,by omega,by rw[xh.out],by congr 1;have:=xh.out;omega,ag,kr1,by have h:=ff;rw[xh.out]at h ⊢;exact h⟩
   case measure=>simp[intOf];have:=xh.out;omega
  ·obtain rfl:k=G:=by omega
   have hd:decide (((k+1:Nat):Int)<=(k:Int))=false:=by simp;omega
   obtain⟨kk,bK⟩:∃kk,k+1=kk:=⟨_,rfl⟩;rw[bK]at hd own ⊢;have Lu:¬kk<=k:=by omega
   have hd4:decide (kk<=k)=false:=by simp;omega
   have xh:zj (k+1=kk):=bK;clear bK;go_wp2;exact bh (v:=zd (zc ⟨g,0,za⟩) kk cap) (by simp[results,results31,go_sem]) rfl ⟨g,cap,by rw[xh.out],by rw[xh.out];exact own,hb⟩
theorem Tj{w2 W W':zi}{a b:Nat}{x0 x1 x2 y0 y1:zk}(ha:a<w2.heap.size)(hb:b<w2.heap.size)(h:zh w2.heap.size w2 W/\W.cell? ⟨a,0,za⟩=zc x0/\W.cell? ⟨a,1,za⟩=zc x1/\W.cell? ⟨a,2,za⟩=zc x2/\W.cell? ⟨b,0,za⟩=zc y0/\W.cell? ⟨b,1,za⟩=zc y1)(k:zh W.heap.size W W'):zh w2.heap.size w2 W'/\W'.cell? ⟨a,0,za⟩=zc x0/\W'.cell? ⟨a,1,za⟩=zc x1/\W'.cell? ⟨a,2,za⟩=zc x2/\W'.cell? ⟨b,0,za⟩=zc y0/\W'.cell? ⟨b,1,za⟩=zc y1:=by
 obtain⟨h0,h1,h2,h3,h4,h5⟩:=h;have hz:=h0.size;have hc:∀d o,d<w2.heap.size->W'.cell? ⟨d,o,za⟩=W.cell? ⟨d,o,za⟩:=λd o hl=>k.cell (p:=⟨d,o,za⟩) (show d<_ by omega)
 exact⟨aq h0 h0.size k,(hc _ _ ha).trans h1,(hc _ _ ha).trans h2,(hc _ _ ha).trans h3,(hc _ _ hb).trans h4,(hc _ _ hb).trans h5⟩
def Cc(G:Int)(bs:List aV)(t:ByteArray)(a e:Int)(cl:Bool)(r:List (Int×Int)):Prop:=
 (¬sE G bs t a e cl/\r=[])\/(nD G bs t a e=true/\∃k,k<bs.length/\(∀j,j<k->¬iA (bs.getD j .zero) t a.toNat e.toNat cl)/\iA (bs.getD k .zero) t a.toNat e.toNat cl/\∃l,Pl t.data.toList (a8 (bs.getD k .zero).nodes ((bs.getD k .zero).nodes.length-1)) a.toNat e.toNat l/\r=gQ (gB (a,e) G.toNat) l)
def NR(w:zi)(r:List (Int×Int))(e:Ending)(w':zi):Prop:=∃v,e=.returned v/\w'.ownsRow w.heap.size 71 2 v r.length (pv r)/\zh w.heap.size w w'
theorem zhA{lo:Nat}(G:Int)(v:zk)(bs:List aV)(t:ByteArray)(a e:Int)(cl:Bool)(r:List (Int×Int))(w:zi)(hs:eh lo w v bs)(hsm:Small bs)(hr:Cc G bs t a e cl r):
  zm prog 33 #[zl #[v,ze .i64 G],.string t,ze .i64 a,ze .i64 e,.bool cl] w λx w'=>NR w r x w':=by
 have dD:=hs;obtain⟨ao,cap,rfl,hm,hc⟩:=hs;have af:zh w.heap.size w (w.alloc (zg #[.slice ao bs.length cap,ze .i64 G] 69)):=aw;have k0:(w.alloc (zg #[.slice ao bs.length cap,ze .i64 G] 69)).heap[w.heap.size]?=zc (zg #[.slice ao bs.length cap,ze .i64 G] 69 (0,0)):=aI _ _;have hsp:=zkn G _ bs t a e _ (dD.below af) hsm;have Hr:zj (Cc G bs t a e cl r):=hr;have xi:zj (∀W:zi,zh w.heap.size w W->r=[]->NR w r (.returned (zd (zc ⟨W.heap.size,0,za⟩) 0 0)) (W.alloc (zg #[] 71))):=λW hb e=>by
  subst e;exact⟨_,rfl,DC W _ 2 w.heap.size W.heap.size hb.size rfl,hb.alloc hb.size _⟩
 clear dD hr
 go_enter func33,ntmps33
 go_wp2_with fail
 refine hsp.mono ?_;rintro x w1 ⟨rfl,ag⟩;have bl:=aq af af.size ag;have p0:=nu k0 ag;have q0:w1.cell? ⟨w.heap.size,0,za⟩=zc (.slice ao bs.length cap):=(aM _ _ _ _ _ _ p0:w1.cell? ⟨w.heap.size,0,za⟩=_);clear hsp ag af k0;cases hq:nD G bs t a e
 ·have hN:NR w r (.returned (zd (zc ⟨w1.heap.size,0,za⟩) 0 0)) (w1.alloc (zg #[] 71)):=xi.out w1 bl (by
   rcases Hr.out with h|h
   ·exact h.2
   ·rw[hq]at h;exact absurd h.1 (by simp))
  have HN:zj _:=hN;clear hN xi Hr;go_wp2;exact bh (v:=zd (zc ⟨w1.heap.size,0,za⟩) 0 0) (by simp[results,results33,go_sem]) rfl HN.out
 have tJ:=hq;unfold nD gC at tJ;simp only[de,lx]at tJ;obtain⟨⟨⟨⟨⟨⟨⟨ag,hGG⟩,-⟩,io⟩,-⟩,-⟩,-⟩,ht,CY,Il,Iu⟩:=tJ;have cJ:=zg5 (G:=G) (bs:=bs) (by unfold nD at hq;simp only[de]at hq;exact hq.1);obtain⟨a',rfl⟩:∃a':Nat,a=a':=⟨a.toNat,by omega⟩;obtain⟨e',rfl⟩:∃e':Nat,e=e':=⟨e.toNat,by omega⟩;obtain⟨n,rfl⟩:∃n:Nat,G=n:=⟨G.toNat,by omega⟩;have zws:a'<=e':=by omega
 have zwF:e'<=t.size:=by omega
 have UY:n<=500:=by omega
 have uL:=λ(k:Nat) (hk:k<bs.length)=>by
  have zA:bs.getD k .zero∈bs:=by rw[bP,dh hk];exact kg _
  have gH:=iQ.1 io _ zA;simp only[de]at gH;exact(show _/\_ from⟨gH,Qz _ gH.1⟩)
 have dK:=λ(k:Nat) (hk:k<bs.length) (W:zi) (ao:Option Addr) (c:Nat) (h:dZ lo W (.slice ao (bs.getD k .zero).nodes.length c) (bs.getD k .zero).nodes)=>zhD (bs.getD k .zero) ao c t a' e' cl W h (hsm.2 k hk).1 (uL k hk).1.1 (uL k hk).1.2 (uL k hk).2.2 (uL k hk).2.1 zws zwF ht
 have Vj:=λ(k:Nat) (hk:k<bs.length) (W:zi) (aX bm:Bool) (ao:Option Addr) (c:Nat) (h:dZ lo W (.slice ao (bs.getD k .zero).nodes.length c) (bs.getD k .zero).nodes)=>zmF aX bm ao c (bs.getD k .zero).nodes t W h (hsm.2 k hk).1 (uL k hk).1.1
 have Vd:=λ(k:Nat) (hk:k<bs.length)=>zpS (bs.getD k .zero).nodes (uL k hk).2.2 (uL k hk).1.2 ((bs.getD k .zero).nodes.length-1) (by have:=(uL k hk).2.1;omega)
 have zxF:=λ(k:Nat) (hk:k<bs.length)=>Yp (bs.getD k .zero).nodes (uL k hk).2.2 (uL k hk).1.2 ((bs.getD k .zero).nodes.length-1) (by have:=(uL k hk).2.1;omega)
 have UL:=λ(k:Nat) (hk:k<bs.length)=>(show 0<(bs.getD k .zero).nodes.length/\(bs.getD k .zero).nodes.length<=1048576 from⟨(uL k hk).2.1,(hsm.2 k hk).1⟩)
 have Hq:zj _:=hq;have Sk:zj _:=cJ;have zvT:zj _:=zxF;have hlen:=hsm.1;clear io hsm hq cJ uL zxF;go_wp2
 go_loopw [23] (λi wr=>∃k:Nat,k<=bs.length/\i=ze .i64 k/\zh w.heap.size w wr/\wr.heap[w.heap.size]?=zc (zg #[.slice ao bs.length cap,ze .i64 n] 69 (0,0))/\zj (∀j,j<k->¬iA (bs.getD j .zero) t a' e' cl))
  (λi _=>bs.length-(intOf i).toNat)
 case atStart=>exact⟨0,aR _,rfl,bl,p0,λj hj=>absurd hj (cR _)⟩
 case round=>
  clear p0 q0 bl;obtain⟨k,hk,rfl,hb,kr,HN⟩:=hrel
  by_cases hlt:k<bs.length
  ·obtain⟨b,o,nv,bd,rfl,Hn,aZ,c0,c1,c2,ir⟩:=hc.elem hb hlt;have jk:=dK k hlt;have kC:=Vj k hlt;have rW:=Vd k hlt;have UN:=UL k hlt;have SD:=zvT.out k hlt;rw[Hn.out]at jk kC rW UN SD;have HTr:zj _:=SD;obtain⟨dM,iX,rfl,mQ,kW⟩:=ir;have ir:dZ lo wr (.slice dM bd.nodes.length iX) bd.nodes:=⟨dM,iX,rfl,mQ,kW⟩;obtain⟨W2,dk⟩:∃W2,wr.alloc (zg #[.bool bd.aX,.bool bd.bm,.slice dM bd.nodes.length iX] 115)=W2:=⟨_,rfl⟩;have bQ:zh w.heap.size w W2:=by rw[<-dk];exact hb.alloc hb.size _
   have iE:zh wr.heap.size wr W2:=by rw[<-dk];exact aw
   have kb:W2.heap[wr.heap.size]?=zc (zg #[.bool bd.aX,.bool bd.bm,.slice dM bd.nodes.length iX] 115 (0,0)):=by rw[<-dk];exact aI _ _
   have kr2:=nu kr iE;have U1:=ir.below iE;have Py:=jk _ dM iX U1;obtain⟨z0,z1,z2,-,-,-⟩:=ci kb;clear jk dK Vj Vd UL kW hc ir iE SD zvT;have HB:zj (iA (bs.getD k .zero) t a' e' cl=iA bd t a' e' cl):=by show _=_;rw[Hn.out]
   go_wp2_with fail
   refine Py.mono ?_;rintro x w2 ⟨q,rfl,nW,ae⟩;have dg:=aq bQ bQ.size ae;have P3:=nu kb ae;have Mz:=nu kr2 ae;have zz5:=U1.below ae;clear Py z0 z1 z2 U1 kb kr2 dk;cases q
   ·go_wp2
    go_roundw
    case rel=>exact⟨k+1,by omega,by go_num,dg,Mz,λj hj=>by
     by_cases ej:j=k
     ·subst ej;rw[HB.out,<-nW];simp
     ·exact HN.out j (by omega)⟩
    case measure=>simp[intOf];omega
   ·have rJ:iA bd t a' e' cl:=by first|exact nW.1 rfl|exact nW.1 trivial
    obtain⟨l,hl,hre⟩:∃l,Pl t.data.toList (a8 bd.nodes (bd.nodes.length-1)) a' e' l/\r=gQ (gB ((a':Int),(e':Int)) n) l:=by
     rcases Hr.out with ⟨h,_⟩|⟨_,j,hj,h1,h2,l,h3,h4⟩
     ·exact absurd ⟨Hq.out,k,hlt,by rw[show (a':Int).toNat=a' by omega,show (e':Int).toNat=e' by omega,HB.out];exact rJ⟩ h
     ·rw[show (a':Int).toNat=a' by omega,show (e':Int).toNat=e' by omega]at h2 h3;rw[show (n:Int).toNat=n by omega]at h4;have e:j=k:=by
       rcases Ca j k with c|c|c
       ·exact absurd h2 (HN.out j c)
       ·exact c
       ·have:=h1 k c;rw[show (a':Int).toNat=a' by omega,show (e':Int).toNat=e' by omega,HB.out]at this;exact absurd rJ this
      subst e;rw[Hn.out]at h3;exact⟨l,h3,h4⟩
    have fD:∀x∈l,1<=x.1/\x.1<((n+1:Nat):Int):=λx hx=>by
     have h1:=DI _ _ _ _ hl x hx;have h2:=HTr.out.2 _ h1;have h3:=Sk.out _ (Xp bs k hlt _ (by rw[Hn.out];exact h2));omega
    have O7:=λ(z:Int) (W:zi) (gl cl' gr cr g' cap':Nat) (hz:z=((bd.nodes.length-1:Nat):Int)) (h0:zh w.heap.size w W) (h1:vx W bd.nodes (.slice dM bd.nodes.length iX) gl gr) (h2:W.ownsRow w.heap.size 71 2 (zd (zc ⟨g',0,za⟩) (n+1) cap') (n+1) (pv (gB ((a':Int),(e':Int)) n)))=>by
     have:=rW W dM iX gl cl' gr cr t w.heap.size a' e' g' cap' (n+1) (gB ((a':Int),(e':Int)) n) l h1 h2 (DD _ _) h0.size (by omega) (by omega) zws zwF ht fD hl;rw[<-hz]at this;exact this
    have jo:∀z:Int,z=IntKind.i64.wrap ((bd.nodes.length:Int)-1)->z=((bd.nodes.length-1:Nat):Int):=λz h=>by rw[h,IntKind.wrap_i64];omega
    have Z4:zj (r=gQ (gB ((a':Int),(e':Int)) n) l):=hre;have aO:((bd.nodes.length:Int)-1)=((bd.nodes.length-1:Nat):Int):=by omega
    obtain⟨y0,y1,y2,-,-,-⟩:=ci P3;have u0:w2.cell? ⟨w.heap.size,0,za⟩=zc (zd (zc ⟨b,o,za⟩) bs.length cap):=(aM _ _ _ _ _ _ Mz:w2.cell? ⟨w.heap.size,0,za⟩=_);have u1:w2.cell? ⟨w.heap.size,1,za⟩=zc (ze .i64 n):=(aM _ _ _ _ _ _ Mz:w2.cell? ⟨w.heap.size,1,za⟩=_);have lb:=vm P3;have lr:=vm Mz;clear hre hl fD rW rJ nW xi Hr HB HN P3 Mz;have du:zh w2.heap.size w2 w2.drew:=(Below.refl _ _).drew;go_wp2
    go_region_held3 (λw'=>zh w2.heap.size w2 w'/\w'.cell? ⟨wr.heap.size,0,za⟩=zc (.bool bd.aX)/\w'.cell? ⟨wr.heap.size,1,za⟩=zc (.bool bd.bm)/\w'.cell? ⟨wr.heap.size,2,za⟩=zc (.slice dM bd.nodes.length iX)/\w'.cell? ⟨w.heap.size,0,za⟩=zc (zd (zc ⟨b,o,za⟩) bs.length cap)/\w'.cell? ⟨w.heap.size,1,za⟩=zc (ze .i64 n)) ((first|exact⟨du,y0,y1,y2,u0,u1⟩|exact Tj lb lr (by assumption) bD|exact Tj lb lr (by assumption) ew|exact Tj lb lr (by assumption) o8|go_keep)) ((first|(have h5:=C7;have h6:=oh;go_at_call 66;refine(O7 _ _ gl Tn gr cr g6 AR (by first|rfl|exact jo _ rfl|exact aO) (by first|exact aq dg dg.size (‹zh w2.heap.size w2 _/\_›).1) (by first|exact C7|exact C7.below ew) (by first|exact oh|exact dQ oh bD)).mono ?_;rintro x w7 ⟨g7,bG,rfl,fh,o8⟩)|(go_at_call 67;refine(kC _ bd.aX bd.bm dM iX (zz5.below (by first|exact du|exact(‹zh w2.heap.size w2 _/\_›).1))).mono ?_;rintro x w5 ⟨bD,gl,Tn,gr,cr,rfl,C7⟩)|(go_at_call 31;refine(zmw _ n a' e' _ UY w.heap.size (by first|exact aW dg.size du.size|exact aW dg.size (‹zh w2.heap.size w2 _/\_›).1.size)).mono ?_;rintro x w6 ⟨g6,AR,rfl,oh,ew⟩)))
    all_goals
     have jW:=‹zh w2.heap.size w2 _/\_›;have bu:=aq dg dg.size jW.1;rw[<-Z4.out]at fh;have El:zj (n+1=r.length):=by show _=_;rw[Z4.out,Gm,DD]
     go_wp2;exact bh (v:=zd (zc ⟨g7,0,za⟩) (n+1) bG) (by simp[results,results33,go_sem]) rfl ⟨_,rfl,by rw[<-El.out];exact fh,bu⟩
  ·have hN:NR w r (.returned (zd (zc ⟨wr.heap.size,0,za⟩) 0 0)) (wr.alloc (zg #[] 71)):=xi.out wr hb (by
    rcases Hr.out with h|⟨_,j,hj,_,h,_⟩
    ·exact h.2
    ·rw[show (a':Int).toNat=a' by omega,show (e':Int).toNat=e' by omega]at h;exact absurd h (HN.out j (by omega)))
   have RU:zj _:=hN;clear hN xi Hr dK Vj Vd UL;go_wp2;exact bh (v:=zd (zc ⟨wr.heap.size,0,za⟩) 0 0) (by simp[results,results33,go_sem]) rfl RU.out
section
variable {G a e:Int}{bs:List aV}{t:ByteArray}
theorem zpm{P:Nat->Prop}:∀(n k:Nat),k<=n->P k->∃j,j<=k/\P j/\∀i,i<j->¬P i
 |0,k,h,hp=>⟨k,aj _,hp,λi hi=>by omega⟩
 |n+1,k,h,hp=>by
  by_cases he:∃i,i<k/\P i
  ·obtain⟨i,h1,h2⟩:=he;obtain⟨j,a,b,c⟩:=zpm n i (by omega) h2;exact⟨j,by omega,b,c⟩
  ·exact⟨k,aj _,hp,λi hi hq=>he ⟨i,hi,hq⟩⟩
theorem zmK(h:nD G bs t a e=true){k:Nat}(hk:k<bs.length):jP (bs.getD k .zero).nodes=true/\(bs.getD k .zero).nodes.all aY=true:=by
 unfold nD gC at h;simp only[de,lx]at h;obtain⟨⟨⟨⟨⟨⟨⟨-,-⟩,-⟩,io⟩,-⟩,-⟩,-⟩,-⟩:=h;have zA:bs.getD k .zero∈bs:=by rw[bP,dh hk];exact kg _
 have gH:=iQ.1 io _ zA;simp only[de]at gH;exact gH
theorem zty(h:nD G bs t a e=true):t.size<=4096/\0<=a/\a<=e/\e<=t.size:=by
 unfold nD at h;simp only[de,lx]at h;exact h.2
theorem zou(G:Int)(bs:List aV)(t:ByteArray)(a e:Int)(cl:Bool):∃r,Cc G bs t a e cl r:=by
 by_cases h:sE G bs t a e cl
 ·obtain⟨h1,k0,h2,h3⟩:=h;obtain⟨k,hk,hb,hf⟩:=zpm (P:=λk=>iA (bs.getD k .zero) t a.toNat e.toNat cl) k0 k0 (aj _) h3;obtain⟨b1,b2,b3,b4⟩:=zty h1;obtain⟨s1,s2⟩:=zmK h1 (k:=k) (by omega);obtain⟨p1,p2⟩:=Qz _ s1;have ho:=(Yp (bs.getD k .zero).nodes p2 s2 ((bs.getD k .zero).nodes.length-1) (by omega)).1;have mZ:t.data.toList.length=t.size:=by simp
  obtain⟨l,hl⟩:=ym (u:=t.data.toList) _ ho a.toNat e.toNat ⟨by omega,by omega,hb.2⟩;exact⟨_,.inr ⟨h1,k,by omega,hf,hb,l,hl,rfl⟩⟩
 ·exact⟨[],.inl ⟨h,rfl⟩⟩
theorem zqO{cl:Bool}{r:List (Int×Int)}(h:Cc G bs t a e cl r):r.length<=501:=by
 rcases h with ⟨-,rfl⟩|⟨h1,k,-,-,-,l,-,rfl⟩
 ·simp
 ·unfold nD gC at h1;simp only[de,lx]at h1;obtain⟨⟨⟨⟨⟨⟨⟨-,hG⟩,-⟩,-⟩,-⟩,-⟩,-⟩,-⟩:=h1;rw[Gm,DD];omega
end
section
variable {d:bj}{rs:List bi}{s:cK}
def og(rs:List bi)(d:bj):Bool:=lu rs&&iy d&&bS (-1) (rs.length-1) d.tag&&bS (-1) (rs.length-1) d.fin
def iw(rs:List bi)(d:bj)(s:cK):Bool:=og rs d&&fk s&&decide (s.S<d.base.length)
def runT(d:bj)(t:ByteArray)(n:Nat)(q:Int):Nat->Int
 |0=>q
 |k+1=>qp d (runT d t n q k).toNat (t.data.toList.getD (n+k) 0).toNat
def qW(d:bj)(s:cK)(b:Nat):Int:=runT d s.B s.N.toNat s.S (b-s.N.toNat)
def qS(d:bj)(s:cK)(b:Nat):Int:=if s.C&&b==s.B.size then d.fin.getD (qW d s b).toNat 0 else d.tag.getD (qW d s b).toNat 0
structure cD where
 kind:Int
 rule:Int
 start:Int
 fin:Int
 dN:List (Int×Int)
def cD.zero:cD:=⟨0,0,0,0,[]⟩
def DT(r:bi)(t:ByteArray)(b:Nat)(cl:Bool)(a:Int):Prop:=
 (a=-1/\∀k:Nat,k<=b->¬sE r.di r.branches t k b cl)\/∃k:Nat,a=k/\k<=b/\sE r.di r.branches t k b cl/\∀j:Nat,j<k->¬sE r.di r.branches t j b cl
def DR(r:bi)(t:ByteArray)(a:Int)(b:Nat)(cl:Bool)(sp:List (Int×Int)):Prop:=
 (a=-1/\sp=gB (-1,-1) r.di.toNat)\/(0<=a/\Cc r.di r.branches t a b cl sp)
def vG(rs:List bi)(d:bj)(s s':cK)(x:cD):Prop:=
 (iw rs d s=false/\s'=.zero/\x=.zero)\/
 (iw rs d s=true/\∃b:Nat,s.N.toNat<=b/\b<=s.B.size/\(∀j,s.N.toNat<=j->j<b->qS d s j=-1)/\0<=qS d s b/\
  ∃a sp,DT (rs.getD (qS d s b).toNat .zero) s.B b s.C a/\DR (rs.getD (qS d s b).toNat .zero) s.B a b s.C sp/\s'=⟨s.L,s.B.extract b s.B.size,s.C,0,0⟩/\x=⟨1,qS d s b,a,b,sp⟩)\/
 (iw rs d s=true/\(∀j,s.N.toNat<=j->j<=s.B.size->qS d s j=-1)/\s'=⟨s.L,s.B,s.C,qW d s s.B.size,s.B.size⟩/\x=⟨if s.C then 3 else 2,0,0,0,[]⟩)
def Qh(s:cK):zk:=zl #[ze .i64 s.L,.string s.B,.bool s.C,ze .i64 s.S,ze .i64 s.N]
def yV(x:cD)(v:zk):zk:=zl #[ze .i64 x.kind,ze .i64 x.rule,ze .i64 x.start,ze .i64 x.fin,v]
def SL(w:zi)(s:cK)(x:cD)(e:Ending)(w':zi):Prop:=
 ∃v,e=.returned (.tuple #[Qh s,yV x v])/\w'.ownsRow w.heap.size 71 2 v x.dN.length (pv x.dN)/\zh w.heap.size w w'
theorem zrt(h:yn d){s c:Nat}(hs:s<d.base.length):0<=qp d s c/\qp d s c<d.base.length:=by
 unfold qp;split
 ·rename_i hk
  have:=Jw h.ns (k:=kM d s c) (by rw[h.nk];exact hk.1);unfold DO;omega
 ·have:=Jw h.ds (k:=s) (by rw[h.dl];exact hs);unfold zU;omega
theorem zqe(h:yn d)(t:ByteArray)(n:Nat){q:Int}(hq:0<=q)(mS:q<d.base.length):∀k,0<=runT d t n q k/\runT d t n q k<d.base.length
 |0=>⟨hq,mS⟩
 |k+1=>by
  have:=zqe h t n hq mS k;exact zrt h (by omega)
theorem BI(h:iw rs d s=true):lu rs=true/\yn d/\bS (-1) (rs.length-1) d.tag=true/\bS (-1) (rs.length-1) d.fin=true/\1<=s.L/\s.L<=4096/\(s.B.size:Int)<=s.L/\0<=s.N/\s.N<=s.B.size/\0<=s.S/\s.S<d.base.length:=by
 simp only[iw,og,fk,de,lx,zR]at h;obtain⟨⟨⟨⟨⟨a,b⟩,c⟩,e⟩,⟨⟨⟨f1,f2⟩,g⟩,i1,i2⟩,j1,j2⟩,k⟩:=h;exact⟨a,XT b,c,e,f1,f2,g,i1,i2,j1,k⟩
theorem JL(h:iw rs d s=true)(b:Nat):0<=qW d s b/\qW d s b<d.base.length:=by
 obtain⟨-,hf,-,-,-,-,-,-,-,h1,h2⟩:=BI h;exact zqe hf _ _ h1 h2 _
theorem YF(h:iw rs d s=true)(b:Nat):-1<=qS d s b/\qS d s b<rs.length:=by
 obtain⟨-,hf,ht,he,-⟩:=BI h;have hb:=JL h b;unfold qS;split
 ·have:=Jw he (k:=(qW d s b).toNat) (by rw[hf.el];omega);omega
 ·have:=Jw ht (k:=(qW d s b).toNat) (by rw[hf.tl];omega);omega
theorem zmL{b:Nat}(hb:s.N.toNat<=b)(c:Nat)(hc:(s.B.data.toList.getD b 0).toNat=c):qW d s (b+1)=qp d (qW d s b).toNat c:=by
 unfold qW;rw[show b+1-s.N.toNat=(b-s.N.toNat)+1 from by omega];show qp d _ _=_;rw[show s.N.toNat+(b-s.N.toNat)=b from by omega,hc]
end
section
variable {p:Prop}
theorem zzh [Decidable p] (h:p):decide p=true:=decide_eq_true h
theorem zzg [Decidable p] (h:¬p):decide p=false:=decide_eq_false h
theorem YA(g:Nat)(s:cK)(w:zi)(hg:w.heap[g]?=zc (zg #[ze .i64 s.L,.string s.B,.bool s.C,ze .i64 s.S,ze .i64 s.N] 32 (0,0))):
  zm prog 37 #[zn (zc ⟨g,0,za⟩)] w λe w'=>e=.returned (.bool (fk s))/\zh w.heap.size w w':=by
 obtain⟨L,B,C,S,N⟩:=s;obtain⟨c0,c1,c2,c3,c4⟩:=ja hg;clear hg;have D:∃v,fk ⟨L,B,C,S,N⟩=v/\(decide (L<1)=true/\v=false\/decide (L<1)=false/\(decide (L > 4096)=true/\v=false\/decide (L > 4096)=false/\(decide ((B.size:Int) > L)=true/\v=false\/decide ((B.size:Int) > L)=false/\
   (decide (N>=0)=false/\v=false\/decide (N>=0)=true/\(decide (N<=(B.size:Int))=false/\v=false\/decide (N<=(B.size:Int))=true/\(decide (S>=0)=false/\v=false\/decide (S>=0)=true/\decide (S<4000)=v)))))):=by
  refine⟨_,rfl,?_⟩;cases h:fk ⟨L,B,C,S,N⟩<;>simp[fk,bF]at h ⊢<;>omega
 obtain⟨v,hv,D⟩:=D;rw[hv];clear hv;rcases D with ⟨d1,rfl⟩|⟨d1,⟨d2,rfl⟩|⟨d2,⟨d3,rfl⟩|⟨d3,⟨d4,rfl⟩|⟨d4,⟨d5,rfl⟩|⟨d5,⟨d6,rfl⟩|⟨d6,d7⟩⟩⟩⟩⟩⟩
 all_goals
  go_enter func37,ntmps37
  go_wp2
  go_quiet (fail)
  go_wp2
  try
   go_quiet (fail)
   go_wp2
  go_ret
  exact⟨rfl,by first|exact below_drewN (Below.refl _ _) _|exact below_drewN (below_drewN (Below.refl _ _) _) _⟩
end
end
section
variable {l:Nat}
theorem DF(lo hi:Int)(v:zk)(xs:List Int)(w:zi)(hs:iO l w v xs):
  zm prog 72 #[v,ze .i64 lo,ze .i64 hi] w λe w'=>e=.returned (.bool (bS lo hi xs))/\w'=w:=by
 obtain⟨ao,cap,rfl,hm,hc⟩:=hs
 go_enter func72,ntmps72
 go_wp2
 go_loop [11] (λi=>∃k:Nat,k<=xs.length/\i=ze .i64 k/\zj (bS lo hi xs=bS lo hi (xs.drop k)))
  (λi=>xs.length-(intOf i).toNat)
 case atStart=>exact⟨0,aR _,rfl,rfl⟩
 case round=>
  obtain⟨k,hk,rfl,HS⟩:=hrel
  by_cases hlt:k<xs.length
  ·obtain⟨b,o,x,rfl,Hn,aZ,c0⟩:=hc.elem (Below.refl _ _) hlt;have HD:zj _:=zhC lo hi xs k hlt x Hn.out
   by_cases h1:x<lo
   ·have hb:zj (bF x lo hi=false):=by show _=_;simp[bF];omega
    go_wp2;go_ret;exact⟨bz (by rw[HS.out,HD.out,hb.out,Bool.false_and]),rfl⟩
   by_cases h2:hi<x
   ·have hb:zj (bF x lo hi=false):=by show _=_;simp[bF];omega
    go_wp2;go_ret;exact⟨bz (by rw[HS.out,HD.out,hb.out,Bool.false_and]),rfl⟩
   have hb:zj (bF x lo hi=true):=by show _=_;simp[bF];omega
   go_wp2
   go_round
   case rel=>exact⟨k+1,by omega,by go_num,by show _=_;rw[HS.out,HD.out,hb.out,kh]⟩
   case measure=>simp[intOf];omega
  ·go_wp2;go_ret;exact⟨bz (by rw[HS.out,sI (by omega)];rfl),rfl⟩
theorem zfN(v:zk)(xs:List Int)(w:zi)(hs:iO l w v xs):
  zm prog 99 #[v] w λe w'=>e=.returned (.bool (bS (-1) 99 xs))/\w'=w:=by
 go_enter func99,ntmps99
 go_wp2_with fail
 refine(DF (-1) 99 _ xs _ hs).mono ?_;rintro e w' ⟨rfl,rfl⟩;go_wp2;go_ret;exact⟨rfl,rfl⟩
def uz(xs:List Int)(wd:Int):Bool:=decide (xs.length=256)&&bF wd 1 256&&bS 0 (wd-1) xs
theorem zjs(v:zk)(xs:List Int)(wd:Int)(w:zi)(hs:iO l w v xs):
  zm prog 98 #[v,ze .i64 wd] w λe w'=>e=.returned (.bool (uz xs wd))/\w'=w:=by
 by_cases h1:xs.length=256
 case neg=>
  have H:zj (uz xs wd=false):=by show _=_;simp[uz,h1]
  obtain⟨ao,cap,rfl,hm,hc⟩:=hs;clear hc;have b1:((xs.length:Int)==256)=false:=by simp;omega
  clear h1
  go_enter func98,ntmps98
  go_wp2;go_ret;exact⟨bz H.out.symm,rfl⟩
 have b1:((xs.length:Int)==256)=true:=by simp[h1]
 have dH:=hs;obtain⟨ao,cap,rfl,hm,hc⟩:=hs;clear hc
 by_cases h2:1<=wd
 case neg=>
  have H:zj (uz xs wd=false):=by show _=_;simp[uz,bF,h2]
  clear h1
  go_enter func98,ntmps98
  go_wp2;go_ret;exact⟨bz H.out.symm,rfl⟩
 by_cases h3:wd<=256
 case neg=>
  have H:zj (uz xs wd=false):=by show _=_;simp[uz,bF,h3]
  clear h1
  go_enter func98,ntmps98
  go_wp2;go_ret;exact⟨bz H.out.symm,rfl⟩
 have H:zj (uz xs wd=bS 0 (wd-1) xs):=by show _=_;simp[uz,bF,h1,h2,h3]
 clear h1
 go_enter func98,ntmps98
 go_wp2_with fail
 refine(DF _ _ _ xs _ dH).mono ?_;rintro e w' ⟨rfl,rfl⟩;go_wp2;go_ret;exact⟨bz H.out.symm,rfl⟩
end
variable {lo:Nat}
def vo(d:bj):Bool:=decide (d.next.length=d.bH.length)&&decide (d.next.length<=60000)&&bS (-1) (d.base.length-1) d.bH&&bS 0 (d.base.length-1) d.next&&vr d.bH d.next
theorem Nf(d:bj):iy d=(bF d.base.length 1 4000&&decide (d.cA.length=d.base.length)&&decide (d.tag.length=d.base.length)&&decide (d.fin.length=d.base.length) &&
  (uz d.cG d.width&&bS 0 59999 d.base&&bS 0 (d.base.length-1) d.cA&&(bS (-1) 99 d.tag&&bS (-1) 99 d.fin&&vo d))):=by
 rw[Bool.eq_iff_iff];simp only[iy,uz,vo,de];constructor
 ·rintro ⟨⟨⟨⟨⟨⟨⟨⟨⟨a,b⟩,c⟩,e⟩,f⟩,g⟩,i⟩,j⟩,k⟩,l,⟨⟨⟨⟨m,n⟩,o⟩,p⟩,q⟩,r⟩;exact⟨⟨⟨⟨e,f⟩,g⟩,i⟩,⟨⟨⟨⟨a,b⟩,c⟩,m⟩,n⟩,⟨o,p⟩,⟨⟨⟨j,k⟩,q⟩,r⟩,l⟩
 ·rintro ⟨⟨⟨⟨e,f⟩,g⟩,i⟩,⟨⟨⟨⟨a,b⟩,c⟩,m⟩,n⟩,⟨o,p⟩,⟨⟨⟨j,k⟩,q⟩,r⟩,l⟩;exact⟨⟨⟨⟨⟨⟨⟨⟨⟨a,b⟩,c⟩,e⟩,f⟩,g⟩,i⟩,j⟩,k⟩,l,⟨⟨⟨⟨m,n⟩,o⟩,p⟩,q⟩,r⟩
theorem zkm(cv bv fv tv ev nv kv:zk)(d:bj)(w:zi)(hs:fV lo w cv bv fv tv ev nv kv d)(H:zj (vo d=false))
  (h:((d.bH.length:Int) != d.next.length)=true\/((d.bH.length:Int) != d.next.length)=false/\¬d.next.length<=60000):
  zm prog 100 #[zl #[cv,ze .i64 d.width,bv,fv,tv,ev,nv,kv]] w λe w'=>e=.returned (.bool (vo d))/\zh w.heap.size w w':=by
 obtain⟨⟨a0,p0,rfl,m0,y0⟩,⟨a1,p1,rfl,m1,y1⟩,⟨a2,p2,rfl,m2,y2⟩,⟨a3,p3,rfl,m3,y3⟩,⟨a4,p4,rfl,m4,y4⟩,⟨a5,p5,rfl,m5,y5⟩,⟨a6,p6,rfl,m6,y6⟩⟩:=hs;clear y0 y1 y2 y3 y4 y5 y6;rcases h with h|⟨b1,h⟩
 all_goals
  go_enter func100,ntmps100
  go_wp2;go_ret;exact⟨bz H.out.symm,aw⟩
theorem zqi(cv bv fv tv ev nv kv:zk)(d:bj)(w:zi)(hs:fV lo w cv bv fv tv ev nv kv d)(hn:(d.base.length:Int)<=4000)(g1:d.next.length=d.bH.length)(g2:d.next.length<=60000):
  zm prog 100 #[zl #[cv,ze .i64 d.width,bv,fv,tv,ev,nv,kv]] w λe w'=>e=.returned (.bool (vo d))/\zh w.heap.size w w':=by
 have af:zh w.heap.size w (w.alloc (zg #[cv,ze .i64 d.width,bv,fv,tv,ev,nv,kv] 39)):=aw;have dH:=hs.below af;clear af;have H:zj (vo d=(bS (-1) (d.base.length-1) d.bH&&bS 0 (d.base.length-1) d.next&&vr d.bH d.next)):=by show _=_;simp[vo,<-g1,g2]
 have b1:((d.bH.length:Int) != d.next.length)=false:=by simp[g1]
 have El:zj (d.bH.length=d.next.length):=g1.symm;clear g1;obtain⟨⟨a0,p0,rfl,m0,y0⟩,⟨a1,p1,rfl,m1,y1⟩,⟨a2,p2,rfl,m2,y2⟩,⟨a3,p3,rfl,m3,y3⟩,⟨a4,p4,rfl,m4,y4⟩,⟨a5,p5,rfl,m5,y5⟩,⟨a6,p6,rfl,m6,y6⟩⟩:=hs;clear y0 y1 y2 y3 y4;have ey:zh w.heap.size w (w.alloc (zg #[.slice a0 d.cG.length p0,ze .i64 d.width,.slice a1 d.base.length p1,.slice a2 d.cA.length p2,.slice a3 d.tag.length p3,.slice a4 d.fin.length p4,.slice a5 d.next.length p5,.slice a6 d.bH.length p6] 39)):=aw
 go_enter func100,ntmps100
 go_wp2_with fail
 refine(DF _ _ _ d.bH _ dH.bH).mono ?_;rintro e w' ⟨rfl,rfl⟩;cases q1:bS (-1) (d.base.length-1) d.bH
 case false=>
  rw[q1]at H;go_wp2;go_ret;exact⟨bz (by rw[H.out];simp),ey⟩
 rw[q1]at H
 go_wp2_with fail
 refine(DF _ _ _ d.next _ dH.next).mono ?_;rintro e w' ⟨rfl,rfl⟩;cases q2:bS 0 (d.base.length-1) d.next
 case false=>
  rw[q2]at H;go_wp2;go_ret;exact⟨bz (by rw[H.out];simp),ey⟩
 rw[q2]at H;have H2:zj (vo d=vr d.bH d.next):=by show _=_;rw[H.out];simp
 clear H dH q1 q2;go_wp2
 go_loop [39] (λi=>∃k:Nat,k<=d.bH.length/\i=ze .i64 k/\zj (vo d=vr (d.bH.drop k) (d.next.drop k)))
  (λi=>d.bH.length-(intOf i).toNat)
 case atStart=>exact⟨0,aR _,rfl,H2.out⟩
 case round=>
  clear H2;obtain⟨k,hk,rfl,HS⟩:=hrel
  by_cases hlt:k<d.bH.length
  ·have pj:k<d.next.length:=by have:=El.out;omega
   obtain⟨b,o,x,rfl,Hn,aZ,c0⟩:=y6.elem ey hlt;obtain⟨b2,o2,y,rfl,fJ,jl,d0⟩:=y5.elem ey pj;have HD:zj _:=zhL d.bH d.next k hlt pj x y Hn.out fJ.out
   by_cases hx:x=-1
   ·by_cases hy:y=0
    ·go_wp2
     go_round
     case rel=>exact⟨k+1,by omega,by go_num,by show _=_;rw[HS.out,HD.out];simp[hx,hy]⟩
     case measure=>simp[intOf];omega
    ·go_wp2;go_ret;exact⟨bz (by rw[HS.out,HD.out];simp[hx,hy]),ey⟩
   ·have HE:zj ((!(x == -1&&y != 0))=true):=by show _=_;simp[hx]
    go_wp2
    go_round
    case rel=>exact⟨k+1,by omega,by go_num,by show _=_;rw[HS.out,HD.out,HE.out,kh]⟩
    case measure=>simp[intOf];omega
  ·rw[zjI _ _ k (by omega)]at HS;go_wp2;go_ret;exact⟨bz HS.out.symm,ey⟩
theorem zn4(cv bv fv tv ev nv kv:zk)(d:bj)(w:zi)(hs:fV lo w cv bv fv tv ev nv kv d)(hn:(d.base.length:Int)<=4000):
  zm prog 100 #[zl #[cv,ze .i64 d.width,bv,fv,tv,ev,nv,kv]] w λe w'=>e=.returned (.bool (vo d))/\zh w.heap.size w w':=by
 by_cases g1:d.next.length=d.bH.length
 case neg=>exact zkm cv bv fv tv ev nv kv d w hs (by show _=_;simp[vo,g1]) (.inl (by simp;omega))
 by_cases g2:d.next.length<=60000
 case neg=>exact zkm cv bv fv tv ev nv kv d w hs (by show _=_;simp[vo,g2]) (.inr ⟨by simp[g1],g2⟩)
 exact zqi cv bv fv tv ev nv kv d w hs hn g1 g2
theorem ziD(cv bv fv tv ev nv kv:zk)(d:bj)(w:zi)(hs:fV lo w cv bv fv tv ev nv kv d)(H:zj (iy d=false))
  (h:(d.base.length:Int)<1\/¬(d.base.length:Int)<1/\(4000<(d.base.length:Int)\/¬4000<(d.base.length:Int)/\(((d.cA.length:Int) != d.base.length)=true\/((d.cA.length:Int) != d.base.length)=false/\(((d.tag.length:Int) != d.base.length)=true\/((d.tag.length:Int) != d.base.length)=false/\((d.fin.length:Int) != d.base.length)=true)))):
  zm prog 71 #[zl #[cv,ze .i64 d.width,bv,fv,tv,ev,nv,kv]] w λe w'=>e=.returned (.bool (iy d))/\zh w.heap.size w w':=by
 obtain⟨⟨a0,p0,rfl,m0,y0⟩,⟨a1,p1,rfl,m1,y1⟩,⟨a2,p2,rfl,m2,y2⟩,⟨a3,p3,rfl,m3,y3⟩,⟨a4,p4,rfl,m4,y4⟩,⟨a5,p5,rfl,m5,y5⟩,⟨a6,p6,rfl,m6,y6⟩⟩:=hs;clear y0 y1 y2 y3 y4 y5 y6;rcases h with h|⟨t1,h|⟨t2,h|⟨b5,h|⟨b6,h⟩⟩⟩⟩
 all_goals
  go_enter func71,ntmps71
  go_wp2;go_ret;exact⟨bz H.out.symm,aw⟩
theorem ziE(cv bv fv tv ev nv kv:zk)(d:bj)(w:zi)(hs:fV lo w cv bv fv tv ev nv kv d)(t1:¬(d.base.length:Int)<1)(t2:¬4000<(d.base.length:Int))(g5:d.cA.length=d.base.length)(g6:d.tag.length=d.base.length)(g7:d.fin.length=d.base.length):
  zm prog 71 #[zl #[cv,ze .i64 d.width,bv,fv,tv,ev,nv,kv]] w λe w'=>e=.returned (.bool (iy d))/\zh w.heap.size w w':=by
 have af:zh w.heap.size w (w.alloc (zg #[cv,ze .i64 d.width,bv,fv,tv,ev,nv,kv] 39)):=aw;have dH:=hs.below af;clear af;obtain⟨⟨a0,p0,rfl,m0,y0⟩,⟨a1,p1,rfl,m1,y1⟩,⟨a2,p2,rfl,m2,y2⟩,⟨a3,p3,rfl,m3,y3⟩,⟨a4,p4,rfl,m4,y4⟩,⟨a5,p5,rfl,m5,y5⟩,⟨a6,p6,rfl,m6,y6⟩⟩:=hs;have H:zj (iy d=(uz d.cG d.width&&bS 0 59999 d.base&&bS 0 (d.base.length-1) d.cA&&(bS (-1) 99 d.tag&&bS (-1) 99 d.fin&&vo d))):=by
  show _=_;have e2:bF d.base.length 1 4000=true:=by simp[bF];omega
  rw[Nf];simp[g5,g6,g7,e2]
 have hn:(d.base.length:Int)<=4000:=by omega
 clear y0 y1 y2 y3 y4 y5 y6;have bg5:((d.cA.length:Int) != d.base.length)=false:=by simp[g5]
 clear g5;have bg6:((d.tag.length:Int) != d.base.length)=false:=by simp[g6]
 clear g6;have bg7:((d.fin.length:Int) != d.base.length)=false:=by simp[g7]
 clear g7;have r0:(w.alloc (zg #[.slice a0 d.cG.length p0,ze .i64 d.width,.slice a1 d.base.length p1,.slice a2 d.cA.length p2,.slice a3 d.tag.length p3,.slice a4 d.fin.length p4,.slice a5 d.next.length p5,.slice a6 d.bH.length p6] 39)).heap[w.heap.size]?=zc (zg #[.slice a0 d.cG.length p0,ze .i64 d.width,.slice a1 d.base.length p1,.slice a2 d.cA.length p2,.slice a3 d.tag.length p3,.slice a4 d.fin.length p4,.slice a5 d.next.length p5,.slice a6 d.bH.length p6] 39 (0,0)):=aI _ _;have ey:zh w.heap.size w (w.alloc (zg #[.slice a0 d.cG.length p0,ze .i64 d.width,.slice a1 d.base.length p1,.slice a2 d.cA.length p2,.slice a3 d.tag.length p3,.slice a4 d.fin.length p4,.slice a5 d.next.length p5,.slice a6 d.bH.length p6] 39)):=aw
 go_enter func71,ntmps71
 go_wp2_with fail
 refine(zjs _ d.cG _ _ dH.cG).mono ?_;rintro e w' ⟨rfl,rfl⟩;cases q0:uz d.cG d.width
 case false=>
  rw[q0]at H;go_wp2;go_ret;exact⟨bz (by rw[H.out];simp),ey⟩
 rw[q0]at H
 go_wp2_with fail
 refine(DF _ _ _ d.base _ dH.base).mono ?_;rintro e w' ⟨rfl,rfl⟩;cases q1:bS 0 59999 d.base
 case false=>
  rw[q1]at H;go_wp2;go_ret;exact⟨bz (by rw[H.out];simp),ey⟩
 rw[q1]at H
 go_wp2_with fail
 refine(DF _ _ _ d.cA _ dH.cA).mono ?_;rintro e w' ⟨rfl,rfl⟩;cases q2:bS 0 (d.base.length-1) d.cA
 case false=>
  rw[q2]at H;go_wp2;go_ret;exact⟨bz (by rw[H.out];simp),ey⟩
 rw[q2]at H
 go_wp2_with fail
 refine(zfN _ d.tag _ dH.tag).mono ?_;rintro e w' ⟨rfl,rfl⟩;cases q3:bS (-1) 99 d.tag
 case false=>
  rw[q3]at H;go_wp2;go_ret;exact⟨bz (by rw[H.out];simp),ey⟩
 rw[q3]at H
 go_wp2_with fail
 refine(zfN _ d.fin _ dH.fin).mono ?_;rintro e w' ⟨rfl,rfl⟩;cases q4:bS (-1) 99 d.fin
 case false=>
  rw[q4]at H;go_wp2;go_ret;exact⟨bz (by rw[H.out];simp),ey⟩
 rw[q4]at H
 go_wp2_with fail
 refine(zn4 _ _ _ _ _ _ _ d _ dH hn).mono ?_;rintro e w2 ⟨rfl,ae⟩;go_wp2;go_ret;exact⟨bz (by rw[H.out];simp),aq ey ey.size ae⟩
theorem zhs(cv bv fv tv ev nv kv:zk)(d:bj)(w:zi)(hs:fV lo w cv bv fv tv ev nv kv d)(_:zP d):
  zm prog 71 #[zl #[cv,ze .i64 d.width,bv,fv,tv,ev,nv,kv]] w λe w'=>e=.returned (.bool (iy d))/\zh w.heap.size w w':=by
 have N:=ziD cv bv fv tv ev nv kv d w hs;have Z:bF d.base.length 1 4000=false->iy d=false:=λe=>by rw[Nf,e];simp
 by_cases t1:(d.base.length:Int)<1
 case pos=>exact N (Z (by simp[bF];omega)) (.inl t1)
 by_cases t2:4000<(d.base.length:Int)
 case pos=>exact N (Z (by simp[bF];omega)) (.inr ⟨t1,.inl t2⟩)
 by_cases g5:d.cA.length=d.base.length
 case neg=>exact N (by show _=_;rw[Nf];simp[g5]) (.inr ⟨t1,.inr ⟨t2,.inl (by simp;omega)⟩⟩)
 by_cases g6:d.tag.length=d.base.length
 case neg=>exact N (by show _=_;rw[Nf];simp[g6]) (.inr ⟨t1,.inr ⟨t2,.inr ⟨by simp[g5],.inl (by simp;omega)⟩⟩⟩)
 by_cases g7:d.fin.length=d.base.length
 case neg=>exact N (by show _=_;rw[Nf];simp[g7]) (.inr ⟨t1,.inr ⟨t2,.inr ⟨by simp[g5],.inr ⟨by simp[g6],by simp;omega⟩⟩⟩⟩)
 exact ziE cv bv fv tv ev nv kv d w hs t1 t2 g5 g6 g7
end Go.Proofs.YtdimhpfiieepiaaGreatDoor
