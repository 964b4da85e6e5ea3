import Derived.Test.YtdimhpfiieepiaaGreatDoorC25
import Derived.RangeFuncNested
import Derived.RangeFuncBound
import Derived.RangeFuncCalls
import Derived.RangeFuncLeaves
import Derived.Shelf.Abstract
import Derived.Shelf.RegionOpen
import Derived.WalkKit
import Derived.OwnWalkIn
import Derived.TacticsInMore
import Derived.LoopNIn
import Derived.LoopIn
namespace Go.Proofs.YtdimhpfiieepiaaGreatDoor
open Proofs.Tryz
open Option renaming some->za,none->zb
open Go renaming World->zc,Value->ze
open Value renaming slice->zd,pointer->zg
open Obj renaming cells->zf
open Go.RowKit
theorem FP{w:zc}:∀(p:Pt) (v:ze),aU w v p->qY v (aE p)
 |.set f,_,⟨mg,h1,_⟩=>by subst h1;exact zig _
 |.seq l r,_,⟨lv,rv,h1,h2,h3⟩=>by
  subst h1;have hl:=iP l lv h2;have hr:=iP r rv h3;exact zif lv rv _ _ (FP l lv h2) (FP r rv h3) (by omega) (by omega) (by omega) (by omega)
 |.aN l r,_,⟨lv,rv,h1,h2,h3⟩=>by
  subst h1;have hl:=iP l lv h2;have hr:=iP r rv h3;exact zic lv rv _ _ (FP l lv h2) (FP r rv h3) (by omega) (by omega) (by omega) (by omega)
 |.az b mn mx,_,⟨lv,h1,h2,h3⟩=>by
  subst h1;have hl:=iP b lv h2;exact zie lv _ mn mx (FP b lv h2) (by omega) (by omega) h3
 |.aT b g,_,⟨lv,h1,h2⟩=>by
  subst h1;exact zid lv g _ (FP b lv h2)
structure Gy(W:zc)(s bt ga gl nw:Nat)(e:Bool)(wr:zc)(k:Nat)(br:Nat->Nat)(ba:Option Addr)(bc:Nat):Prop where
 tc:ap (· = s) W wr
 box:wr.heap[s]?=za (zf #[zg (za ⟨bt,0,zb⟩),.bool e,zd (za ⟨ga,0,zb⟩) nw nw,zd (za ⟨gl,0,zb⟩) nw nw,.slice ba k bc,zg zb,zg zb] 229 (0,0))
 own:wr.ownsRow W.heap.size 193 1 (.slice ba k bc) k (gO br nw k)
 set:∀p,p<k->aH wr nw (br p) cQ/\W.heap.size<=br p
 inj:∀p q,p<k->q<k->br p=br q->p=q
theorem zsQ(B m nw gn:Nat)(sv:ze)(br:Nat->Nat)(w:zc)(h:w.ownsRow B 193 1 sv m (gO br nw m))(hm:m<=64000)(hB:B<=w.heap.size):
  ∃g c w',(CA #[227,227] 227 #[sv,zd (za ⟨w.heap.size,0,zb⟩) 1 1]).run prog (w.alloc (zf #[zd (za ⟨gn,0,zb⟩) nw nw] 193))=.ok (zd (za ⟨g,0,zb⟩) (m+1) c) w'/\w'.ownsRow B 193 1 (zd (za ⟨g,0,zb⟩) (m+1) c) (m+1) (gO br nw m++[zd (za ⟨gn,0,zb⟩) nw nw])/\w.grownBy w' sv.ownBlock:=by
 obtain⟨i1,hj,qO,kY,od⟩:=info_parts Tryz.Mw;obtain⟨v',w8,kV,aB,cJ,-⟩:=run_append_own (P:=prog) (w.alloc (zf #[zd (za ⟨gn,0,zb⟩) nw nw] 193)) B 227 227 193 i1 _ 1 24 underlying227 hj qO kY od rfl (by decide) sv m (gO br nw m) (h.alloc _) ⟨w.heap.size,0,zb⟩ 1 1 [zd (za ⟨gn,0,zb⟩) nw nw] rfl (λj u hj=>by
   match j,hj with
   |0,hj=>simp at hj;subst hj;simp[Addr.add]) (by intro u hu;simp at hu;subst hu;rfl) (by unfold maxLen;omega) (by omega) (by simp;omega)
 obtain⟨g8,im,rfl⟩:=zia aB;exact⟨g8,im,w8,kV,aB,⟨cJ.os,cJ.tape,cJ.output,aW (by simp) cJ.size,λk hk hne=>by rw[cJ.block k (by simp;omega) hne,Below.heap_alloc _ _ _ hk]⟩⟩
theorem Gy.next{W:zc}{s bt ga gl nw:Nat}{e:Bool}{wr:zc}{k:Nat}{br:Nat->Nat}{ba:Option Addr}{bc:Nat}(h:Gy W s bt ga gl nw e wr k br ba bc)(hk:k<=64000)(hs:s<W.heap.size){cs:Nat}{x:ze}(hcs:wr.heap[cs]?=za (zf #[x] 197 (0,0))){w6:zc}(hp:aH w6 nw wr.heap.size cQ)(hg:wr.drew.grownBy w6 zb):
  ∃g c kK,(w6.cell? ⟨cs,0,zb⟩=za x/\w6.cell? ⟨s,4,zb⟩=za (.slice ba k bc))/\((w6.alloc (zf #[zd (za ⟨wr.heap.size,0,zb⟩) nw nw] 193)).cell? ⟨cs,0,zb⟩=za x/\(w6.alloc (zf #[zd (za ⟨wr.heap.size,0,zb⟩) nw nw] 193)).cell? ⟨s,4,zb⟩=za (.slice ba k bc))/\
   (CA #[227,227] 227 #[.slice ba k bc,zd (za ⟨w6.heap.size,0,zb⟩) 1 1]).run prog (w6.alloc (zf #[zd (za ⟨wr.heap.size,0,zb⟩) nw nw] 193))=.ok (zd (za ⟨g,0,zb⟩) (k+1) c) kK/\kK.cell? ⟨cs,0,zb⟩=za x/\kK.frozen? ⟨s,4,zb⟩=false/\kK.cell? ⟨s,4,zb⟩=za (.slice ba k bc)/\
   Gy W s bt ga gl nw e (kK.setCell ⟨s,4,zb⟩ (zd (za ⟨g,0,zb⟩) (k+1) c)) (k+1) (λi=>if i=k then wr.heap.size else br i) (za ⟨g,0,zb⟩) c:=by
 have sz:W.heap.size<=wr.heap.size:=h.tc.size;have b6:∀j,j<wr.heap.size->w6.heap[j]?=wr.heap[j]?:=λj hj=>hg.block j hj (by simp)
 have vN:=(b6 s (by omega)).trans h.box;have To:=(b6 cs (ah.1 hcs).1).trans hcs;have oh:w6.ownsRow W.heap.size 193 1 (.slice ba k bc) k (gO br nw k):=li h.own λj c e=>(b6 j (ah.1 e).1).trans e
 have sz6:wr.heap.size<=w6.heap.size:=hg.size;obtain⟨g,c,kK,kV,V9,AY⟩:=zsQ W.heap.size k nw wr.heap.size (.slice ba k bc) br w6 oh hk (by omega);have ob:∀j,(Value.slice ba k bc).ownBlock=za j->W.heap.size<=j/\∃ax,w6.heap[j]?=za (zf ax 193 (0,0)):=λj e=>ke oh e
 have keep:∀(j:Nat) (cs:Array ze) (t:TypeId),w6.heap[j]?=za (zf cs t (0,0))->t≠193->kK.heap[j]?=za (zf cs t (0,0)):=λj cs t e hn=>(AY.block j (ah.1 e).1 (λe2=>by
  obtain⟨-,ax,e3⟩:=ob j e2.symm;rw[e]at e3;exact hn (bL e3))).trans e
 have AO:=keep s _ _ vN (by decide);have zze:=keep cs _ _ To (by decide);have kz:∀j,j≠s->(kK.setCell ⟨s,4,zb⟩ (zd (za ⟨g,0,zb⟩) (k+1) c)).heap[j]?=kK.heap[j]?:=λj hj=>cH _ _ _ _ (show j≠s from hj)
 have pos:∀(j:Nat) (T:Nat->Nat),aH w6 nw j T->aH (kK.setCell ⟨s,4,zb⟩ (zd (za ⟨g,0,zb⟩) (k+1) c)) nw j T:=λj T hp=>⟨(kz j (λe=>by have:=hp.row;rw[e,vN]at this;exact absurd (bL this) (by decide))).trans (keep j _ _ hp.row (by decide)),hp.lt⟩
 refine⟨g,c,kK,⟨(aM _ _ _ _ _ _ To:_=_),(mB vN).2.2.2.2.1⟩,⟨(aM _ _ _ _ _ _ (cX To):_=_),(mB (cX vN)).2.2.2.2.1⟩,kV,(aM _ _ _ _ _ _ zze:_=_),cT _ _ 4 _ _ AO,(mB AO).2.2.2.2.1,?_,dE _ _ 4 _ _ _ AO,?_,λp tI=>?_,λp q tI hq'=>?_⟩
 ·refine⟨AY.os.trans (hg.os.trans h.tc.os),AY.tape.trans (hg.tape.trans h.tc.tape),AY.output.trans (hg.output.trans h.tc.output),?_,λj h1 h2=>?_⟩
  ·have:=AY.size;simp;omega
  ·rw[kz j h2,AY.block j (by omega) (λe=>by have:=(ob j e.symm).1;omega),b6 j (by omega),h.tc.same j h1 h2]
 ·rw[<-zkl];exact li V9 λj cs e=>(kz j (λe2=>by rw[e2,AO]at e;exact absurd (bL e) (by decide))).trans e
 ·by_cases e:p=k
  ·simp only[aC e];exact⟨pos _ _ hp,by omega⟩
  ·simp only[ak e];have:=h.set p (by omega);exact⟨pos _ _ ⟨(b6 _ this.1.cB).trans this.1.row,this.1.lt⟩,this.2⟩
 ·have l:∀p,p<k->br p<wr.heap.size:=λp hp=>(h.set p hp).1.cB
  by_cases e1:p=k<;>by_cases e2:q=k
  ·intro _;omega
  ·simp only[aC e1,ak e2];intro e3;have:=l q (by omega);omega
  ·simp only[ak e1,aC e2];intro e3;have:=l p (by omega);omega
  ·simp only[ak e1,ak e2];exact h.inj p q (by omega) (by omega)
structure NQ(W:zc)(n nw:Nat)(br:Nat->Nat)(F:Nat->Nat->Nat)(wr:zc)(k:Nat)(G:Nat->Nat->Nat):Prop where
 tc:ap (λj=>∃p,p<n/\j=br p) W wr
 set:∀p,p<n->aH wr nw (br p) (G p)/\∀q,au (G p) q=true↔q<k/\au (F q) p=true
theorem zlT{w1 W2 W3 W5 W6 wr:zc}{n nw bt ga gl s:Nat}{e:Bool}{M:PA}{sv:ze}{fa ba:Option Addr}{fc bc:Nat}{mk0:Nat->Nat}{f0:Nat->Nat->Bool}{fr0:Nat->Nat}{F0:Nat->Nat->Nat}{mk:Nat->Nat}{f:Nat->Nat->Bool}{fr br:Nat->Nat}{F G:Nat->Nat->Nat}{A L:Nat->Nat}
  (eV:bt=w1.heap.size) (h2:bt<W2.heap.size) (hp:0<bt) (D:fM bt W2 0 nw bt mk0 f0 fr0 F0 W3 n ga gl e M sv (.slice fa n fc) mk f fr F A L)
  (hs:s=W3.heap.size) (Dl:s<W5.heap.size) (h5:Below W3.heap.size W3 W5) (hA:Gy W5 s bt ga gl nw e W6 n br ba bc) (hB:NQ W6 n nw br F wr n G):
  Er wr s ⟨bt,wr.heap.size,n,nw,bt,ga,gl,sv,fa,fc,ba,bc,fr,br,mk,f,F,G,A,L,e⟩/\wr.heap[s]?=za (zf (BS ⟨bt,wr.heap.size,n,nw,bt,ga,gl,sv,fa,fc,ba,bc,fr,br,mk,f,F,G,A,L,e⟩ (zg zb) (zg zb)) 229 (0,0))/\pF M n nw f F G A L/\(e=true↔M.e):=by
 have sz5:=h5.size;have sz6:=hA.tc.size;have szr:=hB.tc.size;have aD:∀p,p<n->W5.heap.size<=br p:=λp hp=>(hA.set p hp).2
 have zx8:∀k,k<W5.heap.size->wr.heap[k]?=W6.heap[k]?:=λk hk=>hB.tc.same k (by omega) (λ⟨p,h1,h2⟩=>by have:=aD p h1;omega)
 have same:∀k,k<W3.heap.size->wr.heap[k]?=W3.heap[k]?:=λk hk=>(zx8 k (by omega)).trans ((hA.tc.same k (by omega) (by omega)).trans (h5.block k hk))
 have cell:∀k o,k<W3.heap.size->wr.cell? ⟨k,o,zb⟩=W3.cell? ⟨k,o,zb⟩:=λk o hk=>World.cell?_of_block (same k hk)
 have pos:∀{g:Nat} {T:Nat->Nat},aH W3 nw g T->aH wr nw g T:=λh=>⟨(same _ h.cB).trans h.row,h.lt⟩
 have MF:∀{k:Nat} {o:Obj},W3.heap[k]?=za o->k<W3.heap.size:=λh=>(ah.1 h).1
 have zzw:=MF D.tk.box;have sz3:=D.kp.size;have hD:∀q,M.D q↔q<n:=λq=>(D.iS.dm q).symm.trans ⟨λh=>h.2,λh=>⟨aR _,h⟩⟩
 have rP:∀p q,p<n->au (F p) q=true->q<n:=λp q hp h=>(D.iS.fo p q ⟨aR _,hp⟩ h).2
 have Dx:0<n->∃gs cs:Nat,sv=zd (za ⟨gs,0,zb⟩) n cs/\gs<wr.heap.size/\∀p,p<n->wr.cell? ⟨gs,p,zb⟩=za (zg (za ⟨mk p,0,zb⟩)):=λhn=>by
  obtain⟨gs,cs,h1,h2,h3⟩:=D.tk.zAF hn;exact⟨gs,cs,h1,by omega,λp hp=>(cell _ _ h2).trans (h3 p hp)⟩
 have qf:∀p,p<n->wr.heap[mk p]?=za (zf (dz (f p)) 293 (0,0))/\mk p<wr.heap.size:=λp hp=>by
  have h1:=D.tk.qf p hp;have h2:=MF h1;exact⟨(same _ h2).trans h1,by omega⟩
 have dv:fS wr:=D.tk.dv.keep (same 0 (by omega));have P7:=D.fg.fi.cB;have P8:=D.fg.la.cB;have c1:pN wr.heap.size wr n nw bt ga gl (.slice fa n fc) sv (.slice fa n fc) fr mk F A L f:=by
  refine⟨(same _ zzw).trans D.tk.box,by omega,Dx,qf,λhn=>?_,λp hp=>?_,⟨pos D.fg.fi,by omega⟩,⟨pos D.fg.la,by omega⟩,dv,by omega,aj _,D.tk.kE,D.tk.ic,λp q h1 _ h3=>rP p q h1 h3,λq _ h=>(D.iS.fi q h).2⟩
  ·obtain⟨g,cap,ax,h1,h2,h3⟩:=yl D.tk.fo hn;have hl:=MF h2;exact⟨g,cap,h1,by omega,λp hp=>by rw[cell g p hl,aM _ _ _ _ _ _ h2,h3 p hp];simp[gO,hp]⟩
  ·have h1:=D.tk.fol.rows p hp;exact⟨pos h1,by have:=h1.cB;omega⟩
 have c2:pN wr.heap.size wr n nw bt gl ga (.slice ba n bc) sv (.slice fa n fc) br mk G L A f:=by
  refine⟨c1.box,c1.AP,Dx,qf,λhn=>?_,λp hp=>⟨(hB.set p hp).1,(hB.set p hp).1.cB⟩,c1.pl,c1.pa,dv,c1.pos,aj _,D.tk.kE,D.tk.ic,λp q h1 _ h3=>(((hB.set p h1).2 q).1 h3).1,λq _ h=>(D.iS.la q h).2⟩;obtain⟨g,cap,ax,h1,h2,h3⟩:=yl hA.own hn;have hl:g<W6.heap.size:=(ah.1 h2).1;have hr:wr.heap[g]?=za (zf ax 193 (0,0)):=(hB.tc.same g hl (λ⟨p,h4,h5⟩=>by
   have:=(hA.set p h4).1.row;rw[<-h5,h2]at this;exact absurd (bL this) (by decide))).trans h2
  exact⟨g,cap,h1,by omega,λp hp=>by rw[aM _ _ _ _ _ _ hr,h3 p hp];simp[gO,hp]⟩
 refine⟨⟨c1,c2,hp,by show bt<=s;omega,by show s<wr.heap.size;omega,aj _,by have:=D.na;show bt<=ga;omega,by have:=D.nl;show bt<=gl;omega,λk h=>?_,λk h=>?_,λk h=>?_,λp hp=>?_,λp hp=>?_,by show bt≠s;omega,by show ga≠s;omega,by show gl≠s;omega,λp hp=>⟨?_,?_⟩⟩,(zx8 s Dl).trans hA.box,⟨D.tk.kE,hD,λq h=>(hD q).2 ((D.iS.fi q ((D.iS.fs q).2 h)).2),λq h=>(hD q).2 ((D.iS.la q ((D.iS.ls q).2 h)).2),λp q h1 h2=>?_,λq c hq=>(D.iS.FK q c ⟨aR _,hq⟩).symm,λq r hq _=>D.iS.fl q r ⟨aR _,hq⟩,λq r hq hr=>?_,λq _=>D.iS.fs q,λq _=>D.iS.ls q⟩,D.iS.em⟩
 ·obtain⟨h1,ax,h2⟩:=ke D.tk.so h;have:=MF h2;exact⟨h1,by omega⟩
 ·obtain⟨h1,ax,h2⟩:=ke D.tk.fo h;have:=MF h2;exact⟨h1,by omega⟩
 ·obtain⟨h1,-⟩:=ke hA.own h;exact⟨by show bt<=k;omega,by omega⟩
 ·have:=D.new p (aR _) hp;show bt<=fr p;omega
 ·have:=aD p hp;show bt<=br p;omega
 ·have:=(D.tk.fol.rows p hp).cB;show fr p≠s;omega
 ·have:=aD p hp;show br p≠s;omega
 ·have hq:=(hD p).1 h1;exact(hD q).2 (rP p q hq ((D.iS.fl p q ⟨aR _,hq⟩).2 h2))
 ·rw[(hB.set q hq).2 r];exact⟨λh=>(D.iS.fl r q ⟨aR _,hr⟩).1 h.2,λh=>⟨hr,(D.iS.fl r q ⟨aR _,hr⟩).2 h⟩⟩
section
open Go
section
variable {P:Program} {ops:Array Oper} {md:Region.Mode} {C:zc->Prop} {Q:Exit->Act->zc->Prop}
def qk(P:Program)(ops:Array Oper)(C:zc->Prop)(o:Oper)(v:ze)(a:Act):Prop:=
 (Region.wanted o (yielded ops a.tmps)=true/\∀w,C w->(execOp a.eval o).run P w=.ok (.value v) w)\/(Region.wanted o (yielded ops a.tmps)=false/\v=undef)
theorem qk.of_same{o:Oper}{v:ze}{a a':Act}(hy:qk P ops C o v a)(he:execOp a'.eval o=execOp a.eval o)(hw:Region.wanted o (yielded ops a'.tmps)=Region.wanted o (yielded ops a.tmps)):qk P ops C o v a':=by
 unfold qk at *;rw[he,hw];exact hy
theorem qk.zwh{i:Nat}{o:Oper}{v:ze}{a:Act}(hi:ops[i]?=za o)(hy:qk P ops C o v a){K:Act->zc->Prop}{w:zc}(hC:C w)(h:K (a.put o.dst v) w):wpOp P ops Q i K a w:=by
 unfold Go.wpOp;simp only[hi];rcases hy with ⟨hw,hv⟩|⟨hw,rfl⟩
 ·simp only[hw,if_true,Oper.wp,hv w hC,Oper.upon];exact .inl h
 ·simp only[hw,Bool.false_eq_true,if_false];exact h
theorem zqx{j:Nat}{oi oj:Oper}{v:ze}(hj:ops[j]?=za oj)(kV:oi.apart ops oj=true)(hsi:∀cs b,oi.op≠.select cs b)(hsj:∀cs b,oj.op≠.select cs b)
  (hQ:∀c a w,Q (.panic c) (a.put oi.dst v) w->Q (.panic c) a w) {K:Act->zc->Prop} {a:Act} {w:zc} (hy:qk P ops C oi v a) (h:wpOp P ops Q j K (a.put oi.dst v) w):
  wpOp P ops Q j (λa' w'=>qk P ops C oi v a'/\K (a'.put oi.dst v) w') a w:=by
 obtain⟨h1,h2,h3⟩:=Oper.apart_spec kV;have keep:∀(a:Act),qk P ops C oi v a->∀u,qk P ops C oi v (a.put oj.dst u):=λa hy u=>hy.of_same (execOp_put oi hsi a oj.dst u h3) (wanted_put oi a oj.dst u h3)
 unfold wpOp at *;simp only[hj]at *;rw[wanted_put oj a oi.dst v h1]at h
 by_cases hw:Region.wanted oj (yielded ops a.tmps)=true
 ·simp only[hw,if_true]at h ⊢;rcases h with h|⟨zwu,zzW⟩
  case inr=>exact .inr ⟨by unfold Oper.asks at *;rw[execOp_put oj hsj a oi.dst v h1]at zwu;exact zwu,zzW⟩
  refine .inl ?_;unfold Oper.wp at *;rw[execOp_put oj hsj a oi.dst v h1]at h;generalize (execOp a.eval oj).run P w=r at *;cases r with
  |ok n w'=>
   cases n<;>simp only[Oper.upon]at h ⊢
   case value u=>exact⟨keep a hy u,by rw[<-Act.put_comm a v u h2];exact h⟩
   case skip=>exact⟨keep a hy _,by rw[<-Act.put_comm a v undef h2];exact h⟩
   case defer d=>
    have hyd:qk P ops C oi v {a with defers:=d::a.defers}:=hy.of_same rfl rfl;refine⟨keep _ hyd _,?_⟩;rw[<-Act.put_comm _ v undef h2,<-Act.put_defers];exact h
   case enter f args=>
    refine Calls.mono h λe w'' he=>?_
    cases e with
    |returned u=>exact⟨keep a hy u,by rw[<-Act.put_comm a v u h2];exact he⟩
    |panicked c=>exact hQ _ _ _ he
    |outgrown=>exact he
   case row row args=>exact Rows.mono h λu w'' he=>⟨keep a hy u,by rw[<-Act.put_comm a v u h2];exact he⟩
  |halt x w'=>
   cases x<;>simp only[Oper.upon]at h ⊢
   case panic u=>exact hQ _ _ _ h
 ·have hw':Region.wanted oj (yielded ops a.tmps)=false:=by simpa using hw
  simp only[hw',Bool.false_eq_true,if_false]at h ⊢;exact⟨keep a hy _,by rw[<-Act.put_comm a v undef h2];exact h⟩
def wR(P:Program)(md:Region.Mode)(ops:Array Oper)(C:zc->Prop)(t:Nat)(Q:Exit->Act->zc->Prop):Nat->Array Bool->Act->zc->Prop
 |0,listed,a,w=>Region.ready md ops listed=[]/\Q .normal a w
 |fuel+1,listed,a,w=>(Region.ready md ops listed=[]->Q .normal a w)/\
  ∀i∈Region.ready md ops listed,wpOp P ops Q i (λa' w'=>((listed.setIfInBounds i true).getD t true=false->C w')/\wR P md ops C t Q fuel (listed.setIfInBounds i true) a' w') a w
theorem QG{t:Nat}:∀(fuel:Nat) (listed:Array Bool) (a:Act) (w:zc),wR P md ops C t Q fuel listed a w->wpAny P md ops Q fuel listed a w
 |0,_,_,_,h=>h
 |fuel+1,_,_,_,h=>⟨h.1,λi hi=>wpOp_mono (λa w k=>QG fuel _ a w k.2) (h.2 i hi)⟩
theorem Nb{l:Array Bool}{i j:Nat}(h:i≠j):(l.setIfInBounds i true).getD j true=l.getD j true:=getD_set_ne true h
theorem Xd{i t:Nat}{oi:Oper}{v:ze}(hi:ops[i]?=za oi)(Fq:t≠i)(UK:∀listed:Array Bool,mE md ops listed->listed.getD t true=true->listed.getD i true=true)
  (Mf:∀(j:Nat) (o:Oper) cs b,ops[j]?=za o->o.op≠.select cs b) (hQ:∀c a a' w,Q (.panic c) a w->Q (.panic c) a' w):
  ∀(fuel:Nat) (listed:Array Bool) (a:Act) (w:zc),mE md ops listed->
   (∀j oj,ops[j]?=za oj->j≠i->listed.getD j true=false->(∀e∈oj.after,Region.binds md e=true->e.on≠i)->oi.apart ops oj=true)->
   i∈Region.ready md ops listed->qk P ops C oi v a->C w->
   wR P md ops C t Q fuel (listed.setIfInBounds i true) (a.put oi.dst v) w->wR P md ops C t Q (fuel+1) listed a w:=by
 intro fuel
 induction fuel with
 |zero=>
  intro listed a w iq _ hr hy hC H;refine⟨λh=>(by rw[h]at hr;cases hr),λj hj=>?_⟩
  by_cases nX:j=i
  ·subst nX;exact hy.zwh hi hC ⟨λ_=>hC,H⟩
  ·have:=ready_mono hj nX;rw[H.1]at this;cases this
 |succ fuel ih=>
  intro listed a w iq rQ hr hy hC H;refine⟨λh=>(by rw[h]at hr;cases hr),λj hj=>?_⟩
  by_cases nX:j=i
  ·subst nX;exact hy.zwh hi hC ⟨λ_=>hC,H⟩
  ·have h1:=H.2 j (ready_mono hj nX);obtain⟨LK,oj,qN,io⟩:=mem_ready.1 hj;have UB:=(mem_ready.1 hr).1;have U0:∀e∈oj.after,Region.binds md e=true->e.on≠i:=λe he hb pW=>by
    have h1:=io e he hb;rw[pW]at h1;rcases Nat.lt_or_ge i listed.size with h'|h'
    ·simp[h']at UB h1;rw[UB]at h1;cases h1
    ·simp[Array.getElem?_eq_none h']at h1
   have h2:=zqx qN (rQ j oj qN nX LK U0) (λcs b=>Mf i oi cs b hi) (λcs b=>Mf j oj cs b qN) (λc a w h=>hQ c _ _ w h) hy h1;have Us:∀k ok,ops[k]?=za ok->k≠i->(listed.setIfInBounds j true).getD k true=false->(∀e∈ok.after,Region.binds md e=true->e.on≠i)->oi.apart ops ok=true:=λk ok hk UI Mm hno=>by
    refine rQ k ok hk UI ?_ hno
    by_cases LJ:j=k
    ·subst LJ;exact LK
    ·rw[Nb LJ]at Mm;exact Mm
   have zwA:=iq.set hj;have htj:(listed.setIfInBounds j true).getD t true=false:=by
    cases hb:(listed.setIfInBounds j true).getD t true
    ·rfl
    ·have h3:=UK _ zwA hb;rw[Nb nX,UB]at h3;cases h3
   refine wpOp_mono (λa' w' h3=>?_) h2;obtain⟨hy',hC',Fj⟩:=h3;have hCw:C w':=hC' (by rw[Array.setIfInBounds_comm _ _ (Ne.symm nX),Nb (Ne.symm Fq)];exact htj);exact⟨λ_=>hCw,ih _ a' w' zwA Us (ready_mono hr (Ne.symm nX)) hy' hCw (by rw[Array.setIfInBounds_comm _ _ nX];exact Fj)⟩
def Gx(o:Oper):Bool:=match o.op with
 |.move _=>true
 |.assign _=>true
 |.load _ _=>true
 |.fieldAddr _ _ _=>true
 |.indexAddr _ _ _=>true
 |.binOp _ _ _ _ _=>true
 |_=>false
theorem zkj{s:Sem ze}{w w':zc}{n:Next}(h:(do pure (Next.value (<-s)):Sem Next).run P w=.ok n w'):∃u,n=.value u:=by
 simp only[Sem.run_bind,Sem.run_pure]at h;cases hr:s.run P w with
 |ok u w1=>rw[hr]at h;simp only[Result.andThen]at h;injection h with h1;exact⟨u,h1.symm⟩
 |halt x w1=>rw[hr]at h;simp[Result.andThen]at h
theorem zn2{o:Oper}(h:Gx o=true){ρ:Operand->ze}{w w':zc}{n:Next}(hr:(execOp ρ o).run P w=.ok n w'):∃u,n=.value u:=by
 obtain⟨dst,op,type,pos,after,guard⟩:=o;cases op<;>simp only[Gx,Bool.false_eq_true]at h
 all_goals (simp only[execOp]at hr)
 case move x=>rw[Sem.run_pure]at hr;injection hr with h1;exact⟨_,h1.symm⟩
 case assign x=>rw[Sem.run_pure]at hr;injection hr with h1;exact⟨_,h1.symm⟩
 all_goals exact zkj hr
theorem ziX{o:Oper}{a:Act}{K:Act->Prop}(hb:Gx o=true)(hw:Region.wanted o (yielded ops a.tmps)=true)(h:o.quiet P a C K):∃v,qk P ops C o v a/\K (a.put o.dst v):=by
 obtain⟨v,h1,h2⟩:=h;refine⟨v,.inl ⟨hw,λw hC=>?_⟩,h2⟩;have h3:=h1 w hC;unfold Oper.quietAt at h3;cases hr:(execOp a.eval o).run P w with
 |ok n w'=>
  obtain⟨u,rfl⟩:=zn2 hb hr;rw[hr]at h3;obtain⟨e1,e2⟩:=h3;rw[e1,e2]
 |halt x w'=>rw[hr]at h3;exact h3.elim
def wT(Q:Exit->Act->zc->Prop):Exit->Act->zc->Prop
 |.panic _,_,_=>False
 |.outgrown,_,_=>False
 |.normal,a,w=>Q .normal a w
 |.ret,a,w=>Q .ret a w
 |.exit id,a,w=>Q (.exit id) a w
 |.goto l,a,w=>Q (.goto l) a w
theorem vl{Q:Exit->Act->zc->Prop}{a:Act}{w:zc}:wT Q .normal a w=Q .normal a w:=rfl
theorem Jm{Q:Exit->Act->zc->Prop}:∀e a w,wT Q e a w->Q e a w:=λe a w h=>by
 cases e with
 |panic c=>exact h.elim
 |outgrown=>exact h.elim
 |normal=>exact h
 |ret=>exact h
 |exit id=>exact h
 |goto l=>exact h
end
end
section
attribute [local go_sem] Oper.semAt_some
end
def ztX(D:Nat):Deferred:={target:=.collected D,args:=#[]}
theorem zfU{n:Nat}{P:Program}{fn:Func}{tmps:Array ze}{R:Ending->zc->Prop}:∀(Ds:List Nat) (W:zc),Ds.Nodup->(∀D∈Ds,W.heap[D]?=za (.deferred (za [])))->
  (∀W',(∀k,k∉Ds->W'.heap[k]?=W.heap[k]?)->W'.heap.size=W.heap.size->W'.os=W.os->W'.tape=W.tape->W'.output=W.output->LeavesInM Fence.wide n P fn tmps R [] .returning W')->
  LeavesInM Fence.wide n P fn tmps R (Ds.map ztX) .returning W
 |[],W,_,_,h=>h W (λ_ _=>rfl) rfl rfl rfl rfl
 |D::Ds,W,wi,hd,h=>by
  have h1:=hd D (by simp);refine⟨by simp,.inl ⟨D,_,rfl,run_takeDeferred h1,?_⟩⟩;have hn:=List.nodup_cons.1 wi;refine zfU Ds _ hn.2 (λD' hD'=>?_) (λW' hk hsz ho ht hu=>h W' (λk jY=>?_) (hsz.trans (by simp)) (ho.trans rfl) (ht.trans rfl) (hu.trans rfl))
  ·exact(World.putObj_heap_other (λe:D'=D=>hn.1 (e ▸ hD'))).trans (hd D' (by simp[hD']))
  ·rw[hk k (λe=>jY (by simp[e])),World.putObj_heap_other (λe:k=D=>jY (by simp[e]))]
end Go.Proofs.YtdimhpfiieepiaaGreatDoor
