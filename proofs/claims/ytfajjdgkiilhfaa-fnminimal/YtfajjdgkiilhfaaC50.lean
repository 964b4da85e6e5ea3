import Derived.Test.YtfajjdgkiilhfaaC49
import Derived.BigQuiet
import Derived.Deep.Cut
import Derived.Deep.RegionHeld3
namespace Go.Proofs.Ytfajjdgkiilhfaa
open Proofs.Try
open Option renaming some->za,none->zh
open Value renaming int->zi,slice->zx
open RowKit renaming Hid->zn,Below->zw
open Obj renaming cells->zp
open Go renaming World->zy,Value->zB
set_option maxHeartbeats 8000000
set_option maxRecDepth 100000
open Go.RowKit
attribute [local go_sem ↓] wp_at_zero wp_at_succ
section
variable {n x y g N:Nat}{b:Bool}{f f0:Nat -> Bool}{W1 W:zy}{d:aE}{D D':Nat -> Nat -> Nat -> Prop}
theorem UL(hx:x<n)(hy:y<n):x*n+y<n*n:=by
 have:=Nat.mul_le_mul_right n (show x+1<=n by omega);rw[zu,Nat.one_mul]at this;omega
theorem ztJ{a b:Nat}(hy:y<n)(hb:b<n)(h:x*n+y=a*n+b):x=a/\y=b:=by
 have hn:0<n:=by omega
 have h1:(x*n+y)/n=x:=by rw[Nat.mul_comm,Nat.mul_add_div hn,Nat.div_eq_of_lt hy,xJ]
 have h2:(a*n+b)/n=a:=by rw[Nat.mul_comm,Nat.mul_add_div hn,Nat.div_eq_of_lt hb,xJ]
 have e:x=a:=by rw[<-h1,h,h2]
 subst e;exact⟨rfl,by omega⟩
theorem UI{s L:Nat}(hs:s<=4000)(hn:n<=4000)(hL:s*n+y<L):∃P:Int,(s:Int)*(n:Int)=P/\0<=P/\P<=16000000/\P+(y:Int)<(L:Int)/\0<=P+(y:Int)/\(P+(y:Int)).toNat=s*n+y:=by
 have h1:s*n<=4000*4000:=nt hs hn;have e:(s:Int)*(n:Int)=((s*n:Nat):Int):=by simp
 refine⟨_,e,?_⟩;generalize s*n=q at *;omega
def HU(N:Nat)(f:Nat->Bool):Nat:=((List.range N).filter λi=>!f i).length
def isF:zB->Bool
 |.bool false=>true
 |_=>false
def WR(w:zy)(g:Nat):Nat:=match w.heap[g]? with
 |some (zp C _ _)=>(C.toList.filter isF).length
 |_=>0
theorem zoo{w:zy}(h:w.heap[g]?=za (zp (gu N f) 4 (0,0))):WR w g=HU N f:=by
 unfold WR HU;rw[h];unfold gu;simp only[List.filter_map,jK]
 congr 1
 refine List.filter_congr λi _=>?_
 simp only[Function.comp];cases f i<;>rfl
theorem zqx{i:Nat}(hi:i<N)(h:f i=false):HU N (λj=>if j=i then true else f j)<HU N f:=by
 unfold HU;have key:∀N,i<N->((List.range N).filter λj=>!(if j=i then true else f j)).length+1=((List.range N).filter λj=>!f j).length:=by
  intro N
  induction N with
  |zero=>intro h;omega
  |succ N ih=>
   intro hN;rw[oN,JQ,JQ,a6,a6]
   by_cases e:i=N
   ·subst e;have:((List.range i).filter λj=>!(if j=i then true else f j))=(List.range i).filter λj=>!f j:=List.filter_congr λj hj=>by rw[ab (by have:=mB.1 hj;omega)]
    rw[this];simp[h]
   ·have hne:¬N=i:=by omega
    have:=ih (by omega);simp only[List.filter_cons,List.filter_nil,ab hne];omega
 exact Nat.lt_of_succ_le (Nat.le_of_eq (key N hi))
theorem iW{p:Prop}(h:p):zn p:=h
structure rV(W1:zy)(g N:Nat)(W:zy)(f:Nat->Bool):Prop where
 kept:aJ g W1 W
 row:W.heap[g]?=za (zp (gu N f) 4 (0,0))
theorem rV.drew(h:rV W1 g N W f)(k:Nat):rV W1 g N (W.drewN k) f:=⟨h.kept.trans (.of (below_drewN (Below.refl _ _) _)),by simpa using h.row⟩
theorem rV.set(h:rV W1 g N W f)(i:Nat)(b:Bool):rV W1 g N (W.setCell ⟨g,i,zh⟩ (.bool b)) (λj=>if j=i then b else f j):=by
 refine⟨h.kept.trans (aJ.set W i _),?_⟩;have:=dx W g i _ _ (.bool b) h.row;rw[TK]at this;exact this
theorem rV.cell(h:rV W1 g N W f){i:Nat}(hi:i<N):W.cell? ⟨g,i,zh⟩=za (.bool (f i)):=by rw[dt _ _ _ _ _ _ h.row];exact Gb _ _ hi
def GC(d:aE)(f:Nat->Bool):Prop:=∀x y,x<d.tag.length->y<d.tag.length->f (x*d.tag.length+y)=false->au d x=au d y
def zvF(d:aE)(f:Nat->Bool)(x y C:Nat):Prop:=f (x*d.tag.length+y)=false->∀c,c<C->f (bU d x c*d.tag.length+bU d y c)=false
theorem zrr(hf:cL d){f:Nat->Bool}(h1:GC d f)(h2:∀x y,x<d.tag.length->y<d.tag.length->zvF d f x y (aW d)){x y:Nat}(hx:x<d.tag.length)(hy:y<d.tag.length)(h:f (x*d.tag.length+y)=false):cD (ai d) (au d) x y:=by
 refine ziT (λx y=>x<d.tag.length/\y<d.tag.length/\f (x*d.tag.length+y)=false) (λs t h=>h1 s t h.1 h.2.1 h.2.2) (λs t c h hc=>?_) ⟨hx,hy,h⟩;have bn:=(hf.sf hc).2;exact⟨hf.LO h.1 hc,hf.LO h.2.1 hc,h2 s t h.1 h.2.1 h.2.2 _ bn⟩
theorem GC.set(h:GC d f)(i:Nat):GC d (λj=>if j=i then true else f j):=λx y hx hy e=>by
 refine h x y hx hy ?_
 by_cases q:x*d.tag.length+y=i
 ·simp only[ae q]at e;cases e
 ·simp only[ab q]at e;exact e
structure qW(d:aE)(f0:Nat->Bool)(b:Bool)(f:Nat->Bool)(D:Nat->Nat->Nat->Prop):Prop where
 Wu:GC d f
 Ie:b=true->HU (d.tag.length*d.tag.length) f<HU (d.tag.length*d.tag.length) f0
 same:b=false->f=f0/\∀x y c,D x y c->f0 (x*d.tag.length+y)=false->f0 (bU d x c*d.tag.length+bU d y c)=false
theorem qW.done(h:qW d f0 b f D)(hD:∀x y c,D' x y c->D x y c\/(b=false->f0 (x*d.tag.length+y)=false->f0 (bU d x c*d.tag.length+bU d y c)=false)):qW d f0 b f D':=
 ⟨h.Wu,h.Ie,λe=>⟨(h.same e).1,λx y c hd hf=>(hD x y c hd).elim (λq=>(h.same e).2 x y c q hf) (λq=>q e hf)⟩⟩
theorem qW.put(h:qW d f0 b f D){i:Nat}(hi:i<d.tag.length*d.tag.length)(Oy:f i=false):qW d f0 true (λj=>if j=i then true else f j) D':=by
 refine⟨h.Wu.set i,λ_=>?_,λe=>by cases e⟩;have:=zqx hi Oy;cases b
 ·rw[(h.same rfl).1]at this ⊢;exact this
 ·exact Nat.lt_trans this (h.Ie rfl)
theorem zk9{lo:Nat}(cv nv tv ev:zB)(d:aE)(w:zy)(hs:dk lo w cv nv tv ev d)(hf:cL d)(Dh:∀i j,i<d.tag.length->j<d.tag.length->cD (ai d) (au d) i j->i=j):
  Calls prog 7 #[.agg #[cv,zi .i64 d.width,nv,tv,ev]] w λe w'=>e=.returned (.bool true)/\zw w.heap.size w w':=by
 have du:prog.follows .mixedOrders=true:=by kernel_rfl
 have jG:=hf.n1;have fc:=hf.n2;have hwd:=hf.wd;obtain⟨iB,yE,yR,yS,yT⟩:=info_parts Try.zyd;obtain⟨⟨ca,cc,rfl,_,_⟩,⟨na,nc,rfl,nm,nx⟩,⟨ta,tc,rfl,tm,tx⟩,⟨ea,ec,rfl,em,ex⟩⟩:=hs;obtain⟨nb,no,rfl,_,nl,nq⟩:=nx (by rw[hf.FY];exact Nat.mul_pos (by omega) (by omega));obtain⟨tb,qI,rfl,_,tl,tq⟩:=tx (by omega);obtain⟨eb,eo,rfl,_,el,eq⟩:=ex (by have:=hf.fl;omega);have tU:=hf.fl;have il:=hf.FY;obtain⟨n,hn⟩:∃n,d.tag.length=n:=⟨_,rfl⟩;obtain⟨D,hD⟩:∃D,aW d=D:=⟨_,rfl⟩;obtain⟨N,hN⟩:∃N,n*n=N:=⟨_,rfl⟩;obtain⟨L,hL⟩:∃L,d.next.length=L:=⟨_,rfl⟩;obtain⟨nC,IR⟩:∃L,d.aD.length=L:=⟨_,rfl⟩;have HF:=iW hf;have HAP:=iW Dh;have Hn:=iW hn;have HD:=iW hD;have HN:=iW hN;have HLn:=iW hL;have Fb:N<=16000000:=by rw[<-hN];have:=nt (show n<=4000 by omega) (show n<=4000 by omega);omega
 have hNi:(n:Int)*(n:Int)=(N:Int):=by rw[<-hN];simp
 rw[hn]at jG fc tU tq ⊢;rw[tU]at eq;rw[tU];rw[hD]at hwd;obtain⟨yP,qD,kJ⟩:=hwd;rw[yP,hL,IR];have HTQ:=iW tq;have GQ:=iW eq;have HNQ:=iW nq;clear hf Dh hn hD hN hL IR tq eq nq il tx ex nx tm em nm yP;obtain⟨W0,ay⟩:∃W0,w.alloc (zp #[.slice ca nC cc,zi .i64 (D:Int),zx (za ⟨nb,no,zh⟩) L nc,zx (za ⟨tb,qI,zh⟩) n tc,zx (za ⟨eb,eo,zh⟩) n ec] 25)=W0:=⟨_,rfl⟩;have aG:zw w.heap.size w W0:=by rw[<-ay];exact aC
 have x0:W0.heap[w.heap.size]?=za (zp #[.slice ca nC cc,zi .i64 (D:Int),zx (za ⟨nb,no,zh⟩) L nc,zx (za ⟨tb,qI,zh⟩) n tc,zx (za ⟨eb,eo,zh⟩) n ec] 25 (0,0)):=by rw[<-ay];exact aU _ _
 obtain⟨q0,q1,q2,q3,q4⟩:=bL x0;have kI:W0.heap.size=w.heap.size+1:=by rw[<-ay];simp
 go_enter func7,ntmps7
 go_wp2_with (refine wpList_make_full _ rfl _ _ 37 rfl W0.heap.size 4 iB _ 1 underlying37 yE yR yS _ _ _ _ N rfl rfl rfl rfl (by rw[yT];omega) (by unfold maxLen;omega) (ax _) ?_;intro w1 rz Au)
 have r1:=zkz rz;rw[zhc]at r1;have aP:zw W0.heap.size W0 w1:=(Below.refl _ _).grown Au (ax _) (by intro k h;cases h);rw[kI]at r1 aP;obtain⟨g,hg⟩:∃g,w.heap.size+1=g:=⟨_,rfl⟩;rw[hg]at r1 aP ⊢;have zwS:zw w.heap.size w w1:=aG.trans (aP.mono (by omega));have Kk:=iW (aY x0 (by rw[kI,hg];exact aP));have l7:rV w1 g N w1 (λ_=>false):=⟨aJ.refl _ _,r1⟩;have oa:=iW l7;have eE:=iW zwS;have hgw:w.heap.size<g:=by omega
 have ot:g<w1.heap.size:=az r1;have HC:zn (∀W,aJ g w1 W->(W.cell? ⟨w.heap.size,1,zh⟩=za (zi .i64 (D:Int))/\W.cell? ⟨w.heap.size,2,zh⟩=za (zx (za ⟨nb,no,zh⟩) L nc)/\W.cell? ⟨w.heap.size,3,zh⟩=za (zx (za ⟨tb,qI,zh⟩) n tc)/\W.cell? ⟨w.heap.size,4,zh⟩=za (zx (za ⟨eb,eo,zh⟩) n ec))/\(∀i,i<n->W.cell? ⟨tb,qI+i,zh⟩=za (zi .i64 (d.tag.getD i 0))/\W.cell? ⟨eb,eo+i,zh⟩=za (zi .i64 (d.fin.getD i 0)))/\∀x c,x<n->c<D->W.cell? ⟨nb,no+(x*D+c),zh⟩=za (zi .i64 (bU d x c:Int))):=λW hW=>by
  have hx:=(hW.block _ (by omega) (by omega)).trans Kk.out;obtain⟨_,z1,z2,z3,z4⟩:=bL hx;have hc:∀b o,b<w.heap.size->W.cell? ⟨b,o,zh⟩=w.cell? ⟨b,o,zh⟩:=λb o hb=>(World.cell?_of_block (hW.block b (by omega) (by omega))).trans (eE.out.cell (p:=⟨b,o,zh⟩) hb)
  refine⟨⟨z1,z2,z3,z4⟩,λi hi=>⟨by rw[hc _ _ tl];exact HTQ.out i hi,by rw[hc _ _ el];exact GQ.out i hi⟩,λx c hx hcc=>?_⟩;have h1:=HF.out.nx (s:=x) (c:=c) (by rw[Hn.out];exact hx) (by rw[HD.out];exact hcc);have h2:=HF.out.uh (s:=x) (c:=c) (by rw[Hn.out];exact hx) (by rw[HD.out];exact hcc);rw[HD.out]at h1 h2;rw[hc _ _ nl,HNQ.out _ h2,h1.1]
 clear rz Au r1 aP zwS l7 aG x0 q0 q1 q2 q3 q4 HTQ GQ HNQ Kk ay kI hg tl el nl
 go_loopw [5] (λi wr=>∃x:Nat,x<=n/\i=zi .i64 x/\∃f,rV w1 g N wr f/\∀a b,a<x->b<n->f (a*n+b)=false->au d a=au d b) (λi _=>n-(intOf i).toNat)
 case atStart=>exact⟨0,bH _,rfl,_,oa.out,λa b h=>absurd h (dP _)⟩
 case round=>
  clear oa;obtain⟨x,hx,rfl,f,hI,hA⟩:=hrel;have HI:=iW hI;have HA:=iW hA;clear hI hA
  by_cases hlt:x<n
  ·have Dt:(x:Int)<(n:Int):=by omega
   go_wp2
   go_loopw [6] (λi wr=>∃y:Nat,y<=n/\i=zi .i64 y/\∃f,rV w1 g N wr f/\∀a b,(a<x\/(a=x/\b<y))->b<n->f (a*n+b)=false->au d a=au d b) (λi _=>n-(intOf i).toNat)
   case atStart=>exact⟨0,bH _,rfl,f,HI.out,λa b h hb=>HA.out a b (by omega) hb⟩
   case round=>
    clear HI HA f;obtain⟨y,hy,rfl,f,hI,hA⟩:=hrel;have HI:=iW hI;have HA:=iW hA;clear hI hA
    by_cases wG:y<n
    ·have zxw:(y:Int)<(n:Int):=by omega
     have yM:x*n+y<N:=by rw[<-HN.out];exact UL hlt wG
     obtain⟨P,wA,eJ,KU,Is,Fc,wB⟩:=UI (s:=x) (n:=n) (y:=y) (L:=N) (by omega) (by omega) yM;obtain⟨⟨_,_,b3,b4⟩,ht,_⟩:=HC.out wr HI.out.kept;obtain⟨t1,u1⟩:=ht x hlt;obtain⟨t2,u2⟩:=ht y wG;have m0:=HI.out.cell yM;have fz:=aR _ _ (x*n+y) _ _ HI.out.row;rw[<-wB]at m0 fz;have gY:zn (∀b:Bool,(b=false->au d x=au d y)->∀k,∃f',rV w1 g N ((wr.drewN k).setCell ⟨g,(P+(y:Int)).toNat,zh⟩ (.bool b)) f'/\∀a e,(a<x\/(a=x/\e<y+1))->e<n->f' (a*n+e)=false->au d a=au d e):=λb hb k=>by
      rw[wB];refine⟨_,(HI.out.drew k).set (x*n+y) b,λa e hae he Ox=>?_⟩
      by_cases q:a*n+e=x*n+y
      ·obtain⟨rfl,rfl⟩:=ztJ he wG q;simp only at Ox;exact hb Ox
      ·simp only[ab q]at Ox;refine HA.out a e ?_ he Ox;rcases hae with h|⟨h,h2⟩
       ·exact .inl h
       ·exact .inr ⟨h,by
         have:e≠y:=λe2=>q (by rw[h,e2])
         omega⟩
     have HT:zn (au d x=(d.tag.getD x 0,d.fin.getD x 0)/\au d y=(d.tag.getD y 0,d.fin.getD y 0)):=⟨rfl,rfl⟩;generalize d.tag.getD x 0=tx at *;generalize d.tag.getD y 0=ty at *;generalize d.fin.getD x 0=ex at *;generalize d.fin.getD y 0=ey at *;clear ht wB;have Ol:tx≠ty\/(tx=ty/\ex≠ey)\/(tx=ty/\ex=ey):=by omega
     rcases Ol with h1|⟨h1,h2⟩|⟨h1,h2⟩
     all_goals
      have zZ:=iW h1
      try have d1:(tx != ty)=true:=by simp[h1]
      try have d1:(tx != ty)=false:=by simp[h1]
      try have d2:(ex != ey)=true:=by simp[h2]
      try have d2:(ex != ey)=false:=by simp[h2]
      clear h1
      go_upto_region 9 with fail
      refine PF 31 du (by kernel_rfl) rfl rfl rfl ?_;intro os aX;simp only[gG,kQ]at aX;subst aX
      repeat (go_big_quiet_step (fail))
      refine wpQuiet_nil ?_;intro w' hw' K hK;obtain⟨nq,rfl⟩:=hw'
      first|go_big_move|go_big_op
      refine hK _ _ ?_;go_wp2
      go_roundw
      case rel=>
       first
        |(obtain⟨f',k1,k2⟩:=gY.out true (by simp) nq;exact⟨y+1,by omega,by go_num,f',k1,k2⟩)
        |(obtain⟨f',k1,k2⟩:=gY.out false (λ_=>by rw[HT.out.1,HT.out.2,zZ.out,h2]) nq;exact⟨y+1,by omega,by go_num,f',k1,k2⟩)
      case measure=>simp[intOf];omega
    ·have LF:y=n:=by omega
     have eK:¬(y:Int)<(n:Int):=by omega
     rw[LF]at HA;clear wG;go_wp2
     go_roundw
     case rel=>exact⟨x+1,by omega,by go_num,f,HI.out,λa b ha hb=>HA.out a b (by omega) hb⟩
     case measure=>simp[intOf];omega
  ·have mg:x=n:=by omega
   have eK:¬(x:Int)<(n:Int):=by omega
   have iM:zn (GC d f):=λa b ha hb e=>by rw[Hn.out]at ha hb e;exact HA.out a b (by omega) hb e
   have mF:zn (d.tag.length*d.tag.length=N):=by rw[Hn.out];exact HN.out
   clear hx hlt HA mg;go_wp2
   go_loopw [7] (λgv wr=>∃(b:Bool) (f:Nat->Bool),gv=.bool b/\rV w1 g N wr f/\GC d f/\(b=false->∀x y,x<n->y<n->zvF d f x y D)) (λgv wr=>2*WR wr g+Ku gv)
   case atStart=>exact⟨true,f,rfl,HI.out,iM.out,λh=>by cases h⟩
   case round=>
    clear HI iM f;obtain⟨b,f0,rfl,hI,hA,hC⟩:=hrel;have HI:=iW hI;have iM:=iW hA;have HCl:=iW hC;clear hI hA hC;cases b
    ·have GL:zn (∀x y,x<n->y<n->x≠y->f0 (x*n+y)=true):=λx y hx hy hne=>by
      cases hq:f0 (x*n+y)
      ·exfalso
       refine hne (HAP.out x y (by rw[Hn.out];exact hx) (by rw[Hn.out];exact hy) (zrr HF.out iM.out (λa e ha he=>?_) (by rw[Hn.out];exact hx) (by rw[Hn.out];exact hy) (by rw[Hn.out];exact hq)));rw[HD.out];exact HCl.out rfl a e (by rw[<-Hn.out];exact ha) (by rw[<-Hn.out];exact he)
      ·rfl
     have rW:=iW (Below.mk (B:=w.heap.size) (HI.out.kept.os.trans eE.out.os) (HI.out.kept.tape.trans eE.out.tape) (HI.out.kept.output.trans eE.out.output) (cM eE.out.size HI.out.kept.size) (λk hk=>(HI.out.kept.block k (by omega) (by omega)).trans (eE.out.block k hk)));have EG:=iW HI.out;obtain⟨We,uY⟩:∃We,We=wr:=⟨_,rfl⟩;subst uY;clear iM HCl HI;go_wp2
     go_loopw [11] (λi wr=>∃x:Nat,x<=n/\i=zi .i64 x/\wr=We) (λi _=>n-(intOf i).toNat)
     case atStart=>exact⟨0,bH _,rfl,rfl⟩
     case round=>
      obtain⟨x3,vk,rfl,rfl⟩:=hrel
      by_cases IP:x3<n
      ·have zAH:(x3:Int)<(n:Int):=by omega
       obtain⟨We,uY⟩:∃We,We=wr:=⟨_,rfl⟩;subst uY;go_wp2
       go_loopw [12] (λi wr=>∃y:Nat,y<=n/\i=zi .i64 y/\wr=We) (λi _=>n-(intOf i).toNat)
       case atStart=>exact⟨0,bH _,rfl,rfl⟩
       case round=>
        obtain⟨y3,Tc,rfl,rfl⟩:=hrel
        by_cases wG:y3<n
        ·have zxw:(y3:Int)<(n:Int):=by omega
         have yM:x3*n+y3<N:=by rw[<-HN.out];exact UL IP wG
         obtain⟨P,wA,eJ,KU,Is,Fc,wB⟩:=UI (s:=x3) (n:=n) (y:=y3) (L:=N) (by omega) (by omega) yM
         by_cases yQ:x3=y3
         ·have zA3:((x3:Int) != (y3:Int))=false:=by simp[yQ]
          clear wB yQ;go_wp2
          go_roundw
          case rel=>exact⟨y3+1,by omega,by go_num,by first|rfl|trivial⟩
          case measure=>simp[intOf];omega
         ·have zA3:((x3:Int) != (y3:Int))=true:=by simp;omega
          have m0:wr.cell? ⟨g,(P+(y3:Int)).toNat,zh⟩=za (.bool true):=by rw[wB,<-GL.out x3 y3 IP wG yQ];exact EG.out.cell yM
          clear wB yQ;go_wp2
          go_roundw
          case rel=>exact⟨y3+1,by omega,by go_num,by first|rfl|trivial⟩
          case measure=>simp[intOf];omega
        ·have zAj:¬(y3:Int)<(n:Int):=by omega
         go_wp2
         go_roundw
         case rel=>exact⟨x3+1,by omega,by go_num,by first|rfl|trivial⟩
         case measure=>simp[intOf];omega
      ·have zAj:¬(x3:Int)<(n:Int):=by omega
       go_wp2;go_ret;exact⟨rfl,rW.out⟩
    ·have QZ:=iW (zoo HI.out.row);have oR:zn (qW d f0 false f0 (λa e c=>(a<0/\e<n)/\c<D)):=⟨iM.out,λh=>(by cases h),λ_=>⟨rfl,λa e c h=>absurd h.1.1 (dP _)⟩⟩;go_wp2
     go_loopw [7,8] (λgv i wr=>∃(x:Nat) (b:Bool) (f:Nat->Bool),x<=n/\i=zi .i64 x/\gv=.bool b/\rV w1 g N wr f/\qW d f0 b f (λa e c=>(a<x/\e<n)/\c<D)) (λ_ i _=>n-(intOf i).toNat)
     case atStart=>exact⟨0,false,f0,bH _,rfl,rfl,HI.out,oR.out⟩
     case round=>
      clear HI oR;obtain⟨x2,b,f,mR,rfl,rfl,hI,Ff⟩:=hrel;have HI:=iW hI;have oR:=iW Ff;clear hI Ff
      by_cases IP:x2<n
      ·have zAH:(x2:Int)<(n:Int):=by omega
       have M5:zn (qW d f0 b f (λa e c=>((a<x2/\e<n)\/(a=x2/\e<0))/\c<D)):=oR.out.done λa e c h=>.inl ⟨by omega,h.2⟩
       go_wp2
       go_loopw [7,9] (λgv i wr=>∃(y:Nat) (b:Bool) (f:Nat->Bool),y<=n/\i=zi .i64 y/\gv=.bool b/\rV w1 g N wr f/\qW d f0 b f (λa e c=>((a<x2/\e<n)\/(a=x2/\e<y))/\c<D)) (λ_ i _=>n-(intOf i).toNat)
       case atStart=>exact⟨0,b,f,bH _,rfl,rfl,HI.out,M5.out⟩
       case round=>
        clear HI oR M5;obtain⟨y,b,f,hy,rfl,rfl,hI,Ff⟩:=hrel;have HI:=iW hI;have oR:=iW Ff;clear hI Ff
        by_cases wG:y<n
        ·have zxw:(y:Int)<(n:Int):=by omega
         have yM:x2*n+y<N:=by rw[<-HN.out];exact UL IP wG
         obtain⟨P,wA,eJ,KU,Is,Fc,wB⟩:=UI (s:=x2) (n:=n) (y:=y) (L:=N) (by omega) (by omega) yM;have Vn:=iW wB;have M5:zn (qW d f0 b f (λa e c=>(((a<x2/\e<n)\/(a=x2/\e<y))/\c<D)\/(a=x2/\e=y/\c<0))):=oR.out.done λa e c h=>.inl (h.elim id λq=>absurd q.2.2 (dP _))
         clear wB;go_wp2
         go_loopw [7,10] (λgv i wr=>∃(c:Nat) (b:Bool) (f:Nat->Bool),c<=D/\i=zi .i64 c/\gv=.bool b/\rV w1 g N wr f/\qW d f0 b f (λa e k=>(((a<x2/\e<n)\/(a=x2/\e<y))/\k<D)\/(a=x2/\e=y/\k<c))) (λ_ i _=>D-(intOf i).toNat)
         case atStart=>exact⟨0,b,f,bH _,rfl,rfl,HI.out,M5.out⟩
         case round=>
          clear HI oR M5;obtain⟨c,b,f,hc,rfl,rfl,hI,Ff⟩:=hrel;have HI:=iW hI;have oR:=iW Ff;clear hI Ff;obtain⟨⟨b1,b2,_,_⟩,_,iD⟩:=HC.out wr HI.out.kept;have kS:=iW iD;clear iD;have m0:wr.cell? ⟨g,(P+(y:Int)).toNat,zh⟩=za (.bool (f (x2*n+y))):=by rw[Vn.out];exact HI.out.cell yM
          obtain⟨fv,OA⟩:∃fv,f (x2*n+y)=fv:=⟨_,rfl⟩;rw[OA]at m0;have HFV:=iW OA;clear OA
          by_cases Lp:c<D
          ·have zCJ:(c:Int)<(D:Int):=by omega
           cases fv
           ·have Z2:=kS.out x2 c IP Lp;have nx2:=kS.out y c wG Lp;have jG:=HF.out.nx (s:=x2) (c:=c) (by rw[Hn.out];exact IP) (by rw[HD.out];exact Lp);have fc:=HF.out.nx (s:=y) (c:=c) (by rw[Hn.out];exact wG) (by rw[HD.out];exact Lp);have cG:=HF.out.uh (s:=x2) (c:=c) (by rw[Hn.out];exact IP) (by rw[HD.out];exact Lp);have fA:=HF.out.uh (s:=y) (c:=c) (by rw[Hn.out];exact wG) (by rw[HD.out];exact Lp);rw[HD.out,HLn.out]at cG fA;have mP:bU d x2 c<n:=by rw[<-Hn.out];exact jG.2
            have lR:bU d y c<n:=by rw[<-Hn.out];exact fc.2
            have Zs:bU d x2 c*n+bU d y c<N:=by rw[<-HN.out];exact UL mP lR
            obtain⟨Q1,hQ1,hQ2,hQ3,hQ4,KV,hQ6⟩:=Jx (s:=x2) (wd:=D) (c:=c) (L:=L) (by omega) (by omega) cG;obtain⟨R1,pg,XM,hR3,hR4,XN,hR6⟩:=Jx (s:=y) (wd:=D) (c:=c) (L:=L) (by omega) (by omega) fA;obtain⟨S1,uW,Fh,hS3,hS4,hS5,hS6⟩:=UI (s:=bU d x2 c) (n:=n) (y:=bU d y c) (L:=N) (by omega) (by omega) Zs;rw[<-hQ6]at Z2;rw[<-hR6]at nx2;have m1:wr.cell? ⟨g,(S1+(bU d y c:Int)).toNat,zh⟩=za (.bool (f (bU d x2 c*n+bU d y c))):=by rw[hS6];exact HI.out.cell Zs
            have HPc:zn (f (bU d x2 c*n+bU d y c)=false->qW d f0 b f (λa e k=>(((a<x2/\e<n)\/(a=x2/\e<y))/\k<D)\/(a=x2/\e=y/\k<c+1))):=λh0=>oR.out.done λa e k h=>by
             rcases h with h|⟨rfl,rfl,h⟩
             ·exact .inl (.inl h)
             ·by_cases ek:k=c
              ·subst ek;refine .inr λeb _=>?_
               rw[<-(oR.out.same eb).1,Hn.out];exact h0
              ·exact .inl (.inr ⟨rfl,rfl,by omega⟩)
            have HPt:zn (qW d f0 true (λj=>if j=x2*n+y then true else f j) (λa e k=>(((a<x2/\e<n)\/(a=x2/\e<y))/\k<D)\/(a=x2/\e=y/\k<c+1))):=oR.out.put (by rw[mF.out];exact yM) HFV.out;have fz:=aR _ _ (P+(y:Int)).toNat _ _ HI.out.row;obtain⟨f2,IB⟩:∃f2,f (bU d x2 c*n+bU d y c)=f2:=⟨_,rfl⟩;rw[IB]at m1 HPc;generalize bU d x2 c=tx at *;generalize bU d y c=ty at *;clear hQ6 hR6 hS6 jG fc cG fA IB Zs;cases f2
            ·go_wp2
             go_quiet (fail)
             go_wp2
             go_roundw
             case rel=>exact⟨c+1,b,f,by omega,by go_num,rfl,HI.out.drew _,HPc.out trivial⟩
             case measure=>simp[intOf];omega
            ·go_wp2
             go_quiet (fail)
             go_wp2
             go_roundw
             case rel=>exact⟨c+1,true,_,by omega,by go_num,rfl,by first|exact Vn.out ▸ (HI.out.drew _).set _ true|(rw[Vn.out];exact(HI.out.drew _).set _ true),HPt.out⟩
             case measure=>simp[intOf];omega
           ·have uI:zn (qW d f0 b f (λa e k=>((a<x2/\e<n)\/(a=x2/\e<y+1))/\k<D)):=oR.out.done λa e k h=>by
             by_cases q:a=x2/\e=y
             ·obtain⟨rfl,rfl⟩:=q;refine .inr λeb h0=>?_
              rw[<-(oR.out.same eb).1,Hn.out,HFV.out]at h0;cases h0
             ·exact .inl (.inl ⟨by omega,h.2⟩)
            go_wp2
            go_roundw
            case rel=>exact⟨y+1,b,f,by omega,by go_num,rfl,HI.out,uI.out⟩
            case measure=>simp[intOf];omega
          ·have zAk:¬(c:Int)<(D:Int):=by omega
           have uI:zn (qW d f0 b f (λa e k=>((a<x2/\e<n)\/(a=x2/\e<y+1))/\k<D)):=oR.out.done λa e k h=>.inl (by
            by_cases q:a=x2/\e=y
            ·exact .inr ⟨q.1,q.2,by omega⟩
            ·exact .inl ⟨by omega,h.2⟩)
           go_wp2
           go_roundw
           case rel=>exact⟨y+1,b,f,by omega,by go_num,rfl,HI.out,uI.out⟩
           case measure=>simp[intOf];omega
        ·have LF:y=n:=by omega
         have zAi:¬(y:Int)<(n:Int):=by omega
         have uI:zn (qW d f0 b f (λa e k=>(a<x2+1/\e<n)/\k<D)):=oR.out.done λa e k h=>.inl ⟨by omega,h.2⟩
         clear wG LF;go_wp2
         go_roundw
         case rel=>exact⟨x2+1,b,f,by omega,by go_num,rfl,HI.out,uI.out⟩
         case measure=>simp[intOf];omega
      ·have zAi:¬(x2:Int)<(n:Int):=by omega
       go_wp2
       go_roundw
       case rel=>exact⟨b,f,rfl,HI.out,oR.out.Wu,λe x y hx hy h0 c hc=>by
        have hsm:=oR.out.same e;rw[hsm.1]at h0 ⊢;exact hsm.2 x y c ⟨⟨by omega,hy⟩,hc⟩ h0⟩
       case measure=>
        have h1:=zoo HI.out.row;rw[h1,QZ.out];have sw:=mF.out;cases b
        ·rw[(oR.out.same rfl).1];simp[Ku]
        ·have:=oR.out.Ie rfl;rw[sw]at this;simp[Ku];omega
end
section
variable {lo p6:Nat}
theorem zl0(v v':zB)(xs:List Int)(w:zy)(h:dW lo w v xs)(h':dW p6 w v' xs)(hl:xs.length<=2000000):
  Calls prog 14 #[v,v'] w λe W=>e=.returned (.bool true)/\zw w.heap.size w W:=by
 obtain⟨ao,cap,rfl,_,hc⟩:=h;obtain⟨ao',cap',rfl,_,hc'⟩:=h';have HC:=ah hc;have HC':=ah hc';clear hc hc';obtain⟨n,hn⟩:∃n,xs.length=n:=⟨_,rfl⟩;have HN:=ah hn;rw[hn]at hl ⊢;clear hn
 go_enter func14,ntmps14
 go_wp2
 go_loopw [13] (λi wr=>∃k:Nat,k<=n/\i=zi .i64 k/\zw w.heap.size w wr) (λi _=>n-(intOf i).toNat)
 case atStart=>exact⟨0,bH _,rfl,Below.refl _ _⟩
 case round=>
  obtain⟨k,hk,rfl,hb⟩:=hrel
  by_cases hlt:k<n
  ·have Dt:(k:Int)<(n:Int):=by omega
   have i0:(0:Int)<=(k:Int):=by omega
   obtain⟨b,o,e1,_,oA,cK⟩:=HC.out (by rw[HN.out];omega);obtain⟨b',o',e2,_,dT,bJ⟩:=HC'.out (by rw[HN.out];omega);have c1:wr.cell? ⟨b,o+k,zh⟩=za (zi .i64 (xs.getD k 0)):=(hb.cell (p:=⟨b,o+k,zh⟩) oA).trans (cK k (by rw[HN.out];exact hlt));have c2:wr.cell? ⟨b',o'+k,zh⟩=za (zi .i64 (xs.getD k 0)):=(hb.cell (p:=⟨b',o'+k,zh⟩) dT).trans (bJ k (by rw[HN.out];exact hlt));subst e1 e2;generalize xs.getD k 0=x at *;have Hb:=ah hb;clear cK bJ oA dT hb;go_wp2
   go_quiet (fail)
   go_wp2
   go_roundw
   case rel=>exact⟨k+1,by omega,by go_num,below_drewN Hb.out _⟩
   case measure=>simp[intOf];omega
  ·have eK:¬(k:Int)<(n:Int):=by omega
   go_wp2;go_ret;exact⟨rfl,hb⟩
theorem znW(cv nv tv ev EZ mW LQ KC:zB)(d:aE)(w:zy)(h:dk lo w cv nv tv ev d)(h':dk p6 w EZ mW LQ KC d)(hsm:Ce d):
  Calls prog 8 #[.agg #[cv,zi .i64 d.width,nv,tv,ev],.agg #[EZ,zi .i64 d.width,mW,LQ,KC]] w λe W=>e=.returned (.bool true)/\zw w.heap.size w W:=by
 obtain⟨s1,s2,s3,s4⟩:=hsm;obtain⟨W0,ay⟩:∃W0,(w.alloc (zp #[cv,zi .i64 d.width,nv,tv,ev] 25)).alloc (zp #[EZ,zi .i64 d.width,mW,LQ,KC] 25)=W0:=⟨_,rfl⟩;have aG:zw w.heap.size w W0:=by rw[<-ay];exact(aC).alloc (by simp) _
 have x0:W0.heap[w.heap.size]?=za (zp #[cv,zi .i64 d.width,nv,tv,ev] 25 (0,0)):=by
  rw[<-ay];exact(Below.heap_alloc _ _ _ (by simp)).trans (aU w _)
 have y0:W0.heap[w.heap.size+1]?=za (zp #[EZ,zi .i64 d.width,mW,LQ,KC] 25 (0,0)):=by
  rw[<-ay];have:=aU (w.alloc (zp #[cv,zi .i64 d.width,nv,tv,ev] 25)) (zp #[EZ,zi .i64 d.width,mW,LQ,KC] 25)
  simpa using this
 have HS:=ah λ(v v':zB) (xs:List Int) (W:zy) (hb:zw w.heap.size w W) (a:dW lo w v xs) (b:dW p6 w v' xs) (hl:xs.length<=2000000)=>zl0 v v' xs W (a.below hb) (b.below hb) hl
 have HX:zn (∀W,zw W0.heap.size W0 W->W.heap[w.heap.size]?=za (zp #[cv,zi .i64 d.width,nv,tv,ev] 25 (0,0))/\W.heap[w.heap.size+1]?=za (zp #[EZ,zi .i64 d.width,mW,LQ,KC] 25 (0,0))):=λW hb=>⟨aY x0 hb,aY y0 hb⟩
 obtain⟨q0,q1,q2,q3,q4⟩:=bL x0;obtain⟨r0,r1,r2,r3,r4⟩:=bL y0;clear x0 y0
 go_enter func8,ntmps8
 go_wp2_with fail
 refine(HS.out _ _ _ _ aG h.aD h'.aD (by omega)).mono ?_;rintro e w1 ⟨rfl,b1⟩;obtain⟨x1,y1⟩:=HX.out w1 b1;clear q0 q1 q2 q3 q4 r0 r1 r2 r3 r4;obtain⟨q0,q1,q2,q3,q4⟩:=bL x1;obtain⟨r0,r1,r2,r3,r4⟩:=bL y1;clear x1 y1
 go_wp2_with fail
 refine(HS.out _ _ _ _ (bi aG aG.size b1) h.next h'.next (by omega)).mono ?_;rintro e w2 ⟨rfl,b2⟩;have b2:=bi b1 b1.size b2;obtain⟨x1,y1⟩:=HX.out w2 b2;clear q0 q1 q2 q3 q4 r0 r1 r2 r3 r4;obtain⟨q0,q1,q2,q3,q4⟩:=bL x1;obtain⟨r0,r1,r2,r3,r4⟩:=bL y1;clear x1 y1
 go_wp2_with fail
 refine(HS.out _ _ _ _ (bi aG aG.size b2) h.tag h'.tag (by omega)).mono ?_;rintro e w3 ⟨rfl,b3⟩;have b3:=bi b2 b2.size b3;obtain⟨x1,y1⟩:=HX.out w3 b3;clear q0 q1 q2 q3 q4 r0 r1 r2 r3 r4;obtain⟨q0,q1,q2,q3,q4⟩:=bL x1;obtain⟨r0,r1,r2,r3,r4⟩:=bL y1;clear x1 y1
 go_wp2_with fail
 refine(HS.out _ _ _ _ (bi aG aG.size b3) h.fin h'.fin (by omega)).mono ?_;rintro e w4 ⟨rfl,b4⟩;have b4:=bi b3 b3.size b4;have HB:=ah (bi aG aG.size b4);clear q0 q1 q2 q3 q4 r0 r1 r2 r3 r4 b1 b2 b3 b4;go_wp2;go_ret;exact⟨rfl,HB.out⟩
end
variable {d:aE}{K k c:Nat}{xs:List Nat}
noncomputable def gU (d:aE) (K x:Nat):Nat:=dZ (ai d) (au d) (aF (ai d) (au d) K 0) x
theorem dy.ZZ(h:dy d K){y:Nat}(hy:gU d K y<K):cD (ai d) (au d) (sL d K (gU d K y)) y:=by
 have hl:dZ (ai d) (au d) (aF (ai d) (au d) K 0) y<(aF (ai d) (au d) K 0).length:=by rw[h.len];exact hy
 have:=zlF hl;unfold sL gU;rw[bI,bE hl];exact this
theorem dy.Z0(h:dy d K){i y:Nat}(hi:i<K)(ha:cD (ai d) (au d) (sL d K i) y):gU d K y=i:=by
 have hl:gU d K y<K:=by
  have:gU d K y<(aF (ai d) (au d) K 0).length:=Cl.2 ⟨sL d K i,D8 (by rw[h.len];exact hi),ha⟩;rw[h.len]at this;exact this
 exact h.apart hl hi ((h.ZZ hl).trans ha.symm)
theorem dy.zyl(h:dy d K){x c:Nat}(hx:gU d K x<K)(hc:c<256):gU d K (ai d x c)=ai (minD d K) (gU d K x) c/\gU d K (ai d x c)<K:=by
 have e:gU d K (ai d x c)=aN d (gU d K x) c:=h.Z0 (h.az hx hc) ((h.zyo hx hc).trans ((h.ZZ hx).step hc));rw[h.st hx hc,e];exact⟨rfl,h.az hx hc⟩
theorem dy.zBf(h:dy d K){x:Nat}(hx:gU d K x<K):au (minD d K) (gU d K x)=au d x:=(h.an hx).trans (h.ZZ hx).an
theorem dy.zym(h:dy d K):gU d K 0=0:=h.Z0 h.pos (by rw[h.zero];exact cD.refl _ _ _)
theorem dy.zBg(h:dy d K){q:Nat}(hq:q<K):gU d K (sL d K q)=q:=h.Z0 hq (cD.refl _ _ _)
structure qq(d:aE)(K k c:Nat)(xs:List Nat):Prop where
 pos:0<xs.length/\xs.getD 0 0=0
 nd:xs.Nodup
 lt:∀x∈xs,x<d.tag.length
 nu:∀x∈xs,gU d K x<K
 row:∀j,j<k->∀e,e<256->ai d (xs.getD j 0) e∈xs
 a9:∀e,e<c->ai d (xs.getD k 0) e∈xs
theorem qq.start(h:dy d K):qq d K 0 0 [0]:=
 ⟨⟨by simp,rfl⟩,by simp,λx hx=>(by simp at hx;subst hx;exact h.Ps),λx hx=>(by simp at hx;subst hx;rw[h.zym];exact h.pos),λj hj=>absurd hj (dP _),λe he=>absurd he (dP _)⟩
theorem qq.old(h:qq d K k c xs)(hx:ai d (xs.getD k 0) c∈xs):qq d K k (c+1) xs:=
 ⟨h.pos,h.nd,h.lt,h.nu,h.row,λe he=>by
  by_cases q:e=c
  ·subst q;exact hx
  ·exact h.a9 e (by omega)⟩
theorem qq.add(hE:dy d K)(h:qq d K k c xs)(hk:k<xs.length)(hc:c<256)(hx:ai d (xs.getD k 0) c∉xs):qq d K k (c+1) (xs++[ai d (xs.getD k 0) c]):=by
 have tZ:=D8 hk;have hg:∀j,j<xs.length->(xs++[ai d (xs.getD k 0) c]).getD j 0=xs.getD j 0:=λj hj=>vv hj
 refine⟨⟨by simp,by rw[hg 0 h.pos.1];exact h.pos.2⟩,?_,λx mR=>?_,λx mR=>?_,λj hj e he=>?_,λe he=>?_⟩
 ·refine Gw.2 ⟨h.nd,by simp,λa ha b hb=>?_⟩;simp at hb;subst hb;intro e;subst e;exact hx ha
 ·rcases gH.1 mR with q|q
  ·exact h.lt x q
  ·simp only[vF]at q;subst q;exact hE.pL.LO (h.lt _ tZ) hc
 ·rcases gH.1 mR with q|q
  ·exact h.nu x q
  ·simp only[vF]at q;subst q;exact(hE.zyl (h.nu _ tZ) hc).2
 ·rw[hg j (by omega)];exact List.mem_append_left _ (h.row j hj e he)
 ·rw[hg k hk]
  by_cases q:e=c
  ·subst q;simp
  ·exact List.mem_append_left _ (h.a9 e (by omega))
theorem qq.next(h:qq d K k 256 xs):qq d K (k+1) 0 xs:=
 ⟨h.pos,h.nd,h.lt,h.nu,λj hj e he=>by
  by_cases q:j=k
  ·subst q;exact h.a9 e he
  ·exact h.row j (by omega) e he,λe he=>absurd he (dP _)⟩
theorem qq.len(h:qq d K k c xs):xs.length<=d.tag.length:=sT _ _ h.nd h.lt
theorem qq.met(hE:dy d K)(h:qq d K xs.length 0 xs){q:Nat}(hq:q<K):∃j,j<xs.length/\gU d K (xs.getD j 0)=q:=by
 have h0:0∈xs:=by have:=D8 h.pos.1;rw[h.pos.2]at this;exact this
 have bn:∀x∈xs,∀e,e<256->ai d x e∈xs:=λx hx e he=>by
  obtain⟨j,hj,ej⟩:=tu.1 hx;have:=h.row j hj e he;rw[bI,bE hj]at this;rw[<-ej];exact this
 have key:∀k c,c<=256->∀y∈aF (ai d) (au d) k c,y∈xs:=by
  have ff:∀k,(∀y∈aF (ai d) (au d) k 0,y∈xs)->∀c,c<=256->∀y∈aF (ai d) (au d) k c,y∈xs:=by
   intro k hk c
   induction c with
   |zero=>intro _;exact hk
   |succ c ih=>
    intro hc y hy;have ih:=ih (by omega);rw[yZ]at hy;unfold nD at hy;split at hy
    ·exact ih y hy
    ·rcases gH.1 hy with q|q
     ·exact ih y q
     ·simp only[vF]at q;subst q;refine bn _ ?_ c (by omega)
      by_cases cY:k<(aF (ai d) (au d) k c).length
      ·exact ih _ (D8 cY)
      ·rw[bI,qR (by omega)];exact h0
  intro k
  induction k with
  |zero=>exact ff 0 (by rw[xq];intro y hy;simp at hy;subst hy;exact h0)
  |succ k ih=>exact ff (k+1) (by rw[xp];exact ih 256 (ax _))
 have hm:sL d K q∈xs:=key K 0 (by omega) _ (D8 (by rw[hE.len];exact hq));obtain⟨j,hj,ej⟩:=tu.1 hm;refine⟨j,hj,?_⟩;rw[bI,bE hj];show gU d K xs[j]=q;rw[ej,hE.zBg hq]
theorem zsf(hc:c<(aM K (aN d) 256).length):∃ch,ch<256/\(minD d K).aD.getD ch 0=(c:Int):=by
 obtain⟨h1,h2⟩:=zqu (K:=K) (R:=aN d) (N:=256) hc;exact⟨_,h2,by rw[zo2 d K h2,h1]⟩
end Go.Proofs.Ytfajjdgkiilhfaa
