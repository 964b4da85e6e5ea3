import Derived.Test.YtfajjdgkiilhfaaC26
import Derived.RangeFuncNested
import Derived.RangeFuncBound
import Derived.RangeFuncCalls
import Derived.RangeFuncLeaves
import Derived.Shelf.Abstract
import Derived.Shelf.RegionOpen
import Derived.WalkKit
import Derived.OwnWalkIn
import Derived.TacticsInMore
import Derived.LoopNIn
import Derived.LoopIn
import Derived.Deep.WholeRow
import Derived.Laws.Tables
namespace Go.Proofs.Ytfajjdgkiilhfaa
open Proofs.Try
open Option renaming some->za,none->zh
open Value renaming slice->zi,int->zp,agg->zF,pointer->zG
open Obj renaming cells->zn
open RowKit renaming Hid->zw,Below->zB
open Go renaming World->zx,Value->zy,TypeId->zD
set_option maxHeartbeats 4000000
set_option maxRecDepth 100000
open Go.RowKit
section
variable {w W W':zx}{B n sz gI:Nat}{v:Nat -> zy}{xs:List zy}{A:Nat -> List (Nat×Nat)}
def zl(l:List (Nat×Nat)):List zy:=l.flatMap λx=>[zp .i64 (x.1:Int),zp .i64 (x.2:Int)]
theorem znS(l:List (Nat×Nat))(x:Nat×Nat):zl (l++[x])=zl l++[zp .i64 (x.1:Int),zp .i64 (x.2:Int)]:=by simp[zl]
theorem zkD:∀(l:List (Nat×Nat)) (j:Nat),j<l.length->(zl l)[j*2]?=za (zp .i64 (((l.getD j (0,0)).1:Nat):Int))/\(zl l)[j*2+1]?=za (zp .i64 (((l.getD j (0,0)).2:Nat):Int))
 |[],j,h=>absurd h (dP _)
 |x::l,0,_=>⟨rfl,rfl⟩
 |x::l,j+1,h=>by
  have ih:=zkD l j (by simpa using h);have e:zl (x::l)=zp .i64 (x.1:Int) :: zp .i64 (x.2:Int)::zl l:=rfl;rw[e,show (j+1)*2=j*2+1+1 by omega];exact ih
def AX(v:Nat->zy)(n:Nat):List zy:=(List.range n).map v
theorem Mj(v:Nat->zy){n s:Nat}(h:s<n):(AX v n)[s]?=za (v s):=by simp[AX,h]
theorem zri(v:Nat->zy)(n s:Nat)(u:zy):(AX v n).set s u=AX (upd v s u) n:=by
 apply tz
 intro i;rw[List.getElem?_set];have hl:∀f:Nat->zy,(AX f n).length=n:=λf=>by simp[AX]
 by_cases hi:i<n
 ·rw[Mj v hi,Mj _ hi,hl]
  by_cases e:s=i
  ·subst e;rw[ae rfl,ae hi,fN]
  ·rw[ab e,bW _ _ (λk=>e k.symm)]
 ·rw[qR (by rw[hl];omega),qR (by rw[hl];omega),hl]
  by_cases e:s=i
  ·rw[ae e,ab (by omega)]
  ·rw[ab e]
structure iw(B:Nat)(W:zx)(gI n:Nat)(v:Nat->zy)(A:Nat->List (Nat×Nat)):Prop where
 out:W.ownsRow B 67 1 (zi (za ⟨gI,0,zh⟩) n n) n (AX v n)
 rows:∀s,s<n->W.ownsRow B 69 2 (v s) (A s).length (zl (A s))
 apart:∀s t,s<n->t<n->s≠t->∀b,(v s).ownBlock=za b->(v t).ownBlock≠za b
theorem A0{k:Nat}{e:zD}{v:zy}(h:w.ownsRow B e sz v n xs)(hk:v.ownBlock=za k):B<=k/\∃a9,w.heap[k]?=za (zn a9 e (0,0)):=by
 rcases h.2 with ⟨rfl,_⟩|⟨g,cap,a9,rfl,hg,hh,_⟩
 ·simp[Value.ownBlock]at hk
 ·simp[Value.ownBlock]at hk;subst hk;exact⟨hg,a9,hh⟩
theorem zpi{base:Nat}{e:zD}{v:zy}(h:w.ownsRow base e sz v n xs)(hk:∀b,v.ownBlock=za b->W.heap[b]?=w.heap[b]?):W.ownsRow base e sz v n xs:=by
 refine⟨h.1,?_⟩;rcases h.2 with h0|⟨g,cap,a9,hv,hg,hh,r⟩
 ·exact .inl h0
 ·exact .inr ⟨g,cap,a9,hv,hg,(hk g (by rw[hv];rfl)).trans hh,r⟩
theorem iw.below(h:iw B W gI n v A)(hb:zB W.heap.size W W'):iw B W' gI n v A:=
 ⟨jy h.out hb,λs hs=>jy (h.rows s hs) hb,h.apart⟩
theorem Try.zA7:(prog.info? 69).map (λi=>(i.zero,i.size,i.bytes))=za (za (zF #[zp .i64 0,zp .i64 0]),2,16):=by kernel_rfl
theorem zqb{ops:Array Oper}{rest:List Oper}{o:Oper}{a:Act}{Q:Exit->Act->zx->Prop}(S:iw B W gI n v A)(H:Nat)(hH:W.heap.size=H)(mb:o.guard=zh)(s x:Operand)
  (ho:o.op=.call {callee:=.builtin .append,args:=#[s,x],argTypes:=#[67,67]}) (i:Nat) (hi:i<n) (m:Nat) (hm:(A i).length=m) (hs:a.eval s=v i) (f c:Nat) (hx:a.eval x=zi (za ⟨H,0,zh⟩) 1 1) (hl:m<=2000000) (hB:B<=W.heap.size)
  (h:∀g cap W',W'.ownsRow B 69 2 (zi (za ⟨g,0,zh⟩) (m+1) cap) (m+1) (zl (A i++[(f,c)]))->W.grownBy W' (v i).ownBlock->((v i).ownBlock=za g\/W.heap.size<=g)->wpList prog ops Q rest (a.put o.dst (zi (za ⟨g,0,zh⟩) (m+1) cap)) W'):
  wpList prog ops Q (o::rest) a (W.alloc (zn #[zp .i64 (f:Int),zp .i64 (c:Int)] 69)):=by
 subst hH;subst hm;obtain⟨i0,fk,eQ,eR,dR⟩:=info_parts Try.zA7;have hb:zB W.heap.size W (W.alloc (zn #[zp .i64 (f:Int),zp .i64 (c:Int)] 69)):=aC;refine wpList_append_lies _ mb s x 67 ho B 69 i0 _ 2 16 underlying67 fk eQ eR dR rfl (by omega) (v i) (A i).length (zl (A i)) hs (jy (S.rows i hi) hb) ⟨W.heap.size,0,zh⟩ 1 1 [zp .i64 (f:Int),zp .i64 (c:Int)] hx rfl (World.news_of_block (aU _ _)) (by intro u hu;simp at hu;rcases hu with rfl|rfl<;>rfl) (by omega) (by unfold maxLen;omega) (by omega) (by simp;omega) (W.heap.size+1) (by simp) ?_;intro g cap W' yV iy at' _;refine h g cap W' (by rw[znS];exact yV) ?_ (at'.imp id (λe=>by omega));exact⟨iy.os.trans hb.os,iy.tape.trans hb.tape,iy.output.trans hb.output,cM hb.size iy.size,λk hk hne=>(iy.block k (by have:=hb.size;omega) hne).trans (hb.block k hk)⟩
theorem iw.app(S:iw B W gI n v A){i:Nat}(hi:i<n){g cap f c:Nat}(ho:W'.ownsRow B 69 2 (zi (za ⟨g,0,zh⟩) ((A i).length+1) cap) ((A i).length+1) (zl (A i++[(f,c)])))(hg:W.grownBy W' (v i).ownBlock)(eY:(v i).ownBlock=za g\/W.heap.size<=g):
  W'.cell? ⟨gI,i,zh⟩=za (v i)/\W'.frozen? ⟨gI,i,zh⟩=false/\iw B (W'.setCell ⟨gI,i,zh⟩ (zi (za ⟨g,0,zh⟩) ((A i).length+1) cap)) gI n (upd v i (zi (za ⟨g,0,zh⟩) ((A i).length+1) cap)) (λj=>if j=i then A i++[(f,c)] else A j):=by
 obtain⟨_,a9,hc⟩:=A0 S.out (k:=gI) rfl;have IY:W'.ownsRow B 67 1 (zi (za ⟨gI,0,zh⟩) n n) n (AX v n):=oI S.out λb cs hb=>(hg.block b (az hb) (λe=>by
  obtain⟨_,zBF,dN⟩:=A0 (S.rows i hi) e.symm;rw[hb]at dN;exact absurd (er dN) (by decide))).trans hb
 obtain⟨_,zBE,nK⟩:=A0 IY (k:=gI) rfl;have hcell:=IY.cellAt i (by omega);rw[Mj v hi]at hcell;have yD:=oK W' gI i (zi (za ⟨g,0,zh⟩) ((A i).length+1) cap);have Ll:∀(b:Nat) (cs:Array zy),W'.heap[b]?=za (zn cs 69 (0,0))->(W'.setCell ⟨gI,i,zh⟩ (zi (za ⟨g,0,zh⟩) ((A i).length+1) cap)).heap[b]?=za (zn cs 69 (0,0)):=λb cs hb=>(yD.block b (az hb) (λe=>by
  cases e
  rw[nK]at hb;exact absurd (er hb) (by decide))).trans hb
 have qz:∀j,j<n->j≠i->∀b,(v j).ownBlock=za b->b≠g:=λj hj fG b hb e=>by
  rcases eY with k|k
  ·exact S.apart j i hj hi fG b hb (by rw[k,e])
  ·obtain⟨_,zzD,Am⟩:=A0 (S.rows j hj) hb;have:=az Am;omega
 refine⟨hcell,aR _ _ i _ _ nK,?_,λj hj=>?_,λs t hs ht hst b hb=>?_⟩
 ·have:=(IY.stored i (zi (za ⟨g,0,zh⟩) ((A i).length+1) cap)).1;rw[zri]at this;exact this
 ·by_cases e:j=i
  ·subst e;rw[fN];simp only[ae];rw[show (A j++[(f,c)]).length=(A j).length+1 by simp];exact oI ho Ll
  ·rw[bW _ _ e];simp only[ab e];refine oI (zpi (S.rows j hj) λb hb=>?_) Ll;obtain⟨_,zzD,Am⟩:=A0 (S.rows j hj) hb;exact hg.block b (az Am) (λe2=>S.apart j i hj hi e b hb e2.symm)
 ·by_cases e:s=i
  ·subst e;rw[fN]at hb;simp[Value.ownBlock]at hb;subst hb;rw[bW _ _ (Ne.symm hst)];exact λhc'=>qz t ht (Ne.symm hst) _ hc' rfl
  ·rw[bW _ _ e]at hb
   by_cases e2:t=i
   ·subst e2;rw[fN];intro hc';simp[Value.ownBlock]at hc';exact qz s hs e b hb hc'.symm
   ·rw[bW _ _ e2];exact S.apart s t hs ht hst b hb
end
section
variable {d:aE}{A:Nat -> List (Nat×Nat)}{k c:Nat}
structure qk(d:aE)(A:Nat->List (Nat×Nat))(k c:Nat):Prop where
 mem:∀t x,x∈A t↔(x.1<k\/(x.1=k/\x.2<c))/\x.2∈eC d (aW d)/\bU d x.1 x.2=t
 nd:∀t,(A t).Nodup
 len:∀t,(A t).length<=k*256+c
theorem qk.start(d:aE):qk d (λ_=>[]) 0 0:=⟨λt x=>by simp,λ_=>List.nodup_nil,λ_=>bH _⟩
theorem qk.skip(h:qk d A k c)(hc:c∉eC d (aW d)):qk d A k (c+1):=by
 refine⟨λt x=>?_,h.nd,λt=>by have:=h.len t;omega⟩;rw[h.mem t x];constructor
 ·rintro ⟨a,b,e⟩;exact⟨by omega,b,e⟩
 ·rintro ⟨a,b,e⟩;refine⟨?_,b,e⟩;have:x.2≠c:=λk=>hc (k ▸ b)
  omega
theorem qk.add(h:qk d A k c)(hc:c∈eC d (aW d)){t0:Nat}(ht:bU d k c=t0):qk d (λj=>if j=t0 then A t0++[(k,c)] else A j) k (c+1):=by
 subst ht;refine⟨λt x=>?_,λt=>?_,λt=>?_⟩
 ·obtain⟨x1,x2⟩:=x
  by_cases e:t=bU d k c
  ·subst e;simp only[ae,gH,vF,Prod.mk.injEq];rw[h.mem];dsimp only;constructor
   ·rintro (⟨a,b,f⟩|⟨rfl,rfl⟩)
    ·exact⟨by omega,b,f⟩
    ·exact⟨by omega,hc,rfl⟩
   ·rintro ⟨a,b,f⟩
    by_cases g:x1=k/\x2=c
    ·exact .inr g
    ·exact .inl ⟨by omega,b,f⟩
  ·simp only[ab e];rw[h.mem];dsimp only;constructor
   ·rintro ⟨a,b,f⟩;exact⟨by omega,b,f⟩
   ·rintro ⟨a,b,f⟩;refine⟨?_,b,f⟩;have:¬(x1=k/\x2=c):=λ⟨g1,g2⟩=>e (by rw[<-f,g1,g2])
    omega
 ·by_cases e:t=bU d k c
  ·subst e;simp only[ae];rw[Gw];refine⟨h.nd _,by simp,λa ha b hb e=>?_⟩;simp at hb;subst hb;subst e;have:=(h.mem _ _).1 ha;dsimp only at this;omega
  ·simp only[ab e];exact h.nd t
 ·have h1:=h.len t;have h2:=h.len (bU d k c)
  by_cases e:t=bU d k c
  ·simp only[ae e,a6,JO];omega
  ·simp only[ab e];omega
set_option maxRecDepth 10000 in
theorem qk.row(hf:cL d){A:Nat->List (Nat×Nat)}{k:Nat}(h:qk d A k (aW d)):qk d A (k+1) 0:=by
 have hw:=hf.wd.2.2;refine⟨λt x=>?_,h.nd,λt=>by have:=h.len t;omega⟩;rw[h.mem t x];constructor
 ·rintro ⟨a,b,e⟩;exact⟨by omega,b,e⟩
 ·rintro ⟨a,b,e⟩;have:=(vx.1 b).1;exact⟨by omega,b,e⟩
def wY(d:aE)(k:Nat)(i:Nat):Bool:=(List.range k).any λj=>decide (eH d j=i)
theorem zp2(d:aE)(k:Nat):(λi=>if i=eH d k then true else wY d k i)=wY d (k+1):=by
 funext i
 unfold wY;rw[oN,List.any_append]
 by_cases e:i=eH d k
 ·subst e;simp
 ·rw[ab e];have:¬eH d k=i:=λk=>e k.symm
  simp[this]
theorem zmY(hf:cL d){i:Nat}(hi:i<aW d):wY d 256 i=true↔i∈eC d (aW d):=by
 unfold wY;rw[List.any_eq_true];constructor
 ·rintro ⟨x,hx,h⟩;have e:=of_decide_eq_true h;have mR:x<256:=by simpa using hx
  refine vx.2 ⟨hi,?_⟩;rw[<-e,<-(hf.sf mR).1,bI,bE (by have:=hf.cl;omega)];exact gy _
 ·intro h;obtain⟨ch,h1,h2⟩:=zhB hf h;exact⟨ch,by simpa using h1,by simpa using h2⟩
end
section
attribute [local go_sem] Oper.semAt_some
def zv7(n:Nat)(P:Program)(g:Nat)(encs:Nat->Array zy)(N:Nat):Prop:=
 ∀(l:Nat) (J:Nat->zx->Prop) (W:zx),
  (∀k W1,J k W1->k<N->YieldAt Fence.wide (n-1) P l (encs k) W1 λe W'=>e=.returned (.bool true)/\J (k+1) W')->
  J 0 W->CallsIn Fence.wide n P g (#[.func (.yield l) #[] #[]]++#[]) W λe W'=>(∃v,e=.returned v)/\J N W'
def zsR(B:Nat)(I:Nat->zx->Prop)(k:Nat)(W:zx):Exit->Act->zx->Prop
 |.normal,_,W'=>KeepsFrom B W W'/\I k W'
 |_,_,_=>False
theorem zhJ{n:Nat}{P:Program}{g:Operand}{ps:Array Tmp}{assign body:Code}{Q:Exit->Act->zx->Prop}{a:Act}{w:zx}(h1:1<=n)
  {gf:Nat} (hg:a.eval g=.func (.func gf) #[] #[]) (eg:∀args w,(callFunc gf args).run P w=.ok (.enter gf args) w)
  {encs:Nat->Array zy} {N:Nat} (hseq:zv7 (n-1) P gf encs N) (hps:∀k,(encs k).size=ps.size)
  (I:Nat->zx->Prop) (hI:OwnFrom w.heap.size I) (h0:I 0 w) (a₁:Nat->Act)
  (zzY:∀(l k:Nat) (W:zx) (K:Act->zx->Prop),K (a₁ k) W->
   assign.wpIn (Fence.wide.inRound l) (n-1-1) P (Exit.then K (λ_ _ _=>False)) {tmps:=(ps.zip (encs k)).foldl (λt (p,v)=>t.setIfInBounds p v) a.tmps,defers:=[]} W)
  (zz4:∀(l k:Nat) (W:zx),w.heap.size<=l->I k W->k<N->body.wpIn (Fence.wide.inRound l) (n-1-1) P (zsR w.heap.size I (k+1) W) (a₁ k) W)
  (hdone:∀(D:Nat) (W:zx),D=w.heap.size->I N W->W.heap[D]?=za (.deferred (za []))->Q .normal {a with defers:={target:=.collected D,args:=#[]} :: a.defers} W):
  (Code.rangeFunc g ps assign body).wpIn Fence.wide n P Q a w:=by
 refine wpIn_rangeFunc λfn Fu=>?_
 let rc:LoopState->Option Code->Loop:=λst pe=>{state:=st,pending:=pe,fn,tmps:=a.tmps,params:=ps,assign,body,defers:=w.heap.size}
 obtain⟨W1,bk⟩:∃W1,(w.alloc (.deferred (za []))).alloc (.loop (rc .ready zh))=W1:=⟨_,rfl⟩;have zBj:W1.heap[w.heap.size+1]?=za (.loop (rc .ready zh)):=by
  rw[<-bk];have:=World.alloc_heap_new (w.alloc (.deferred (za []))) (.loop (rc .ready zh));rwa[World.size_alloc]at this
 have zzE:W1.heap[w.heap.size]?=za (.deferred (za [])):=by rw[<-bk,Below.heap_alloc _ _ _ (by simp),World.alloc_heap_new]
 have i1:I 0 W1:=by rw[<-bk];exact hI.alloc _ (hI.alloc _ h0)
 refine⟨w.heap.size+1,[{target:=.collected w.heap.size,args:=#[]}],W1,{target:=.fn (.func gf) #[],args:=#[.func (.yield (w.heap.size+1)) #[] #[]]},W1,gf,
  #[.func (.yield (w.heap.size+1)) #[] #[]]++#[],W1,?_,?_,λ_ _=>trivial,?_,λ_=>h1,?_⟩
 ·rw[<-bk];exact run_enterLoop_outer _ _ _ _ _
 ·simp only[resolve,hg];simp[go_sem]
 ·simp[invoke,go_sem,eg]
 refine(hseq (w.heap.size+1)
  (λk W=>I k W/\W.heap[w.heap.size+1]?=za (.loop (rc .ready zh))/\W.heap[w.heap.size]?=za (.deferred (za [])))
  W1 ?_ ⟨i1,zBj,zzE⟩).mono ?_
 ·rintro k W ⟨hi,hl,hk⟩ hlen;have hlt:=(gF.1 hl).1;refine⟨fn,_,assign,body,run_yield (P:=P) (args:=encs k) hl (hps k),roundIn_of_wpIn Fu (zzY _ k W _ ⟨_,run_beginRound hl rfl,?_⟩)⟩;have busy:(W.putObj (w.heap.size+1) (.loop (rc .busy zh))).heap[w.heap.size+1]?=za (.loop (rc .busy zh)):=World.putObj_heap_same hlt;have held:(W.putObj (w.heap.size+1) (.loop (rc .busy zh))).heap[w.heap.size]?=za (.deferred (za [])):=(World.putObj_heap_other (by omega)).trans hk;refine wpIn_mono (zz4 _ k _ (by omega) (hI.putObj _ hi (by omega) hl rfl) hlen) ?_;rintro e a3 W3 hp;cases e with
  |normal=>
   obtain⟨k3,i3⟩:=hp;have l3:=k3.same _ _ (by omega) busy rfl;exact⟨_,_,run_endRound (P:=P) zh l3,rfl,hI.putObj _ i3 (by omega) l3 rfl,World.putObj_heap_same (gF.1 l3).1,(World.putObj_heap_other (by omega)).trans (k3.same _ _ (ax _) held rfl)⟩
  |ret=>exact hp.elim
  |exit id=>exact hp.elim
  |goto t=>exact hp.elim
  |panic ch=>exact hp.elim
  |outgrown=>exact hp.elim
 ·rintro e W2 ⟨⟨v,rfl⟩,hi,hl,hk⟩;exact⟨zh,_,run_endLoop (P:=P) hl (by simp[rc]),hdone _ _ rfl (hI.putObj _ hi (by omega) hl rfl) ((World.putObj_heap_other (by omega)).trans hk)⟩
def Gp(k:Nat):Array zy:=#[zp .i64 (k:Int)]
theorem zd7(n:Nat)(hn:1<=n):zv7 n prog 24 Gp 256:=by
 intro l J W hY h0;refine callsIn_of_wp func24 rfl trivial ?_ rfl;simp only[ntmps24,List.size_toArray,iG,n4,Nat.reduceAdd,Nat.reduceSub,Array.replicate_succ,Array.replicate_zero,List.push_toArray,List.append_toArray,List.nil_append,List.cons_append]
 gi_wp2
 gi_loopw [3] (λp wr=>∃k:Nat,p=zp .i64 k/\k<=256/\zw (J k wr))
  (λp _=>256-(intOf p).toNat)
 case atStart=>exact⟨0,rfl,bH _,h0⟩
 case round=>
  obtain⟨k,rfl,hk,HJ⟩:=hrel
  by_cases hlt:k<256
  ·have hi:(k:Int)<256:=by omega
   have hYw:=hY _ wr HJ.out hlt;unfold Gp at hYw;clear hY;obtain⟨fn,tmps,assign,body,hy,hR⟩:=hYw
   gi_wp2
   refine hR.mono ?_;rintro e W3 ⟨rfl,hJ3⟩;have J0:zw _:=hJ3;clear hJ3
   gi_wp2
   go_roundw
   case rel=>exact⟨k+1,by go_num,by omega,J0.out⟩
   case measure=>simp[intOf];omega
  ·have cI:k=256:=by omega
   gi_wp2
   go_end0
   have hq:=HJ.out;rw[cI]at hq;exact⟨⟨_,rfl⟩,hq⟩
end
theorem zpg{β:Type}{I:β->zx->Prop}(h:∀s W W',I s W->(∀(b:Nat) (cs:Array zy) (t:zD),W.heap[b]?=za (zn cs t (0,0))->W'.heap[b]?=za (zn cs t (0,0)))->W.heap.size<=W'.heap.size->I s W'):Own I:=λs X Y row hs hg ff=>
 h s X Y hs (λb cs t hb=>(hg.block b (gF.1 hb).1 (λe'=>by obtain⟨o,ho,hc⟩:=ff b e'.symm;rw[hb]at ho;cases ho;cases hc)).trans hb) hg.size
theorem zg0{β:Type}(b:Nat)(c:β->Array zy)(t:zD):Own (λs W=>W.heap[b]?=za (zn (c s) t (0,0))):=zpg λ_ _ _ h k _=>k _ _ _ h
def zty(D:Nat):Deferred:={target:=.collected D,args:=#[]}
theorem zfX{n:Nat}{P:Program}{fn:Func}{tmps:Array zy}{R:Ending->zx->Prop}:∀(Ds:List Nat) (W:zx),Ds.Nodup->(∀D∈Ds,W.heap[D]?=za (.deferred (za [])))->
  (∀W',(∀k,k∉Ds->W'.heap[k]?=W.heap[k]?)->W'.heap.size=W.heap.size->W'.os=W.os->W'.tape=W.tape->W'.output=W.output->LeavesInM Fence.wide n P fn tmps R [] .returning W')->
  LeavesInM Fence.wide n P fn tmps R (Ds.map zty) .returning W
 |[],W,_,_,h=>h W (λ_ _=>rfl) rfl rfl rfl rfl
 |D::Ds,W,oD,hd,h=>by
  have h1:=hd D (by simp);refine⟨by simp,.inl ⟨D,_,rfl,run_takeDeferred h1,?_⟩⟩;have hn:=List.nodup_cons.1 oD;refine zfX Ds _ hn.2 (λD' hD'=>?_) (λW' hk hsz ho ht hu=>h W' (λk k7=>?_) (hsz.trans (by simp)) (ho.trans rfl) (ht.trans rfl) (hu.trans rfl))
  ·exact(World.putObj_heap_other (λe:D'=D=>hn.1 (e ▸ hD'))).trans (hd D' (by simp[hD']))
  ·rw[hk k (λe=>k7 (by simp[e])),World.putObj_heap_other (λe:k=D=>k7 (by simp[e]))]
section
variable {A:Nat -> List (Nat×Nat)}{B gI n:Nat}{W W':zx}{v:Nat -> zy}
attribute [local go_sem] Oper.semAt_some
theorem Try.zBv(w:zx):(zeroValue 96).run prog w=.ok (zF (gu 256 λ_=>false)) w:=by
 simp[zeroValue,typeInfo]
 kernel_rfl
theorem Try.zA8:(prog.info? 67).map (λi=>(i.zero,i.size,i.bytes))=za (za (zi zh 0 0),1,24):=by kernel_rfl
def xX(W W':zx):Prop:=∀(b:Nat) (o:Obj),W.heap[b]?=za o->(∀cs,o≠zn cs 69 (0,0))->(∀cs,o≠zn cs 67 (0,0))->W'.heap[b]?=za o
theorem xX.refl(W:zx):xX W W:=λ_ _ h _ _=>h
theorem xX.trans{A B C:zx}(h:xX A B)(k:xX B C):xX A C:=λb o hb h1 h2=>k b o (h b o hb h1 h2) h1 h2
theorem iw.kept(S:iw B W gI n v A){i:Nat}(hi:i<n)(hg:W.grownBy W' (v i).ownBlock)(u:zy):xX W (W'.setCell ⟨gI,i,zh⟩ u):=λb o hb h1 h2=>by
 have hlt:=(gF.1 hb).1;have aP:W'.heap[b]?=za o:=(hg.block b hlt (λe=>by
  obtain⟨_,a9,hc⟩:=A0 (S.rows i hi) e.symm;rw[hc]at hb;exact h1 a9 (Option.some.inj hb).symm)).trans hb
 refine(cS _ _ _ _ (λe=>?_)).trans aP;have e2:b=gI:=e;obtain⟨_,a9,hc⟩:=A0 S.out (k:=gI) rfl;rw[e2,hc]at hb;exact h2 a9 (Option.some.inj hb).symm
theorem iw.lower{w:zx}(S:iw B W gI n v A)(hB:B<=W.heap.size){i:Nat}(hi:i<n)(hg:W.grownBy W' (v i).ownBlock)(u:zy)(h:zB B w W):zB B w (W'.setCell ⟨gI,i,zh⟩ u):=
 (h.grown hg hB (λ_ hb=>(A0 (S.rows i hi) hb).1)).setCell (p:=⟨gI,i,zh⟩) (A0 S.out (k:=gI) rfl).1 u
theorem zky{sz:Nat}{e:zD}{v:zy}{xs:List zy}(h:W.ownsRow B e sz v n xs):∃p:Option Addr×Nat,v=.slice p.1 n p.2:=by
 rcases h.2 with ⟨rfl,h0⟩|⟨g,cap,_,rfl,_⟩
 ·exact⟨(zh,0),by rw[h0]⟩
 ·exact⟨(za ⟨g,0,zh⟩,cap),rfl⟩
theorem iw.cells(S:iw B W gI n v A)(h:∀(b:Nat) (cs:Array zy) (t:zD),W.heap[b]?=za (zn cs t (0,0))->W'.heap[b]?=za (zn cs t (0,0))):iw B W' gI n v A:=
 ⟨oI S.out λb cs hb=>h b cs _ hb,λs hs=>oI (S.rows s hs) λb cs hb=>h b cs _ hb,S.apart⟩
theorem iw.start(h:W.ownsRow B 67 1 (zi (za ⟨gI,0,zh⟩) n n) n (AX (λ_=>zi zh 0 0) n)):iw B W gI n (λ_=>zi zh 0 0) (λ_=>[]):=
 ⟨h,λ_ _=>⟨rfl,.inl ⟨rfl,rfl⟩⟩,λ_ _ _ _ _ b hb=>by simp[Value.ownBlock]at hb⟩
theorem zo1(n:Nat):(madeCells (Value.slice zh 0 0).cells (n*1)).toList=AX (λ_=>zi zh 0 0) n:=by
 apply tz
 intro i
 by_cases h:i<n
 ·rw[Mj _ h];simp[madeCells,Value.cells,Nat.mod_one,h]
 ·rw[qR (by simp[madeCells];omega),qR (by simp[AX];omega)]
def ArR(w:zx)(d:aE)(e:Ending)(w':zx):Prop:=∃(gI:Nat) (v:Nat->zy) (A:Nat->List (Nat×Nat)),e=.returned (zi (za ⟨gI,0,zh⟩) d.tag.length d.tag.length)/\iw w.heap.size w' gI d.tag.length v A/\qk d A d.tag.length 0/\zB w.heap.size w w'
theorem zn8(cv nv tv ev:zy)(d:aE)(w:zx)(hs:dk 0 w cv nv tv ev d)(hf:cL d):
  Calls prog 33 #[zF #[cv,zp .i64 d.width,nv,tv,ev]] w (ArR w d):=by
 have hzm:=Try.zBv;obtain⟨iA,hjA,zA4,zA5,zA6⟩:=info_parts Try.zA8;obtain⟨⟨ca,cc,rfl,cm,cx⟩,⟨na,nc,rfl,nm,nx⟩,⟨ta,tc,rfl,tm,tx⟩,⟨ea,ec,rfl,em,ex⟩⟩:=hs;have jG:=hf.n1;have fc:=hf.n2;obtain⟨cb,co,rfl,_,cl,cq⟩:=cx (by have:=hf.cl;omega);obtain⟨nb,no,rfl,_,nl,nq⟩:=nx (by have:=hf.wd;have:=hf.uh (s:=0) (c:=0) (by omega) (by omega);omega);obtain⟨WD,K8⟩:∃WD,w.alloc (zn #[zi (za ⟨cb,co,zh⟩) d.aD.length cc,zp .i64 d.width,zi (za ⟨nb,no,zh⟩) d.next.length nc,.slice ta d.tag.length tc,.slice ea d.fin.length ec] 25)=WD:=⟨_,rfl⟩;have Fj:WD.heap.size=w.heap.size+1:=by rw[<-K8];simp
 have xD:WD.heap[w.heap.size]?=za (zn #[zi (za ⟨cb,co,zh⟩) d.aD.length cc,zp .i64 d.width,zi (za ⟨nb,no,zh⟩) d.next.length nc,.slice ta d.tag.length tc,.slice ea d.fin.length ec] 25 (0,0)):=by rw[<-K8];exact aU _ _
 have bD:zB w.heap.size w WD:=by rw[<-K8];exact aC
 have zxV:(storeCells ⟨w.heap.size+1,0,zh⟩ (gu 256 λ_=>false).toList).run prog (WD.alloc (zn (gu 256 λ_=>false) 96))=.ok () (WD.alloc (zn (gu 256 λ_=>false) 96)):=by
  have:=run_storeCells_new (P:=prog) WD 96 (gu 256 λ_=>false) (gu 256 λ_=>false) (by kernel_rfl) rfl (by kernel_rfl);rw[Fj]at this
  simpa using this
 refine(callsIn_wide (n:=5)).1 ?_;refine callsIn_of_wp_marks func33 rfl trivial ?_ rfl;simp only[ntmps33,List.size_toArray,iG,n4,Nat.reduceAdd,Nat.reduceSub,Array.replicate_succ,Array.replicate_zero,List.push_toArray,List.append_toArray,List.nil_append,List.cons_append]
 gi_wp2
 rename_i K hK
 have bM:zB WD.heap.size WD (WD.alloc (zn (gu 256 λ_=>false) 96)):=aC;have hsz:(WD.alloc (zn (gu 256 λ_=>false) 96)).heap.size=w.heap.size+2:=by simp;omega
 have xM:(WD.alloc (zn (gu 256 λ_=>false) 96)).heap[w.heap.size+1]?=za (zn (gu 256 (wY d 0)) 96 (0,0)):=by rw[<-Fj];exact aU _ _
 refine zhJ (encs:=Gp) (N:=256) (gf:=24)
  (I:=λk W=>W.heap[w.heap.size]?=za (zn #[zi (za ⟨cb,co,zh⟩) d.aD.length cc,zp .i64 d.width,zi (za ⟨nb,no,zh⟩) d.next.length nc,.slice ta d.tag.length tc,.slice ea d.fin.length ec] 25 (0,0))/\W.heap[w.heap.size+1]?=za (zn (gu 256 (wY d k)) 96 (0,0))/\zB w.heap.size w W)
  (a₁:=λk=>{tmps:=#[zF #[zi (za ⟨cb,co,zh⟩) d.aD.length cc,zp .i64 d.width,zi (za ⟨nb,no,zh⟩) d.next.length nc,.slice ta d.tag.length tc,.slice ea d.fin.length ec],zG (za ⟨w.heap.size,0,zh⟩),zi zh 0 0,zG (za ⟨w.heap.size+1,0,zh⟩),zp .i64 (k:Int),undef,undef,undef,undef,zF (gu 256 λ_=>false),zp .i64 (k:Int),undef,undef,undef,undef,undef,undef,undef,undef,undef,undef,undef,undef,undef,undef,undef,undef,undef,undef,undef,undef,undef,undef,undef,undef,undef,undef,undef,undef,undef,undef,undef,undef,undef,undef,undef,undef,undef,undef,undef,undef,undef,undef,undef,undef,undef,undef,undef,undef,undef],defers:=[]})
  ?h1 ?hg ?eg ?hseq ?hps ?hI ?h0 ?assign ?body ?done
 case h1=>omega
 case hg=>rfl
 case eg=>exact enters_of func24 (by kernel_rfl) rfl
 case hseq=>exact zd7 4 (by omega)
 case hps=>exact λ_=>rfl
 case hI=>exact OwnFrom.and (Own.from (zg0 _ _ _) _) (OwnFrom.and (Own.from (zg0 _ (λk=>gu 256 (wY d k)) _) _) (ownFrom_below (ax _) (by omega)))
 case h0=>exact⟨aY xD bM,xM,bD.trans (bM.mono bD.size)⟩
 case assign=>
  intro l k W K hK;unfold Gp
  gi_wp2
  exact hK
 case body=>
  rintro l k W hl ⟨h1,h2,h3⟩ hk;obtain⟨q0,q1,q2,q3,q4⟩:=bL h1;have hcc:=hf.sf hk;have yC:=hcc.2;have c1:W.cell? ⟨cb,co+k,zh⟩=za (zp .i64 (eH d k:Int)):=by rw[h3.cell (p:=⟨cb,co+k,zh⟩) cl,cq k (by have:=hf.cl;omega),hcc.1]
  have c2:W.cell? ⟨w.heap.size+1,eH d k,zh⟩=za (.bool (wY d k (eH d k))):=by rw[dt _ _ _ _ _ _ h2,Gb _ _ (by have:=hf.wd;omega)]
  have f2:=aR _ _ (eH d k) _ _ h2;have rB:=dx W (w.heap.size+1) (eH d k) _ _ (.bool true) h2;rw[TK,zp2]at rB;have HN:zw _:=rB;have H1:zw _:=h1;have cG:(k:Int)<(d.aD.length:Int):=by have:=hf.cl;omega
  have fA:((eH d k:Nat):Int)<256:=by have:=hf.wd;omega
  clear rB h1 h2 hcc hzm zxV cq nq hK;generalize hcN:eH d k=c at *
  gi_wp2
  refine⟨(KeepsOthers.setCell _ _ _).from _,(cS _ _ _ _ (by simp)).trans H1.out,HN.out,h3.setCell (p:=⟨w.heap.size+1,c,zh⟩) (by simp) _⟩
 case done=>
  rintro D W KG ⟨h1,h2,h3⟩ hD;have hDw:w.heap.size<=D:=by omega
  clear KG;refine hK _ _ (wpIn_wide.2 ?_);dsimp only;have Zo:=h3.size;obtain⟨q0,q1,q2,q3,q4⟩:=bL h1;have HF:zw (cL d):=hf;have H1:zw _:=h1;have H2:zw _:=h2;have H3:zw _:=h3;have HD:zw _:=hD;clear h1 h2 h3 hD hf hzm zxV hK xD bD bM xM K8 Fj hsz WD
  go_wp2_with (refine wpList_make_full _ rfl _ _ 59 rfl w.heap.size 67 iA _ 1 underlying59 hjA zA4 zA5 _ _ _ _ d.tag.length rfl rfl rfl rfl (by rw[zA6];omega) (by unfold maxLen;omega) Zo ?_;intro w1 rz Au;have aP:zB W.heap.size W w1:=(Below.refl _ _).grown Au (ax _) (by intro k h;cases h);obtain⟨r0,r1,r2,r3,r4⟩:=bL (aY H1.out aP))
  rw[zo1]at rz;have fj:zw _:=iw.start rz;have B1:=aY H1.out aP;have B2:=aY H2.out aP;have BD:w1.heap[D]?=za (.deferred (za [])):=(aP.block D (gF.1 HD.out).1).trans HD.out;have eE:zw (zB w.heap.size w w1):=H3.out.trans (aP.mono Zo);have DA:=eE.out.size;have HQ:zw (∀W',xX w1 W'->W'.heap[w.heap.size]?=za (zn #[zi (za ⟨cb,co,zh⟩) d.aD.length cc,zp .i64 d.width,zi (za ⟨nb,no,zh⟩) d.next.length nc,.slice ta d.tag.length tc,.slice ea d.fin.length ec] 25 (0,0))/\W'.heap[w.heap.size+1]?=za (zn (gu 256 (wY d 256)) 96 (0,0))/\W'.heap[D]?=za (.deferred (za []))):=λW' k=>
   ⟨k _ _ B1 (λcs e=>absurd (er (congrArg za e)) (by decide)) (λcs e=>absurd (er (congrArg za e)) (by decide)),k _ _ B2 (λcs e=>absurd (er (congrArg za e)) (by decide)) (λcs e=>absurd (er (congrArg za e)) (by decide)),k _ _ BD (λcs e=>by cases e) (λcs e=>by cases e)⟩
  have Hnq:zw (∀i:Nat,i<d.next.length->w.cell? ⟨nb,no+i,zh⟩=za (zp .i64 (d.next.getD i 0))):=nq;clear rz Au B1 B2 BD H1 H2 HD q0 q1 q2 q3 q4 r0 r1 r2 r3 r4 aP nq cq
  go_loopw [24] (λi wr=>∃(k:Nat) (v:Nat->zy) (A:Nat->List (Nat×Nat)),k<=d.tag.length/\i=zp .i64 k/\zw (iw w.heap.size wr W.heap.size d.tag.length v A)/\zw (qk d A k 0)/\zw (xX w1 wr)/\zw (zB w.heap.size w wr))
   (λi _=>d.tag.length-(intOf i).toNat)
  case atStart=>exact⟨0,_,_,bH _,rfl,fj.out,qk.start d,xX.refl _,eE.out⟩
  case round=>
   clear fj;obtain⟨k,v,A,hk,rfl,HS,HI,HK,HB⟩:=hrel
   by_cases bJ:k<d.tag.length
   ·obtain⟨q0,q1,q2,q3,q4⟩:=bL (HQ.out wr HK.out).1;have cG:(k:Int)<(d.tag.length:Int):=by omega
    go_wp2;clear q0 q1 q2 q3 q4
    go_loopw [29] (λi wr=>∃(c:Nat) (v:Nat->zy) (A:Nat->List (Nat×Nat)),c<=aW d/\i=zp .i64 c/\zw (iw w.heap.size wr W.heap.size d.tag.length v A)/\zw (qk d A k c)/\zw (xX w1 wr)/\zw (zB w.heap.size w wr))
     (λi _=>aW d-(intOf i).toNat)
    case atStart=>exact⟨0,v,A,bH _,rfl,HS,HI,HK,HB⟩
    case round=>
     clear HS HI HK HB;obtain⟨c,v,A,hc,rfl,HS,HI,HK,HB⟩:=hrel;have hwd:=HF.out.wd;have kJ:=hwd.2.2
     by_cases dN:c<aW d
     ·obtain⟨hX1,hX2,Sn⟩:=HQ.out wr HK.out;obtain⟨q0,q1,q2,q3,q4⟩:=bL hX1;have u1:wr.cell? ⟨w.heap.size+1,c,zh⟩=za (.bool (wY d 256 c)):=by rw[dt _ _ _ _ _ _ hX2,Gb _ _ (by omega)]
      have fA:(c:Int)<d.width:=by rw[hwd.1];omega
      have oy:(c:Int)<256:=by omega
      clear hX1 hX2 Sn
      by_cases hu:wY d 256 c=true
      ·have Lg:=(zmY HF.out dN).1 hu;have iD:=HF.out.nx bJ dN;have AJ:=iD.2;have Lk:=HF.out.uh bJ dN;have hmul:k*aW d<=4000*256:=nt (by omega) kJ;have c2:=(HB.out.cell (p:=⟨nb,no+(k*aW d+c),zh⟩) nl).trans (Hnq.out _ Lk);rw[iD.1]at c2;have rq:((k:Int)*d.width+(c:Int))=((k*aW d+c:Nat):Int):=by rw[hwd.1];simp
       have Dp:(0:Int)<=(k:Int)*d.width:=by rw[hwd.1];exact Bd (by omega) (by omega)
       have pR:(k:Int)*d.width<=1024000:=by
        rw[hwd.1];have:((k*aW d:Nat):Int)<=((4000*256:Nat):Int):=by exact_mod_cast hmul
        simpa using this
       have e8:(k:Int)*d.width+(c:Int)<(d.next.length:Int):=by rw[rq];exact_mod_cast Lk
       have zx2:((k:Int)*d.width+(c:Int)).toNat=k*aW d+c:=by rw[rq];exact uA _
       rw[<-zx2]at c2;have gz:0<=(k:Int)*d.width+(c:Int):=by omega
       have pZ:(k:Int)*d.width+(c:Int)<=2000000:=by omega
       have BN:=HI.out.len (bU d k c);have HA:zw _:=HI.out.add Lg rfl;generalize bU d k c=t at *;obtain⟨⟨pa,pc⟩,hv⟩:=zky (HS.out.rows t AJ);have o1:=HS.out.out.cellAt t (by omega);rw[Mj v AJ,hv]at o1;have S8:=HB.out.size;have Hv:zw _:=hv;have Dn:(t:Int)<(d.tag.length:Int):=by omega
       have Xj:(A t).length<=2000000:=by omega
       clear zx2 rq Lk hmul iD hv hwd BN;obtain⟨P,hP⟩:∃P,(k:Int)*d.width=P:=⟨_,rfl⟩;rw[hP]at Dp pR e8 c2 gz pZ;have HX:zw (∀g cap W',W'.ownsRow w.heap.size 69 2 (zi (za ⟨g,0,zh⟩) ((A t).length+1) cap) ((A t).length+1) (zl (A t++[(k,c)]))->wr.grownBy W' (v t).ownBlock->((v t).ownBlock=za g\/wr.heap.size<=g)->
         W'.cell? ⟨W.heap.size,t,zh⟩=za (.slice pa (A t).length pc)/\W'.frozen? ⟨W.heap.size,t,zh⟩=false/\zw (iw w.heap.size (W'.setCell ⟨W.heap.size,t,zh⟩ (zi (za ⟨g,0,zh⟩) ((A t).length+1) cap)) W.heap.size d.tag.length (upd v t (zi (za ⟨g,0,zh⟩) ((A t).length+1) cap)) (λj=>if j=t then A t++[(k,c)] else A j)/\xX w1 (W'.setCell ⟨W.heap.size,t,zh⟩ (zi (za ⟨g,0,zh⟩) ((A t).length+1) cap))/\zB w.heap.size w (W'.setCell ⟨W.heap.size,t,zh⟩ (zi (za ⟨g,0,zh⟩) ((A t).length+1) cap)))):=λg cap W' ho hg eY=>by
        obtain⟨a1,a2,a3⟩:=HS.out.app AJ ho hg eY;rw[Hv.out]at a1;exact⟨a1,a2,a3,HK.out.trans (HS.out.kept AJ hg _),HS.out.lower S8 AJ hg _ HB.out⟩
       generalize R3:(A t).length=m at *
       go_wp2_with (at_builtin;refine zqb HS.out _ rfl rfl (.tmp 50) (.tmp 54) rfl t AJ m R3 (by exact Hv.out.symm) k c rfl Xj S8 ?_;intro g' cap' w5 ho5 dF Ah;obtain⟨b1,b2,HY⟩:=HX.out g' cap' w5 ho5 dF Ah;clear ho5 dF Ah)
       go_roundw
       case rel=>exact⟨c+1,_,_,by omega,by go_num,HY.out.1,HA.out,HY.out.2.1,HY.out.2.2⟩
       case measure=>simp[intOf];omega
      ·have Lg:c∉eC d (aW d):=λh=>hu ((zmY HF.out dN).2 h)
       have hub:wY d 256 c=false:=by simpa using hu
       rw[hub]at u1;have HA:zw _:=HI.out.skip Lg;clear hwd hu;go_wp2
       go_roundw
       case rel=>exact⟨c+1,v,A,by omega,by go_num,HS,HA,HK,HB⟩
       case measure=>simp[intOf];omega
     ·have hcc:c=aW d:=by omega
      have fA:¬(c:Int)<d.width:=by rw[hwd.1];omega
      have HA:zw (qk d A (k+1) 0):=by
       have:=HI.out;rw[hcc]at this;exact this.row HF.out
      clear hwd hcc;go_wp2
      go_roundw
      case rel=>exact⟨k+1,v,A,by omega,by go_num,HS,HA,HK,HB⟩
      case measure=>simp[intOf];omega
   ·have cI:k=d.tag.length:=by omega
    have fA:¬(k:Int)<(d.tag.length:Int):=by omega
    have Sn:=(HQ.out wr HK.out).2.2;have HA:zw (qk d A d.tag.length 0):=by rw[<-cI];exact HI.out
    clear cI;go_wp2;have hcell:∀(b:Nat) (cs:Array zy) (t:zD),wr.heap[b]?=za (zn cs t (0,0))->(wr.putObj D (.deferred zh)).heap[b]?=za (zn cs t (0,0)):=λb cs t hb=>(World.putObj_heap_other (λe:b=D=>by rw[e,Sn]at hb;cases hb)).trans hb
    refine⟨by simp,.inl ⟨_,_,rfl,run_takeDeferred Sn,?_⟩⟩;exact⟨zi (za ⟨W.heap.size,0,zh⟩) d.tag.length d.tag.length,by simp[results,results33,go_sem],W.heap.size,v,A,rfl,HS.out.cells hcell,HA.out,HB.out.grown (grownBy_putObj' _ D _) HB.out.size (λq e=>by cases e;exact hDw)⟩
end
section
attribute [local go_sem ↓] wp_at_zero wp_at_succ
section
variable {g n:Nat}
theorem zkB{w:zx}{base:Nat}{e:zD}{sz:Nat}{xs:List zy}(h:w.ownsRow base e sz (zi (za ⟨g,0,zh⟩) n n) n xs):w.heap[g]?=za (zn xs.toArray e (0,0)):=by
 rcases h.2 with ⟨h,_⟩|⟨g',cap,cr,h,_,ff,_,_,hsz,jH⟩
 ·cases h
 ·cases h
  rw[ff]
  congr 2
  apply Array.ext'
  rw[tj (by simp[hsz])]at jH;rw[jH]
theorem Try.zzx(a b:Int)(w:zx):(Instr.build 72 #[(1,.int .u64 a),(2,.int .u64 b)]).run prog w=.ok (zF #[.int .u64 0,.int .u64 a,.int .u64 b,.int .u64 0,.int .u64 0]) w:=run_build w 72 _ _ (by kernel_rfl)
attribute [local go_sem] Try.zzx
def CY(d:aE)(s:Nat):Tr:=(0,(d.tag.getD s 0+1).toNat,(d.fin.getD s 0+1).toNat,0,0)
def wW(n k:Nat):List Nat:=(List.range n).map λj=>if j<k then j else 0
theorem zrt(n:Nat):wW n 0=List.replicate n 0:=by
 apply tz
 intro i
 by_cases h:i<n
 ·simp[wW,h]
 ·simp[wW,h]
theorem zsW(n:Nat):wW n n=List.range n:=by
 apply tz
 intro i
 by_cases h:i<n
 ·simp[wW,h]
 ·simp[wW,h]
theorem zsX{k:Nat}(hk:k<n):(wW n k).set k k=wW n (k+1):=by
 apply tz
 intro i;rw[List.getElem?_set]
 by_cases h:i<n
 ·by_cases e:k=i
  ·subst e;simp[wW,h]
  ·rw[ab e];simp only[wW,vE,List.getElem?_range h,qS]
   congr 1
   by_cases h2:i<k
   ·rw[ae h2,ae (by omega)]
   ·rw[ab h2,ab (by omega)]
 ·by_cases e:k=i
  ·omega
  ·rw[ab e];simp[wW,h]
def vq(d:aE)(k:Nat):Nat->Tr:=λs=>if s<k then CY d s else kz
theorem ztb(d:aE)(k:Nat):B8 (vq d k) k (CY d k)=vq d (k+1):=by
 funext j
 unfold B8 vq
 by_cases e:j=k
 ·subst e;rw[ae rfl,ae (by omega)]
 ·rw[ab e]
  by_cases h:j<k
  ·rw[ae h,ae (by omega)]
  ·rw[ab h,ab (by omega)]
theorem zqU(l:List Nat):(aO l).map mU=iY l:=by simp[aO,iY,mU]
theorem zmJ{B c:Nat}{W:zx}{l:List Nat}(h:W.ownsRow B 3 1 (zi (za ⟨g,0,zh⟩) n c) n (iY l))(hl:l.length=n):dQ B W (zi (za ⟨g,0,zh⟩) n c) (aO l):=by
 unfold dQ;rw[zqU,cW,hl];exact h
def v3(gO gW gS n:Nat):Nat->zy:=λi=>if i=0 then zi (za ⟨gO,0,zh⟩) n n else if i=1 then zi (za ⟨gW,0,zh⟩) 1 1 else zi (za ⟨gS,0,zh⟩) n n
def l3(n:Nat):Nat->List Int:=λi=>if i=0 then aO (List.replicate n 0) else if i=1 then aO [0] else aO (List.range n)
theorem dE.start{gt:Nat}{w5:zx}{gO gS:Nat}(hO:w5.ownsRow (gt+1) 3 1 (zi (za ⟨gO,0,zh⟩) n n) n (iY (List.replicate n 0)))(hS:w5.ownsRow (gt+1) 3 1 (zi (za ⟨gS,0,zh⟩) n n) n (iY (List.range n)))(hne:gO≠gS)(hs:gt+1<=w5.heap.size):
  dE gt (((w5.alloc (zn #[zi (za ⟨gS,0,zh⟩) n n] 23)).alloc (zn #[zp .i64 0] 3)).alloc (zn #[zi (za ⟨gO,0,zh⟩) n n,zi (za ⟨w5.heap.size,0,zh⟩) 1 1,zi (za ⟨w5.heap.size+1,0,zh⟩) 1 1] 66)) (w5.heap.size+1+1) (zi (za ⟨w5.heap.size,0,zh⟩) 1 1) 1 (λ_=>2) (v3 gO (w5.heap.size+1) gS n) (l3 n) 3 (List.replicate n 0) [0] (λ_=>List.range n):=by
 have aP:zB w5.heap.size w5 (w5.alloc (zn #[zi (za ⟨gS,0,zh⟩) n n] 23)):=aC;have e1:(w5.alloc (zn #[zi (za ⟨gS,0,zh⟩) n n] 23)).heap.size=w5.heap.size+1:=by simp
 have n1:=aU w5 (zn #[zi (za ⟨gS,0,zh⟩) n n] 23);generalize w5.alloc (zn #[zi (za ⟨gS,0,zh⟩) n n] 23)=A1 at *;have aL:zB A1.heap.size A1 (A1.alloc (zn #[zp .i64 0] 3)):=aC;have e2:(A1.alloc (zn #[zp .i64 0] 3)).heap.size=w5.heap.size+1+1:=by simp[e1]
 have n2:=aU A1 (zn #[zp .i64 0] 3);rw[e1]at n2;generalize A1.alloc (zn #[zp .i64 0] 3)=A2 at *;have cN:zB A2.heap.size A2 (A2.alloc (zn #[zi (za ⟨gO,0,zh⟩) n n,zi (za ⟨w5.heap.size,0,zh⟩) 1 1,zi (za ⟨w5.heap.size+1,0,zh⟩) 1 1] 66)):=aC;have n3:=aU A2 (zn #[zi (za ⟨gO,0,zh⟩) n n,zi (za ⟨w5.heap.size,0,zh⟩) 1 1,zi (za ⟨w5.heap.size+1,0,zh⟩) 1 1] 66);rw[e2]at n3;generalize A2.alloc (zn #[zi (za ⟨gO,0,zh⟩) n n,zi (za ⟨w5.heap.size,0,zh⟩) 1 1,zi (za ⟨w5.heap.size+1,0,zh⟩) 1 1] 66)=A3 at *;have h1:=aY (aY n1 aL) cN;have h2:=aY n2 cN;have hO3:=jy (jy (jy hO aP) aL) cN;have hS3:=jy (jy (jy hS aP) aL) cN;have lO:=uw hO;have lS:=uw hS;refine⟨⟨λi hi=>?_,λi j hi hj OG b qw=>?_⟩,by omega,n3,by omega,?_,λ_ _=>⟨by omega,by omega⟩,rfl,rfl,λ_ _=>rfl⟩
 ·match i,hi with
  |0,_=>exact zmJ hO3 (by simp)
  |1,_=>exact UA h2 (by omega)
  |2,_=>exact zmJ hS3 (by simp)
 ·match i,hi,j,hj with
  |0,_,0,_=>omega
  |0,_,1,_=>simp[v3,Value.ownBlock]at qw ⊢;omega
  |0,_,2,_=>simp[v3,Value.ownBlock]at qw ⊢;omega
  |1,_,0,_=>simp[v3,Value.ownBlock]at qw ⊢;omega
  |1,_,1,_=>omega
  |1,_,2,_=>simp[v3,Value.ownBlock]at qw ⊢;omega
  |2,_,0,_=>simp[v3,Value.ownBlock]at qw ⊢;omega
  |2,_,1,_=>simp[v3,Value.ownBlock]at qw ⊢;omega
  |2,_,2,_=>omega
 ·exact⟨rfl,.inr ⟨w5.heap.size,1,_,rfl,hs,h1,ax _,by unfold maxLen;omega,rfl,rfl⟩⟩
theorem oU.start(hn:0<n):oU n 1 (List.replicate n 0) [0] (λ_=>List.range n):=by
 have h0:∀s,s<n->(List.replicate n 0).getD s 0=0:=λs hs=>by simp[List.getD,hs]
 refine⟨by simp,λs hs=>by rw[h0 s hs];omega,λx hx s=>?_,λ_ _=>List.nodup_range,λ_ _=>by simpa using hn,λb hb=>by simp at hb;omega⟩;rw[mB];exact⟨λh=>⟨h,by rw[h0 s h];omega⟩,λh=>h.1⟩
def PaR(w:zx)(d:aE)(e:Ending)(w':zx):Prop:=
 ∃(p g' c' m':Nat) (mi':Nat->Nat) (v':Nat->zy) (l':Nat->List Int) (N':Nat) (o' wk':List Nat) (B5:Nat->List Nat),e=.returned (zG (za ⟨p,0,zh⟩))/\dE w.heap.size w' p (zi (za ⟨g',0,zh⟩) m' c') m' mi' v' l' N' o' wk' B5/\oU d.tag.length m' o' wk' B5/\
  (∀s t,s<d.tag.length->t<d.tag.length->(o'.getD s 0=o'.getD t 0↔au d s=au d t))/\(∀s,s<d.tag.length->o'.getD s 0∈wk')/\wk'.length=m'/\zB w.heap.size w w'
theorem znw{d:aE}(hf:cL d){s t:Nat}(hs:s<d.tag.length)(ht:t<d.tag.length):(∀g∈(List.range (de (List.replicate d.tag.length 0) (vq d d.tag.length) (List.range d.tag.length)).length).map (ik (List.replicate d.tag.length 0) (vq d d.tag.length) (List.range d.tag.length)),(s∈g↔t∈g))↔au d s=au d t:=by
 have hk:∀x,x<d.tag.length->fP (List.replicate d.tag.length 0) (vq d d.tag.length) x=CY d x:=λx hx=>by
  unfold fP vq;rw[ae hx];simp[CY,List.getD,hx]
 have bJ:CY d s=CY d t↔au d s=au d t:=by
  have s1:=xf hf.ts (k:=s) (by omega);have s2:=xf hf.es (k:=s) (by have:=hf.fl;omega);have t1:=xf hf.ts (k:=t) (by omega);have t2:=xf hf.es (k:=t) (by have:=hf.fl;omega);unfold CY au;simp only[Prod.mk.injEq,true_and,and_true];constructor
  ·rintro ⟨a,b⟩;exact⟨by omega,by omega⟩
  ·rintro ⟨a,b⟩;exact⟨by rw[a],by rw[b]⟩
 rw[<-bJ,<-hk s hs,<-hk t ht];constructor
 ·intro h;have hm:fP (List.replicate d.tag.length 0) (vq d d.tag.length) s∈de (List.replicate d.tag.length 0) (vq d d.tag.length) (List.range d.tag.length):=TU.2 ⟨s,by simpa using hs,rfl⟩;have:=(h _ (rS.2 ⟨eT _ _,by simpa using zc.2 hm,rfl⟩)).1 (by unfold ik;rw[PI hm];exact sS.2 ⟨by simpa using hs,rfl⟩);unfold ik at this;rw[PI hm]at this;exact(sS.1 this).2.symm
 ·intro h g hg;obtain⟨j,_,rfl⟩:=rS.1 hg;unfold ik;rw[sS,sS,h];simp[hs,ht]
theorem zpk(cv nv tv ev:zy)(d:aE)(w:zx)(hs:dk 0 w cv nv tv ev d)(hf:cL d):
  Calls prog 34 #[zF #[cv,zp .i64 d.width,nv,tv,ev]] w (PaR w d):=by
 have du:prog.follows .mixedOrders=true:=by kernel_rfl
 obtain⟨i0,hi,eQ,eR,dR⟩:=info_parts Try.wP;obtain⟨iT,FB,FT,FU,FV⟩:=info_parts Try.zyf;have jG:=hf.n1;have fc:=hf.n2;obtain⟨⟨ca,cc,rfl,cm,cx⟩,⟨na,nc,rfl,nm,nx⟩,⟨ta,tc,rfl,tm,tx⟩,⟨ea,ec,rfl,em,ex⟩⟩:=hs;obtain⟨tb,jY,rfl,_,tl,tq⟩:=tx (by omega);obtain⟨eb,jS,rfl,_,el,eq⟩:=ex (by have:=hf.fl;omega);generalize Value.slice ca d.aD.length cc=cv at *;generalize Value.slice na d.next.length nc=nv at *;obtain⟨W0,ay⟩:∃W0,w.alloc (zn #[cv,zp .i64 d.width,nv,zi (za ⟨tb,jY,zh⟩) d.tag.length tc,zi (za ⟨eb,jS,zh⟩) d.fin.length ec] 25)=W0:=⟨_,rfl⟩;have aG:zB w.heap.size w W0:=by rw[<-ay];exact aC
 have x0:W0.heap[w.heap.size]?=za (zn #[cv,zp .i64 d.width,nv,zi (za ⟨tb,jY,zh⟩) d.tag.length tc,zi (za ⟨eb,jS,zh⟩) d.fin.length ec] 25 (0,0)):=by rw[<-ay];exact aU _ _
 have sD:w.heap.size<W0.heap.size:=az x0;have Hsz:zw (W0.heap.size=w.heap.size+1):=by show _=_;rw[<-ay];simp
 have G6:zw _:=aG;obtain⟨q0,q1,q2,q3,q4⟩:=bL x0
 go_enter func34,ntmps34
 go_wp2_with (first|(refine wpList_make_full _ rfl _ _ 23 rfl W0.heap.size 3 i0 _ 1 underlying23 hi eQ eR _ _ _ _ d.tag.length rfl rfl rfl rfl (by rw[dR];omega) (by unfold maxLen;omega) (ax _) ?_;intro w1 rz Au)|(refine wpList_make_full _ rfl _ _ 63 rfl w1.heap.size 72 iT _ 5 underlying63 FB FT FU _ _ _ _ d.tag.length rfl rfl rfl rfl (by rw[FV];omega) (by unfold maxLen;omega) (ax _) ?_;intro w2 rA zxf))
 have aP:zB W0.heap.size W0 w1:=(Below.refl _ _).grown Au (ax _) (by intro k h;cases h);have aL:zB w1.heap.size w1 w2:=(Below.refl _ _).grown zxf (ax _) (by intro k h;cases h);have ot:=uw rz;have r1:=jy rz aL;rw[PZ,<-zrt]at r1;have r2:=zkB rA;rw[zhd]at r2;have r3:w2.heap[w1.heap.size]?=za (zn (lC d.tag.length (vq d 0)) 72 (0,0)):=r2;have zwJ:zB W0.heap.size W0 w2:=aP.trans (aL.mono aP.size);have zAS:=aP.size;have HF:zw (cL d):=hf;have Rh:zw (∀W,zB W0.heap.size W0 W->∀s,s<d.tag.length->W.cell? ⟨tb,jY+s,zh⟩=za (zp .i64 (d.tag.getD s 0))/\W.cell? ⟨eb,jS+s,zh⟩=za (zp .i64 (d.fin.getD s 0))):=λW hW s hs=>by
  have BP:zB w.heap.size w W:=aG.trans (hW.mono aG.size);exact⟨by rw[BP.cell (p:=⟨tb,jY+s,zh⟩) tl];exact tq s hs,by rw[BP.cell (p:=⟨eb,jS+s,zh⟩) el];exact eq s (by have:=hf.fl;omega)⟩
 clear Au zxf rz rA r2 q0 q1 q2 q3 q4 tq eq hf ay
 go_loopw [17] (λi wr=>∃k:Nat,k<=d.tag.length/\i=zp .i64 k/\wr.ownsRow W0.heap.size 3 1 (zi (za ⟨W0.heap.size,0,zh⟩) d.tag.length d.tag.length) d.tag.length (iY (wW d.tag.length k))/\wr.heap[w1.heap.size]?=za (zn (lC d.tag.length (vq d k)) 72 (0,0))/\zB W0.heap.size W0 wr)
  (λi _=>d.tag.length-(intOf i).toNat)
 case atStart=>exact⟨0,bH _,rfl,r1,r3,zwJ⟩
 case round=>
  clear r1 r3 zwJ;obtain⟨k,hk,rfl,bV,ff,hb⟩:=hrel
  by_cases hlt:k<d.tag.length
  ·obtain⟨u0,d0⟩:=PW bV (j:=k) (by omega);have f0:=bV.frozenAt k;have hst:=(bV.stored k (zp .i64 (k:Int))).1;rw[zji,zsX hlt]at hst;have cG:(k:Int)<(d.tag.length:Int):=by omega
   have hif:(k:Int)<(d.fin.length:Int):=by have:=HF.out.fl;omega
   have mP:=xf HF.out.ts (k:=k) (by omega);have lR:=xf HF.out.es (k:=k) (by have:=HF.out.fl;omega);obtain⟨Wx,Yc⟩:∃Wx,wr.setCell ⟨W0.heap.size,k,zh⟩ (zp .i64 (k:Int))=Wx:=⟨_,rfl⟩;rw[Yc]at hst;have bN:zB W0.heap.size W0 Wx:=by rw[<-Yc];exact hb.setCell (ax _) _
   have AG:Wx.heap[w1.heap.size]?=za (zn (lC d.tag.length (vq d k)) 72 (0,0)):=by
    rw[<-Yc];exact(cS _ _ _ _ (by simp;omega)).trans ff
   obtain⟨q0,q1,q2,q3,q4⟩:=bL ((bN.block _ sD).trans x0);obtain⟨c1,c2⟩:=Rh.out Wx bN k hlt;obtain⟨z0,z1,z2,z3,z4⟩:=Qc AG hlt;have fz:∀o,Wx.frozen? ⟨w1.heap.size,o,zh⟩=false:=λ_=>aR _ _ _ _ _ AG
   have rC:=zkN AG k (CY d k);rw[ztb]at rC;have e1:(((d.tag.getD k 0+1).toNat:Nat):Int)=d.tag.getD k 0+1:=Int.toNat_of_nonneg (by have:=mP;omega);have e2:(((d.fin.getD k 0+1).toNat:Nat):Int)=d.fin.getD k 0+1:=Int.toNat_of_nonneg (by have:=lR;omega);unfold CY at rC;simp only[e1,e2]at rC;have HN:zw _:=rC;have zR:zw _:=hst;have Hbx:zw _:=bN;have Hrx:zw _:=AG;clear rC hst ff AG e1 e2 bN hb bV;generalize d.tag.getD k 0=t1 at *;generalize d.fin.getD k 0=t2 at *;have HX:zw (∀nq:Nat,((((((Wx.drewN nq).setCell ⟨w1.heap.size,k*5,zh⟩ (.int .u64 0)).setCell ⟨w1.heap.size,k*5+1,zh⟩ (.int .u64 (t1+1))).setCell ⟨w1.heap.size,k*5+2,zh⟩ (.int .u64 (t2+1))).setCell ⟨w1.heap.size,k*5+3,zh⟩ (.int .u64 0)).setCell ⟨w1.heap.size,k*5+4,zh⟩ (.int .u64 0)).ownsRow W0.heap.size 3 1 (zi (za ⟨W0.heap.size,0,zh⟩) d.tag.length d.tag.length) d.tag.length (iY (wW d.tag.length (k+1)))/\
     ((((((Wx.drewN nq).setCell ⟨w1.heap.size,k*5,zh⟩ (.int .u64 0)).setCell ⟨w1.heap.size,k*5+1,zh⟩ (.int .u64 (t1+1))).setCell ⟨w1.heap.size,k*5+2,zh⟩ (.int .u64 (t2+1))).setCell ⟨w1.heap.size,k*5+3,zh⟩ (.int .u64 0)).setCell ⟨w1.heap.size,k*5+4,zh⟩ (.int .u64 0)).heap[w1.heap.size]?=za (zn (lC d.tag.length (vq d (k+1))) 72 (0,0))/\
     zB W0.heap.size W0 ((((((Wx.drewN nq).setCell ⟨w1.heap.size,k*5,zh⟩ (.int .u64 0)).setCell ⟨w1.heap.size,k*5+1,zh⟩ (.int .u64 (t1+1))).setCell ⟨w1.heap.size,k*5+2,zh⟩ (.int .u64 (t2+1))).setCell ⟨w1.heap.size,k*5+3,zh⟩ (.int .u64 0)).setCell ⟨w1.heap.size,k*5+4,zh⟩ (.int .u64 0))):=λnq=>by
    have hle:W0.heap.size<=w1.heap.size:=zAS;refine⟨oI zR.out λb cs hb=>?_,HN.out,((((((below_drewN Hbx.out nq).setCell hle _).setCell hle _).setCell hle _).setCell hle _).setCell hle _)⟩;have hne:b≠w1.heap.size:=λe=>by
     rw[e,Hrx.out]at hb;exact absurd (er hb) (by decide)
    rw[cS _ _ _ _ (by exact hne),cS _ _ _ _ (by exact hne),cS _ _ _ _ (by exact hne),cS _ _ _ _ (by exact hne),cS _ _ _ _ (by exact hne)];exact hb
   have qD:IntKind.u64.wrap (t1+1)=t1+1:=by
    unfold IntKind.wrap;simp[IntKind.signed,IntKind.bits];omega
   have zC4:IntKind.u64.wrap (t2+1)=t2+1:=by
    unfold IntKind.wrap;simp[IntKind.signed,IntKind.bits];omega
   go_wp2;refine PF 18 du (by kernel_rfl) rfl rfl rfl ?_;intro os aX;simp only[gG,kQ]at aX;subst aX
   repeat (go_big_quiet_step (fail))
   refine wpQuiet_nil ?_;intro w' hw' K hK;obtain⟨nq,rfl⟩:=hw'
   first|go_big_move|go_big_op
   refine hK _ _ ?_;go_wp2
   go_roundw
   case rel=>
    obtain⟨a1,a2,a3⟩:=HX.out nq;exact⟨k+1,by omega,by go_num,a1,a2,a3⟩
   case measure=>simp[intOf];omega
  ·have cI:k=d.tag.length:=by omega
   subst cI;rw[zsW]at bV;obtain⟨W4,uX⟩:∃W4,W4=wr:=⟨_,rfl⟩;subst uX;have bZ:=hb.size;have hbp:prog.built 66 [(0,zi (za ⟨W4.heap.size,0,zh⟩) d.tag.length d.tag.length),(1,zi (za ⟨W4.heap.size+1,0,zh⟩) 1 1),(2,zi (za ⟨W4.heap.size+2,0,zh⟩) 1 1)]=za #[zi (za ⟨W4.heap.size,0,zh⟩) d.tag.length d.tag.length,zi (za ⟨W4.heap.size+1,0,zh⟩) 1 1,zi (za ⟨W4.heap.size+2,0,zh⟩) 1 1]:=by kernel_rfl
   go_wp2_with (first|(refine wpList_make_full _ rfl _ _ 23 rfl W4.heap.size 3 i0 _ 1 underlying23 hi eQ eR _ _ _ _ d.tag.length rfl rfl rfl rfl (by rw[dR];omega) (by unfold maxLen;omega) (ax _) ?_;intro w5 pW Fx))
   have cO:zB W4.heap.size W4 w5:=(Below.refl _ _).grown Fx (ax _) (by intro k h;cases h);rw[PZ]at pW;have iV:w.heap.size+1=W0.heap.size:=Hsz.out.symm;have hPS:=dE.start (gt:=w.heap.size) (Ge pW (by omega)) (by rw[iV];exact jy bV cO) (by have:=uw bV;omega) (by have:=cO.size;omega);have Ld:zB w5.heap.size w5 (((w5.alloc (zn #[zi (za ⟨W0.heap.size,0,zh⟩) d.tag.length d.tag.length] 23)).alloc (zn #[zp .i64 0] 3)).alloc (zn #[zi (za ⟨W4.heap.size,0,zh⟩) d.tag.length d.tag.length,zi (za ⟨w5.heap.size,0,zh⟩) 1 1,zi (za ⟨w5.heap.size+1,0,zh⟩) 1 1] 66)):=((aC).alloc (by simp) _).alloc (by simp;omega) _;have hrA:=aY (aY ff cO) Ld;have hcut:=zrH 2 (List.range d.tag.length) w1.heap.size d.tag.length (vq d d.tag.length) _ hPS (oU.start (by omega)) ⟨by omega,by omega⟩ rfl List.nodup_range (λs hs=>by simpa using hs) (by omega) (by omega) (by simp) hrA;refine hcut.mono ?_;rintro e w6 ⟨rfl,g',c',m',mi',v',l',N',o',wk',B5,Y1,Y2,Y3,Y4,Y5,Y6,Y7,Y8,Y9,Y10⟩;have HY:zw (PaR w d (.returned (zG (za ⟨w5.heap.size+1+1,0,zh⟩))) w6):=by
    refine⟨_,g',c',m',mi',v',l',N',o',wk',B5,rfl,Y1,Y2,λs t hs ht=>?_,λs hs=>?_,by simp at Y5;omega,?_⟩
    ·rw[Y3.iff s t hs ht,znw HF.out hs ht];simp[List.getD,hs,ht]
    ·rcases Y3.num s hs with k|k
     ·rw[k];simp only[List.getD,List.getElem?_replicate_of_lt hs,Option.getD_some];exact Y3.up 0 (by simp)
     ·exact k
    ·have B1:=G6.out.trans (hb.mono G6.out.size);have B2:=B1.trans (cO.mono B1.size);have B3:=B2.trans (Ld.mono B2.size);exact B3.trans (Y8.mono (by omega))
   clear Y1 Y2 Y3 Y4 Y5 Y6 Y7 Y8 Y9 Y10 hcut hrA hPS Ld;go_wp2;refine bw (v:=zG (za ⟨w5.heap.size+1+1,0,zh⟩)) (by simp[results,results34,go_sem]) rfl HY.out
end
end
end Go.Proofs.Ytfajjdgkiilhfaa
