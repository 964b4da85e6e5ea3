import Derived.Test.YtfajjdgkiilhfaaC3
import Derived.BigQuiet
namespace Go.Proofs.Ytfajjdgkiilhfaa
open Proofs.Try
open Option renaming none->za,some->zh
open Value renaming slice->zi,int->zw
open RowKit renaming Hid->zn,Below->zp
open Go renaming World->zB,Value->zF
open Obj renaming cells->zD
set_option maxHeartbeats 4000000
set_option maxRecDepth 100000
open Go.RowKit
attribute [local go_sem ↓] wp_at_zero wp_at_succ
section
variable {B n x g cap k:Nat}{w:zB}{gr:Nat -> Nat}{m m' m0:Nat -> Nat -> Bool}{v:zF}{d:aE}{l:List Nat}{b:Bool}{D:Nat -> Nat -> Prop}
theorem znx(W:zB)(b j n:Nat)(v:zF):W.grownBy ((W.drewN n).setCell ⟨b,j,za⟩ v) (zh b):=
 ⟨rfl,rfl,rfl,(oK W b j v).size,(oK W b j v).block⟩
theorem iH.more{w5:zB}{gx:Nat}{v':zF}(h:iH B w n x (zi (zh ⟨g,0,za⟩) x cap) gr m)(hr:w.heap[gx]?=zh (zD (gu n (m x)) 4 (0,0)))(hB:B<=gx)(hf:∀j,j<x->gr j≠gx)
  (nM:w.grownBy w5 (zh g)) (bV:w5.ownsRow B 37 1 v' (x+1) (B7 gr n x++[zi (zh ⟨gx,0,za⟩) n n])):iH B w5 n (x+1) v' (λj=>if j=x then gx else gr j) m:=by
 have hg:∃a9:Array zF,w.heap[g]?=zh (zD a9 37 (0,0)):=by
  rcases h.out.2 with ⟨h0,_⟩|⟨g',cap',a9,hv,_,hh,_⟩
  ·cases h0
  ·cases hv;exact⟨a9,hh⟩
 obtain⟨a9,hg⟩:=hg;have hne:∀(b:Nat) (c:Array zF),w.heap[b]?=zh (zD c 4 (0,0))->w5.heap[b]?=zh (zD c 4 (0,0)):=λb c hb=>
  (nM.block b (gF.1 hb).1 (λe=>by cases e;rw[hg]at hb;exact absurd (er hb) (by decide))).trans hb
 refine⟨?_,λj hj=>?_,λj hj=>?_,λa b ha hb e=>?_⟩
 ·rw[zpO,znY (gr':=gr) (λj hj=>by rw[ab (by omega)]),ae rfl];exact bV
 ·by_cases e:j=x
  ·subst e;rw[ae rfl];exact hne _ _ hr
  ·rw[ab e];exact hne _ _ (h.rows j (by omega))
 ·by_cases e:j=x
  ·rw[ae e];exact hB
  ·rw[ab e];exact h.base j (by omega)
 ·by_cases e1:a=x
  ·by_cases e2:b=x
   ·omega
   ·rw[ae e1,ab e2]at e;exact absurd e.symm (hf b (by omega))
  ·by_cases e2:b=x
   ·rw[ab e1,ae e2]at e;exact absurd e (hf a (by omega))
   ·rw[ab e1,ab e2]at e;exact h.inj a b (by omega) (by omega) e
theorem iH.same(h:iH B w n k v gr m)(h':iH B w n k v gr m'){x y:Nat}(hx:x<k)(hy:y<n):m x y=m' x y:=by
 have:=(h.cell hx hy).1.symm.trans (h'.cell hx hy).1
 simpa using this
theorem zlT(h:∀x y,x<n->y<n->m x y=m' x y):zm n m=zm n m':=by
 unfold zm
 congr 1
 refine uB λx hx=>?_
 congr 1
 exact List.filter_congr λy hy=>by rw[h x y (by simpa using hx) (by simpa using hy)]
noncomputable def zsJ (B:Nat) (n:Nat) (v:zF) (gr:Nat->Nat) (w:zB):Nat:=open Classical in if h:∃m,iH B w n n v gr m then zm n h.choose else 0
theorem zmR(h:iH B w n n v gr m):zsJ B n v gr w=zm n m:=by
 have hx:∃m,iH B w n n v gr m:=⟨m,h⟩;unfold zsJ;rw[dif_pos hx];exact zlT λx y FO hy'=>hx.choose_spec.same h FO hy'
theorem zlU{y:Nat}(hx:x<n)(hy:y<n):zm n (nQ m x y)<=zm n m:=by
 cases e:m x y
 ·have:=zmS hx hy e;omega
 ·have:nQ m x y=m:=by
   funext a b
   unfold nQ;split
   ·rename_i k;rw[k.1,k.2,e]
   ·rfl
  rw[this];exact ax _
def Rx(d:aE)(l:List Nat)(m:Nat->Nat->Bool)(x y c:Nat):Prop:=
 ∀tx ty,tx<l.length->ty<l.length->l.getD tx 0=bU d (l.getD x 0) c->l.getD ty 0=bU d (l.getD y 0) c->m tx ty=false
def zwm(d:aE)(l:List Nat)(m:Nat->Nat->Bool)(x y:Nat):Prop:=m x y=false->∀c,c∈eC d (aW d)->Rx d l m x y c
structure te(d:aE)(l:List Nat)(m0:Nat->Nat->Bool)(b:Bool)(m:Nat->Nat->Bool)(D:Nat->Nat->Prop):Prop where
 ap:Es d l m
 Ie:b=true->zm l.length m<zm l.length m0
 same:b=false->m=m0/\∀x y,D x y->zwm d l m0 x y
theorem te.start(h:Es d l m0){D:Nat->Nat->Prop}(hD:∀x y,¬D x y):te d l m0 false m0 D:=⟨h,λe=>(by cases e),λ_=>⟨rfl,λx y hd=>absurd hd (hD x y)⟩⟩
theorem te.done{D':Nat->Nat->Prop}(h:te d l m0 b m D)(hD:∀x y,D' x y->D x y\/(b=false->zwm d l m0 x y)):te d l m0 b m D':=
 ⟨h.ap,h.Ie,λe=>⟨(h.same e).1,λx y hd=>(hD x y hd).elim ((h.same e).2 x y) (λk=>k e)⟩⟩
theorem te.put(h:te d l m0 b m D){x y tx ty c:Nat}(hx:x<l.length)(hy:y<l.length)(h0:b=false->m0 x y=false)(vh:tx<l.length)(FL:ty<l.length)(ex:l.getD tx 0=ai d (l.getD x 0) c)(ey:l.getD ty 0=ai d (l.getD y 0) c)(hc:c<256)(ht:m tx ty=true):te d l m0 true (nQ m x y) D:=
 ⟨h.ap.put vh FL ex ey hc ht,λ_=>by
  cases b
  ·have e:=(h.same rfl).1;rw[e];have:=zmS hx hy (h0 rfl);omega
  ·exact Nat.lt_of_le_of_lt (zlU hx hy) (h.Ie rfl),λe=>by cases e⟩
theorem te.end(hf:cL d){l:List Nat}(hR:uM d l){m0 m:Nat->Nat->Bool}(h:te d l m0 false m λx y=>x<l.length/\y<l.length){x y:Nat}(hx:x<l.length)(hy:y<l.length):m x y=false↔cD (ai d) (au d) (l.getD x 0) (l.getD y 0):=by
 obtain⟨e,hc⟩:=h.same rfl;subst e;exact zn7 hf hR h.ap (λx y hx hy e c yC hcc=>hc x y ⟨hx,hy⟩ e c (vx.2 ⟨yC,hcc⟩)) hx hy
theorem zhB(hf:cL d){c:Nat}(h:c∈eC d (aW d)):∃ch,ch<256/\eH d ch=c:=by
 obtain⟨i,hi,e⟩:=tu.1 (vx.1 h).2;have bn:=hf.cl;refine⟨i,by omega,?_⟩;unfold eH;rw[bI,bE hi,e];simp
theorem zp3(hf:cL d){l zs:List Nat}{n:Nat}(hR:uM d l)(hP:Kl l zs n l.length){x c:Nat}(hx:x<l.length)(hc:c∈eC d (aW d)):∃tx ch,tx<l.length/\l.getD tx 0=bU d (l.getD x 0) c/\ch<256/\eH d ch=c/\zs.getD (bU d (l.getD x 0) c) 0=tx:=by
 obtain⟨ch,hch,e⟩:=zhB hf hc;have mx:l.getD x 0∈l:=by rw[bI,bE hx];exact gy _
 obtain⟨tx,vh,ex⟩:=Gi (hR.cl _ mx ch hch);have ex':l.getD tx 0=bU d (l.getD x 0) c:=by rw[ex];unfold ai;rw[e]
 exact⟨tx,ch,vh,ex',hch,e,by rw[<-ex'];exact hP.2 tx vh⟩
theorem zsc(hR:uM d l){m:Nat->Nat->Bool}{x y c tx ty:Nat}(vh:tx<l.length)(FL:ty<l.length)(ex:l.getD tx 0=bU d (l.getD x 0) c)(ey:l.getD ty 0=bU d (l.getD y 0) c)(h:m tx ty=false):Rx d l m x y c:=λtx' ty' h1 h2 e1 e2=>by
 rw[TG hR.nd h1 vh (e1.trans ex.symm),TG hR.nd h2 FL (e2.trans ey.symm)];exact h
theorem zlh{f g:Nat->Bool}(h:∀j,j<n->f j=g j):gu n f=gu n g:=by
 unfold gu
 congr 1
 exact uB λj hj=>by rw[h j (by simpa using hj)]
theorem iH.Tl(h:iH B w n k (zi (zh ⟨g,0,za⟩) k cap) gr m){x:Nat}(hx:x<k):w.cell? ⟨g,x,za⟩=zh (zi (zh ⟨gr x,0,za⟩) n n):=by
 obtain⟨g',cap',e,_,_,h⟩:=h.outer (by omega);cases e;exact h x hx
def Ku:zF->Nat
 |.bool true=>1
 |_=>0
def CC(n x y:Nat):Nat->Nat->Prop:=λa b=>(a<x/\b<n)\/(a=x/\b<y)
theorem Jx{s wd c L:Nat}(hs:s<=4000)(hw:wd<=256)(hL:s*wd+c<L):∃P:Int,(s:Int)*(wd:Int)=P/\0<=P/\P<=1024000/\P+(c:Int)<(L:Int)/\0<=P+(c:Int)/\(P+(c:Int)).toNat=s*wd+c:=by
 have h1:s*wd<=4000*256:=nt hs hw;have e:(s:Int)*(wd:Int)=((s*wd:Nat):Int):=by simp
 refine⟨_,e,?_⟩;generalize s*wd=q at *;omega
theorem kO{i:Nat}(h:i<l.length):l.getD i 0∈l:=by rw[bI,bE h];exact gy _
def ApR(w:zB)(d:aE)(l:List Nat)(e:Ending)(w':zB):Prop:=
 ∃(v:zF) (gr:Nat->Nat) (m:Nat->Nat->Bool) (B:Nat),e=.returned v/\w.heap.size<=B/\iH B w' l.length l.length v gr m/\zp w.heap.size w w'/\
  ∀x y,x<l.length->y<l.length->(m x y=false↔cD (ai d) (au d) (l.getD x 0) (l.getD y 0))
end
section
open Go
section
variable {P:Program} {ops:Array Oper} {md:Region.Mode} {C:zB->Prop}
def Ee(P:Program)(md:Region.Mode)(ops:Array Oper)(C:zB->Prop)(n:Nat)(Q:Act->Prop):Nat->Array Bool->Act->Prop
 |0,listed,a=>Region.ready md ops listed=[n]/\Region.ready md ops (listed.setIfInBounds n true)=[]/\Q a
 |fuel+1,listed,a=>Region.ready md ops listed≠[]/\∀i∈Region.ready md ops listed,qOp P ops C i (Ee P md ops C n Q fuel (listed.setIfInBounds i true)) a
theorem TA{Q:Act->Prop}{Q':Exit->Act->zB->Prop}{n:Nat}(hQ:∀a w,C w->Q a->wpOp P ops Q' n (λa w=>Q' .normal a w) a w):
  ∀(fuel:Nat) (listed:Array Bool) (a:Act) (w:zB),C w->Ee P md ops C n Q fuel listed a->wpAny P md ops Q' (fuel+1) listed a w
 |0,listed,a,w,hw,h=>⟨λh0=>by rw[h.1]at h0;(cases h0),λi hi=>by
   rw[h.1]at hi;have e:i=n:=by simpa using hi
   subst e;exact wpOp_mono (λa w h'=>⟨h.2.1,h'⟩) (hQ _ _ hw h.2.2)⟩
 |fuel+1,listed,a,w,hw,h=>⟨λh0=>absurd h0 h.1,λi hi=>wpOp_of_qOp hw (λa' w' hw'=>TA hQ fuel _ a' w' hw') (h.2 i hi)⟩
theorem zk2{Q:Act->Prop}{i n:Nat}{oi:Oper}{v:zF}(hi:ops[i]?=zh oi)(lL:∀listed:Array Bool,n∈Region.ready md ops listed->listed.getD i true=true)(AH:∀(j:Nat) (o:Oper) cs b,ops[j]?=zh o->o.op≠.select cs b):
  ∀(fuel:Nat) (listed:Array Bool) (a:Act),
   (∀j oj,ops[j]?=zh oj->j≠i->listed.getD j true=false->(∀e∈oj.after,Region.binds md e=true->e.on≠i)->oi.apart ops oj=true)->
   i∈Region.ready md ops listed->YieldsIn P ops C oi v a->
   Ee P md ops C n Q fuel (listed.setIfInBounds i true) (a.put oi.dst v)->Ee P md ops C n Q (fuel+1) listed a:=by
 intro fuel
 induction fuel with
 |zero=>
  intro listed a _ hr hy H;refine⟨λh=>(by rw[h]at hr;cases hr),λj hj=>?_⟩
  by_cases fG:j=i
  ·subst fG;exact hy.qOp hi H
  ·have:=ready_mono hj fG;rw[H.1]at this;have e:j=n:=by simpa using this
   subst e;have h1:=lL _ hj;rw[(mem_ready.1 hr).1]at h1;cases h1
 |succ fuel ih=>
  intro listed a Ar hr hy H;refine⟨λh=>(by rw[h]at hr;cases hr),λj hj=>?_⟩
  by_cases fG:j=i
  ·subst fG;exact hy.qOp hi H
  ·have h1:=H.2 j (ready_mono hj fG);obtain⟨Ax,oj,qA,cj⟩:=mem_ready.1 hj;have IU:∀e∈oj.after,Region.binds md e=true->e.on≠i:=λe he hb pO=>by
    have h1:=cj e he hb;have h0:=(mem_ready.1 hr).1;rw[pO]at h1;rcases Nat.lt_or_ge i listed.size with h'|h'
    ·simp[h']at h0 h1;rw[h0]at h1;cases h1
    ·simp[Array.getElem?_eq_none h']at h1
   have h2:=qOp_put qA (Ar j oj qA fG Ax IU) (λcs b=>AH i oi cs b hi) (λcs b=>AH j oj cs b qA) hy h1;have ID:∀k ok,ops[k]?=zh ok->k≠i->(listed.setIfInBounds j true).getD k true=false->
     (∀e∈ok.after,Region.binds md e=true->e.on≠i)->oi.apart ops ok=true:=λk ok hk FC mQ hno=>by
    refine Ar k ok hk FC ?_ hno
    by_cases po:j=k
    ·subst po;exact Ax
    ·rw[getD_set_ne true po]at mQ;exact mQ
   refine qOp_mono (λa' h3=>ih (listed.setIfInBounds j true) a' ID (ready_mono hr (Ne.symm fG)) h3.1 ?_) h2;rw[Array.setIfInBounds_comm _ _ fG];exact h3.2
def wQ(md:Region.Mode)(ops:Array Oper)(n:Nat):Nat->Nat->Array Bool->Bool
 |0,_,listed=>(Region.ready md ops listed == [n])&&(Region.ready md ops (listed.setIfInBounds n true)).isEmpty
 |fuel+1,k,listed=>(Region.ready md ops listed).contains k&&Region.free md ops listed k&&wQ md ops n fuel (k+1) (listed.setIfInBounds k true)
def xx(md:Region.Mode)(ops:Array Oper)(n i:Nat):Bool:=
 match ops[n]? with
 |some o=>o.after.any λe=>Region.binds md e&&e.on==i
 |none=>false
def zsz(md:Region.Mode)(ops:Array Oper)(n:Nat):Bool:=
 Region.noSelect ops&&(List.range n).all (xx md ops n)&&wQ md ops n n 0 (Array.replicate ops.size false)
theorem Mb{n i:Nat}(h:xx md ops n i=true)(listed:Array Bool)(hr:n∈Region.ready md ops listed):listed.getD i true=true:=by
 obtain⟨_,o,ho,cj⟩:=mem_ready.1 hr;unfold xx at h;rw[ho]at h;simp only[Array.any_eq_true,Bool.and_eq_true,beq_iff_eq]at h;obtain⟨k,hk,hb,he⟩:=h;have h1:=cj _ (Array.getElem_mem hk) hb;rw[he]at h1;rcases Nat.lt_or_ge i listed.size with h'|h'
 ·simp[h']at h1 ⊢;exact h1
 ·simp[Array.getElem?_eq_none h']at h1
theorem ziN{Q:Act->Prop}{n:Nat}(hs:Region.noSelect ops=true)(hn:∀i,i<n->xx md ops n i=true):∀(l:List Oper) (k:Nat) (listed:Array Bool) (a:Act),(∀j,j<l.length->l[j]?=ops[k+j]?)->k+l.length=n->
  wQ md ops n l.length k listed=true->wpQuiet P ops C Q l a->Ee P md ops C n Q l.length listed a
 |[],_,_,_,_,_,hB,h=>by
  simp only[List.length_nil,wQ,Bool.and_eq_true,beq_iff_eq,List.isEmpty_iff]at hB;exact⟨hB.1,hB.2,h⟩
 |o::l,k,listed,a,hl,k7,hB,h=>by
  have h0:ops[k]?=zh o:=by simpa using (hl 0 (by simp)).symm
  simp only[List.length_cons,wQ,Bool.and_eq_true]at hB;obtain⟨⟨hr,hf⟩,Aa⟩:=hB;have hst:qOp P ops C k (wpQuiet P ops C Q l) a:=by unfold qOp;simp only[h0];exact h
  obtain⟨v,hy,hK⟩:=yieldsIn_of_qOp h0 hst;simp only[List.length_cons]at k7;exact zk2 h0 (Mb (hn k (by omega))) (Region.noSelect_spec hs) l.length listed a (Region.free_spec h0 hf) (by simpa using hr) hy
   (ziN hs hn l (k+1) _ _ (λj hj=>by have:=hl (j+1) (by simp;omega);simpa [Nat.add_assoc,Nat.add_comm 1 j]using this) (by omega) Aa hK)
theorem zh0{id:Nat}{Q:Exit->Act->zB->Prop}{a:Act}{w:zB}{all l:List Oper}{o:Oper}(hm:P.follows .mixedOrders=true)(hB:zsz .any all.toArray l.length=true)(cj:all=l++[o])(hg:o.guard=za)
  (h:wpQuiet P all.toArray (λw'=>∃n,w'=w.drewN n) (λa'=>∀w',(∃n,w'=w.drewN n)->∀K:Act->zB->Prop,(∀a w,Q .normal a w->K a w)->o.wp P a' w' K Q) l a):(Code.region id all.toArray true).wp P Q a w:=by
 simp only[zsz,Bool.and_eq_true,List.all_eq_true,List.mem_range]at hB;have hsz:all.toArray.size=l.length+1:=by simp[cj]
 have hlen:all.toArray[l.length]?=zh o:=by simp[cj]
 refine wp_region_any hm ?_;rw[hsz];refine TA (C:=λw'=>∃n,w'=w.drewN n) (n:=l.length) (Q:=λa'=>∀w',(∃n,w'=w.drewN n)->∀K:Act->zB->Prop,(∀a w,Q .normal a w->K a w)->o.wp P a' w' K Q) ?_ l.length _ a _ ⟨1,rfl⟩ ?_
 ·intro a' w' hw' hq;unfold wpOp;rw[hlen];simp only[Region.wanted,hg];exact .inl (hq w' hw' _ λ_ _ h=>h)
 ·rw[<-hsz];exact ziN hB.1.1 hB.1.2 l 0 _ a (λj hj=>by simp[cj,List.getElem?_append_left hj]) (by simp) hB.2 h
theorem PF(n:Nat){id:Nat}{Q:Exit->Act->zB->Prop}{a:Act}{w:zB}{all:List Oper}{o:Oper}(hm:P.follows .mixedOrders=true)(hB:zsz .any all.toArray n=true)(hl:all.length=n+1)(ho:all[n]?=zh o)(hg:o.guard=za)
  (h:∀l,l=all.take n->wpQuiet P all.toArray (λw'=>∃n,w'=w.drewN n) (λa'=>∀w',(∃n,w'=w.drewN n)->∀K:Act->zB->Prop,(∀a w,Q .normal a w->K a w)->o.wp P a' w' K Q) l a):(Code.region id all.toArray true).wp P Q a w:=by
 refine zh0 (l:=all.take n) (o:=o) hm (by rw[List.length_take,hl,Nat.min_eq_left (by omega)];exact hB) ?_ hg (h _ rfl);apply List.ext_getElem?;intro j
 by_cases hj:j<n
 ·rw[List.getElem?_append_left (by rw[List.length_take];omega),List.getElem?_take,if_pos hj]
 ·rw[List.getElem?_append_right (by rw[List.length_take];omega),List.length_take,hl,Nat.min_eq_left (by omega)]
  by_cases e:j=n
  ·subst e;simp[ho]
  ·rw[List.getElem?_eq_none (by omega),List.getElem?_eq_none (by simp;omega)]
end
end
theorem znG{lo:Nat}(cv nv tv ev lv:zF)(d:aE)(l:List Nat)(w:zB)(hs:dk lo w cv nv tv ev d)(hf:cL d)(hl:dW lo w lv (aO l))(hR:uM d l):
  Calls prog 60 #[.agg #[cv,zw .i64 d.width,nv,tv,ev],lv] w (ApR w d l):=by
 have du:prog.follows .mixedOrders=true:=by kernel_rfl
 obtain⟨i0,hi,eQ,eR,dR⟩:=info_parts Try.wP;obtain⟨hw,qD,kJ⟩:=hf.wd;rw[hw];clear hw;have kI:=hs;obtain⟨⟨ca,cc,rfl,cm,cx⟩,⟨na,nc,rfl,nm,nx⟩,⟨ta,tc,rfl,tm,tx⟩,⟨ea,ec,rfl,em,ex⟩⟩:=hs;obtain⟨la,lc,rfl,lm,lx⟩:=hl;rw[cW]at *;have jG:=hf.n1;have fc:=hf.n2;have hlen:=sT _ l hR.nd hR.lt;obtain⟨tb,jY,rfl,_,tl,tq⟩:=tx (by omega);obtain⟨eb,jS,rfl,_,el,eq⟩:=ex (by have:=hf.fl;omega);obtain⟨lb,Jh,rfl,_,ll,lq⟩:=lx (by rw[cW];exact hR.pos);rw[cW]at lq;obtain⟨nb,Pf,rfl,_,nl,nq⟩:=nx (by have:=hf.uh (s:=0) (c:=0) (by omega) (by omega);omega);obtain⟨W0,ay⟩:∃W0,w.alloc (zD #[.slice ca d.aD.length cc,zw .i64 (aW d:Int),zi (zh ⟨nb,Pf,za⟩) d.next.length nc,zi (zh ⟨tb,jY,za⟩) d.tag.length tc,zi (zh ⟨eb,jS,za⟩) d.fin.length ec] 25)=W0:=⟨_,rfl⟩;have aG:zp w.heap.size w W0:=by rw[<-ay];exact aC
 have x0:W0.heap[w.heap.size]?=zh (zD #[.slice ca d.aD.length cc,zw .i64 (aW d:Int),zi (zh ⟨nb,Pf,za⟩) d.next.length nc,zi (zh ⟨tb,jY,za⟩) d.tag.length tc,zi (zh ⟨eb,jS,za⟩) d.fin.length ec] 25 (0,0)):=by rw[<-ay];exact aU _ _
 have sD:w.heap.size<W0.heap.size:=(gF.1 x0).1;obtain⟨q0,q1,q2,q3,q4⟩:=bL x0
 go_enter func60,ntmps60
 go_wp2_with (refine wpList_make_full _ rfl _ _ 23 rfl W0.heap.size 3 i0 _ 1 underlying23 hi eQ eR _ _ _ _ d.tag.length rfl rfl rfl rfl (by rw[dR];omega) (by unfold maxLen;omega) (ax _) ?_;intro w1 bV nM)
 have aP:zp W0.heap.size W0 w1:=(Below.refl _ _).grown nM (ax _) (by intro k h;cases h);clear nM q0 q1 q2 q3 q4;rw[PZ]at bV
 go_loopw [30] (λi wr=>∃k:Nat,k<=l.length/\i=zw .i64 k/\zp W0.heap.size W0 wr/\∃zs:List Nat,Kl l zs d.tag.length k/\wr.ownsRow W0.heap.size 3 1 (zi (zh ⟨W0.heap.size,0,za⟩) d.tag.length d.tag.length) d.tag.length (iY zs))
  (λi _=>l.length-(intOf i).toNat)
 case atStart=>exact⟨0,bH _,rfl,aP,_,⟨by simp,λj hj=>absurd hj (dP _)⟩,bV⟩
 case round=>
  obtain⟨k,hk,rfl,hb,zs,hP,bV⟩:=hrel
  by_cases hlt:k<l.length
  ·have iU:zp w.heap.size w wr:=aG.trans (hb.mono aG.size);have c0:=(iU.cell (p:=⟨lb,Jh+k,za⟩) ll).trans (lq k hlt);rw[uu]at c0;have wI:l.getD k 0<d.tag.length:=hR.lt _ (by rw[bI,bE hlt];exact gy _);have HP:zn _:=hP.next hR.nd hlt wI;obtain⟨u0,d0⟩:=PW bV (j:=l.getD k 0) (by omega);have f0:=bV.frozenAt (l.getD k 0);have hst:=(bV.stored (l.getD k 0) (zw .i64 (k:Int))).1;rw[zji]at hst;generalize l.getD k 0=s0 at *;have fk:(0:Int)<=(k:Int):=by omega
   have cG:(k:Int)<(l.length:Int):=by omega
   have fA:(s0:Int)<(d.tag.length:Int):=by omega
   go_wp2
   go_roundw
   case rel=>exact⟨k+1,by omega,by go_num,hb.setCell (by simp) _,_,HP.out,hst⟩
   case measure=>simp[intOf];omega
  ·have cI:k=l.length:=by omega
   subst cI;obtain⟨W1,bk⟩:∃W1,W1=wr:=⟨_,rfl⟩;subst bk;have hx:=(hb.block _ sD).trans x0;obtain⟨q0,q1,q2,q3,q4⟩:=bL hx;have iU:zp w.heap.size w W1:=aG.trans (hb.mono aG.size);have ot:=uw bV;have l7:(W1.alloc (zD #[] 3)).ownsRow W1.heap.size 3 1 (zi (zh ⟨W1.heap.size,0,za⟩) 0 0) 0 []:=Js W1 3;go_wp2;clear q0 q1 q2 q3 q4
   go_loopw [9,10] (λv i wr=>∃(c g cap:Nat),c<=aW d/\i=zw .i64 c/\v=zi (zh ⟨g,0,za⟩) (eC d c).length cap/\zp W1.heap.size W1 wr/\wr.ownsRow W1.heap.size 3 1 (zi (zh ⟨g,0,za⟩) (eC d c).length cap) (eC d c).length (iY (eC d c)))
    (λ_ i _=>aW d-(intOf i).toNat)
   case atStart=>exact⟨0,_,_,bH _,rfl,rfl,aC,l7⟩
   case round=>
    obtain⟨c,g,cap,hc,rfl,rfl,aL,rA⟩:=hrel;have mR:=(aL.block _ (fR sD hb.size)).trans hx;obtain⟨q0,q1,q2,q3,q4⟩:=bL mR
    by_cases bn:c<aW d
    ·have bN:zp w.heap.size w wr:=iU.trans (aL.mono iU.size);have dz:=PN _ d.aD c wr (kI.aD.below bN);have Ri:zn (0<=lg d.aD c↔(c:Int)∈d.aD):=zlP;have zv2:zn _:=zn0 d c;have hul:=zk1 d c;have hB:=aL.size;generalize lg d.aD (c:Int)=pu at *;have oy:(c:Int)<(aW d:Int):=by omega
     by_cases hu:0<=pu
     ·go_wp2_with (first|(go_at_call 62;refine dz.mono ?_;rintro e w' ⟨rfl,hw'⟩;subst w')|(refine AZ wr _ rfl rfl (.tmp 52) (.tmp 54) 23 rfl W1.heap.size 3 i0 (zw .i64 0) 8 underlying23 hi eQ eR dR rfl g cap (eC d c).length (iY (eC d c)) (zw .i64 (c:Int)) rfl rA rfl rfl (by omega) (by omega) hB ?_;intro g' cap' w5 pW Fx eY))
      go_roundw
      case rel=>
       have e:eC d (c+1)=eC d c++[c]:=by rw[zv2.out,ae (Ri.out.1 (by omega))]
       refine⟨c+1,g',cap',by omega,by go_num,by rw[e];simp,aL.grown Fx hB (λq hq=>by cases hq;exact(nW rA).1),?_⟩;rw[e,zkn]
       simpa using pW
      case measure=>simp[intOf];omega
     ·go_wp2_with (go_at_call 62;refine dz.mono ?_;rintro e w' ⟨rfl,hw'⟩;subst w')
      go_roundw
      case rel=>
       have e:eC d (c+1)=eC d c:=by rw[zv2.out,ab (λk=>by have:=Ri.out.2 k;omega)]
       exact⟨c+1,g,cap,by omega,by go_num,by rw[e],aL,by rw[e];exact rA⟩
      case measure=>simp[intOf];omega
    ·have hcc:c=aW d:=by omega
     subst hcc;obtain⟨W2,dY⟩:∃W2,W2=wr:=⟨_,rfl⟩;subst dY;have Fp:zp w.heap.size w W2:=iU.trans (aL.mono iU.size);have KR:(W2.alloc (zD #[] 37)).ownsRow W2.heap.size 37 1 (zi (zh ⟨W2.heap.size,0,za⟩) 0 0) 0 []:=Js W2 37;have KO:iH W2.heap.size (W2.alloc (zD #[] 37)) l.length 0 (zi (zh ⟨W2.heap.size,0,za⟩) 0 0) (λ_=>0) (tK d l):=⟨KR,λx hx=>absurd hx (dP _),λx hx=>absurd hx (dP _),λx _ hx=>absurd hx (dP _)⟩;obtain⟨iB,yE,yR,yS,yT⟩:=info_parts Try.zyd;obtain⟨iS,Aw,AM,AO,AP⟩:=info_parts Try.zBa;go_wp2;clear q0 q1 q2 q3 q4
     go_loopw [11,12] (λv i wr=>∃(x g cap:Nat) (gr:Nat->Nat),v=zi (zh ⟨g,0,za⟩) x cap/\x<=l.length/\i=zw .i64 x/\zp W2.heap.size W2 wr/\iH W2.heap.size wr l.length x (zi (zh ⟨g,0,za⟩) x cap) gr (tK d l))
      (λ_ i _=>l.length-(intOf i).toNat)
     case atStart=>exact⟨0,_,_,_,rfl,bH _,rfl,aC,KO⟩
     case round=>
      obtain⟨x,g3,zY,gr,rfl,FR,rfl,cN,hM⟩:=hrel
      by_cases vk:x<l.length
      ·obtain⟨W3,sA⟩:∃W3,W3=wr:=⟨_,rfl⟩;subst sA;have Jf:=cN.size
       go_wp2_with (refine wpList_make_full _ rfl _ _ 37 rfl W3.heap.size 4 iB _ 1 underlying37 yE yR yS _ _ _ _ l.length rfl rfl rfl rfl (by rw[yT];omega) (by unfold maxLen;omega) (ax _) ?_;intro w4 LA OD)
       have r4:=zkz LA;rw[zhc]at r4;have bZ:zp W3.heap.size W3 w4:=(Below.refl _ _).grown OD (ax _) (by intro k h;cases h);have zwM:zp W2.heap.size W2 w4:=cN.trans (bZ.mono Jf);have FN:zp w.heap.size w w4:=Fp.trans (zwM.mono Fp.size);have vg:=bZ.size;have Xz:w4.heap[W3.heap.size]?=zh (zD (gu l.length (λj=>decide (j<0)&&tK d l x j)) 4 (0,0)):=by rw[r4];congr 3
       have x4:=(zwM.block _ (by have:=hb.size;have:=aL.size;omega)).trans ((aL.block _ (by have:=hb.size;omega)).trans hx);clear LA OD r4
       go_loopw [14] (λi wr=>∃y:Nat,y<=l.length/\i=zw .i64 y/\w4.grownBy wr (zh W3.heap.size)/\wr.heap[W3.heap.size]?=zh (zD (gu l.length (λj=>decide (j<y)&&tK d l x j)) 4 (0,0)))
        (λi _=>l.length-(intOf i).toNat)
       case atStart=>exact⟨0,bH _,rfl,World.grownBy.refl _ _,Xz⟩
       case round=>
        obtain⟨y,hy,rfl,hg,hr⟩:=hrel;have hlw:w.heap.size<W3.heap.size:=by have:=hb.size;have:=aL.size;omega
        have jU:W3.heap.size<w4.heap.size:=(gF.1 Xz).1;have Az:∀b o:Nat,b<=w.heap.size->wr.cell? ⟨b,o,za⟩=w4.cell? ⟨b,o,za⟩:=λb o h=>World.cell?_of_block (hg.block b (by omega) (by simp;omega))
        have DF:=(hg.block _ (by omega) (by simp;omega)).trans x4
        by_cases Tc:y<l.length
        ·obtain⟨q0,q1,q2,q3,q4⟩:=bL DF;have cx0:=(Az lb (Jh+x) (by omega)).trans ((FN.cell (p:=⟨lb,Jh+x,za⟩) ll).trans (lq x vk));have cy0:=(Az lb (Jh+y) (by omega)).trans ((FN.cell (p:=⟨lb,Jh+y,za⟩) ll).trans (lq y Tc));rw[uu]at cx0 cy0;have yN:l.getD x 0<d.tag.length:=hR.lt _ (by rw[bI,bE vk];exact gy _);have O0:l.getD y 0<d.tag.length:=hR.lt _ (by rw[bI,bE Tc];exact gy _);have tU:=hf.fl;have tcx:=(Az tb (jY+l.getD x 0) (by omega)).trans ((FN.cell (p:=⟨tb,jY+l.getD x 0,za⟩) tl).trans (tq _ yN));have tcy:=(Az tb (jY+l.getD y 0) (by omega)).trans ((FN.cell (p:=⟨tb,jY+l.getD y 0,za⟩) tl).trans (tq _ O0));have fcx:=(Az eb (jS+l.getD x 0) (by omega)).trans ((FN.cell (p:=⟨eb,jS+l.getD x 0,za⟩) el).trans (eq _ (by omega)));have fcy:=(Az eb (jS+l.getD y 0) (by omega)).trans ((FN.cell (p:=⟨eb,jS+l.getD y 0,za⟩) el).trans (eq _ (by omega)));have HA:zn (tK d l x y=(!(d.tag.getD (l.getD x 0) 0==d.tag.getD (l.getD y 0) 0) || !(d.fin.getD (l.getD x 0) 0==d.fin.getD (l.getD y 0) 0))):=rfl;have rc:wr.cell? ⟨W3.heap.size,y,za⟩=zh (.bool false):=by rw[dt _ _ _ _ _ _ hr,Gb _ _ Tc];simp
         have rf:=aR _ _ y _ _ hr;have rs:(wr.drew.cell? ⟨W3.heap.size,y,za⟩).isSome=true:=by show (wr.cell? ⟨W3.heap.size,y,za⟩).isSome=true;rw[rc];rfl
         have HN:zn (∀b:Bool,b=tK d l x y->(wr.setCell ⟨W3.heap.size,y,za⟩ (.bool b)).heap[W3.heap.size]?=zh (zD (gu l.length (λj=>decide (j<y+1)&&tK d l x j)) 4 (0,0))):=λb pi=>by
          have:=dx wr W3.heap.size y _ _ (.bool b) hr;rw[TK]at this;rw[this,pi]
          congr 3
          funext j
          by_cases e:j=y
          ·subst e;rw[ae rfl];simp
          ·rw[ab e]
           congr 1
           rw[decide_eq_decide];omega
         generalize d.tag.getD (l.getD x 0) 0=t1 at *;generalize d.tag.getD (l.getD y 0) 0=t2 at *;generalize d.fin.getD (l.getD x 0) 0=f1 at *;generalize d.fin.getD (l.getD y 0) 0=f2 at *;generalize l.getD x 0=sx at *;generalize l.getD y 0=sy at *;have IG:(x:Int)<(l.length:Int):=by omega
         have SE:(y:Int)<(l.length:Int):=by omega
         have hi7:(sx:Int)<(d.tag.length:Int):=by omega
         have hi8:(sy:Int)<(d.tag.length:Int):=by omega
         have SF:(sx:Int)<(d.fin.length:Int):=by omega
         have zCt:(sy:Int)<(d.fin.length:Int):=by omega
         clear hM DF x4 hx Az hr tU;have hst:∀b:Bool,b=tK d l x y->∀nq:Nat,w4.grownBy ((wr.drewN nq).setCell ⟨W3.heap.size,y,za⟩ (.bool b)) (zh W3.heap.size)/\((wr.drewN nq).setCell ⟨W3.heap.size,y,za⟩ (.bool b)).heap[W3.heap.size]?=zh (zD (gu l.length (λj=>decide (j<y+1)&&tK d l x j)) 4 (0,0)):=λb hb nq=>⟨hg.trans (znx wr W3.heap.size y nq (.bool b)),HN.out b hb⟩
         have HS:zn _:=hst;clear hst
         by_cases e1:t1=t2
         ·have hne:(t1 != t2)=false:=by simp[e1]
          have oD:decide (t1=t2)=true:=by simp[e1]
          by_cases e2:f1=f2
          ·have hnf:(f1 != f2)=false:=by simp[e2]
           go_wp2;refine PF 39 du (by kernel_rfl) rfl rfl rfl ?_;intro os aX;simp only[gG,kQ]at aX;subst aX
           repeat (go_big_quiet_step (fail))
           refine wpQuiet_nil ?_;intro w' hw' K hK;obtain⟨nq,rfl⟩:=hw'
           first|go_big_move|go_big_op
           refine hK _ _ ?_;go_wp2
           go_roundw
           case rel=>
            obtain⟨k1,k2⟩:=HS.out false (by rw[HA.out];simp[e1,e2]) nq;exact⟨y+1,by omega,by go_num,k1,k2⟩
           case measure=>simp[intOf];omega
          ·have hnf:(f1 != f2)=true:=by simp[e2]
           go_wp2;refine PF 39 du (by kernel_rfl) rfl rfl rfl ?_;intro os aX;simp only[gG,kQ]at aX;subst aX
           repeat (go_big_quiet_step (fail))
           refine wpQuiet_nil ?_;intro w' hw' K hK;obtain⟨nq,rfl⟩:=hw'
           first|go_big_move|go_big_op
           refine hK _ _ ?_;go_wp2
           go_roundw
           case rel=>
            obtain⟨k1,k2⟩:=HS.out true (by rw[HA.out];simp[e2]) nq;exact⟨y+1,by omega,by go_num,k1,k2⟩
           case measure=>simp[intOf];omega
         ·have hne:(t1 != t2)=true:=by simp[e1]
          go_wp2;refine PF 39 du (by kernel_rfl) rfl rfl rfl ?_;intro os aX;simp only[gG,kQ]at aX;subst aX
          repeat (go_big_quiet_step (fail))
          refine wpQuiet_nil ?_;intro w' hw' K hK;obtain⟨nq,rfl⟩:=hw'
          first|go_big_move|go_big_op
          refine hK _ _ ?_;go_wp2
          go_roundw
          case rel=>
           obtain⟨k1,k2⟩:=HS.out true (by rw[HA.out];simp[e1]) nq;exact⟨y+1,by omega,by go_num,k1,k2⟩
          case measure=>simp[intOf];omega
        ·have Je:y=l.length:=by omega
         subst Je;have di:wr.heap[W3.heap.size]?=zh (zD (gu l.length (tK d l x)) 4 (0,0)):=by
          rw[hr,zlh (g:=tK d l x) (λj hj=>by simp[hj])]
         have dB:zp W3.heap.size W3 wr:=bZ.grown hg vg (λq hq=>by cases hq;exact ax _);have XF:=hM.below dB;have yu:W2.heap.size<=wr.heap.size:=cM Jf dB.size;have HF:zn (∀j,j<x->gr j≠W3.heap.size):=λj hj=>Nat.ne_of_lt (gF.1 (hM.rows j hj)).1
         clear hr hg Xz x4 Az DF hM
         go_wp2_with (refine AZ wr _ rfl rfl (.tmp 108) (.tmp 110) 83 rfl W2.heap.size 37 iS (zi za 0 0) 24 underlying83 Aw AM AO AP rfl g3 zY x (B7 gr l.length x) (zi (zh ⟨W3.heap.size,0,za⟩) l.length l.length) rfl XF.out rfl rfl (by omega) (by omega) yu ?_;intro g' cap' w5 pW Fx eY)
         go_roundw
         case rel=>
          have hm5:=XF.more di Jf HF.out Fx pW;exact⟨x+1,g',cap',_,rfl,by omega,by go_num,(cN.trans (dB.mono Jf)).grown Fx yu (λq hq=>by cases hq;exact(nW XF.out).1),hm5⟩
         case measure=>simp[intOf];omega
      ·have uf:x=l.length:=by omega
       subst uf;have zC5:=Fp.size;have bY:w.heap.size<=W2.heap.size:=Fp.size;have HC:zn (∀W,zp W2.heap.size W2 W->W.heap[w.heap.size]?=zh (zD #[.slice ca d.aD.length cc,zw .i64 (aW d:Int),zi (zh ⟨nb,Pf,za⟩) d.next.length nc,zi (zh ⟨tb,jY,za⟩) d.tag.length tc,zi (zh ⟨eb,jS,za⟩) d.fin.length ec] 25 (0,0))/\
         (∀j,j<l.length->W.cell? ⟨lb,Jh+j,za⟩=zh (zw .i64 ((l.getD j 0:Nat):Int)))/\
         (∀s c,s<d.tag.length->c<aW d->W.cell? ⟨nb,Pf+(s*aW d+c),za⟩=zh (zw .i64 ((bU d s c:Nat):Int)))/\
         (∀j,j<d.tag.length->W.cell? ⟨W0.heap.size,j,za⟩=zh (zw .i64 ((zs.getD j 0:Nat):Int)))/\
         (∀i,i<(eC d (aW d)).length->W.cell? ⟨g,i,za⟩=zh (zw .i64 (((eC d (aW d)).getD i 0:Nat):Int)))):=λW hW=>by
        have hWw:zp w.heap.size w W:=Fp.trans (hW.mono bY);refine⟨(hW.block _ (by have:=hb.size;have:=aL.size;omega)).trans ((aL.block _ (by have:=hb.size;omega)).trans hx),λj hj=>?_,λs c hs hc=>?_,λj hj=>?_,λi hi=>?_⟩
        ·rw[hWw.cell (p:=⟨lb,Jh+j,za⟩) ll,lq j hj,uu]
        ·rw[hWw.cell (p:=⟨nb,Pf+(s*aW d+c),za⟩) nl,nq _ (hf.uh hs hc),(hf.nx hs hc).1]
        ·rw[hW.cell (p:=⟨W0.heap.size,j,za⟩) (by have:=aL.size;show W0.heap.size<_;omega),aL.cell (p:=⟨W0.heap.size,j,za⟩) ot,bV.cellAt j (by omega),Mh _ (by rw[hP.1];exact hj)]
        ·rw[hW.cell (p:=⟨g,i,za⟩) (uw rA),rA.cellAt i (by omega),Mh _ hi]
       have HR:zn (uM d l):=hR;have HP:zn (Kl l zs d.tag.length l.length):=hP;have HF:zn (cL d):=hf;have Ev:zn (zp w.heap.size w W2):=Fp;have HM:zn (iH W2.heap.size wr l.length l.length (zi (zh ⟨g3,0,za⟩) l.length zY) gr (tK d l)):=hM;have pX:=hR.pos;have hul:=zk1 d (aW d);have hMb:∀m':Nat->Nat->Bool,∀W,iH W2.heap.size W l.length l.length (zi (zh ⟨g3,0,za⟩) l.length zY) gr m'->W2.heap.size<=W.heap.size:=λm' W h=>Nat.le_of_lt (Nat.lt_of_le_of_lt (nW h.out).1 (nW h.out).2.1)
       have Hmb:zn _:=hMb;clear hM hR hP hf bV rA iU Fp aG aP hb aL hx x0 cx nx tx ex lx lq ll nq nl tq tl eq el kI KO KR yE yR yS yT Aw AM AO AP l7 eQ eR dR hi hMb;go_wp2
       go_loopw [15] (λgv wr=>∃(b:Bool) (m:Nat->Nat->Bool),gv=.bool b/\zp W2.heap.size W2 wr/\iH W2.heap.size wr l.length l.length (zi (zh ⟨g3,0,za⟩) l.length zY) gr m/\zn (Es d l m/\(b=false->∀x y,x<l.length->y<l.length->(m x y=false↔cD (ai d) (au d) (l.getD x 0) (l.getD y 0)))))
        (λgv wr=>2*zsJ W2.heap.size l.length (zi (zh ⟨g3,0,za⟩) l.length zY) gr wr+Ku gv)
       case atStart=>exact⟨true,_,rfl,cN,HM.out,zm5 d l,λe=>by cases e⟩
       case round=>
        clear HM cN;obtain⟨b,m0,rfl,cO,KP,GK⟩:=hrel;obtain⟨W5,gL⟩:∃W5,W5=wr:=⟨_,rfl⟩;subst gL;have jh:zn _:=KP;clear KP;cases b
        ·go_wp2;refine bw (v:=zi (zh ⟨g3,0,za⟩) l.length zY) (by simp[results,results60,go_sem]) rfl ⟨_,gr,m0,W2.heap.size,rfl,bY,jh.out,Ev.out.trans (cO.mono bY),GK.out.2 (by first|exact rfl|trivial)⟩
        ·go_wp2
         go_loopw [15,16] (λgv i wr=>∃(b:Bool) (m:Nat->Nat->Bool) (x:Nat),gv=.bool b/\i=zw .i64 x/\x<=l.length/\zp W2.heap.size W2 wr/\iH W2.heap.size wr l.length l.length (zi (zh ⟨g3,0,za⟩) l.length zY) gr m/\zn (te d l m0 b m (CC l.length x 0)))
          (λ_ i _=>l.length-(intOf i).toNat)
         case atStart=>exact⟨false,_,0,rfl,rfl,bH _,cO,jh.out,te.start GK.out.1 (λx y h=>by unfold CC at h;omega)⟩
         case round=>
          clear cO;obtain⟨b,m,x,rfl,rfl,FR,gM,Ac,lG⟩:=hrel;obtain⟨W6,lJ⟩:∃W6,W6=wr:=⟨_,rfl⟩;subst lJ;have vL:zn _:=Ac;clear Ac
          by_cases iJ:x<l.length
          ·have SE:(x:Int)<(l.length:Int):=by omega
           go_wp2
           go_loopw [15,17] (λgv i wr=>∃(b:Bool) (m:Nat->Nat->Bool) (y:Nat),gv=.bool b/\i=zw .i64 y/\y<=l.length/\zp W2.heap.size W2 wr/\iH W2.heap.size wr l.length l.length (zi (zh ⟨g3,0,za⟩) l.length zY) gr m/\zn (te d l m0 b m (CC l.length x y)))
            (λ_ i _=>l.length-(intOf i).toNat)
           case atStart=>exact⟨b,m,0,rfl,rfl,bH _,gM,vL.out,lG⟩
           case round=>
            clear gM lG vL;obtain⟨b,m,y,rfl,rfl,wO,iC,Ad,lH⟩:=hrel;obtain⟨W7,Ya⟩:∃W7,W7=wr:=⟨_,rfl⟩;subst Ya
            by_cases Jd:y<l.length
            ·have hi7:(y:Int)<(l.length:Int):=by omega
             have o7:=Ad.Tl iJ;have c7:=(Ad.cell iJ Jd).1;have tD:zn _:=Ad;clear Ad;cases BV:m x y
             ·rw[BV]at c7;go_wp2
              go_loopw [15,132] (λgv i wr=>∃(b:Bool) (m:Nat->Nat->Bool) (k:Nat),gv=.bool b/\i=zw .i64 k/\k<=(eC d (aW d)).length/\zp W2.heap.size W2 wr/\iH W2.heap.size wr l.length l.length (zi (zh ⟨g3,0,za⟩) l.length zY) gr m/\zn (te d l m0 b m (CC l.length x y)/\(b=false->m0 x y=false/\∀j,j<k->Rx d l m0 x y ((eC d (aW d)).getD j 0))))
               (λ_ i _=>(eC d (aW d)).length-(intOf i).toNat)
              case atStart=>exact⟨b,m,0,rfl,rfl,bH _,iC,tD.out,lH.out,λe=>⟨by rw[<-(lH.out.same e).1];exact BV,λj hj=>absurd hj (dP _)⟩⟩
              case round=>
               clear c7 o7 iC lH tD BV;obtain⟨b,m,k,rfl,rfl,cY,fU,C9,dg⟩:=hrel
               by_cases k6:k<(eC d (aW d)).length
               ·obtain⟨Ak,hL,hN,hZ,hU⟩:=HC.out wr fU;obtain⟨q0,q1,q2,q3,q4⟩:=bL Ak;have cu:=hU k k6;have Lf:=kO k6;have yC:=(vx.1 Lf).1;obtain⟨px,ch,LB,WU,hch,ech,pzx⟩:=zp3 HF.out HR.out HP.out iJ Lf;obtain⟨py,ch',Zg,WV,_,_,pzy⟩:=zp3 HF.out HR.out HP.out Jd Lf;have yN:=HR.out.lt _ (kO iJ);have O0:=HR.out.lt _ (kO Jd);have cx0:=hL x iJ;have cy0:=hL y Jd;have Z2:=hN _ _ yN yC;have ny1:=hN _ _ O0 yC;have mg:=(HF.out.nx yN yC).2;have LF:=(HF.out.nx O0 yC).2;have zx:=hZ _ mg;have zy:=hZ _ LF;rw[pzx]at zx;rw[pzy]at zy;obtain⟨P1,eP1,p11,p12,p13,p14,p15⟩:=Jx (s:=l.getD x 0) (by omega) kJ (HF.out.uh yN yC);obtain⟨P2,eP2,p21,p22,p23,p24,p25⟩:=Jx (s:=l.getD y 0) (by omega) kJ (HF.out.uh O0 yC);rw[<-p15]at Z2;rw[<-p25]at ny1;have o1:=C9.Tl LB;have c1:=(C9.cell LB Zg).1;have o2:=C9.Tl iJ;have c2:=(C9.cell iJ Jd).1;have f2:=(C9.cell iJ Jd).2;have zL:zn (m px py=false->(b=false->m0 x y=false/\∀j,j<k+1->Rx d l m0 x y ((eC d (aW d)).getD j 0))):=λe hb=>by
                 obtain⟨k1,k2⟩:=dg.out.2 hb;refine⟨k1,λj hj=>?_⟩
                 by_cases ej:j=k
                 ·subst ej;exact zsc HR.out LB Zg WU WV (by rw[<-(dg.out.1.same hb).1];exact e)
                 ·exact k2 j (by omega)
                have zyW:zn (m px py=true->te d l m0 true (nQ m x y) (CC l.length x y)):=λe=>dg.out.1.put iJ Jd (λhb=>(dg.out.2 hb).1) LB Zg (by rw[WU];unfold ai;rw[ech]) (by rw[WV];unfold ai;rw[ech]) hch e
                have zyL:zn (∀W,iH W2.heap.size W l.length l.length (zi (zh ⟨g3,0,za⟩) l.length zY) gr m->iH W2.heap.size (W.setCell ⟨gr x,y,za⟩ (.bool true)) l.length l.length (zi (zh ⟨g3,0,za⟩) l.length zY) gr (nQ m x y)):=λW h=>h.put iJ y
                have hgx:=C9.base x iJ;have cG:(px:Int)<(l.length:Int):=by omega
                have fA:(py:Int)<(l.length:Int):=by omega
                have oy:(k:Int)<((eC d (aW d)).length:Int):=by omega
                have Dn:((bU d (l.getD x 0) ((eC d (aW d)).getD k 0):Nat):Int)<(d.tag.length:Int):=by omega
                have IG:((bU d (l.getD y 0) ((eC d (aW d)).getD k 0):Nat):Int)<(d.tag.length:Int):=by omega
                have HM8:zn _:=C9;have hz8:=fU.size;clear C9 Ak hL hN hZ hU Lf pzx pzy WU WV p15 p25 mg LF;generalize bU d (l.getD x 0) ((eC d (aW d)).getD k 0)=tsx at *;generalize bU d (l.getD y 0) ((eC d (aW d)).getD k 0)=tsy at *;generalize l.getD x 0=sx at *;generalize l.getD y 0=sy at *;generalize hcc:(eC d (aW d)).getD k 0=cc at *;clear hcc;generalize hmv:m px py=mv at *;clear hmv;cases mv
                ·go_wp2
                 go_quiet (fail)
                 obtain⟨n1,jG⟩:∃n1,n1=nq:=⟨_,rfl⟩;subst jG;go_wp2
                 go_quiet (fail)
                 go_wp2
                 go_roundw
                 case rel=>exact⟨b,m,k+1,rfl,by go_num,by omega,below_drewN fU _,HM8.out.below (below_drewN (Below.refl _ _) _),dg.out.1,zL.out (by first|exact rfl|trivial)⟩
                 case measure=>simp[intOf];omega
                ·go_wp2
                 go_quiet (fail)
                 obtain⟨n1,jG⟩:∃n1,n1=nq:=⟨_,rfl⟩;subst jG;go_wp2
                 go_quiet (fail)
                 go_wp2
                 go_roundw
                 case rel=>exact⟨true,nQ m x y,k+1,rfl,by go_num,by omega,(below_drewN fU _).setCell hgx _,zyL.out _ (HM8.out.below (below_drewN (Below.refl _ _) _)),zyW.out (by first|exact rfl|trivial),λe=>by cases e⟩
                 case measure=>simp[intOf];omega
               ·have cI:k=(eC d (aW d)).length:=by omega
                subst cI;go_wp2
                go_roundw
                case rel=>
                 refine⟨b,m,y+1,rfl,by go_num,by omega,fU,C9,dg.out.1.done λa c h=>?_⟩
                 by_cases e:a=x/\c=y
                 ·obtain⟨rfl,rfl⟩:=e;exact .inr λe h0 c hc=>by
                   obtain⟨j,hj,ej⟩:=Gi hc;rw[<-ej];exact(dg.out.2 e).2 j hj
                 ·exact .inl (by unfold CC at *;omega)
                case measure=>simp[intOf];omega
             ·rw[BV]at c7;go_wp2
              go_roundw
              case rel=>
               refine⟨b,m,y+1,rfl,by go_num,by omega,iC,tD.out,lH.out.done λa c h=>?_⟩
               by_cases e:a=x/\c=y
               ·obtain⟨rfl,rfl⟩:=e;exact .inr λe h0=>by rw[<-(lH.out.same e).1,BV]at h0;cases h0
               ·exact .inl (by unfold CC at *;omega)
              case measure=>simp[intOf];omega
            ·have Je:y=l.length:=by omega
             subst Je;go_wp2
             go_roundw
             case rel=>exact⟨b,m,x+1,rfl,by go_num,by omega,iC,Ad,lH.out.done λa c h=>.inl (by unfold CC at *;omega)⟩
             case measure=>simp[intOf];omega
          ·have uf:x=l.length:=by omega
           subst uf;go_wp2
           go_roundw
           case rel=>
            refine⟨b,m,rfl,gM,vL.out,lG.out.ap,λe=>?_⟩;subst e;exact λx y hx hy=>te.end HF.out HR.out (lG.out.done λa c h=>.inl (by unfold CC;omega)) hx hy
           case measure=>
            rw[zmR vL.out,zmR jh.out];cases b
            ·rw[(lG.out.same rfl).1];simp[Ku]
            ·have:=lG.out.Ie rfl;simp[Ku];omega
end Go.Proofs.Ytfajjdgkiilhfaa
