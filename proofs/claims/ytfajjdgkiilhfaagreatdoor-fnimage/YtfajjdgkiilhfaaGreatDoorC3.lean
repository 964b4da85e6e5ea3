import Derived.Test.YtfajjdgkiilhfaaGreatDoorC2
import Derived.BigQuiet
namespace Go.Proofs.YtfajjdgkiilhfaaGreatDoor
open Proofs.Tryz
open Option renaming none->za,some->zb
open Value renaming slice->zc,int->zf
open RowKit renaming Hid->zd,Below->ze
open Go renaming World->zg,Value->zi
open Obj renaming cells->zh
set_option maxHeartbeats 4000000
set_option maxRecDepth 100000
open Go.RowKit
attribute [local go_sem ↓] wp_at_zero wp_at_succ
section
variable {B n x g cap k:Nat}{w:zg}{gr:Nat -> Nat}{m m' m0:Nat -> Nat -> Bool}{v:zi}{d:aL}{l:List Nat}{b:Bool}{D:Nat -> Nat -> Prop}
theorem zoU(W:zg)(b j n:Nat)(v:zi):W.grownBy ((W.drewN n).setCell ⟨b,j,za⟩ v) (zb b):=
 ⟨rfl,rfl,rfl,(ZL W b j v).size,(ZL W b j v).block⟩
theorem iy.more{w5:zg}{gx:Nat}{v':zi}(h:iy B w n x (zc (zb ⟨g,0,za⟩) x cap) gr m)(hr:w.heap[gx]?=zb (zh (oR n (m x)) 4 (0,0)))(hB:B<=gx)(hf:∀j,j<x->gr j≠gx)
  (jn:w.grownBy w5 (zb g)) (bL:w5.ownsRow B 93 1 v' (x+1) (A1 gr n x++[zc (zb ⟨gx,0,za⟩) n n])):iy B w5 n (x+1) v' (λj=>if j=x then gx else gr j) m:=by
 have hg:∃aZ:Array zi,w.heap[g]?=zb (zh aZ 93 (0,0)):=by
  rcases h.out.2 with ⟨h0,_⟩|⟨g',cap',aZ,hv,_,hh,_⟩
  ·cases h0
  ·cases hv;exact⟨aZ,hh⟩
 obtain⟨aZ,hg⟩:=hg;have hne:∀(b:Nat) (c:Array zi),w.heap[b]?=zb (zh c 4 (0,0))->w5.heap[b]?=zb (zh c 4 (0,0)):=λb c hb=>
  (jn.block b (lU.1 hb).1 (λe=>by cases e;rw[hg]at hb;exact absurd (zR hb) (by decide))).trans hb
 refine⟨?_,λj hj=>?_,λj hj=>?_,λa b ha hb e=>?_⟩
 ·rw[zrA,zpr (gr':=gr) (λj hj=>by rw[ab (by omega)]),af rfl];exact bL
 ·by_cases e:j=x
  ·subst e;rw[af rfl];exact hne _ _ hr
  ·rw[ab e];exact hne _ _ (h.rows j (by omega))
 ·by_cases e:j=x
  ·rw[af e];exact hB
  ·rw[ab e];exact h.base j (by omega)
 ·by_cases e1:a=x
  ·by_cases e2:b=x
   ·omega
   ·rw[af e1,ab e2]at e;exact absurd e.symm (hf b (by omega))
  ·by_cases e2:b=x
   ·rw[ab e1,af e2]at e;exact absurd e (hf a (by omega))
   ·rw[ab e1,ab e2]at e;exact h.inj a b (by omega) (by omega) e
theorem iy.same(h:iy B w n k v gr m)(h':iy B w n k v gr m'){x y:Nat}(hx:x<k)(hy:y<n):m x y=m' x y:=by
 have:=(h.cell hx hy).1.symm.trans (h'.cell hx hy).1
 simpa using this
theorem zna(h:∀x y,x<n->y<n->m x y=m' x y):yw n m=yw n m':=by
 unfold yw
 congr 1
 refine Ak λx hx=>?_
 congr 1
 exact List.filter_congr λy hy=>by rw[h x y (by simpa using hx) (by simpa using hy)]
noncomputable def zuE (B:Nat) (n:Nat) (v:zi) (gr:Nat->Nat) (w:zg):Nat:=open Classical in if h:∃m,iy B w n n v gr m then yw n h.choose else 0
theorem zod(h:iy B w n n v gr m):zuE B n v gr w=yw n m:=by
 have hx:∃m,iy B w n n v gr m:=⟨m,h⟩;unfold zuE;rw[dif_pos hx];exact zna λx y EN hy'=>hx.choose_spec.same h EN hy'
theorem znb{y:Nat}(hx:x<n)(hy:y<n):yw n (nQ m x y)<=yw n m:=by
 cases e:m x y
 ·have:=zoe hx hy e;omega
 ·have:nQ m x y=m:=by
   funext a b
   unfold nQ;split
   ·rename_i k;rw[k.1,k.2,e]
   ·rfl
  rw[this];exact aq _
def Qz(d:aL)(l:List Nat)(m:Nat->Nat->Bool)(x y c:Nat):Prop:=
 ∀tx ty,tx<l.length->ty<l.length->l.getD tx 0=fj d (l.getD x 0) c->l.getD ty 0=fj d (l.getD y 0) c->m tx ty=false
def zya(d:aL)(l:List Nat)(m:Nat->Nat->Bool)(x y:Nat):Prop:=m x y=false->∀c,c∈ik d (bn d)->Qz d l m x y c
structure sS(d:aL)(l:List Nat)(m0:Nat->Nat->Bool)(b:Bool)(m:Nat->Nat->Bool)(D:Nat->Nat->Prop):Prop where
 ap:Dt d l m
 V8:b=true->yw l.length m<yw l.length m0
 same:b=false->m=m0/\∀x y,D x y->zya d l m0 x y
theorem sS.start(h:Dt d l m0){D:Nat->Nat->Prop}(hD:∀x y,¬D x y):sS d l m0 false m0 D:=⟨h,λe=>(by cases e),λ_=>⟨rfl,λx y hd=>absurd hd (hD x y)⟩⟩
theorem sS.done{D':Nat->Nat->Prop}(h:sS d l m0 b m D)(hD:∀x y,D' x y->D x y\/(b=false->zya d l m0 x y)):sS d l m0 b m D':=
 ⟨h.ap,h.V8,λe=>⟨(h.same e).1,λx y hd=>(hD x y hd).elim ((h.same e).2 x y) (λk=>k e)⟩⟩
theorem sS.put(h:sS d l m0 b m D){x y tx ty c:Nat}(hx:x<l.length)(hy:y<l.length)(h0:b=false->m0 x y=false)(zG:tx<l.length)(EK:ty<l.length)(ex:l.getD tx 0=bH d (l.getD x 0) c)(ey:l.getD ty 0=bH d (l.getD y 0) c)(hc:c<256)(ht:m tx ty=true):sS d l m0 true (nQ m x y) D:=
 ⟨h.ap.put zG EK ex ey hc ht,λ_=>by
  cases b
  ·have e:=(h.same rfl).1;rw[e];have:=zoe hx hy (h0 rfl);omega
  ·exact Nat.lt_of_le_of_lt (znb hx hy) (h.V8 rfl),λe=>by cases e⟩
theorem sS.end(hf:eI d){l:List Nat}(hR:uz d l){m0 m:Nat->Nat->Bool}(h:sS d l m0 false m λx y=>x<l.length/\y<l.length){x y:Nat}(hx:x<l.length)(hy:y<l.length):m x y=false↔fg (bH d) (dI d) (l.getD x 0) (l.getD y 0):=by
 obtain⟨e,hc⟩:=h.same rfl;subst e;exact zpB hf hR h.ap (λx y hx hy e c zn hcc=>hc x y ⟨hx,hy⟩ e c (zil.2 ⟨zn,hcc⟩)) hx hy
theorem zrR(hf:eI d){c:Nat}(h:c∈ik d (bn d)):∃ch,ch<256/\kw d ch=c:=by
 obtain⟨i,hi,e⟩:=Al.1 (zil.1 h).2;have aV:=hf.cl;refine⟨i,by omega,?_⟩;unfold kw;rw[bJ,bE hi,e];simp
theorem zrS(hf:eI d){l zs:List Nat}{n:Nat}(hR:uz d l)(hP:Jc l zs n l.length){x c:Nat}(hx:x<l.length)(hc:c∈ik d (bn d)):∃tx ch,tx<l.length/\l.getD tx 0=fj d (l.getD x 0) c/\ch<256/\kw d ch=c/\zs.getD (fj d (l.getD x 0) c) 0=tx:=by
 obtain⟨ch,hch,e⟩:=zrR hf hc;have mx:l.getD x 0∈l:=by rw[bJ,bE hx];exact gA _
 obtain⟨tx,zG,ex⟩:=Fk (hR.cl _ mx ch hch);have ex':l.getD tx 0=fj d (l.getD x 0) c:=by rw[ex];unfold bH;rw[e]
 exact⟨tx,ch,zG,ex',hch,e,by rw[<-ex'];exact hP.2 tx zG⟩
theorem zt0(hR:uz d l){m:Nat->Nat->Bool}{x y c tx ty:Nat}(zG:tx<l.length)(EK:ty<l.length)(ex:l.getD tx 0=fj d (l.getD x 0) c)(ey:l.getD ty 0=fj d (l.getD y 0) c)(h:m tx ty=false):Qz d l m x y c:=λtx' ty' h1 h2 e1 e2=>by
 rw[Tp hR.nd h1 zG (e1.trans ex.symm),Tp hR.nd h2 EK (e2.trans ey.symm)];exact h
theorem zms{f g:Nat->Bool}(h:∀j,j<n->f j=g j):oR n f=oR n g:=by
 unfold oR
 congr 1
 exact Ak λj hj=>by rw[h j (by simpa using hj)]
theorem iy.SF(h:iy B w n k (zc (zb ⟨g,0,za⟩) k cap) gr m){x:Nat}(hx:x<k):w.cell? ⟨g,x,za⟩=zb (zc (zb ⟨gr x,0,za⟩) n n):=by
 obtain⟨g',cap',e,_,_,h⟩:=h.outer (by omega);cases e;exact h x hx
def VQ:zi->Nat
 |.bool true=>1
 |_=>0
def Bv(n x y:Nat):Nat->Nat->Prop:=λa b=>(a<x/\b<n)\/(a=x/\b<y)
theorem TC{s wd c L:Nat}(hs:s<=4000)(hw:wd<=256)(hL:s*wd+c<L):∃P:Int,(s:Int)*(wd:Int)=P/\0<=P/\P<=1024000/\P+(c:Int)<(L:Int)/\0<=P+(c:Int)/\(P+(c:Int)).toNat=s*wd+c:=by
 have h1:s*wd<=4000*256:=oU hs hw;have e:(s:Int)*(wd:Int)=((s*wd:Nat):Int):=by simp
 refine⟨_,e,?_⟩;generalize s*wd=q at *;omega
theorem zV{i:Nat}(h:i<l.length):l.getD i 0∈l:=by rw[bJ,bE h];exact gA _
def ApR(w:zg)(d:aL)(l:List Nat)(e:Ending)(w':zg):Prop:=
 ∃(v:zi) (gr:Nat->Nat) (m:Nat->Nat->Bool) (B:Nat),e=.returned v/\w.heap.size<=B/\iy B w' l.length l.length v gr m/\ze w.heap.size w w'/\
  ∀x y,x<l.length->y<l.length->(m x y=false↔fg (bH d) (dI d) (l.getD x 0) (l.getD y 0))
end
section
open Go
section
variable {P:Program} {ops:Array Oper} {md:Region.Mode} {C:zg->Prop}
def Fj(P:Program)(md:Region.Mode)(ops:Array Oper)(C:zg->Prop)(n:Nat)(Q:Act->Prop):Nat->Array Bool->Act->Prop
 |0,listed,a=>Region.ready md ops listed=[n]/\Region.ready md ops (listed.setIfInBounds n true)=[]/\Q a
 |fuel+1,listed,a=>Region.ready md ops listed≠[]/\∀i∈Region.ready md ops listed,qOp P ops C i (Fj P md ops C n Q fuel (listed.setIfInBounds i true)) a
theorem ZG{Q:Act->Prop}{Q':Exit->Act->zg->Prop}{n:Nat}(hQ:∀a w,C w->Q a->wpOp P ops Q' n (λa w=>Q' .normal a w) a w):
  ∀(fuel:Nat) (listed:Array Bool) (a:Act) (w:zg),C w->Fj P md ops C n Q fuel listed a->wpAny P md ops Q' (fuel+1) listed a w
 |0,listed,a,w,hw,h=>⟨λh0=>by rw[h.1]at h0;(cases h0),λi hi=>by
   rw[h.1]at hi;have e:i=n:=by simpa using hi
   subst e;exact wpOp_mono (λa w h'=>⟨h.2.1,h'⟩) (hQ _ _ hw h.2.2)⟩
 |fuel+1,listed,a,w,hw,h=>⟨λh0=>absurd h0 h.1,λi hi=>wpOp_of_qOp hw (λa' w' hw'=>ZG hQ fuel _ a' w' hw') (h.2 i hi)⟩
theorem zmf{Q:Act->Prop}{i n:Nat}{oi:Oper}{v:zi}(hi:ops[i]?=zb oi)(nI:∀listed:Array Bool,n∈Region.ready md ops listed->listed.getD i true=true)(zF:∀(j:Nat) (o:Oper) cs b,ops[j]?=zb o->o.op≠.select cs b):
  ∀(fuel:Nat) (listed:Array Bool) (a:Act),
   (∀j oj,ops[j]?=zb oj->j≠i->listed.getD j true=false->(∀e∈oj.after,Region.binds md e=true->e.on≠i)->oi.apart ops oj=true)->
   i∈Region.ready md ops listed->YieldsIn P ops C oi v a->
   Fj P md ops C n Q fuel (listed.setIfInBounds i true) (a.put oi.dst v)->Fj P md ops C n Q (fuel+1) listed a:=by
 intro fuel
 induction fuel with
 |zero=>
  intro listed a _ hr hy H;refine⟨λh=>(by rw[h]at hr;cases hr),λj hj=>?_⟩
  by_cases gB:j=i
  ·subst gB;exact hy.qOp hi H
  ·have:=ready_mono hj gB;rw[H.1]at this;have e:j=n:=by simpa using this
   subst e;have h1:=nI _ hj;rw[(mem_ready.1 hr).1]at h1;cases h1
 |succ fuel ih=>
  intro listed a vU hr hy H;refine⟨λh=>(by rw[h]at hr;cases hr),λj hj=>?_⟩
  by_cases gB:j=i
  ·subst gB;exact hy.qOp hi H
  ·have h1:=H.2 j (ready_mono hj gB);obtain⟨zA,oj,qB,bm⟩:=mem_ready.1 hj;have GX:∀e∈oj.after,Region.binds md e=true->e.on≠i:=λe he hb Ci=>by
    have h1:=bm e he hb;have h0:=(mem_ready.1 hr).1;rw[Ci]at h1;rcases Nat.lt_or_ge i listed.size with h'|h'
    ·simp[h']at h0 h1;rw[h0]at h1;cases h1
    ·simp[Array.getElem?_eq_none h']at h1
   have h2:=qOp_put qB (vU j oj qB gB zA GX) (λcs b=>zF i oi cs b hi) (λcs b=>zF j oj cs b qB) hy h1;have GH:∀k ok,ops[k]?=zb ok->k≠i->(listed.setIfInBounds j true).getD k true=false->
     (∀e∈ok.after,Region.binds md e=true->e.on≠i)->oi.apart ops ok=true:=λk ok hk GO mV hno=>by
    refine vU k ok hk GO ?_ hno
    by_cases qz:j=k
    ·subst qz;exact zA
    ·rw[getD_set_ne true qz]at mV;exact mV
   refine qOp_mono (λa' h3=>ih (listed.setIfInBounds j true) a' GH (ready_mono hr (Ne.symm gB)) h3.1 ?_) h2;rw[Array.setIfInBounds_comm _ _ gB];exact h3.2
def CE(md:Region.Mode)(ops:Array Oper)(n:Nat):Nat->Nat->Array Bool->Bool
 |0,_,listed=>(Region.ready md ops listed == [n])&&(Region.ready md ops (listed.setIfInBounds n true)).isEmpty
 |fuel+1,k,listed=>(Region.ready md ops listed).contains k&&Region.free md ops listed k&&CE md ops n fuel (k+1) (listed.setIfInBounds k true)
def Df(md:Region.Mode)(ops:Array Oper)(n i:Nat):Bool:=
 match ops[n]? with
 |some o=>o.after.any λe=>Region.binds md e&&e.on==i
 |none=>false
def zus(md:Region.Mode)(ops:Array Oper)(n:Nat):Bool:=
 Region.noSelect ops&&(List.range n).all (Df md ops n)&&CE md ops n n 0 (Array.replicate ops.size false)
theorem Tk{n i:Nat}(h:Df md ops n i=true)(listed:Array Bool)(hr:n∈Region.ready md ops listed):listed.getD i true=true:=by
 obtain⟨_,o,ho,bm⟩:=mem_ready.1 hr;unfold Df at h;rw[ho]at h;simp only[Array.any_eq_true,Bool.and_eq_true,beq_iff_eq]at h;obtain⟨k,hk,hb,he⟩:=h;have h1:=bm _ (Array.getElem_mem hk) hb;rw[he]at h1;rcases Nat.lt_or_ge i listed.size with h'|h'
 ·simp[h']at h1 ⊢;exact h1
 ·simp[Array.getElem?_eq_none h']at h1
theorem zjx{Q:Act->Prop}{n:Nat}(hs:Region.noSelect ops=true)(hn:∀i,i<n->Df md ops n i=true):∀(l:List Oper) (k:Nat) (listed:Array Bool) (a:Act),(∀j,j<l.length->l[j]?=ops[k+j]?)->k+l.length=n->
  CE md ops n l.length k listed=true->wpQuiet P ops C Q l a->Fj P md ops C n Q l.length listed a
 |[],_,_,_,_,_,hB,h=>by
  simp only[List.length_nil,CE,Bool.and_eq_true,beq_iff_eq,List.isEmpty_iff]at hB;exact⟨hB.1,hB.2,h⟩
 |o::l,k,listed,a,hl,kz,hB,h=>by
  have h0:ops[k]?=zb o:=by simpa using (hl 0 (by simp)).symm
  simp only[List.length_cons,CE,Bool.and_eq_true]at hB;obtain⟨⟨hr,hf⟩,B6⟩:=hB;have hst:qOp P ops C k (wpQuiet P ops C Q l) a:=by unfold qOp;simp only[h0];exact h
  obtain⟨v,hy,hK⟩:=yieldsIn_of_qOp h0 hst;simp only[List.length_cons]at kz;exact zmf h0 (Tk (hn k (by omega))) (Region.noSelect_spec hs) l.length listed a (Region.free_spec h0 hf) (by simpa using hr) hy
   (zjx hs hn l (k+1) _ _ (λj hj=>by have:=hl (j+1) (by simp;omega);simpa [Nat.add_assoc,Nat.add_comm 1 j]using this) (by omega) B6 hK)
theorem ziJ{id:Nat}{Q:Exit->Act->zg->Prop}{a:Act}{w:zg}{all l:List Oper}{o:Oper}(hm:P.follows .mixedOrders=true)(hB:zus .any all.toArray l.length=true)(bm:all=l++[o])(hg:o.guard=za)
  (h:wpQuiet P all.toArray (λw'=>∃n,w'=w.drewN n) (λa'=>∀w',(∃n,w'=w.drewN n)->∀K:Act->zg->Prop,(∀a w,Q .normal a w->K a w)->o.wp P a' w' K Q) l a):(Code.region id all.toArray true).wp P Q a w:=by
 simp only[zus,Bool.and_eq_true,List.all_eq_true,List.mem_range]at hB;have hsz:all.toArray.size=l.length+1:=by simp[bm]
 have hlen:all.toArray[l.length]?=zb o:=by simp[bm]
 refine wp_region_any hm ?_;rw[hsz];refine ZG (C:=λw'=>∃n,w'=w.drewN n) (n:=l.length) (Q:=λa'=>∀w',(∃n,w'=w.drewN n)->∀K:Act->zg->Prop,(∀a w,Q .normal a w->K a w)->o.wp P a' w' K Q) ?_ l.length _ a _ ⟨1,rfl⟩ ?_
 ·intro a' w' hw' hq;unfold wpOp;rw[hlen];simp only[Region.wanted,hg];exact .inl (hq w' hw' _ λ_ _ h=>h)
 ·rw[<-hsz];exact zjx hB.1.1 hB.1.2 l 0 _ a (λj hj=>by simp[bm,List.getElem?_append_left hj]) (by simp) hB.2 h
theorem Zx(n:Nat){id:Nat}{Q:Exit->Act->zg->Prop}{a:Act}{w:zg}{all:List Oper}{o:Oper}(hm:P.follows .mixedOrders=true)(hB:zus .any all.toArray n=true)(hl:all.length=n+1)(ho:all[n]?=zb o)(hg:o.guard=za)
  (h:∀l,l=all.take n->wpQuiet P all.toArray (λw'=>∃n,w'=w.drewN n) (λa'=>∀w',(∃n,w'=w.drewN n)->∀K:Act->zg->Prop,(∀a w,Q .normal a w->K a w)->o.wp P a' w' K Q) l a):(Code.region id all.toArray true).wp P Q a w:=by
 refine ziJ (l:=all.take n) (o:=o) hm (by rw[List.length_take,hl,Nat.min_eq_left (by omega)];exact hB) ?_ hg (h _ rfl);apply List.ext_getElem?;intro j
 by_cases hj:j<n
 ·rw[List.getElem?_append_left (by rw[List.length_take];omega),List.getElem?_take,if_pos hj]
 ·rw[List.getElem?_append_right (by rw[List.length_take];omega),List.length_take,hl,Nat.min_eq_left (by omega)]
  by_cases e:j=n
  ·subst e;simp[ho]
  ·rw[List.getElem?_eq_none (by omega),List.getElem?_eq_none (by simp;omega)]
end
end
theorem zo4{lo:Nat}(cv nv tv ev lv:zi)(d:aL)(l:List Nat)(w:zg)(hs:dP lo w cv nv tv ev d)(hf:eI d)(hl:dD lo w lv (dy l))(hR:uz d l):
  Calls prog 74 #[.agg #[cv,zf .i64 d.width,nv,tv,ev],lv] w (ApR w d l):=by
 have fF:prog.follows .mixedOrders=true:=by kernel_rfl
 obtain⟨i0,hi,da,dt,cR⟩:=info_parts Tryz.pX;obtain⟨hw,xU,kY⟩:=hf.wd;rw[hw];clear hw;have pj:=hs;obtain⟨⟨ca,cc,rfl,cm,cx⟩,⟨na,nc,rfl,nm,nx⟩,⟨ta,tc,rfl,tm,tx⟩,⟨ea,ec,rfl,em,ex⟩⟩:=hs;obtain⟨la,lc,rfl,lm,lx⟩:=hl;rw[gV]at *;have j7:=hf.n1;have kA:=hf.n2;have hlen:=Fe _ l hR.nd hR.lt;obtain⟨tb,rH,rfl,_,tl,tq⟩:=tx (by omega);obtain⟨eb,rn,rfl,_,el,eq⟩:=ex (by have:=hf.fl;omega);obtain⟨lb,Hw,rfl,_,ll,lq⟩:=lx (by rw[gV];exact hR.pos);rw[gV]at lq;obtain⟨nb,Oa,rfl,_,nl,nq⟩:=nx (by have:=hf.AZ (s:=0) (c:=0) (by omega) (by omega);omega);obtain⟨W0,aw⟩:∃W0,w.alloc (zh #[.slice ca d.ai.length cc,zf .i64 (bn d:Int),zc (zb ⟨nb,Oa,za⟩) d.next.length nc,zc (zb ⟨tb,rH,za⟩) d.tag.length tc,zc (zb ⟨eb,rn,za⟩) d.fin.length ec] 25)=W0:=⟨_,rfl⟩;have aD:ze w.heap.size w W0:=by rw[<-aw];exact ax
 have x0:W0.heap[w.heap.size]?=zb (zh #[.slice ca d.ai.length cc,zf .i64 (bn d:Int),zc (zb ⟨nb,Oa,za⟩) d.next.length nc,zc (zb ⟨tb,rH,za⟩) d.tag.length tc,zc (zb ⟨eb,rn,za⟩) d.fin.length ec] 25 (0,0)):=by rw[<-aw];exact aJ _ _
 have J6:w.heap.size<W0.heap.size:=(lU.1 x0).1;obtain⟨q0,q1,q2,q3,q4⟩:=dM x0
 go_enter func74,ntmps74
 go_wp2_with (refine wpList_make_full _ rfl _ _ 23 rfl W0.heap.size 3 i0 _ 1 underlying23 hi da dt _ _ _ _ d.tag.length rfl rfl rfl rfl (by rw[cR];omega) (by unfold maxLen;omega) (aq _) ?_;intro w1 bL jn)
 have aO:ze W0.heap.size W0 w1:=(Below.refl _ _).grown jn (aq _) (by intro k h;cases h);clear jn q0 q1 q2 q3 q4;rw[zhO]at bL
 go_loopw [30] (λi wr=>∃k:Nat,k<=l.length/\i=zf .i64 k/\ze W0.heap.size W0 wr/\∃zs:List Nat,Jc l zs d.tag.length k/\wr.ownsRow W0.heap.size 3 1 (zc (zb ⟨W0.heap.size,0,za⟩) d.tag.length d.tag.length) d.tag.length (lO zs))
  (λi _=>l.length-(intOf i).toNat)
 case atStart=>exact⟨0,dz _,rfl,aO,_,⟨by simp,λj hj=>absurd hj (fw _)⟩,bL⟩
 case round=>
  obtain⟨k,hk,rfl,hb,zs,hP,bL⟩:=hrel
  by_cases hlt:k<l.length
  ·have fP:ze w.heap.size w wr:=aD.trans (hb.mono aD.size);have c0:=(fP.cell (p:=⟨lb,Hw+k,za⟩) ll).trans (lq k hlt);rw[A2]at c0;have qF:l.getD k 0<d.tag.length:=hR.lt _ (by rw[bJ,bE hlt];exact gA _);have HP:zd _:=hP.next hR.nd hlt qF;obtain⟨u0,d0⟩:=TK bL (j:=l.getD k 0) (by omega);have f0:=bL.frozenAt (l.getD k 0);have hst:=(bL.stored (l.getD k 0) (zf .i64 (k:Int))).1;rw[znX]at hst;generalize l.getD k 0=s0 at *;have eC:(0:Int)<=(k:Int):=by omega
   have dg:(k:Int)<(l.length:Int):=by omega
   have pg:(s0:Int)<(d.tag.length:Int):=by omega
   go_wp2
   go_roundw
   case rel=>exact⟨k+1,by omega,by go_num,hb.setCell (by simp) _,_,HP.out,hst⟩
   case measure=>simp[intOf];omega
  ·have cC:k=l.length:=by omega
   subst cC;obtain⟨W1,cZ⟩:∃W1,W1=wr:=⟨_,rfl⟩;subst cZ;have hx:=(hb.block _ J6).trans x0;obtain⟨q0,q1,q2,q3,q4⟩:=dM hx;have fP:ze w.heap.size w W1:=aD.trans (hb.mono aD.size);have pR:=Aa bL;have oB:(W1.alloc (zh #[] 3)).ownsRow W1.heap.size 3 1 (zc (zb ⟨W1.heap.size,0,za⟩) 0 0) 0 []:=KP W1 3;go_wp2;clear q0 q1 q2 q3 q4
   go_loopw [9,10] (λv i wr=>∃(c g cap:Nat),c<=bn d/\i=zf .i64 c/\v=zc (zb ⟨g,0,za⟩) (ik d c).length cap/\ze W1.heap.size W1 wr/\wr.ownsRow W1.heap.size 3 1 (zc (zb ⟨g,0,za⟩) (ik d c).length cap) (ik d c).length (lO (ik d c)))
    (λ_ i _=>bn d-(intOf i).toNat)
   case atStart=>exact⟨0,_,_,dz _,rfl,rfl,ax,oB⟩
   case round=>
    obtain⟨c,g,cap,hc,rfl,rfl,aB,uN⟩:=hrel;have lN:=(aB.block _ (dR J6 hb.size)).trans hx;obtain⟨q0,q1,q2,q3,q4⟩:=dM lN
    by_cases aV:c<bn d
    ·have dk:ze w.heap.size w wr:=fP.trans (aB.mono fP.size);have du:=Ow _ d.ai c wr (pj.ai.below dk);have Qm:zd (0<=ld d.ai c↔(c:Int)∈d.ai):=zm7;have zxR:zd _:=zpu d c;have hul:=zme d c;have hB:=aB.size;generalize ld d.ai (c:Int)=pu at *;have xN:(c:Int)<(bn d:Int):=by omega
     by_cases hu:0<=pu
     ·go_wp2_with (first|(go_at_call 76;refine du.mono ?_;rintro e w' ⟨rfl,hw'⟩;subst w')|(refine CL wr _ rfl rfl (.tmp 52) (.tmp 54) 23 rfl W1.heap.size 3 i0 (zf .i64 0) 8 underlying23 hi da dt cR rfl g cap (ik d c).length (lO (ik d c)) (zf .i64 (c:Int)) rfl uN rfl rfl (by omega) (by omega) hB ?_;intro g' cap' w5 Kg JX fV))
      go_roundw
      case rel=>
       have e:ik d (c+1)=ik d c++[c]:=by rw[zxR.out,af (Qm.out.1 (by omega))]
       refine⟨c+1,g',cap',by omega,by go_num,by rw[e];simp,aB.grown JX hB (λq hq=>by cases hq;exact(qd uN).1),?_⟩;rw[e,zlt]
       simpa using Kg
      case measure=>simp[intOf];omega
     ·go_wp2_with (go_at_call 76;refine du.mono ?_;rintro e w' ⟨rfl,hw'⟩;subst w')
      go_roundw
      case rel=>
       have e:ik d (c+1)=ik d c:=by rw[zxR.out,ab (λk=>by have:=Qm.out.2 k;omega)]
       exact⟨c+1,g,cap,by omega,by go_num,by rw[e],aB,by rw[e];exact uN⟩
      case measure=>simp[intOf];omega
    ·have hcc:c=bn d:=by omega
     subst hcc;obtain⟨W2,fe⟩:∃W2,W2=wr:=⟨_,rfl⟩;subst fe;have Er:ze w.heap.size w W2:=fP.trans (aB.mono fP.size);have hO0:(W2.alloc (zh #[] 93)).ownsRow W2.heap.size 93 1 (zc (zb ⟨W2.heap.size,0,za⟩) 0 0) 0 []:=KP W2 93;have JF:iy W2.heap.size (W2.alloc (zh #[] 93)) l.length 0 (zc (zb ⟨W2.heap.size,0,za⟩) 0 0) (λ_=>0) (tA d l):=⟨hO0,λx hx=>absurd hx (fw _),λx hx=>absurd hx (fw _),λx _ hx=>absurd hx (fw _)⟩;obtain⟨iB,Ez,EQ,ER,ES⟩:=info_parts Tryz.zCi;obtain⟨iS,J1,Km,Kn,Ko⟩:=info_parts Tryz.zCk;go_wp2;clear q0 q1 q2 q3 q4
     go_loopw [11,12] (λv i wr=>∃(x g cap:Nat) (gr:Nat->Nat),v=zc (zb ⟨g,0,za⟩) x cap/\x<=l.length/\i=zf .i64 x/\ze W2.heap.size W2 wr/\iy W2.heap.size wr l.length x (zc (zb ⟨g,0,za⟩) x cap) gr (tA d l))
      (λ_ i _=>l.length-(intOf i).toNat)
     case atStart=>exact⟨0,_,_,_,rfl,dz _,rfl,ax,JF⟩
     case round=>
      obtain⟨x,g3,yW,gr,rfl,hxl,rfl,fD,hM⟩:=hrel
      by_cases sA:x<l.length
      ·obtain⟨W3,Rf⟩:∃W3,W3=wr:=⟨_,rfl⟩;subst Rf;have Ht:=fD.size
       go_wp2_with (refine wpList_make_full _ rfl _ _ 93 rfl W3.heap.size 4 iB _ 1 underlying93 Ez EQ ER _ _ _ _ l.length rfl rfl rfl rfl (by rw[ES];omega) (by unfold maxLen;omega) (aq _) ?_;intro w4 Kf Nj)
       have r4:=zq3 Kf;rw[zm3]at r4;have de:ze W3.heap.size W3 w4:=(Below.refl _ _).grown Nj (aq _) (by intro k h;cases h);have zyt:ze W2.heap.size W2 w4:=fD.trans (de.mono Ht);have EM:ze w.heap.size w w4:=Er.trans (zyt.mono Er.size);have Sk:=de.size;have WO:w4.heap[W3.heap.size]?=zb (zh (oR l.length (λj=>decide (j<0)&&tA d l x j)) 4 (0,0)):=by rw[r4];congr 3
       have x4:=(zyt.block _ (by have:=hb.size;have:=aB.size;omega)).trans ((aB.block _ (by have:=hb.size;omega)).trans hx);clear Kf Nj r4
       go_loopw [14] (λi wr=>∃y:Nat,y<=l.length/\i=zf .i64 y/\w4.grownBy wr (zb W3.heap.size)/\wr.heap[W3.heap.size]?=zb (zh (oR l.length (λj=>decide (j<y)&&tA d l x j)) 4 (0,0)))
        (λi _=>l.length-(intOf i).toNat)
       case atStart=>exact⟨0,dz _,rfl,World.grownBy.refl _ _,WO⟩
       case round=>
        obtain⟨y,hy,rfl,hg,hr⟩:=hrel;have hlw:w.heap.size<W3.heap.size:=by have:=hb.size;have:=aB.size;omega
        have iK:W3.heap.size<w4.heap.size:=(lU.1 WO).1;have vX:∀b o:Nat,b<=w.heap.size->wr.cell? ⟨b,o,za⟩=w4.cell? ⟨b,o,za⟩:=λb o h=>World.cell?_of_block (hg.block b (by omega) (by simp;omega))
        have CC:=(hg.block _ (by omega) (by simp;omega)).trans x4
        by_cases YS:y<l.length
        ·obtain⟨q0,q1,q2,q3,q4⟩:=dM CC;have cx0:=(vX lb (Hw+x) (by omega)).trans ((EM.cell (p:=⟨lb,Hw+x,za⟩) ll).trans (lq x sA));have cy0:=(vX lb (Hw+y) (by omega)).trans ((EM.cell (p:=⟨lb,Hw+y,za⟩) ll).trans (lq y YS));rw[A2]at cx0 cy0;have xR:l.getD x 0<d.tag.length:=hR.lt _ (by rw[bJ,bE sA];exact gA _);have NV:l.getD y 0<d.tag.length:=hR.lt _ (by rw[bJ,bE YS];exact gA _);have rq:=hf.fl;have tcx:=(vX tb (rH+l.getD x 0) (by omega)).trans ((EM.cell (p:=⟨tb,rH+l.getD x 0,za⟩) tl).trans (tq _ xR));have tcy:=(vX tb (rH+l.getD y 0) (by omega)).trans ((EM.cell (p:=⟨tb,rH+l.getD y 0,za⟩) tl).trans (tq _ NV));have fcx:=(vX eb (rn+l.getD x 0) (by omega)).trans ((EM.cell (p:=⟨eb,rn+l.getD x 0,za⟩) el).trans (eq _ (by omega)));have fcy:=(vX eb (rn+l.getD y 0) (by omega)).trans ((EM.cell (p:=⟨eb,rn+l.getD y 0,za⟩) el).trans (eq _ (by omega)));have HA:zd (tA d l x y=(!(d.tag.getD (l.getD x 0) 0==d.tag.getD (l.getD y 0) 0) || !(d.fin.getD (l.getD x 0) 0==d.fin.getD (l.getD y 0) 0))):=rfl;have rc:wr.cell? ⟨W3.heap.size,y,za⟩=zb (.bool false):=by rw[iY _ _ _ _ _ _ hr,OI _ _ YS];simp
         have rf:=aM _ _ y _ _ hr;have rs:(wr.drew.cell? ⟨W3.heap.size,y,za⟩).isSome=true:=by show (wr.cell? ⟨W3.heap.size,y,za⟩).isSome=true;rw[rc];rfl
         have HN:zd (∀b:Bool,b=tA d l x y->(wr.setCell ⟨W3.heap.size,y,za⟩ (.bool b)).heap[W3.heap.size]?=zb (zh (oR l.length (λj=>decide (j<y+1)&&tA d l x j)) 4 (0,0))):=λb xL=>by
          have:=cJ wr W3.heap.size y _ _ (.bool b) hr;rw[zkB]at this;rw[this,xL]
          congr 3
          funext j
          by_cases e:j=y
          ·subst e;rw[af rfl];simp
          ·rw[ab e]
           congr 1
           rw[decide_eq_decide];omega
         generalize d.tag.getD (l.getD x 0) 0=t1 at *;generalize d.tag.getD (l.getD y 0) 0=t2 at *;generalize d.fin.getD (l.getD x 0) 0=f1 at *;generalize d.fin.getD (l.getD y 0) 0=f2 at *;generalize l.getD x 0=sx at *;generalize l.getD y 0=sy at *;have JZ:(x:Int)<(l.length:Int):=by omega
         have Nl:(y:Int)<(l.length:Int):=by omega
         have hi7:(sx:Int)<(d.tag.length:Int):=by omega
         have hi8:(sy:Int)<(d.tag.length:Int):=by omega
         have XP:(sx:Int)<(d.fin.length:Int):=by omega
         have zDw:(sy:Int)<(d.fin.length:Int):=by omega
         clear hM CC x4 hx vX hr rq;have hst:∀b:Bool,b=tA d l x y->∀nq:Nat,w4.grownBy ((wr.drewN nq).setCell ⟨W3.heap.size,y,za⟩ (.bool b)) (zb W3.heap.size)/\((wr.drewN nq).setCell ⟨W3.heap.size,y,za⟩ (.bool b)).heap[W3.heap.size]?=zb (zh (oR l.length (λj=>decide (j<y+1)&&tA d l x j)) 4 (0,0)):=λb hb nq=>⟨hg.trans (zoU wr W3.heap.size y nq (.bool b)),HN.out b hb⟩
         have HS:zd _:=hst;clear hst
         by_cases e1:t1=t2
         ·have hne:(t1 != t2)=false:=by simp[e1]
          have Cr:decide (t1=t2)=true:=by simp[e1]
          by_cases e2:f1=f2
          ·have hnf:(f1 != f2)=false:=by simp[e2]
           go_wp2;refine Zx 39 fF (by kernel_rfl) rfl rfl rfl ?_;intro os bN;simp only[mz,vk]at bN;subst bN
           repeat (go_big_quiet_step (fail))
           refine wpQuiet_nil ?_;intro w' hw' K hK;obtain⟨nq,rfl⟩:=hw'
           first|go_big_move|go_big_op
           refine hK _ _ ?_;go_wp2
           go_roundw
           case rel=>
            obtain⟨k1,k2⟩:=HS.out false (by rw[HA.out];simp[e1,e2]) nq;exact⟨y+1,by omega,by go_num,k1,k2⟩
           case measure=>simp[intOf];omega
          ·have hnf:(f1 != f2)=true:=by simp[e2]
           go_wp2;refine Zx 39 fF (by kernel_rfl) rfl rfl rfl ?_;intro os bN;simp only[mz,vk]at bN;subst bN
           repeat (go_big_quiet_step (fail))
           refine wpQuiet_nil ?_;intro w' hw' K hK;obtain⟨nq,rfl⟩:=hw'
           first|go_big_move|go_big_op
           refine hK _ _ ?_;go_wp2
           go_roundw
           case rel=>
            obtain⟨k1,k2⟩:=HS.out true (by rw[HA.out];simp[e2]) nq;exact⟨y+1,by omega,by go_num,k1,k2⟩
           case measure=>simp[intOf];omega
         ·have hne:(t1 != t2)=true:=by simp[e1]
          go_wp2;refine Zx 39 fF (by kernel_rfl) rfl rfl rfl ?_;intro os bN;simp only[mz,vk]at bN;subst bN
          repeat (go_big_quiet_step (fail))
          refine wpQuiet_nil ?_;intro w' hw' K hK;obtain⟨nq,rfl⟩:=hw'
          first|go_big_move|go_big_op
          refine hK _ _ ?_;go_wp2
          go_roundw
          case rel=>
           obtain⟨k1,k2⟩:=HS.out true (by rw[HA.out];simp[e1]) nq;exact⟨y+1,by omega,by go_num,k1,k2⟩
          case measure=>simp[intOf];omega
        ·have Hs:y=l.length:=by omega
         subst Hs;have dC:wr.heap[W3.heap.size]?=zb (zh (oR l.length (tA d l x)) 4 (0,0)):=by
          rw[hr,zms (g:=tA d l x) (λj hj=>by simp[hj])]
         have dJ:ze W3.heap.size W3 wr:=de.grown hg Sk (λq hq=>by cases hq;exact aq _);have WS:=hM.below dJ;have Jt:W2.heap.size<=wr.heap.size:=cY Ht dJ.size;have HF:zd (∀j,j<x->gr j≠W3.heap.size):=λj hj=>Nat.ne_of_lt (lU.1 (hM.rows j hj)).1
         clear hr hg WO x4 vX CC hM
         go_wp2_with (refine CL wr _ rfl rfl (.tmp 108) (.tmp 110) 94 rfl W2.heap.size 93 iS (zc za 0 0) 24 underlying94 J1 Km Kn Ko rfl g3 yW x (A1 gr l.length x) (zc (zb ⟨W3.heap.size,0,za⟩) l.length l.length) rfl WS.out rfl rfl (by omega) (by omega) Jt ?_;intro g' cap' w5 Kg JX fV)
         go_roundw
         case rel=>
          have hm5:=WS.more dC Ht HF.out JX Kg;exact⟨x+1,g',cap',_,rfl,by omega,by go_num,(fD.trans (dJ.mono Ht)).grown JX Jt (λq hq=>by cases hq;exact(qd WS.out).1),hm5⟩
         case measure=>simp[intOf];omega
      ·have tS:x=l.length:=by omega
       subst tS;have zD2:=Er.size;have bS:w.heap.size<=W2.heap.size:=Er.size;have HC:zd (∀W,ze W2.heap.size W2 W->W.heap[w.heap.size]?=zb (zh #[.slice ca d.ai.length cc,zf .i64 (bn d:Int),zc (zb ⟨nb,Oa,za⟩) d.next.length nc,zc (zb ⟨tb,rH,za⟩) d.tag.length tc,zc (zb ⟨eb,rn,za⟩) d.fin.length ec] 25 (0,0))/\
         (∀j,j<l.length->W.cell? ⟨lb,Hw+j,za⟩=zb (zf .i64 ((l.getD j 0:Nat):Int)))/\
         (∀s c,s<d.tag.length->c<bn d->W.cell? ⟨nb,Oa+(s*bn d+c),za⟩=zb (zf .i64 ((fj d s c:Nat):Int)))/\
         (∀j,j<d.tag.length->W.cell? ⟨W0.heap.size,j,za⟩=zb (zf .i64 ((zs.getD j 0:Nat):Int)))/\
         (∀i,i<(ik d (bn d)).length->W.cell? ⟨g,i,za⟩=zb (zf .i64 (((ik d (bn d)).getD i 0:Nat):Int)))):=λW hW=>by
        have hWw:ze w.heap.size w W:=Er.trans (hW.mono bS);refine⟨(hW.block _ (by have:=hb.size;have:=aB.size;omega)).trans ((aB.block _ (by have:=hb.size;omega)).trans hx),λj hj=>?_,λs c hs hc=>?_,λj hj=>?_,λi hi=>?_⟩
        ·rw[hWw.cell (p:=⟨lb,Hw+j,za⟩) ll,lq j hj,A2]
        ·rw[hWw.cell (p:=⟨nb,Oa+(s*bn d+c),za⟩) nl,nq _ (hf.AZ hs hc),(hf.nx hs hc).1]
        ·rw[hW.cell (p:=⟨W0.heap.size,j,za⟩) (by have:=aB.size;show W0.heap.size<_;omega),aB.cell (p:=⟨W0.heap.size,j,za⟩) pR,bL.cellAt j (by omega),Le _ (by rw[hP.1];exact hj)]
        ·rw[hW.cell (p:=⟨g,i,za⟩) (Aa uN),uN.cellAt i (by omega),Le _ hi]
       have HR:zd (uz d l):=hR;have HP:zd (Jc l zs d.tag.length l.length):=hP;have HF:zd (eI d):=hf;have Dw:zd (ze w.heap.size w W2):=Er;have HM:zd (iy W2.heap.size wr l.length l.length (zc (zb ⟨g3,0,za⟩) l.length yW) gr (tA d l)):=hM;have oJ:=hR.pos;have hul:=zme d (bn d);have hMb:∀m':Nat->Nat->Bool,∀W,iy W2.heap.size W l.length l.length (zc (zb ⟨g3,0,za⟩) l.length yW) gr m'->W2.heap.size<=W.heap.size:=λm' W h=>Nat.le_of_lt (Nat.lt_of_le_of_lt (qd h.out).1 (qd h.out).2.1)
       have Hmb:zd _:=hMb;clear hM hR hP hf bL uN fP Er aD aO hb aB hx x0 cx nx tx ex lx lq ll nq nl tq tl eq el pj JF hO0 Ez EQ ER ES J1 Km Kn Ko oB da dt cR hi hMb;go_wp2
       go_loopw [15] (λgv wr=>∃(b:Bool) (m:Nat->Nat->Bool),gv=.bool b/\ze W2.heap.size W2 wr/\iy W2.heap.size wr l.length l.length (zc (zb ⟨g3,0,za⟩) l.length yW) gr m/\zd (Dt d l m/\(b=false->∀x y,x<l.length->y<l.length->(m x y=false↔fg (bH d) (dI d) (l.getD x 0) (l.getD y 0)))))
        (λgv wr=>2*zuE W2.heap.size l.length (zc (zb ⟨g3,0,za⟩) l.length yW) gr wr+VQ gv)
       case atStart=>exact⟨true,_,rfl,fD,HM.out,zop d l,λe=>by cases e⟩
       case round=>
        clear HM fD;obtain⟨b,m0,rfl,cQ,JG,FM⟩:=hrel;obtain⟨W5,oC⟩:∃W5,W5=wr:=⟨_,rfl⟩;subst oC;have L8:zd _:=JG;clear JG;cases b
        ·go_wp2;refine aW (v:=zc (zb ⟨g3,0,za⟩) l.length yW) (by simp[results,results74,go_sem]) rfl ⟨_,gr,m0,W2.heap.size,rfl,bS,L8.out,Dw.out.trans (cQ.mono bS),FM.out.2 (by first|exact rfl|trivial)⟩
        ·go_wp2
         go_loopw [15,16] (λgv i wr=>∃(b:Bool) (m:Nat->Nat->Bool) (x:Nat),gv=.bool b/\i=zf .i64 x/\x<=l.length/\ze W2.heap.size W2 wr/\iy W2.heap.size wr l.length l.length (zc (zb ⟨g3,0,za⟩) l.length yW) gr m/\zd (sS d l m0 b m (Bv l.length x 0)))
          (λ_ i _=>l.length-(intOf i).toNat)
         case atStart=>exact⟨false,_,0,rfl,rfl,dz _,cQ,L8.out,sS.start FM.out.1 (λx y h=>by unfold Bv at h;omega)⟩
         case round=>
          clear cQ;obtain⟨b,m,x,rfl,rfl,hxl,iu,hM6,qY⟩:=hrel;obtain⟨W6,Xl⟩:∃W6,W6=wr:=⟨_,rfl⟩;subst Xl;have DC:zd _:=hM6;clear hM6
          by_cases iE:x<l.length
          ·have Nl:(x:Int)<(l.length:Int):=by omega
           go_wp2
           go_loopw [15,17] (λgv i wr=>∃(b:Bool) (m:Nat->Nat->Bool) (y:Nat),gv=.bool b/\i=zf .i64 y/\y<=l.length/\ze W2.heap.size W2 wr/\iy W2.heap.size wr l.length l.length (zc (zb ⟨g3,0,za⟩) l.length yW) gr m/\zd (sS d l m0 b m (Bv l.length x y)))
            (λ_ i _=>l.length-(intOf i).toNat)
           case atStart=>exact⟨b,m,0,rfl,rfl,dz _,iu,DC.out,qY⟩
           case round=>
            clear iu qY DC;obtain⟨b,m,y,rfl,rfl,xX,ij,ML,lH⟩:=hrel;obtain⟨W7,Ek⟩:∃W7,W7=wr:=⟨_,rfl⟩;subst Ek
            by_cases Hq:y<l.length
            ·have hi7:(y:Int)<(l.length:Int):=by omega
             have o7:=ML.SF iE;have c7:=(ML.cell iE Hq).1;have UY:zd _:=ML;clear ML;cases GU:m x y
             ·rw[GU]at c7;go_wp2
              go_loopw [15,132] (λgv i wr=>∃(b:Bool) (m:Nat->Nat->Bool) (k:Nat),gv=.bool b/\i=zf .i64 k/\k<=(ik d (bn d)).length/\ze W2.heap.size W2 wr/\iy W2.heap.size wr l.length l.length (zc (zb ⟨g3,0,za⟩) l.length yW) gr m/\zd (sS d l m0 b m (Bv l.length x y)/\(b=false->m0 x y=false/\∀j,j<k->Qz d l m0 x y ((ik d (bn d)).getD j 0))))
               (λ_ i _=>(ik d (bn d)).length-(intOf i).toNat)
              case atStart=>exact⟨b,m,0,rfl,rfl,dz _,ij,UY.out,lH.out,λe=>⟨by rw[<-(lH.out.same e).1];exact GU,λj hj=>absurd hj (fw _)⟩⟩
              case round=>
               clear c7 o7 ij lH UY GU;obtain⟨b,m,k,rfl,rfl,dY,gQ,B7,dm⟩:=hrel
               by_cases kW:k<(ik d (bn d)).length
               ·obtain⟨JR,hL,hN,hZ,hU⟩:=HC.out wr gQ;obtain⟨q0,q1,q2,q3,q4⟩:=dM JR;have cu:=hU k kW;have zm:=zV kW;have zn:=(zil.1 zm).1;obtain⟨px,ch,Kh,V0,hch,ech,pzx⟩:=zrS HF.out HR.out HP.out iE zm;obtain⟨py,ch',Yq,V4,_,_,pzy⟩:=zrS HF.out HR.out HP.out Hq zm;have xR:=HR.out.lt _ (zV iE);have NV:=HR.out.lt _ (zV Hq);have cx0:=hL x iE;have cy0:=hL y Hq;have nx1:=hN _ _ xR zn;have ny1:=hN _ _ NV zn;have xW:=(HF.out.nx xR zn).2;have hyn:=(HF.out.nx NV zn).2;have zx:=hZ _ xW;have zy:=hZ _ hyn;rw[pzx]at zx;rw[pzy]at zy;obtain⟨P1,eP1,p11,p12,p13,p14,p15⟩:=TC (s:=l.getD x 0) (by omega) kY (HF.out.AZ xR zn);obtain⟨P2,eP2,p21,p22,p23,p24,p25⟩:=TC (s:=l.getD y 0) (by omega) kY (HF.out.AZ NV zn);rw[<-p15]at nx1;rw[<-p25]at ny1;have o1:=B7.SF Kh;have c1:=(B7.cell Kh Yq).1;have o2:=B7.SF iE;have c2:=(B7.cell iE Hq).1;have f2:=(B7.cell iE Hq).2;have yN:zd (m px py=false->(b=false->m0 x y=false/\∀j,j<k+1->Qz d l m0 x y ((ik d (bn d)).getD j 0))):=λe hb=>by
                 obtain⟨k1,k2⟩:=dm.out.2 hb;refine⟨k1,λj hj=>?_⟩
                 by_cases ej:j=k
                 ·subst ej;exact zt0 HR.out Kh Yq V0 V4 (by rw[<-(dm.out.1.same hb).1];exact e)
                 ·exact k2 j (by omega)
                have zAl:zd (m px py=true->sS d l m0 true (nQ m x y) (Bv l.length x y)):=λe=>dm.out.1.put iE Hq (λhb=>(dm.out.2 hb).1) Kh Yq (by rw[V0];unfold bH;rw[ech]) (by rw[V4];unfold bH;rw[ech]) hch e
                have zz9:zd (∀W,iy W2.heap.size W l.length l.length (zc (zb ⟨g3,0,za⟩) l.length yW) gr m->iy W2.heap.size (W.setCell ⟨gr x,y,za⟩ (.bool true)) l.length l.length (zc (zb ⟨g3,0,za⟩) l.length yW) gr (nQ m x y)):=λW h=>h.put iE y
                have hgx:=B7.base x iE;have dg:(px:Int)<(l.length:Int):=by omega
                have pg:(py:Int)<(l.length:Int):=by omega
                have xN:(k:Int)<((ik d (bn d)).length:Int):=by omega
                have hi4:((fj d (l.getD x 0) ((ik d (bn d)).getD k 0):Nat):Int)<(d.tag.length:Int):=by omega
                have JZ:((fj d (l.getD y 0) ((ik d (bn d)).getD k 0):Nat):Int)<(d.tag.length:Int):=by omega
                have HM8:zd _:=B7;have hz8:=gQ.size;clear B7 JR hL hN hZ hU zm pzx pzy V0 V4 p15 p25 xW hyn;generalize fj d (l.getD x 0) ((ik d (bn d)).getD k 0)=tsx at *;generalize fj d (l.getD y 0) ((ik d (bn d)).getD k 0)=tsy at *;generalize l.getD x 0=sx at *;generalize l.getD y 0=sy at *;generalize hcc:(ik d (bn d)).getD k 0=cc at *;clear hcc;generalize hmv:m px py=mv at *;clear hmv;cases mv
                ·go_wp2
                 go_quiet (fail)
                 obtain⟨n1,j7⟩:∃n1,n1=nq:=⟨_,rfl⟩;subst j7;go_wp2
                 go_quiet (fail)
                 go_wp2
                 go_roundw
                 case rel=>exact⟨b,m,k+1,rfl,by go_num,by omega,below_drewN gQ _,HM8.out.below (below_drewN (Below.refl _ _) _),dm.out.1,yN.out (by first|exact rfl|trivial)⟩
                 case measure=>simp[intOf];omega
                ·go_wp2
                 go_quiet (fail)
                 obtain⟨n1,j7⟩:∃n1,n1=nq:=⟨_,rfl⟩;subst j7;go_wp2
                 go_quiet (fail)
                 go_wp2
                 go_roundw
                 case rel=>exact⟨true,nQ m x y,k+1,rfl,by go_num,by omega,(below_drewN gQ _).setCell hgx _,zz9.out _ (HM8.out.below (below_drewN (Below.refl _ _) _)),zAl.out (by first|exact rfl|trivial),λe=>by cases e⟩
                 case measure=>simp[intOf];omega
               ·have cC:k=(ik d (bn d)).length:=by omega
                subst cC;go_wp2
                go_roundw
                case rel=>
                 refine⟨b,m,y+1,rfl,by go_num,by omega,gQ,B7,dm.out.1.done λa c h=>?_⟩
                 by_cases e:a=x/\c=y
                 ·obtain⟨rfl,rfl⟩:=e;exact .inr λe h0 c hc=>by
                   obtain⟨j,hj,ej⟩:=Fk hc;rw[<-ej];exact(dm.out.2 e).2 j hj
                 ·exact .inl (by unfold Bv at *;omega)
                case measure=>simp[intOf];omega
             ·rw[GU]at c7;go_wp2
              go_roundw
              case rel=>
               refine⟨b,m,y+1,rfl,by go_num,by omega,ij,UY.out,lH.out.done λa c h=>?_⟩
               by_cases e:a=x/\c=y
               ·obtain⟨rfl,rfl⟩:=e;exact .inr λe h0=>by rw[<-(lH.out.same e).1,GU]at h0;cases h0
               ·exact .inl (by unfold Bv at *;omega)
              case measure=>simp[intOf];omega
            ·have Hs:y=l.length:=by omega
             subst Hs;go_wp2
             go_roundw
             case rel=>exact⟨b,m,x+1,rfl,by go_num,by omega,ij,ML,lH.out.done λa c h=>.inl (by unfold Bv at *;omega)⟩
             case measure=>simp[intOf];omega
          ·have tS:x=l.length:=by omega
           subst tS;go_wp2
           go_roundw
           case rel=>
            refine⟨b,m,rfl,iu,DC.out,qY.out.ap,λe=>?_⟩;subst e;exact λx y hx hy=>sS.end HF.out HR.out (qY.out.done λa c h=>.inl (by unfold Bv;omega)) hx hy
           case measure=>
            rw[zod DC.out,zod L8.out];cases b
            ·rw[(qY.out.same rfl).1];simp[VQ]
            ·have:=qY.out.V8 rfl;simp[VQ];omega
end Go.Proofs.YtfajjdgkiilhfaaGreatDoor
