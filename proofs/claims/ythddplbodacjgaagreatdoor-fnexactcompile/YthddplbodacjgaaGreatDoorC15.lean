import Derived.Test.YthddplbodacjgaaGreatDoorC14
namespace Go.Proofs.YthddplbodacjgaaGreatDoor
open Go.RowKit
section
variable {x:Nat}{m:Nat -> Nat -> Bool}{l:List Nat}{d:DfaD}
def putM(m:Nat->Nat->Bool)(x y:Nat):Nat->Nat->Bool:=fun a b=>if a=x/\b=y then true else m a b
def zf5(n:Nat)(m:Nat->Nat->Bool):Nat:=((List.range n).map fun x=>((List.range n).filter fun y=>!m x y).length).sum
theorem zhQ(m:Nat->Nat->Bool)(x y:Nat):∀n,y<n->m x y=false->((List.range n).filter fun b=>!putM m x y x b).length+1=((List.range n).filter fun b=>!m x b).length
 |0,h,_=>absurd h (zuI _)
 |n+1,h,hm=>by
  rw[zun,List.filter_append,List.filter_append,zt1,zt1]
  by_cases e:y=n
  ·subst e;have h1:((List.range y).filter fun b=>!putM m x y x b)=(List.range y).filter fun b=>!m x b:=List.filter_congr fun b hb=>by
    have:b<y:=by simpa using hb
    unfold putM;rw[zuU (by omega)]
   rw[h1];simp[putM,hm]
  ·have ih:=zhQ m x y n (by omega) hm;have h1:([n].filter fun b=>!putM m x y x b)=[n].filter fun b=>!m x b:=List.filter_congr fun b hb=>by
    simp at hb;unfold putM;rw[zuU (by omega)]
   rw[h1];omega
theorem zpH{f g:Nat->Nat}(hne:∀a,a≠x->f a=g a)(hx:f x+1=g x):∀n,x<n->((List.range n).map f).sum+1=((List.range n).map g).sum
 |0,h=>absurd h (zuI _)
 |n+1,h=>by
  rw[zun,zt9,zt9,List.sum_append,List.sum_append]
  by_cases e:x=n
  ·subst e;have:(List.range x).map f=(List.range x).map g:=zua fun a ha=>hne a (by have:a<x:=(by simpa using ha);omega)
   rw[this];simp only[zub,List.map_nil,zup,List.sum_nil];omega
  ·have ih:=zpH hne hx n (by omega);have:=hne n (fun e2=>e e2.symm);simp only[zub,List.map_nil,zup,List.sum_nil];omega
theorem zmx{n y:Nat}(hx:x<n)(hy:y<n)(hm:m x y=false):zf5 n (putM m x y)+1=zf5 n m:=by
 unfold zf5;refine zpH (x:=x) (fun a ha=>?_) (zhQ m x y n hy hm) n hx;have:((List.range n).filter fun b=>!putM m x y a b)=(List.range n).filter fun b=>!m a b:=List.filter_congr fun b _=>by
  unfold putM;rw[zuU (fun e=>ha e.1)]
 rw[this]
structure ApI(d:DfaD)(l:List Nat)(m:Nat->Nat->Bool):Prop where
 snd:∀x y,x<l.length->y<l.length->m x y=true->¬zbc (stN d) (anN d) (l.getD x 0) (l.getD y 0)
 base:∀x y,x<l.length->y<l.length->anN d (l.getD x 0)≠anN d (l.getD y 0)->m x y=true
theorem zfP(hx:x∈l):∃i,i<l.length/\l.getD i 0=x:=by
 obtain⟨i,hi,e⟩:=zuf.1 hx;exact⟨i,hi,by rw[ztO,ztT hi];exact e⟩
theorem ze6(h:l.Nodup){i j:Nat}(hi:i<l.length)(hj:j<l.length)(e:l.getD i 0=l.getD j 0):i=j:=by
 rw[ztO,ztT hi,ztO,ztT hj] at e;have hp:=List.pairwise_iff_getElem.1 h;simp only[Option.getD_some] at e;rcases zuD i j with k|k|k
 ·exact absurd e (hp i j hi hj k)
 ·exact k
 ·exact absurd e.symm (hp j i hj hi k)
theorem zn2(hf:zaE d){l:List Nat}(hR:RchD d l){m:Nat->Nat->Bool}(hA:ApI d l m)
  (hc:∀x y,x<l.length->y<l.length->m x y=false->∀c,c<wdN d->(c:Int)∈d.classes->∀tx ty,tx<l.length->ty<l.length->l.getD tx 0=nxN d (l.getD x 0) c->l.getD ty 0=nxN d (l.getD y 0) c->m tx ty=false)
  {x y:Nat} (hx:x<l.length) (hy:y<l.length):m x y=false↔zbc (stN d) (anN d) (l.getD x 0) (l.getD y 0):=by
 constructor
 ·intro h;refine zlU (fun s t=>∃x y,x<l.length/\y<l.length/\l.getD x 0=s/\l.getD y 0=t/\m x y=false) ?_ ?_ ⟨x,y,hx,hy,rfl,rfl,h⟩
  ·rintro s t ⟨x,y,hx,hy,rfl,rfl,h⟩
   by_cases e:anN d (l.getD x 0)=anN d (l.getD y 0)
   ·exact e
   ·have:=hA.base x y hx hy e;rw[h] at this;cases this
  ·rintro s t c ⟨x,y,hx,hy,rfl,rfl,h⟩ hcc;have mx:l.getD x 0∈l:=by rw[ztO,ztT hx];exact zt0 _
   have my:l.getD y 0∈l:=by rw[ztO,ztT hy];exact zt0 _
   obtain⟨tx,htx,ex⟩:=zfP (hR.cl _ mx c hcc);obtain⟨ty,hty,ey⟩:=zfP (hR.cl _ my c hcc);refine⟨tx,ty,htx,hty,ex,ey,hc x y hx hy h (clN d c) (hf.clc hcc).2 ?_ tx ty htx hty ex ey⟩;rw[<-(hf.clc hcc).1,ztO,ztT (by have:=hf.cl;omega)];exact zt0 _
 ·intro h;cases e:m x y
  ·rfl
  ·exact absurd h (hA.snd x y hx hy e)
theorem ApI.put(h:ApI d l m){x y tx ty c:Nat}(htx:tx<l.length)(hty:ty<l.length)(ex:l.getD tx 0=stN d (l.getD x 0) c)(ey:l.getD ty 0=stN d (l.getD y 0) c)(hc:c<256)(ht:m tx ty=true):ApI d l (putM m x y):=
 ⟨fun a b ha hb e=>by
  unfold putM at e;split at e
  ·rename_i k
   obtain⟨rfl,rfl⟩:=k;intro al;have:=al.step hc;rw[<-ex,<-ey] at this;exact h.snd tx ty htx hty ht this
  ·exact h.snd a b ha hb e,fun a b ha hb e=>by
  unfold putM;split
  ·rfl
  ·exact h.base a b ha hb e⟩
end
section
attribute [local go_sem ↓] Go.wp_at_zero Go.wp_at_succ
def PlI(l zs:List Nat)(n k:Nat):Prop:=zs.length=n/\∀j,j<k->zs.getD (l.getD j 0) 0=j
theorem PlI.next{l zs:List Nat}{n k:Nat}(h:PlI l zs n k)(hn:l.Nodup)(hk:k<l.length)(hl:l.getD k 0<n):PlI l (zs.set (l.getD k 0) k) n (k+1):=by
 refine⟨by simp[h.1],fun j hj=>?_⟩;have h1:=h.1
 by_cases e:j=k
 ·subst e;rw[ztO,List.getElem?_set_self (by omega)]
  rfl
 ·have hne:l.getD k 0≠l.getD j 0:=fun e2=>e (ze6 hn hk (by omega) e2).symm
  rw[ztO,List.getElem?_set_ne hne,<-ztO];exact h.2 j (by omega)
def zbu(d:DfaD)(c:Nat):List Nat:=(List.range c).filter fun i=>decide ((i:Int)∈d.classes)
theorem znO(d:DfaD)(c:Nat):zbu d (c+1)=if (c:Int)∈d.classes then zbu d c++[c] else zbu d c:=by
 unfold zbu;rw[zun,List.filter_append]
 by_cases h:(c:Int)∈d.classes
 ·rw[zuV h];simp[h]
 ·rw[zuU h];simp[h]
theorem zbE{d:DfaD}{c i:Nat}:i∈zbu d c↔i<c/\(i:Int)∈d.classes:=by simp[zbu]
theorem zkn(d:DfaD)(c:Nat):(zbu d c).length<=c:=by
 have:=List.length_filter_le (fun i:Nat=>decide ((i:Int)∈d.classes)) (List.range c)
 simpa [zbu] using this
theorem ze5(n:Nat):(madeCells (Value.int .i64 0).cells (n*1)).toList=natL (List.replicate n 0):=by
 apply ztL
 intro i
 by_cases h:i<n
 ·simp[madeCells,natL,Value.cells,Nat.mod_one,h]
 ·simp[madeCells,natL,h]
end
section
variable {gr:Nat -> Nat}{n k base B:Nat}{w:World}{v:Value}{xs:List Value}{m:Nat -> Nat -> Bool}
def zbV(n:Nat)(f:Nat->Bool):Array Value:=((List.range n).map fun i=>Value.bool (f i)).toArray
theorem zc9(n:Nat)(f:Nat->Bool){i:Nat}(h:i<n):(zbV n f)[i]?=some (.bool (f i)):=by simp[zbV,h]
theorem zgs(n:Nat)(f:Nat->Bool)(i:Nat)(b:Bool):(zbV n f).setIfInBounds i (.bool b)=zbV n (fun j=>if j=i then b else f j):=by
 apply ztn
 intro j;rw[ztq];have hs:(zbV n f).size=n:=by simp[zbV]
 have h1:∀g:Nat->Bool,¬j<n->(zbV n g)[j]?=none:=fun g hj=>zto (by simp[zbV];omega)
 by_cases h:j<n
 ·by_cases e:i=j
  ·subst e;rw[zuV rfl,hs,zuV h,zc9 n _ h];simp
  ·rw[zuU e,zc9 n f h,zc9 n _ h];simp;intro k;exact absurd k.symm e
 ·rw[h1 _ h,h1 _ h]
  by_cases e:i=j
  ·subst e;rw[zuV rfl,hs,zuU h]
  ·rw[zuU e]
def slcB(gr:Nat->Nat)(n k:Nat):List Value:=(List.range k).map fun x=>.slice (some ⟨gr x,0,none⟩) n n
theorem zpC(gr:Nat->Nat)(n k:Nat):slcB gr n (k+1)=slcB gr n k++[.slice (some ⟨gr k,0,none⟩) n n]:=by simp[slcB,List.range_succ]
theorem znG{gr':Nat->Nat}(h:∀x,x<k->gr x=gr' x):slcB gr n k=slcB gr' n k:=zua fun x hx=>by rw[h x (by simpa using hx)]
theorem zap{a b:Array Value}{t u:TypeId}{f g:Nat×Nat}(h:some (Obj.cells a t f)=some (Obj.cells b u g)):t=u:=by
 injection h with h
 injection h
theorem za6{W:World}{e:TypeId}{sz:Nat}(h:w.ownsRow base e sz v n xs)(hk:∀(k:Nat) (cs:Array Value),w.heap[k]?=some (.cells cs e (0,0))->W.heap[k]?=some (.cells cs e (0,0))):W.ownsRow base e sz v n xs:=by
 refine⟨h.1,?_⟩;rcases h.2 with h0|⟨g,cap,cur,hv,hg,hh,r⟩
 ·exact .inl h0
 ·exact .inr ⟨g,cap,cur,hv,hg,hk g cur hh,r⟩
theorem zaX(W:World)(b j:Nat)(v:Value):W.grownBy (W.setCell ⟨b,j,none⟩ v) (some b):=
 ⟨rfl,rfl,rfl,by simp[World.setCell],fun k _ hk=>Below.heap_setCell _ _ _ _ (fun e=>hk (by rw[e]))⟩
structure MatI(B:Nat)(w:World)(n k:Nat)(v:Value)(gr:Nat->Nat)(m:Nat->Nat->Bool):Prop where
 out:w.ownsRow B 49 1 v k (slcB gr n k)
 rows:∀x,x<k->w.heap[gr x]?=some (.cells (zbV n (m x)) 4 (0,0))
 base:∀x,x<k->B<=gr x
 inj:∀x y,x<k->y<k->gr x=gr y->x=y
theorem MatI.below{w':World}(h:MatI B w n k v gr m)(hb:Below w.heap.size w w'):MatI B w' n k v gr m:=
 ⟨zad h.out hb,fun x hx=>(hb.block _ (ztp.1 (h.rows x hx)).1).trans (h.rows x hx),h.base,h.inj⟩
theorem MatI.cell(h:MatI B w n k v gr m){x y:Nat}(hx:x<k)(hy:y<n):w.cell? ⟨gr x,y,none⟩=some (.bool (m x y))/\w.frozen? ⟨gr x,y,none⟩=false:=by
 have r:=h.rows x hx;exact⟨by rw[zuO _ _ _ _ _ _ r,zc9 n _ hy],zuQ _ _ y _ _ r⟩
theorem MatI.outer(h:MatI B w n k v gr m)(hk:0<k):∃g cap,v=.slice (some ⟨g,0,none⟩) k cap/\B<=g/\g<w.heap.size/\∀x,x<k->w.cell? ⟨g,x,none⟩=some (.slice (some ⟨gr x,0,none⟩) n n):=by
 rcases h.out.2 with ⟨_,h0⟩|⟨g,cap,cur,hv,hg,hh,hnc,_,hsz,ht⟩
 ·omega
 ·refine⟨g,cap,hv,hg,(ztp.1 hh).1,fun x hx=>?_⟩;rw[zuO _ _ _ _ _ _ hh];have:(slcB gr n k)[x]?=cur[x]?:=by rw[<-ht,ztY,zuV (by omega),Array.getElem?_toList]
  rw[<-this];simp[slcB,hx]
theorem MatI.put(h:MatI B w n k v gr m){x:Nat}(hx:x<k)(y:Nat):MatI B (w.setCell ⟨gr x,y,none⟩ (.bool true)) n k v gr (putM m x y):=by
 have r:=h.rows x hx;have hg:=zaX w (gr x) y (.bool true);refine⟨za6 h.out fun q cs e=>(hg.block q (ztp.1 e).1 (fun e2=>?_)).trans e,fun a ha=>?_,h.base,h.inj⟩
 ·cases e2
  rw[r] at e;exact absurd (zap e) (by decide)
 ·by_cases e:a=x
  ·subst e;have:=zuT w (gr a) y _ _ (.bool true) r;rw[zgs] at this;rw[this]
   congr 3
   funext j
   unfold putM
   by_cases ej:j=y
   ·rw[zuV ej,zuV ⟨rfl,ej⟩]
   ·rw[zuU ej,zuU (fun k=>ej k.2)]
  ·have hne:some (gr a)≠some (gr x):=fun e2=>e (h.inj a x ha hx (Option.some.inj e2))
   rw[hg.block _ (ztp.1 (h.rows a ha)).1 hne,h.rows a ha]
   congr 3
   funext j
   unfold putM;rw[zuU (fun k=>e k.1)]
theorem Tryz.infoBoolM:(Tryz.prog.info? 4).map (fun i=>(i.zero,i.size,i.bytes))=some (some (.bool false),1,1):=by kernel_rfl
theorem Tryz.infoBoolsM:(Tryz.prog.info? 49).map (fun i=>(i.zero,i.size,i.bytes))=some (some (.slice none 0 0),1,24):=by kernel_rfl
theorem zk4(n:Nat):(madeCells (Value.bool false).cells (n*1)).toList.toArray=zbV n (fun _=>false):=by
 apply ztn
 intro i
 by_cases h:i<n
 ·simp[madeCells,zbV,Value.cells,Nat.mod_one,h]
 ·simp[madeCells,zbV,h]
theorem zo2{e:TypeId}{g:Nat}(h:w.ownsRow base e 1 (.slice (some ⟨g,0,none⟩) n n) n xs):w.heap[g]?=some (.cells xs.toArray e (0,0)):=by
 rcases h.2 with ⟨h,_⟩|⟨g',cap,cr,h,_,hrow,_,_,hsz,htk⟩
 ·cases h
 ·cases h
  rw[hrow]
  congr 2
  apply Array.ext'
  rw[zur (by simp[hsz])] at htk;rw[htk]
def ansM(d:DfaD)(l:List Nat)(x y:Nat):Bool:=!(d.tag.getD (l.getD x 0) 0==d.tag.getD (l.getD y 0) 0) || !(d.fin.getD (l.getD x 0) 0==d.fin.getD (l.getD y 0) 0)
theorem zmI(d:DfaD)(l:List Nat):ApI d l (ansM d l):=
 ⟨fun x y _ _ e al=>by
  have h:=al.an;unfold anN at h;unfold ansM at e;injection h with h1 h2
  rw[h1,h2] at e;simp at e,fun x y _ _ e=>by
  unfold ansM
  by_cases h1:d.tag.getD (l.getD x 0) 0=d.tag.getD (l.getD y 0) 0
  ·by_cases h2:d.fin.getD (l.getD x 0) 0=d.fin.getD (l.getD y 0) 0
   ·exact absurd (by unfold anN;rw[h1,h2]) e
   ·rw[zuM.2 h2];simp
  ·rw[zuM.2 h1];simp⟩
end
variable {B n x g cap k:Nat}{w:World}{gr:Nat -> Nat}{m m' m0:Nat -> Nat -> Bool}{v:Value}{d:DfaD}{l:List Nat}{b:Bool}{D:Nat -> Nat -> Prop}
theorem zm2(W:World)(b j n:Nat)(v:Value):W.grownBy ((W.drewN n).setCell ⟨b,j,none⟩ v) (some b):=
 ⟨rfl,rfl,rfl,(zaX W b j v).size,(zaX W b j v).block⟩
theorem MatI.more{w5:World}{gx:Nat}{v':Value}(h:MatI B w n x (.slice (some ⟨g,0,none⟩) x cap) gr m)(hr:w.heap[gx]?=some (.cells (zbV n (m x)) 4 (0,0)))(hB:B<=gx)(hf:∀j,j<x->gr j≠gx)
  (hgrow:w.grownBy w5 (some g)) (hown:w5.ownsRow B 49 1 v' (x+1) (slcB gr n x++[.slice (some ⟨gx,0,none⟩) n n])):MatI B w5 n (x+1) v' (fun j=>if j=x then gx else gr j) m:=by
 have hg:∃cur:Array Value,w.heap[g]?=some (.cells cur 49 (0,0)):=by
  rcases h.out.2 with ⟨h0,_⟩|⟨g',cap',cur,hv,_,hh,_⟩
  ·cases h0
  ·cases hv;exact⟨cur,hh⟩
 obtain⟨cur,hg⟩:=hg;have hne:∀(b:Nat) (c:Array Value),w.heap[b]?=some (.cells c 4 (0,0))->w5.heap[b]?=some (.cells c 4 (0,0)):=fun b c hb=>
  (hgrow.block b (ztp.1 hb).1 (fun e=>by cases e;rw[hg] at hb;exact absurd (zap hb) (by decide))).trans hb
 refine⟨?_,fun j hj=>?_,fun j hj=>?_,fun a b ha hb e=>?_⟩
 ·rw[zpC,znG (gr':=gr) (fun j hj=>by rw[zuU (by omega)]),zuV rfl];exact hown
 ·by_cases e:j=x
  ·subst e;rw[zuV rfl];exact hne _ _ hr
  ·rw[zuU e];exact hne _ _ (h.rows j (by omega))
 ·by_cases e:j=x
  ·rw[zuV e];exact hB
  ·rw[zuU e];exact h.base j (by omega)
 ·by_cases e1:a=x
  ·by_cases e2:b=x
   ·omega
   ·rw[zuV e1,zuU e2] at e;exact absurd e.symm (hf b (by omega))
  ·by_cases e2:b=x
   ·rw[zuU e1,zuV e2] at e;exact absurd e (hf a (by omega))
   ·rw[zuU e1,zuU e2] at e;exact h.inj a b (by omega) (by omega) e
theorem MatI.same(h:MatI B w n k v gr m)(h':MatI B w n k v gr m'){x y:Nat}(hx:x<k)(hy:y<n):m x y=m' x y:=by
 have:=(h.cell hx hy).1.symm.trans (h'.cell hx hy).1
 simpa using this
theorem zlv(h:∀x y,x<n->y<n->m x y=m' x y):zf5 n m=zf5 n m':=by
 unfold zf5
 congr 1
 refine zua fun x hx=>?_
 congr 1
 exact List.filter_congr fun y hy=>by rw[h x y (by simpa using hx) (by simpa using hy)]
noncomputable def zsw (B:Nat) (n:Nat) (v:Value) (gr:Nat->Nat) (w:World):Nat:=open Classical in if h:∃m,MatI B w n n v gr m then zf5 n h.choose else 0
theorem zmw(h:MatI B w n n v gr m):zsw B n v gr w=zf5 n m:=by
 have hx:∃m,MatI B w n n v gr m:=⟨m,h⟩;unfold zsw;rw[dif_pos hx];exact zlv fun x y hx' hy'=>hx.choose_spec.same h hx' hy'
theorem zlw{y:Nat}(hx:x<n)(hy:y<n):zf5 n (putM m x y)<=zf5 n m:=by
 cases e:m x y
 ·have:=zmx hx hy e;omega
 ·have:putM m x y=m:=by
   funext a b
   unfold putM;split
   ·rename_i k;rw[k.1,k.2,e]
   ·rfl
  rw[this];exact zuz _
def clo1(d:DfaD)(l:List Nat)(m:Nat->Nat->Bool)(x y c:Nat):Prop:=
 ∀tx ty,tx<l.length->ty<l.length->l.getD tx 0=nxN d (l.getD x 0) c->l.getD ty 0=nxN d (l.getD y 0) c->m tx ty=false
def cloP(d:DfaD)(l:List Nat)(m:Nat->Nat->Bool)(x y:Nat):Prop:=m x y=false->∀c,c∈zbu d (wdN d)->clo1 d l m x y c
structure zeH(d:DfaD)(l:List Nat)(m0:Nat->Nat->Bool)(b:Bool)(m:Nat->Nat->Bool)(D:Nat->Nat->Prop):Prop where
 ap:ApI d l m
 grew:b=true->zf5 l.length m<zf5 l.length m0
 same:b=false->m=m0/\∀x y,D x y->cloP d l m0 x y
theorem zeH.start(h:ApI d l m0){D:Nat->Nat->Prop}(hD:∀x y,¬D x y):zeH d l m0 false m0 D:=⟨h,fun e=>(by cases e),fun _=>⟨rfl,fun x y hd=>absurd hd (hD x y)⟩⟩
theorem zeH.done{D':Nat->Nat->Prop}(h:zeH d l m0 b m D)(hD:∀x y,D' x y->D x y\/(b=false->cloP d l m0 x y)):zeH d l m0 b m D':=
 ⟨h.ap,h.grew,fun e=>⟨(h.same e).1,fun x y hd=>(hD x y hd).elim ((h.same e).2 x y) (fun k=>k e)⟩⟩
theorem zeH.put(h:zeH d l m0 b m D){x y tx ty c:Nat}(hx:x<l.length)(hy:y<l.length)(h0:b=false->m0 x y=false)(htx:tx<l.length)(hty:ty<l.length)(ex:l.getD tx 0=stN d (l.getD x 0) c)(ey:l.getD ty 0=stN d (l.getD y 0) c)(hc:c<256)(ht:m tx ty=true):zeH d l m0 true (putM m x y) D:=
 ⟨h.ap.put htx hty ex ey hc ht,fun _=>by
  cases b
  ·have e:=(h.same rfl).1;rw[e];have:=zmx hx hy (h0 rfl);omega
  ·exact Nat.lt_of_le_of_lt (zlw hx hy) (h.grew rfl),fun e=>by cases e⟩
theorem zeH.end(hf:zaE d){l:List Nat}(hR:RchD d l){m0 m:Nat->Nat->Bool}(h:zeH d l m0 false m fun x y=>x<l.length/\y<l.length){x y:Nat}(hx:x<l.length)(hy:y<l.length):m x y=false↔zbc (stN d) (anN d) (l.getD x 0) (l.getD y 0):=by
 obtain⟨e,hc⟩:=h.same rfl;subst e;exact zn2 hf hR h.ap (fun x y hx hy e c hcw hcc=>hc x y ⟨hx,hy⟩ e c (zbE.2 ⟨hcw,hcc⟩)) hx hy
theorem zhi(hf:zaE d){c:Nat}(h:c∈zbu d (wdN d)):∃ch,ch<256/\clN d ch=c:=by
 obtain⟨i,hi,e⟩:=zuf.1 (zbE.1 h).2;have hcl:=hf.cl;refine⟨i,by omega,?_⟩;unfold clN;rw[ztO,ztT hi,e];simp
theorem zpW(hf:zaE d){l zs:List Nat}{n:Nat}(hR:RchD d l)(hP:PlI l zs n l.length){x c:Nat}(hx:x<l.length)(hc:c∈zbu d (wdN d)):∃tx ch,tx<l.length/\l.getD tx 0=nxN d (l.getD x 0) c/\ch<256/\clN d ch=c/\zs.getD (nxN d (l.getD x 0) c) 0=tx:=by
 obtain⟨ch,hch,e⟩:=zhi hf hc;have mx:l.getD x 0∈l:=by rw[ztO,ztT hx];exact zt0 _
 obtain⟨tx,htx,ex⟩:=zfP (hR.cl _ mx ch hch);have ex':l.getD tx 0=nxN d (l.getD x 0) c:=by rw[ex];unfold stN;rw[e]
 exact⟨tx,ch,htx,ex',hch,e,by rw[<-ex'];exact hP.2 tx htx⟩
theorem zr5(hR:RchD d l){m:Nat->Nat->Bool}{x y c tx ty:Nat}(htx:tx<l.length)(hty:ty<l.length)(ex:l.getD tx 0=nxN d (l.getD x 0) c)(ey:l.getD ty 0=nxN d (l.getD y 0) c)(h:m tx ty=false):clo1 d l m x y c:=fun tx' ty' h1 h2 e1 e2=>by
 rw[ze6 hR.nd h1 htx (e1.trans ex.symm),ze6 hR.nd h2 hty (e2.trans ey.symm)];exact h
theorem zkF{f g:Nat->Bool}(h:∀j,j<n->f j=g j):zbV n f=zbV n g:=by
 unfold zbV
 congr 1
 exact zua fun j hj=>by rw[h j (by simpa using hj)]
theorem MatI.out1(h:MatI B w n k (.slice (some ⟨g,0,none⟩) k cap) gr m){x:Nat}(hx:x<k):w.cell? ⟨g,x,none⟩=some (.slice (some ⟨gr x,0,none⟩) n n):=by
 obtain⟨g',cap',e,_,_,h⟩:=h.outer (by omega);cases e;exact h x hx
def bitV:Value->Nat
 |.bool true=>1
 |_=>0
def DonX(n x y:Nat):Nat->Nat->Prop:=fun a b=>(a<x/\b<n)\/(a=x/\b<y)
theorem zjA{s wd c L:Nat}(hs:s<=4000)(hw:wd<=256)(hL:s*wd+c<L):∃P:Int,(s:Int)*(wd:Int)=P/\0<=P/\P<=1024000/\P+(c:Int)<(L:Int)/\0<=P+(c:Int)/\(P+(c:Int)).toNat=s*wd+c:=by
 have h1:s*wd<=4000*256:=zuG hs hw;have e:(s:Int)*(wd:Int)=((s*wd:Nat):Int):=by simp
 refine⟨_,e,?_⟩;generalize s*wd=q at *;omega
theorem za3{i:Nat}(h:i<l.length):l.getD i 0∈l:=by rw[ztO,ztT h];exact zt0 _
def ApR(w:World)(d:DfaD)(l:List Nat)(e:Ending)(w':World):Prop:=
 ∃(v:Value) (gr:Nat->Nat) (m:Nat->Nat->Bool) (B:Nat),e=.returned v/\w.heap.size<=B/\MatI B w' l.length l.length v gr m/\Below w.heap.size w w'/\
  ∀x y,x<l.length->y<l.length->(m x y=false↔zbc (stN d) (anN d) (l.getD x 0) (l.getD y 0))
end Go.Proofs.YthddplbodacjgaaGreatDoor
