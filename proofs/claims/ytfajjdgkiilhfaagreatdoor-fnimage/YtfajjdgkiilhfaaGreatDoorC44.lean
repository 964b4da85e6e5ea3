import Derived.Test.YtfajjdgkiilhfaaGreatDoorC43
import Derived.Lib.ConvBytes
namespace Go.Proofs.YtfajjdgkiilhfaaGreatDoor
open Go.RowKit
attribute [local go_sem ↓] wp_at_zero wp_at_succ
section
variable {d:cg}
def qL(d:cg)(s:Nat):Int:=d.base.getD s 0
def rL(d:cg)(c:Nat):Int:=d.ai.getD c 0
def Bk(d:cg)(k:Nat):Int:=d.az.getD k 0
def A8(d:cg)(k:Nat):Int:=d.next.getD k 0
def Ac(d:cg)(s:Nat):Int:=d.bA.getD s 0
def ug(d:cg)(s c:Nat):Nat:=(qL d s+rL d c).toNat
def Fy(d:cg)(s c:Nat):Int:=if ug d s c<d.az.length/\Bk d (ug d s c)=s then A8 d (ug d s c) else Ac d s
def ui(d:cg)(s c:Int):Int:=if mZ d&&aG s 0 (d.base.length-1)&&aG c 0 255 then Fy d s.toNat c.toNat else -1
structure O3(d:cg):Prop where
 cl:d.ai.length=256
 w1:1<=d.width
 w2:d.width<=256
 cs:cd 0 (d.width-1) d.ai=true
 n1:1<=(d.base.length:Int)
 n2:(d.base.length:Int)<=4000
 dl:d.bA.length=d.base.length
 tl:d.tag.length=d.base.length
 el:d.fin.length=d.base.length
 nk:d.next.length=d.az.length
 nm:d.next.length<=60000
 fr:wO d.az d.next=true
 bs:cd 0 59999 d.base=true
 ds:cd 0 (d.base.length-1) d.bA=true
 ts:cd (-1) 99 d.tag=true
 es:cd (-1) 99 d.fin=true
 ks:cd (-1) (d.base.length-1) d.az=true
 ns:cd 0 (d.base.length-1) d.next=true
theorem OH(h:mZ d=true):O3 d:=by
 simp only[mZ,fI,lZ,kK]at h;obtain⟨⟨⟨⟨⟨⟨⟨⟨⟨a,b⟩,c⟩,e⟩,f⟩,g⟩,i⟩,j⟩,k⟩,l,⟨⟨⟨⟨m,n⟩,o⟩,p⟩,q⟩,r⟩:=h;exact⟨a,b.1,b.2,c,e.1,e.2,f,g,i,j,k,l,m,n,o,p,q,r⟩
theorem O3.bd(h:O3 d){s c:Nat}(hs:s<d.base.length)(hc:c<256):
  0<=qL d s/\qL d s<=59999/\0<=rL d c/\rL d c<=255/\((ug d s c:Nat):Int)=qL d s+rL d c:=by
 have a:=ju h.bs (k:=s) hs;have b:=ju h.cs (k:=c) (by rw[h.cl];exact hc);have w2:=h.w2;unfold ug qL rL;omega
end
def ku(s:ByteArray)(i:Nat):Nat:=(s.data.toList.getD i 0).toNat
theorem zpL{s:ByteArray}{i:Nat}(h:i<s.size):s[i].toNat=ku s i:=by
 unfold ku;rw[bJ,bE (by simpa using h)]
 rfl
theorem O7(s:ByteArray)(i:Nat):ku s i<256:=UInt8.toNat_lt _
def bZ(s:ByteArray)(i:Nat):Nat:=ku s i*256+ku s (i+1)
theorem Pe(s:ByteArray)(i:Nat):bZ s i<=65535:=by
 have:=O7 s i;have:=O7 s (i+1);unfold bZ;omega
def sG(s:ByteArray)(i:Nat):Int:=if bZ s i=65535 then -1 else bZ s i
def rX(s:ByteArray)(k:Nat):List Int:=(List.range k).map λc=>(ku s (10+c):Int)
theorem zpR(s:ByteArray)(k:Nat):rX s (k+1)=rX s k++[(ku s (10+k):Int)]:=by simp[rX,List.range_succ]
theorem zjG(s:ByteArray)(k:Nat):(rX s k).length=k:=by simp[rX]
def j9(s:ByteArray)(a st k:Nat):List Int:=(List.range k).map λi=>(bZ s (a+st*i):Int)
def kc(s:ByteArray)(a st k:Nat):List Int:=(List.range k).map λi=>sG s (a+st*i)
theorem zhV(s:ByteArray)(a st k:Nat):j9 s a st (k+1)=j9 s a st k++[(bZ s (a+st*k):Int)]:=by simp[j9,List.range_succ]
theorem zhX(s:ByteArray)(a st k:Nat):kc s a st (k+1)=kc s a st k++[sG s (a+st*k)]:=by simp[kc,List.range_succ]
theorem CX(s:ByteArray)(a st k:Nat):(j9 s a st k).length=k:=by simp[j9]
theorem CY(s:ByteArray)(a st k:Nat):(kc s a st k).length=k:=by simp[kc]
def l2(s:ByteArray)(b d t e:Nat):Nat->List Int
 |0=>rX s 256
 |1=>j9 s 266 8 b
 |2=>j9 s 268 8 d
 |3=>kc s 270 8 t
 |4=>kc s 272 8 e
 |_=>[]
theorem zuo(s:ByteArray):bG (λ_=>[]) 0 (rX s 256)=l2 s 0 0 0 0:=by
 funext j;match j with
 |0=>rfl
 |1=>rfl
 |2=>rfl
 |3=>rfl
 |4=>rfl
 |j+5=>rfl
theorem zvs(s:ByteArray)(k:Nat):bG (l2 s k k k k) 1 (j9 s 266 8 k++[(bZ s (266+8*k):Int)])=l2 s (k+1) k k k:=by
 rw[<-zhV];funext j;match j with
 |0=>rfl
 |1=>rfl
 |2=>rfl
 |3=>rfl
 |4=>rfl
 |j+5=>rfl
theorem zvt(s:ByteArray)(k:Nat):bG (l2 s (k+1) k k k) 2 (j9 s 268 8 k++[(bZ s (268+8*k):Int)])=l2 s (k+1) (k+1) k k:=by
 rw[<-zhV];funext j;match j with
 |0=>rfl
 |1=>rfl
 |2=>rfl
 |3=>rfl
 |4=>rfl
 |j+5=>rfl
theorem zsO(s:ByteArray)(k:Nat):bG (l2 s (k+1) (k+1) k k) 3 (kc s 270 8 k++[sG s (270+8*k)])=l2 s (k+1) (k+1) (k+1) k:=by
 rw[<-zhX];funext j;match j with
 |0=>rfl
 |1=>rfl
 |2=>rfl
 |3=>rfl
 |4=>rfl
 |j+5=>rfl
theorem zun(s:ByteArray)(k:Nat):bG (l2 s (k+1) (k+1) (k+1) k) 4 (kc s 272 8 k++[sG s (272+8*k)])=l2 s (k+1) (k+1) (k+1) (k+1):=by
 rw[<-zhX];funext j;match j with
 |0=>rfl
 |1=>rfl
 |2=>rfl
 |3=>rfl
 |4=>rfl
 |j+5=>rfl
def gD(s:ByteArray)(n a b:Nat):Nat->List Int
 |0=>rX s 256
 |1=>j9 s 266 8 n
 |2=>j9 s 268 8 n
 |3=>kc s 270 8 n
 |4=>kc s 272 8 n
 |5=>j9 s (266+8*n) 4 a
 |6=>kc s (268+8*n) 4 b
 |_=>[]
theorem zsP(s:ByteArray)(n:Nat):l2 s n n n n=gD s n 0 0:=by
 funext j;match j with
 |0=>rfl
 |1=>rfl
 |2=>rfl
 |3=>rfl
 |4=>rfl
 |5=>rfl
 |6=>rfl
 |j+7=>rfl
theorem zuq(s:ByteArray)(n k:Nat):bG (gD s n k k) 5 (j9 s (266+8*n) 4 k++[(bZ s (266+8*n+4*k):Int)])=gD s n (k+1) k:=by
 rw[<-zhV];funext j;match j with
 |0=>rfl
 |1=>rfl
 |2=>rfl
 |3=>rfl
 |4=>rfl
 |5=>rfl
 |6=>rfl
 |j+7=>rfl
theorem zur(s:ByteArray)(n k:Nat):bG (gD s n (k+1) k) 6 (kc s (268+8*n) 4 k++[sG s (268+8*n+4*k)])=gD s n (k+1) (k+1):=by
 rw[<-zhX];funext j;match j with
 |0=>rfl
 |1=>rfl
 |2=>rfl
 |3=>rfl
 |4=>rfl
 |5=>rfl
 |6=>rfl
 |j+7=>rfl
theorem zgE(w:World)(e:TypeId)(s:ByteArray):Below w.heap.size w (Go.Lib.bytesWorld w e s):=by
 have h:=(Below.refl w.heap.size w).drew;exact⟨h.1,h.2,h.3,by rw[Go.Lib.bytesWorld_size];omega,λk hk=>Go.Lib.bytesWorld_at_old w e s k hk⟩
theorem zup(s:ByteArray)(n m:Nat)(hn:n<=4000)(hm:m<=60000):∀i,i<7->(gD s n m m i).length<=1048576:=by
 intro i hi
 match i,hi with
 |0,_=>show (rX s 256).length<=_;rw[zjG];omega
 |1,_=>show (j9 s 266 8 n).length<=_;rw[CX];omega
 |2,_=>show (j9 s 268 8 n).length<=_;rw[CX];omega
 |3,_=>show (kc s 270 8 n).length<=_;rw[CY];omega
 |4,_=>show (kc s 272 8 n).length<=_;rw[CY];omega
 |5,_=>show (j9 s (266+8*n) 4 m).length<=_;rw[CX];omega
 |6,_=>show (kc s (268+8*n) 4 m).length<=_;rw[CY];omega
def IC(s:ByteArray):cg:=jP (bZ s 6) (gD s (bZ s 4) (bZ s 8) (bZ s 8))
def iU(s:ByteArray):Int:=
 if (s.size:Int)<268 then 1
 else if ¬s.extract 0 4=⟨#[88,68,70,49]⟩ then 2
 else if aG (bZ s 4) 1 4000=false then 3
 else if aG (bZ s 6) 1 256=false then 3
 else if 60000<(bZ s 8:Int) then 3
 else if ¬(s.size:Int)=268+8*bZ s 4+4*bZ s 8 then 4
 else if ¬nU (s.extract 0 (s.size-2)).data.toList=bZ s (s.size-2) then 5
 else if mZ (IC s)=false then 6 else 0
def wR(s:ByteArray):Int:=if iU s=0 then bZ s 6 else 0
def qh(s:ByteArray):Nat->List Int:=if iU s=0 then gD s (bZ s 4) (bZ s 8) (bZ s 8) else λ_=>[]
theorem znV{s:ByteArray}{c:Int}(h:iU s=c)(hc:¬c=0):wR s=0/\qh s=λ_=>[]:=by
 unfold wR qh;rw[h,ab hc,ab hc];exact⟨rfl,rfl⟩
def Pg(d:cg)(s:Nat):Int:=d.tag.getD s 0
def Pd(d:cg)(s:Nat):Int:=d.fin.getD s 0
def IE(d:cg):List UInt8:=[88,68,70,49]++jJ d.base.length++jJ d.width++jJ d.next.length
def re(d:cg)(k:Nat):List UInt8:=IE d++(List.range k).map λc=>UInt8.ofNat (rL d c).toNat
def ztM(d:cg)(s:Nat):List UInt8:=jJ (qL d s)++jJ (Ac d s)++jJ (Pg d s)++jJ (Pd d s)
def uf(d:cg)(k:Nat):List UInt8:=re d 256++(List.range k).flatMap (ztM d)
def zvJ(d:cg)(k:Nat):List UInt8:=jJ (A8 d k)++jJ (Bk d k)
def vf(d:cg)(k:Nat):List UInt8:=uf d d.base.length++(List.range k).flatMap (zvJ d)
def nS(d:cg):List UInt8:=vf d d.next.length
def eN(d:cg):List UInt8:=nS d++jJ (nU (nS d))
def D7(d:cg):ByteArray:=if mZ d then ⟨(eN d).toArray⟩ else ⟨#[]⟩
theorem zpQ(d:cg):re d 0=IE d:=by simp[re]
theorem zpP(d:cg)(k:Nat):re d (k+1)=re d k++[UInt8.ofNat (rL d k).toNat]:=by simp[re,List.range_succ]
theorem Tb(d:cg):uf d 0=re d 256:=by simp[uf]
theorem Ta(d:cg)(k:Nat):uf d (k+1)=uf d k++jJ (qL d k)++jJ (Ac d k)++jJ (Pg d k)++jJ (Pd d k):=by simp[uf,List.range_succ,ztM]
theorem ZU(d:cg):vf d 0=uf d d.base.length:=by simp[vf]
theorem SY(d:cg)(k:Nat):vf d (k+1)=vf d k++jJ (A8 d k)++jJ (Bk d k):=by simp[vf,List.range_succ,zvJ]
theorem zhA(d:cg):(IE d).length=10:=rfl
theorem znz(d:cg)(k:Nat):(re d k).length=10+k:=by simp[re,zhA]
theorem Tm(d:cg):∀k,(uf d k).length=266+8*k
 |0=>by rw[Tb,znz]
 |k+1=>by rw[Ta];simp only[aQ,zX,Tm d k];omega
theorem Ij(d:cg):∀k,(vf d k).length=266+8*d.base.length+4*k
 |0=>by rw[ZU,Tm];rfl
 |k+1=>by rw[SY];simp only[aQ,zX,Ij d k];omega
variable {l:List Int}{d:aL}{x:Int}{A I:List UInt8}{p:Nat}
def pz(d:aL):cg:=jP (yv d) (wK d)
theorem znG:∀(ks ns:List Int),(∀j,ks.getD j (-1)=-1->ns.getD j 0=0)->wO ks ns=true
 |[],_,_=>rfl
 |_::_,[],_=>rfl
 |k::ks,n::ns,h=>by
  rw[wO,znG ks ns (λj hj=>h (j+1) hj)]
  by_cases e:k=-1
  ·have:=h 0 e;simp at this;simp[this]
  ·simp[e]
theorem zue{j:Nat}{a b:Int}(h:j<l.length):l.getD j a=l.getD j b:=by
 rw[bJ,bJ,bE h];rfl
theorem ziM{lo hi z:Int}{xs:List Int}(h:∀j,lo<=xs.getD j z/\xs.getD j z<=hi):cd lo hi xs=true:=by
 refine xZ λx hx=>?_
 obtain⟨j,hj,rfl⟩:=List.getElem_of_mem hx;have:=h j;rwa[bJ,bE hj]at this
theorem zsZ(hB:dH d=true)(h:jO d=0):∃L,yu d=some L/\pz d=⟨d.ai,d.width,L.base,L.bA,d.tag,d.fin,L.next,L.az⟩:=by
 cases e:yu d with
 |none=>unfold jO at h;rw[hB,e]at h;simp at h
 |some L=>refine⟨L,rfl,?_⟩;unfold pz jP yv wK;rw[h,e];rfl
theorem zs0(hB:dH d=true)(h:jO d=0):mZ (pz d)=true/\(pz d).tag=d.tag/\(pz d).fin=d.fin/\(pz d).base.length=d.tag.length/\
  ∀s c,s<d.tag.length->c<256->Fy (pz d) s c=d.next.getD (s*d.width.toNat+(d.ai.getD c 0).toNat) 0:=by
 obtain⟨L,hL,e⟩:=zsZ hB h;have F:=C6 hB;have j7:=F.n1;have hx:∀x∈d.next,0<=x/\x<=((d.tag.length:Nat):Int)-1:=by
  intro x hx;obtain⟨j,hj,rfl⟩:=List.getElem_of_mem hx;have:=ju F.ns hj;rwa[bJ,bE hj]at this
 have I:=znQ (wd:=d.width.toNat) (by omega) hx d.tag.length L hL;rw[e];refine⟨?_,rfl,rfl,I.bl,λs c hs hc=>?_⟩
 ·have h1:cd 0 59999 L.base=true:=xZ I.bs;have h2:cd 0 (d.tag.length-1) L.bA=true:=xZ I.ds;have h3:cd (-1) (d.tag.length-1) L.az=true:=ziM (z:=-1) λj=>⟨(I.ks j).1,by have:=(I.ks j).2;omega⟩
  have h4:cd 0 (d.tag.length-1) L.next=true:=ziM (z:=0) I.ns;have h5:=znG _ _ I.fr;have h6:aG d.width 1 256=true:=kK.2 ⟨F.w1,F.w2⟩;have h7:aG (d.tag.length:Int) 1 4000=true:=kK.2 ⟨F.n1,F.n2⟩;have h8:L.az.length<=60000:=I.nm;simp[mZ,F.cl,F.cs,F.fl,F.ts,F.es,I.bl,I.dl,I.nk, *]
 ·have hcs:=ju F.cs (k:=c) (by have:=F.cl;omega);have nG:0<=L.base.getD s 0:=(ju (xZ I.bs) (k:=s) (by have:=I.bl;omega)).1;have hw:=F.w1;have Nr:=I.lk s (d.ai.getD c 0).toNat hs (by omega);rw[<-Nr];unfold Fy ug Bk qL rL A8 Ac;simp only;have e1:(L.base.getD s 0+d.ai.getD c 0).toNat=(L.base.getD s 0).toNat+(d.ai.getD c 0).toNat:=by omega
  rw[e1];generalize (L.base.getD s 0).toNat+(d.ai.getD c 0).toNat=j
  by_cases hj:j<L.az.length
  ·rw[zue (a:=0) (b:=-1) hj]
   by_cases hk:L.az.getD j (-1)=(s:Int)
   ·rw[af ⟨hj,hk⟩,af hk]
   ·rw[ab (λh=>hk h.2),ab hk]
  ·have:L.az.getD j (-1)=-1:=by rw[bJ,Bo (by omega)];rfl
   rw[ab (λh=>hj h.1),this,ab (by omega)]
theorem Is(h:0<=x):((rI x:Nat):Int)=x:=by unfold rI;rw[ab (by omega)];omega
theorem Fg(hp:A.length=p)(hx:x<=65535)(h:A++jJ x <+: I):bZ ⟨I.toArray⟩ p=rI x:=by
 subst hp;have hm:rI x<=65535:=by unfold rI;split<;>omega
 obtain⟨B,rfl⟩:=h;simp[bZ,ku,jJ];omega
theorem zm6(hp:A.length=p)(hl:-1<=x)(hx:x<65535)(h:A++jJ x <+: I):sG ⟨I.toArray⟩ p=x:=by
 unfold sG;rw[Fg hp (by omega) h];unfold rI;split
 ·rw[af rfl];omega
 ·rw[ab (by omega)];omega
theorem zjv(d:cg)(k:Nat):∀m,k<=m->uf d k <+: uf d m
 |0,h=>by
  obtain rfl:k=0:=by omega
  exact List.prefix_refl _
 |m+1,h=>by
  by_cases e:k=m+1
  ·subst e;exact List.prefix_refl _
  ·refine(zjv d k m (by omega)).trans ?_;rw[Ta];simp only[gJ];exact Bl ..
theorem zlT(d:cg)(k:Nat):∀m,k<=m->vf d k <+: vf d m
 |0,h=>by
  obtain rfl:k=0:=by omega
  exact List.prefix_refl _
 |m+1,h=>by
  by_cases e:k=m+1
  ·subst e;exact List.prefix_refl _
  ·refine(zlT d k m (by omega)).trans ?_;rw[SY];simp only[gJ];exact Bl ..
theorem zlS(d:cg){k:Nat}(h:k<=d.next.length):vf d k <+: eN d:=(zlT d k _ h).trans (Bl ..)
theorem Z5(d:cg){k:Nat}(h:k<=d.base.length):uf d k <+: eN d:=((zjv d k _ h).trans (by rw[<-ZU];exact List.prefix_refl _)).trans (zlS d (dz _))
theorem zi0(d:cg):(eN d).length=268+8*d.base.length+4*d.next.length:=by
 rw[eN,aQ,zX,nS,Ij];omega
theorem Ix{n:Nat}{f:Nat->Int}(hl:l.length=n)(h:∀k,k<n->f k=l.getD k 0):(List.range n).map f=l:=by
 apply FE
 ·simp[hl]
 ·intro i h1 h2;rw[List.getElem_map,List.getElem_range,h i (by omega),bJ,bE h2];rfl
theorem zo8{d:cg}(h:mZ d=true):iU ⟨(eN d).toArray⟩=0/\jP (wR ⟨(eN d).toArray⟩) (qh ⟨(eN d).toArray⟩)=d:=by
 have F:=OH h;have xU:=F.w1;have kY:=F.w2;have j7:=F.n1;have kA:=F.n2;have pi:=F.nm;have Yd:=F.nk;have hlen:=zi0 d;have Ew:IE d <+: eN d:=by
  refine List.IsPrefix.trans ?_ (Z5 d (dz _));rw[Tb,re];exact Bl ..
 have n4:bZ ⟨(eN d).toArray⟩ 4=d.base.length:=by
  have:=Fg (A:=[88,68,70,49]) (x:=d.base.length) (p:=4) rfl (by omega) (List.IsPrefix.trans (by unfold IE;simp only[gJ];rw[<-gJ];exact Bl ..) Ew);rw[this];have:=Is (x:=d.base.length) (by omega);omega
 have n6:bZ ⟨(eN d).toArray⟩ 6=d.width.toNat:=by
  have:=Fg (A:=[88,68,70,49]++jJ d.base.length) (x:=d.width) (p:=6) rfl (by omega) (List.IsPrefix.trans (by unfold IE;exact Bl ..) Ew);rw[this];have:=Is (x:=d.width) (by omega);omega
 have n8:bZ ⟨(eN d).toArray⟩ 8=d.next.length:=by
  have:=Fg (A:=[88,68,70,49]++jJ d.base.length++jJ d.width) (x:=d.next.length) (p:=8) rfl (by omega) Ew;rw[this];have:=Is (x:=d.next.length) (by omega);omega
 have hst:∀k,k<d.base.length->bZ ⟨(eN d).toArray⟩ (266+8*k)=rI (qL d k)/\bZ ⟨(eN d).toArray⟩ (268+8*k)=rI (Ac d k)/\sG ⟨(eN d).toArray⟩ (270+8*k)=Pg d k/\sG ⟨(eN d).toArray⟩ (272+8*k)=Pd d k:=by
  intro k hk;have hp:=Z5 d (k:=k+1) (by omega);rw[Ta]at hp;have p4:=hp;have p3:=(Bl ..).trans p4;have p2:=(Bl ..).trans p3;have p1:=(Bl ..).trans p2;have hl:=Tm d k;have b1:=ju F.bs (k:=k) hk;have b2:=ju F.ds (k:=k) (by have:=F.dl;omega);have b3:=ju F.ts (k:=k) (by have:=F.tl;omega);have b4:=ju F.es (k:=k) (by have:=F.el;omega);refine⟨Fg hl ?_ p1,Fg (by rw[aQ,hl,zX];omega) ?_ p2,zm6 (by rw[aQ,aQ,hl,zX,zX];omega) ?_ ?_ p3,zm6 (by rw[aQ,aQ,aQ,hl,zX,zX,zX];omega) ?_ ?_ p4⟩
  all_goals (simp only[qL,Ac,Pg,Pd];omega)
 have qF:∀k,k<d.next.length->bZ ⟨(eN d).toArray⟩ (266+8*d.base.length+4*k)=rI (A8 d k)/\sG ⟨(eN d).toArray⟩ (268+8*d.base.length+4*k)=Bk d k:=by
  intro k hk;have hp:=zlS d (k:=k+1) (by omega);rw[SY]at hp;have p1:=(Bl ..).trans hp;have hl:=Ij d k;have b1:=ju F.ns (k:=k) hk;have b2:=ju F.ks (k:=k) (by omega);refine⟨Fg hl ?_ p1,zm6 (by rw[aQ,hl,zX];omega) ?_ ?_ hp⟩
  all_goals (simp only[A8,Bk];omega)
 have aV:rX ⟨(eN d).toArray⟩ 256=d.ai:=by
  refine Ix F.cl λk hk=>?_
  have hp:=Z5 d (dz _);rw[Tb]at hp;obtain⟨B,hB⟩:=hp;have b:=ju F.cs (k:=k) (by have:=F.cl;omega);unfold ku;simp only[<-hB,re];rw[gJ,bJ,Ap (by rw[zhA];omega),zhA,vp (by simp;omega),show 10+k-10=k by omega];simp[hk,rL];simp[List.getD_eq_getElem?_getD]at b;omega
 have hT:gD ⟨(eN d).toArray⟩ d.base.length d.next.length d.next.length 0=d.ai/\gD ⟨(eN d).toArray⟩ d.base.length d.next.length d.next.length 1=d.base/\gD ⟨(eN d).toArray⟩ d.base.length d.next.length d.next.length 2=d.bA/\gD ⟨(eN d).toArray⟩ d.base.length d.next.length d.next.length 3=d.tag/\gD ⟨(eN d).toArray⟩ d.base.length d.next.length d.next.length 4=d.fin/\gD ⟨(eN d).toArray⟩ d.base.length d.next.length d.next.length 5=d.next/\gD ⟨(eN d).toArray⟩ d.base.length d.next.length d.next.length 6=d.az:=by
  refine⟨aV,Ix rfl λk hk=>?_,Ix F.dl λk hk=>?_,Ix F.tl λk hk=>(hst k hk).2.2.1,Ix F.el λk hk=>(hst k hk).2.2.2,Ix rfl λk hk=>?_,Ix Yd.symm λk hk=>(qF k hk).2⟩
  ·have b:=ju F.bs (k:=k) hk;rw[(hst k hk).1];exact Is b.1
  ·have b:=ju F.ds (k:=k) (by have:=F.dl;omega);rw[(hst k hk).2.1];exact Is b.1
  ·have b:=ju F.ns (k:=k) hk;rw[(qF k hk).1];exact Is b.1
 have hd:IC ⟨(eN d).toArray⟩=d:=by
  unfold IC jP;rw[n4,n6,n8,hT.1,hT.2.1,hT.2.2.1,hT.2.2.2.1,hT.2.2.2.2.1,hT.2.2.2.2.2.1,hT.2.2.2.2.2.2];have:((d.width.toNat:Nat):Int)=d.width:=by omega
  rw[this]
 have hsz:(⟨(eN d).toArray⟩:ByteArray).size=268+8*d.base.length+4*d.next.length:=hlen;have c0:iU ⟨(eN d).toArray⟩=0:=by
  unfold iU;rw[hd,h,hsz,n4,n6,n8];rw[ab (by omega),ab,ab (by simp[kK.2 (show (1:Int)<=d.base.length/\(d.base.length:Int)<=4000 from⟨j7,kA⟩)]),ab,ab (by omega),ab (by omega),ab,ab (by simp)]
  ·rw[Decidable.not_not];have e:(ByteArray.extract ⟨(eN d).toArray⟩ 0 (268+8*d.base.length+4*d.next.length-2)).data.toList=nS d:=by
    have hr:(nS d).length=268+8*d.base.length+4*d.next.length-2:=by rw[nS,Ij];omega
    rw[ByteArray.data_extract,Array.toList_extract];simp only[List.toList_toArray,<-hr];unfold eN;simp
   have hr:(nS d).length=268+8*d.base.length+4*d.next.length-2:=by rw[nS,Ij];omega
   rw[e,Fg (x:=nU (nS d)) (I:=eN d) hr (by have:=znn (nS d);omega) (List.prefix_refl _)];have:=Is (x:=nU (nS d)) (by omega);omega
  ·have:((d.width.toNat:Nat):Int)=d.width:=by omega
   rw[this,kK.2 ⟨xU,kY⟩];simp
  ·rw[Decidable.not_not];obtain⟨B,hB⟩:=Ew;have:eN d=[88,68,70,49]++(jJ d.base.length++jJ d.width++jJ d.next.length++B):=by rw[<-hB,IE];simp only[gJ]
   rw[this];apply ByteArray.ext;rw[ByteArray.data_extract];apply Array.toList_inj.1;rw[Array.toList_extract];simp
 refine⟨c0,?_⟩;unfold wR qh;rw[c0,af rfl,af rfl];exact hd
end Go.Proofs.YtfajjdgkiilhfaaGreatDoor
