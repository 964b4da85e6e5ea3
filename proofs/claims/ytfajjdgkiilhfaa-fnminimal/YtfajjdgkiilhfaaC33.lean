import Derived.Test.YtfajjdgkiilhfaaC32
namespace Go.Proofs.Ytfajjdgkiilhfaa
set_option maxRecDepth 100000
open Go.RowKit
section
variable {bs:List dm}{most K:Nat}
theorem zox{k0:Nat}(h:zA bs most K)(r:Km bs most k0):False:=by
 rcases jP k0 K with q|q
 ·have:=(h.go k0 q).2;have:=r.big;omega
 ·rcases jP K k0 with q2|q2
  ·have:=(r.go K q2).1;have:=h.len;omega
  ·obtain rfl:K=k0:=by omega
   have:=r.lt;have:=h.len;omega
theorem zsk{K':Nat}(h:zA bs most K)(h':zA bs most K'):K=K':=by
 rcases Nat.lt_trichotomy K K' with q|q|q
 ·have:=(h'.go K q).1;have:=h.len;omega
 ·exact q
 ·have:=(h.go K' q).1;have:=h'.len;omega
def GJ(rs:List dC)(most code width:Int)(l:Nat->List Int):Prop:=
 (¬(1<=most/\most<=4000)/\code=1/\width=0/\l=λ_=>[])\/
 ((1<=most/\most<=4000)/\qf rs=false/\code=2/\width=0/\l=λ_=>[])\/
 ((1<=most/\most<=4000)/\qf rs=true/\(∃k0,Km (fw 0 rs) most.toNat k0)/\code=3/\width=0/\l=λ_=>[])\/
 ((1<=most/\most<=4000)/\qf rs=true/\∃K,zA (fw 0 rs) most.toNat K/\code=0/\width=km (ie (fw 0 rs) K)/\l=dA (ie (fw 0 rs) K))
theorem Ua(rs:List dC)(most:Int):∃code width l,GJ rs most code width l:=by
 by_cases h:1<=most/\most<=4000
 ·cases hl:qf rs
  ·exact⟨2,0,λ_=>[],.inr (.inl ⟨h,hl,rfl,rfl,rfl⟩)⟩
  ·rcases zrn (fw 0 rs) most.toNat with ⟨K,hK⟩|hr
   ·exact⟨0,km (ie (fw 0 rs) K),dA (ie (fw 0 rs) K),.inr (.inr (.inr ⟨h,hl,K,hK,rfl,rfl,rfl⟩))⟩
   ·exact⟨3,0,λ_=>[],.inr (.inr (.inl ⟨h,hl,hr,rfl,rfl,rfl⟩))⟩
 ·exact⟨1,0,λ_=>[],.inl ⟨h,rfl,rfl,rfl⟩⟩
theorem zfI(v:Value)(rs:List dC)(most:Int)(w:World)(hs:qJ 0 w v rs)(hw:Kp rs)(h:1<=most/\most<=4000)(hl:qf rs=true){k0:Nat}(hk:Km (fw 0 rs) most.toNat k0):
  Calls Try.prog 30 #[v,.int .i64 most] w (vB w 3 0 λ_=>[]):=by
 have e:((most.toNat:Nat):Int)=most:=by omega
 have:=zej v rs most.toNat w hs hw (by omega) (by omega) hl (vB w 3 0 λ_=>[]) (λ_ W hb=>vB.F6 hb) (λK hK=>(zox hK hk).elim);rw[e]at this;exact this
theorem zga(v:Value)(rs:List dC)(most:Int)(w:World)(hs:qJ 0 w v rs)(hw:Kp rs)(h:1<=most/\most<=4000)(hl:qf rs=true){K:Nat}(hK:zA (fw 0 rs) most.toNat K):
  Calls Try.prog 30 #[v,.int .i64 most] w (vB w 0 (km (ie (fw 0 rs) K)) (dA (ie (fw 0 rs) K))):=by
 have e:((most.toNat:Nat):Int)=most:=by omega
 have:=zej v rs most.toNat w hs hw (by omega) (by omega) hl (vB w 0 (km (ie (fw 0 rs) K)) (dA (ie (fw 0 rs) K))) (λ⟨k0,hk⟩=>(zox hK hk).elim) (λK' hK' e W ha=>by rw[zsk hK hK'];exact ha);rw[e]at this;exact this
theorem zhW(v:Value)(rs:List dC)(most code width:Int)(l:Nat->List Int)(w:World)(hs:qJ 0 w v rs)(hsm:JG rs)(hw:qf rs=true->Kp rs)(hr:GJ rs most code width l):
  Calls Try.prog 30 #[v,.int .i64 most] w (vB w code width l):=by
 unfold GJ at hr;rcases hr with hr|hr|hr|hr
 ·have h:=hr.1;rw[hr.2.1,hr.2.2.1,hr.2.2.2];exact zgc v most w h
 ·rw[hr.2.2.1,hr.2.2.2.1,hr.2.2.2.2];exact zgb v rs most w hs hsm hr.1 hr.2.1
 ·obtain⟨k0,hk⟩:=hr.2.2.1;rw[hr.2.2.2.1,hr.2.2.2.2.1,hr.2.2.2.2.2];exact zfI v rs most w hs (hw hr.2.1) hr.1 hr.2.1 hk
 ·obtain⟨K,hK,e1,e2,e3⟩:=hr.2.2;rw[e1,e2,e3];exact zga v rs most w hs (hw hr.2.1) hr.1 hr.2.1 hK
end
section
variable {n:aI}
def jI:Pt->Nat
 |.set _=>1
 |.seq l r=>jI l+jI r+1
 |.eA l r=>jI l+jI r+1
 |.jX b _ _=>jI b+1
 |.aH b _=>jI b+1
def zj:Pt->Prop
 |.set _=>True
 |.seq l r=>zj l/\zj r
 |.eA l r=>zj l/\zj r
 |.jX b mn mx=>zj b/\ly mn mx=true
 |.aH b _=>zj b
theorem zlm{n:Int}(h:oh n<=2000):oh n=n:=by unfold oh at h ⊢;split at h<;>omega
theorem zjT{mn mx:Int}(h:ly mn mx=true):∃k:Nat,oM mn mx=(k:Int)/\1<=k/\∀c,o8 c mn mx<=k*(c+3)+1:=by
 unfold ly at h;simp only[fQ,pF]at h;obtain⟨⟨h1,h2⟩,h3⟩:=h;obtain⟨m,rfl⟩:∃m:Nat,mn=(m:Int):=⟨mn.toNat,by omega⟩
 by_cases hx:mx=-1
 ·subst hx;refine⟨m+1,by unfold oM;rw[ae rfl];omega,by omega,λc=>?_⟩;unfold o8;rw[ae rfl,uA,zu,Nat.one_mul];have:m*(c+1)<=m*(c+3):=Nat.mul_le_mul_left _ (by omega);omega
 ·obtain⟨x,rfl⟩:∃x:Nat,mx=(x:Int):=⟨mx.toNat,by omega⟩;obtain⟨y,rfl⟩:∃y,x=m+y:=⟨x-m,by omega⟩;have e1:(((m+y:Nat):Int)-(m:Int)).toNat=y:=by omega
  by_cases hz:m+y=0
  ·refine⟨1,by unfold oM;rw[ab hx,ae (by omega)];rfl,ax _,λc=>?_⟩;unfold o8;rw[ab hx,e1,uA];obtain⟨rfl,rfl⟩:m=0/\y=0:=by omega
   omega
  ·refine⟨m+y,by unfold oM;rw[ab hx,ab (by omega)],by omega,λc=>?_⟩;unfold o8;rw[ab hx,e1,uA,zu];have:m*(c+1)<=m*(c+3):=Nat.mul_le_mul_left _ (by omega);omega
theorem zb:∀p:Pt,zj p->1<=gC p
 |.set _,_=>by simp[gC]
 |.seq l r,h=>by have:=zb l h.1;have:=zb r h.2;unfold gC oh;split<;>omega
 |.eA l r,h=>by have:=zb l h.1;have:=zb r h.2;unfold gC oh;split<;>omega
 |.jX b mn mx,h=>by
  have:=zb b h.1;obtain⟨k,e,hk,_⟩:=zjT h.2;unfold gC;rw[e];have:1*(1:Int)<=gC b*(k:Int):=xH this (by omega) (by omega) (by omega);unfold oh;split<;>omega
 |.aH b _,h=>by have:=zb b h;unfold gC;exact this
theorem zr1{a b x y:Nat}(hx:1<=x)(hy:1<=y):a*x+b*y+(x+y)<=(a+b+1)*(x+y):=by
 have h1:a*x<=a*(x+y):=Nat.mul_le_mul_left _ (by omega);have h2:b*y<=b*(x+y):=Nat.mul_le_mul_left _ (by omega);have:(a+b+1)*(x+y)=a*(x+y)+b*(x+y)+(x+y):=by rw[zu,zu,Nat.one_mul]
 omega
theorem JE:∀p:Pt,zj p->gC p<=2000->∃W:Nat,gC p=(W:Int)/\1<=W/\eI p+3<=4*(jI p*W)
 |.set _,_,_=>⟨1,rfl,ax _,by simp[eI,jI]⟩
 |.seq l r,h,hw=>by
  have e:gC (.seq l r)=gC l+gC r:=zlm hw;have p1:=zb l h.1;have p2:=zb r h.2;rw[e]at hw ⊢;obtain⟨x,ex,hx,cx⟩:=JE l h.1 (by omega);obtain⟨y,ey,hy,cy⟩:=JE r h.2 (by omega);have:=zr1 (a:=jI l) (b:=jI r) hx hy;exact⟨x+y,by omega,by omega,by simp only[eI,jI];omega⟩
 |.eA l r,h,hw=>by
  have e:gC (.eA l r)=gC l+gC r:=zlm hw;have p1:=zb l h.1;have p2:=zb r h.2;rw[e]at hw ⊢;obtain⟨x,ex,hx,cx⟩:=JE l h.1 (by omega);obtain⟨y,ey,hy,cy⟩:=JE r h.2 (by omega);have:=zr1 (a:=jI l) (b:=jI r) hx hy;exact⟨x+y,by omega,by omega,by simp only[eI,jI];omega⟩
 |.jX b mn mx,h,hw=>by
  have e:gC (.jX b mn mx)=gC b*oM mn mx:=zlm hw;obtain⟨k,ek,hk,hc⟩:=zjT h.2;have p1:=zb b h.1;rw[e,ek]at hw ⊢;have h1:gC b*1<=gC b*(k:Int):=Int.mul_le_mul_of_nonneg_left (by omega) (by omega);obtain⟨x,ex,hx,cx⟩:=JE b h.1 (by omega);refine⟨x*k,by rw[ex,Int.natCast_mul],Nat.mul_pos hx hk,?_⟩;have h2:=hc (eI b);have h3:k*(eI b+3)<=k*(4*(jI b*x)):=Nat.mul_le_mul_left _ cx;have h4:k*(4*(jI b*x))=4*(jI b*(x*k)):=by
   rw[Nat.mul_comm k,Nat.mul_assoc,Nat.mul_assoc]
  have h5:1<=x*k:=Nat.mul_pos hx hk;simp only[eI,jI,zu,Nat.one_mul];omega
 |.aH b g,h,hw=>by
  have e:gC (.aH b g)=gC b:=rfl;rw[e]at hw ⊢;obtain⟨x,ex,hx,cx⟩:=JE b h hw;exact⟨x,ex,hx,by simp only[eI,jI,zu];omega⟩
def sN(l:List Pt):Nat:=(l.map jI).sum
theorem zmO(a b:List Pt):sN (a++b)=sN a+sN b:=by simp[sN,List.map_append,List.sum_append]
theorem ziD(l:List Pt)(k:Nat):sN l=sN (l.take k)+sN (l.drop k):=by rw[<-zmO,List.take_append_drop]
theorem zm7(h:bG n=true):(n.kind=1/\aV n.kind=0)\/((n.kind=2\/n.kind=3)/\aV n.kind=2)\/(n.kind=4/\aV n.kind=1/\ly n.min n.max=true)\/(n.kind=5/\aV n.kind=1):=by
 unfold bG at h;split at h
 ·rename_i e;rw[e];exact .inl ⟨rfl,rfl⟩
 ·split at h
  ·rename_i e;exact .inr (.inl ⟨e,by unfold aV;rw[ae e]⟩)
  ·split at h
   ·rename_i e
    simp only[fQ]at h;refine .inr (.inr (.inl ⟨e,by rw[e];rfl,h.1.2⟩))
   ·split at h
    ·rename_i e;exact .inr (.inr (.inr ⟨e,by rw[e];rfl⟩))
    ·cases h
theorem zmX{ops:List Pt}(h:bG n=true)(hl:ops.length=aV n.kind)(hf:∀p,p∈ops->zj p):zj (lB n ops)/\jI (lB n ops)<=sN ops+1/\gC (lB n ops)=qg n (ops.map gC):=by
 rcases zm7 h with ⟨e,a⟩|⟨e,a⟩|⟨e,a,hb⟩|⟨e,a⟩
 ·have:lB n ops=.set (tR n.set):=by unfold lB;rw[ae e]
  rw[this];exact⟨trivial,by simp[jI],by unfold qg;simp[e,gC]⟩
 ·rw[a]at hl
  match ops,hl with
  |[x,y],_=>
  rcases e with e|e
  ·have:lB n [x,y]=.seq x y:=by unfold lB;rw[ab (by omega),ae e];rfl
   rw[this];exact⟨⟨hf x (by simp),hf y (by simp)⟩,by simp[jI,sN];try omega,by unfold qg;simp[e,gC]⟩
  ·have:lB n [x,y]=.eA x y:=by unfold lB;rw[ab (by omega),ab (by omega),ae e];rfl
   rw[this];exact⟨⟨hf x (by simp),hf y (by simp)⟩,by simp[jI,sN];try omega,by unfold qg;simp[e,gC]⟩
 ·rw[a]at hl
  match ops,hl with
  |[x],_=>
  have:lB n [x]=.jX x n.min n.max:=by unfold lB;rw[ab (by omega),ab (by omega),ab (by omega),ae e];rfl
  rw[this];exact⟨⟨hf x (by simp),hb⟩,by simp[jI,sN],by unfold qg;simp[e,gC]⟩
 ·rw[a]at hl
  match ops,hl with
  |[x],_=>
  have:lB n [x]=.aH x n.group:=by unfold lB;rw[ab (by omega),ab (by omega),ab (by omega),ab (by omega)];rfl
  rw[this];exact⟨hf x (by simp),by simp[jI,sN],by unfold qg;simp[e,gC]⟩
theorem zrZ{ns:List aI}(hk:∀i,i<ns.length->aV (dK ns i)<=(aQ ns i).length)(hb:ns.all bG=true):∀i,i<=ns.length->(∀p,p∈jJ ns i->zj p)/\sN (jJ ns i)<=i/\(jJ ns i).map gC=fW ns i
 |0,_=>⟨λp h=>by simp[jJ]at h,by simp[jJ,sN],by simp[jJ,fW]⟩
 |i+1,hi=>by
  obtain⟨h1,h2,h3⟩:=zrZ hk hb i (by omega);have hle:aV (ns.getD i .zero).kind<=(jJ ns i).length:=by rw[zjC];exact hk i (by omega)
  have hn:=zjj hb (k:=i) (by omega);have hd:=zmX (ops:=(jJ ns i).drop ((jJ ns i).length-aV (ns.getD i .zero).kind)) hn (by rw[List.length_drop];omega) (λp hp=>h1 p (List.mem_of_mem_drop hp));have hsp:=ziD (jJ ns i) ((jJ ns i).length-aV (ns.getD i .zero).kind);refine⟨λp hp=>?_,?_,?_⟩
  ·rw[jJ,Qu]at hp;rcases gH.1 hp with hp|hp
   ·exact h1 p (List.mem_of_mem_take hp)
   ·rw[vF.1 hp];exact hd.1
  ·rw[jJ,Qu,zmO];have:sN [lB (ns.getD i .zero) ((jJ ns i).drop ((jJ ns i).length-aV (ns.getD i .zero).kind))]=jI (lB (ns.getD i .zero) ((jJ ns i).drop ((jJ ns i).length-aV (ns.getD i .zero).kind))):=by simp[sN]
   have:=hd.2.1;omega
  ·rw[jJ,Qu,fW,Gs,rR,List.map_take,h3,<-h3,jK];simp only[Be,List.map_nil,hd.2.2,List.map_drop]
theorem ztK{b:cX}(hk:kP b.nodes=true)(hb:b.nodes.all bG=true):zj (xy b)/\jI (xy b)<=b.nodes.length/\gC (xy b)=JM b:=by
 have h0:=zmx hk;have ha:=Ui hk;obtain⟨h1,h2,h3⟩:=zrZ ha hb (b.nodes.length-1) (by omega);have hle:aV (b.nodes.getD (b.nodes.length-1) .zero).kind<=(jJ b.nodes (b.nodes.length-1)).length:=by rw[zjC];exact ha _ (by omega)
 have hn:=zjj hb (k:=b.nodes.length-1) (by omega);have hd:=zmX (ops:=(jJ b.nodes (b.nodes.length-1)).drop ((jJ b.nodes (b.nodes.length-1)).length-aV (b.nodes.getD (b.nodes.length-1) .zero).kind)) hn (by rw[List.length_drop];omega) (λp hp=>h1 p (List.mem_of_mem_drop hp));have hsp:=ziD (jJ b.nodes (b.nodes.length-1)) ((jJ b.nodes (b.nodes.length-1)).length-aV (b.nodes.getD (b.nodes.length-1) .zero).kind);have hq:=hd.2.1;refine⟨hd.1,?_,?_⟩
 ·show jI (lB _ _)<=_;exact cM hq (by omega)
 ·show gC (lB _ _)=qg _ _;rw[<-h3,<-List.map_drop,jK];exact hd.2.2
theorem zoj:∀(bs:List cX),qM bs->gE bs<=2000->pJ bs<=8000*lU bs/\0<=gE bs
 |[],_,_=>by simp[pJ,gE]
 |b::bs,h,hw=>by
  have hb:=h 0 (by simp);have ht:qM bs:=λi hi=>by have:=h (i+1) (by simpa using hi);simpa using this
  simp only[List.getD_cons_zero]at hb;obtain⟨f,s,e⟩:=ztK hb.1 hb.2;have h1:=zb _ f;have h2:=P8 ht bs.length (ax _);rw[th]at h2;simp only[gE]at hw ⊢;obtain⟨ih,_⟩:=zoj bs ht (by omega);obtain⟨W,eW,hW,hc⟩:=JE _ f (by omega);have hm:jI (xy b)*W<=b.nodes.length*2000:=nt s (by omega);simp only[pJ,lU];exact⟨by omega,by omega⟩
theorem zol:∀(rs:List dC),rs.all vl=true->oZ rs<=40000000*rs.length
 |[],_=>by simp[oZ]
 |r::rs,h=>by
  simp only[List.all_cons,fQ]at h;have ih:=zol rs h.2;have hk:=UE h.1;have hb:=(zoj _ hk.1 hk.2.2).1;have hn:lU r.branches<=5000:=by
   have h1:=h.1;unfold vl td at h1;simp only[fQ,pF]at h1;exact h1.1.1.1.1.2
  simp only[oZ,iG];omega
theorem zqY{rs:List dC}(hs:JG rs)(h:qf rs=true):Kp rs:=by
 unfold qf at h;simp only[fQ,pF]at h;obtain⟨⟨h1,h2⟩,h3⟩:=h;refine⟨hs,λk hk=>?_,by have:=zol rs h2;omega⟩;have:rs.getD k .zero∈rs:=by simp[List.getD,hk]
 exact(UE (qQ.1 h2 _ this)).1
end
variable {K c N:Nat}{R:Nat -> Nat -> Nat}{d:aE}
theorem zgZ(K:Nat)(R:Nat->Nat->Nat)(c:Nat):∀n,∃t,aM K R (c+n)=aM K R c++t
 |0=>⟨[],by simp⟩
 |n+1=>by
  obtain⟨t,ht⟩:=zgZ K R c n;rw[<-Cv,sR];split
  ·exact⟨t,ht⟩
  ·exact⟨t++[c+n],by rw[ht,jA]⟩
theorem zmk(K:Nat)(R:Nat->Nat->Nat)(c:Nat):da K R c<(aM K R (c+1)).length/\je K R ((aM K R (c+1)).getD (da K R c) 0) c=true:=by
 rw[sR]
 by_cases h:da K R c<(aM K R c).length
 ·rw[ae h];exact⟨h,(Qn h).2 rfl⟩
 ·have hl:da K R c<=(aM K R c).length:=JR;have e:da K R c=(aM K R c).length:=by omega
  rw[ab h,e];exact⟨by simp,by simp[List.getD,znm]⟩
theorem Ut(h:c<N):da K R c<(aM K R N).length:=by
 obtain⟨n,rfl⟩:∃n,N=c+1+n:=⟨N-(c+1),by omega⟩;obtain⟨t,ht⟩:=zgZ K R (c+1) n;have:=(zmk K R c).1;rw[ht,a6];omega
theorem zmj(h:c<N):je K R ((aM K R N).getD (da K R c) 0) c=true:=by
 obtain⟨n,rfl⟩:∃n,N=c+1+n:=⟨N-(c+1),by omega⟩;obtain⟨t,ht⟩:=zgZ K R (c+1) n;have:=zmk K R c;rw[ht,vv this.1];exact this.2
theorem D8{l:List Nat}{k:Nat}(h:k<l.length):l.getD k 0∈l:=by
 rw[bI,bE h];exact gy h
theorem zqu{i:Nat}(h:i<(aM K R N).length):da K R ((aM K R N).getD i 0)=i/\(aM K R N).getD i 0<N:=by
 have h1:=zd K R N _ (D8 h);exact⟨Tx K R N _ i (Ut h1) h (zmj h1),h1⟩
theorem zfS{S:Nat->Nat->Nat}(h:∀k,k<K->∀c,c<N->R k c=S k c):∀c,(c<=N->aM K R c=aM K S c)/\(c<N->da K R c=da K S c):=by
 have hc:∀c,c<N->aM K R c=aM K S c->da K R c=da K S c:=by
  intro c hc e;have key:∀x,x<N->je K R x c=je K S x c:=by
   intro x hx;rw[Ej,D7,D7];exact⟨λq k hk=>by rw[<-h k hk x hx,<-h k hk c hc];exact q k hk,λq k hk=>by rw[h k hk x hx,h k hk c hc];exact q k hk⟩
  unfold da;rw[<-e];have hl:=zd K R c;generalize aM K R c=l at hl
  induction l with
  |nil=>rfl
  |cons a l ih=>
   rw[Gy,Gy,key a (by have:=hl a (by simp);omega),ih λx hx=>hl x (by simp[hx])]
 intro c;have hh:c<=N->aM K R c=aM K S c:=by
  induction c with
  |zero=>intro _;rfl
  |succ c ih=>
   intro h2;have e:=ih (by omega);rw[sR,sR,hc c (by omega) e,e]
 exact⟨hh,λh2=>hc c h2 (hh (by omega))⟩
theorem zj0{α:Type}(f:Nat->List α)(m:Nat)(hf:∀k,(f k).length=m):∀n,((List.range n).flatMap f).length=n*m
 |0=>by simp
 |n+1=>by
  rw[oN,Cy,a6,zj0 f m hf n,Eo];simp[hf]
structure dy(d:aE)(K:Nat):Prop where
 pL:cL d
 go:qd (ai d) (au d) K
 len:(aF (ai d) (au d) K 0).length=K
noncomputable def minD (d:aE) (K:Nat):aE:=⟨dG d K 0,((aM K (aN d) 256).length:Int),dG d K 1,dG d K 2,dG d K 3⟩
noncomputable def sL (d:aE) (K k:Nat):Nat:=(aF (ai d) (au d) K 0).getD k 0
theorem dy.pos(h:dy d K):0<K:=by
 obtain⟨t,ht⟩:=Cj (ai d) (au d) 0 K (bH _);have:=h.len;rw[ht,xq]at this;simp at this;omega
theorem dy.Ps(h:dy d K):0<d.tag.length:=by have:=h.pL.n1;omega
theorem dy.zero(_h:dy d K):sL d K 0=0:=by
 obtain⟨t,ht⟩:=Cj (ai d) (au d) 0 K (bH _);unfold sL;rw[ht,xq]
 rfl
theorem dy.le(h:dy d K):K<=d.tag.length:=by
 have:=sT _ _ (DO h.pL h.Ps K).1 (DO h.pL h.Ps K).2;rw[h.len]at this;exact this
theorem dy.az(h:dy d K){k c:Nat}(hk:k<K)(hc:c<256):aN d k c<K:=by
 have:=zkK (st:=ai d) (an:=au d) hk hc;rw[h.len]at this;exact this
theorem dy.zyo(h:dy d K){k c:Nat}(hk:k<K)(hc:c<256):cD (ai d) (au d) (sL d K (aN d k c)) (ai d (sL d K k) c):=by
 have e:=zhs (st:=ai d) (an:=au d) h.go hk hc;have hl:=h.az hk hc;unfold aN at hl;rw[<-h.len,e]at hl;have:=zlF hl;unfold sL aN;rw[e,bI,bE hl];exact this
theorem zm2{st:Nat->Nat->Nat}{an:Nat->Int×Int}{os:List Nat}{x:Nat}(h:∀i j,i<os.length->j<os.length->cD st an (os.getD i 0) (os.getD j 0)->i=j):∀i j,i<(nD st an os x).length->j<(nD st an os x).length->cD st an ((nD st an os x).getD i 0) ((nD st an os x).getD j 0)->i=j:=by
 unfold nD;split
 ·exact h
 ·rename_i hn
  have qz:∀i,i<os.length->¬cD st an (os.getD i 0) x:=λi hi ha=>hn (Cl.2 ⟨_,D8 hi,ha⟩)
  intro i j hi hj ha;simp only[a6,iG,n4]at hi hj;have lL:(os++[x]).getD os.length 0=x:=by simp[List.getD]
  by_cases h1:i<os.length<;>by_cases h2:j<os.length
  ·rw[vv h1,vv h2]at ha;exact h i j h1 h2 ha
  ·have ej:j=os.length:=by omega
   rw[vv h1,ej,lL]at ha;exact(qz i h1 ha).elim
  ·have ei:i=os.length:=by omega
   rw[vv h2,ei,lL]at ha;exact(qz j h2 ha.symm).elim
  ·omega
theorem zfK(st:Nat->Nat->Nat)(an:Nat->Int×Int):∀k c,∀i j,i<(aF st an k c).length->j<(aF st an k c).length->cD st an ((aF st an k c).getD i 0) ((aF st an k c).getD j 0)->i=j
 |0,0=>by rw[xq];intro i j hi hj _;simp at hi hj;omega
 |k+1,0=>by rw[xp];exact zfK st an k 256
 |k,c+1=>by rw[yZ];exact zm2 (zfK st an k c)
theorem dy.apart(h:dy d K){i j:Nat}(hi:i<K)(hj:j<K)(ha:cD (ai d) (au d) (sL d K i) (sL d K j)):i=j:=
 zfK (ai d) (au d) K 0 i j (by rw[h.len];exact hi) (by rw[h.len];exact hj) ha
theorem zo2(d:aE)(K:Nat){c:Nat}(hc:c<256):(minD d K).aD.getD c 0=(da K (aN d) c:Int):=by
 simp[minD,dG,List.getD,hc]
theorem zq0(d:aE)(K:Nat){c:Nat}(hc:c<256):eH (minD d K) c=da K (aN d) c:=by
 unfold eH;rw[zo2 d K hc];omega
theorem zo4(d:aE)(K:Nat):aW (minD d K)=(aM K (aN d) 256).length:=by simp[aW,minD]
theorem zo3(d:aE)(K:Nat){k j:Nat}(hk:k<K)(hj:j<(aM K (aN d) 256).length):(minD d K).next.getD (k*(aM K (aN d) 256).length+j) 0=(aN d k ((aM K (aN d) 256).getD j 0):Int):=by
 have:=zgP (λk=>(aM K (aN d) 256).map λh=>(aN d k h:Int)) (aM K (aN d) 256).length (λ_=>by simp) K k j hk hj;show ((List.range K).flatMap λk=>(aM K (aN d) 256).map λh=>(aN d k h:Int)).getD _ 0=_;rw[bI,this];simp[List.getD,hj]
theorem dy.st(_h:dy d K){k c:Nat}(hk:k<K)(hc:c<256):ai (minD d K) k c=aN d k c:=by
 unfold ai bU;rw[zq0 d K hc,zo4,zo3 d K hk (Ut hc)];rw[uA];exact D7.1 (zmj hc) k hk
theorem dy.an(h:dy d K){k:Nat}(hk:k<K):au (minD d K) k=au d (sL d K k):=by
 have hl:=h.len;unfold au minD dG sL;simp[List.getD,hl,hk]
theorem Gf{lo hi:Int}{xs:List Int}(h:∀x∈xs,lo<=x/\x<=hi):fO lo hi xs=true:=by
 unfold fO;rw[qQ];exact λx hx=>vz.2 (h x hx)
theorem dy.C5(h:dy d K):dX (minD d K)=true:=by
 have hK:=h.pos;have hle:=h.le;have fc:=h.pL.n2;have qD:0<(aM K (aN d) 256).length:=Nat.lt_of_le_of_lt (bH _) (Ut (c:=0) (by omega));have kJ:=D9 K (aN d) 256;have hlen:=h.len;have ht:(minD d K).tag.length=K:=by simp[minD,dG,hlen]
 have il:(minD d K).next.length=K*(aM K (aN d) 256).length:=by
  exact zj0 (λk=>(aM K (aN d) 256).map λh=>(aN d k h:Int)) _ (λ_=>by simp) _
 simp only[dX,fQ,pF,vz];refine⟨⟨⟨⟨⟨⟨⟨⟨by simp[minD,dG],?_⟩,?_⟩,by simp[minD,dG]⟩,?_⟩,Gf ?_⟩,Gf ?_⟩,Gf ?_⟩,Gf ?_⟩
 ·show (1:Int)<=((aM K (aN d) 256).length:Int)/\((aM K (aN d) 256).length:Int)<=256;omega
 ·rw[ht];omega
 ·rw[ht,il];show ((K*(aM K (aN d) 256).length:Nat):Int)=(K:Int)*((aM K (aN d) 256).length:Int);simp
 ·intro x hx;simp only[minD,dG,rS,mB]at hx;obtain⟨c,hc,rfl⟩:=hx;have:=Ut (K:=K) (R:=aN d) hc;simp only[minD];omega
 ·intro x hx;rw[ht];simp only[minD,dG,List.mem_flatMap,rS,mB]at hx;obtain⟨k,hk,c,hc,rfl⟩:=hx;have:=h.az hk (zd _ _ _ c hc);omega
 ·intro x hx;simp only[minD,dG,rS]at hx;obtain⟨s,hs,rfl⟩:=hx;exact xf h.pL.ts ((DO h.pL h.Ps K).2 s hs)
 ·intro x hx;simp only[minD,dG,rS]at hx;obtain⟨s,hs,rfl⟩:=hx;exact xf h.pL.es (by rw[h.pL.fl];exact(DO h.pL h.Ps K).2 s hs)
theorem dy.zvA(h:dy d K):(minD d K).tag.length=K:=by
 have hlen:=h.len;simp[minD,dG,hlen]
theorem dy.wq(h:dy d K):cL (minD d K):=Md h.C5
theorem dy.run(h:dy d K)(l:List Nat):∀{k s:Nat},k<K->cD (ai d) (au d) (sL d K k) s->(∀c∈l,c<256)->au (minD d K) (runN (ai (minD d K)) k l)=au d (runN (ai d) s l):=by
 induction l with
 |nil=>intro k s hk ha _;exact(h.an hk).trans ha.an
 |cons c l ih=>
  intro k s hk ha hl;have hc:=hl c (by simp);show au (minD d K) (runN (ai (minD d K)) (ai (minD d K) k c) l)=au d (runN (ai d) (ai d s c) l);rw[h.st hk hc];exact ih (h.az hk hc) ((h.zyo hk hc).trans (ha.step hc)) λx hx=>hl x (by simp[hx])
theorem dy.alike(h:dy d K){i j:Nat}(hi:i<K)(hj:j<K)(ha:cD (ai (minD d K)) (au (minD d K)) i j):i=j:=by
 refine h.apart hi hj λl hl=>?_
 rw[<-h.run l hi (cD.refl _ _ _) hl,<-h.run l hj (cD.refl _ _ _) hl];exact ha l hl
theorem dy.walk(h:dy d K):∀k c,k<K\/(k=K/\c=0)->c<=256->aF (ai (minD d K)) (au (minD d K)) k c=List.range (aF (ai d) (au d) k c).length
 |0,0,_,_=>by rw[xq,xq];rfl
 |k+1,0,hk,_=>by
  rw[xp,xp];exact dy.walk h k 256 (.inl (by omega)) (ax _)
 |k,c+1,hk,hc=>by
  have hk:k<K:=by omega
  have ih:=dy.walk h k c (.inl hk) (by omega);have cY:k<(aF (ai d) (au d) k c).length:=fR (h.go k hk) (Qd _ _ _ (bH _));rw[yZ,yZ,ih];have e1:(List.range (aF (ai d) (au d) k c).length).getD k 0=k:=by simp[List.getD,cY]
  rw[e1,h.st hk (by omega)];have e2:aN d k c=dZ (ai d) (au d) (aF (ai d) (au d) k c) (ai d ((aF (ai d) (au d) k c).getD k 0) c):=zeh _ _ _ _;have hle:=Uq (ai d) (au d) (aF (ai d) (au d) k c) (ai d ((aF (ai d) (au d) k c).getD k 0) c);have hLK:(aF (ai d) (au d) k c).length<=K:=by
   obtain⟨t,ht⟩:=Cj (ai d) (au d) (k+1) K (by omega);obtain⟨t2,lR⟩:=Jn (ai d) (au d) k c 256 (by omega);have:=h.len;rw[ht,xp,lR]at this;simp only[a6]at this;omega
  have nO:=h.az hk (show c<256 by omega);generalize hX:ai d ((aF (ai d) (au d) k c).getD k 0) c=X at *;generalize aX:aF (ai d) (au d) k c=os at *;unfold nD
  by_cases hlt:dZ (ai d) (au d) os X<os.length
  ·rw[ae hlt,ae];rw[Cl];exact⟨aN d k c,by rw[mB];omega,cD.refl _ _ _⟩
  ·rw[ab hlt,ab]
   ·rw[a6,show [X].length=1 from rfl,oN,show aN d k c=os.length by omega]
   ·rw[Cl];rintro ⟨o,ho,ha⟩;rw[mB]at ho;have:=h.alike (by omega) nO ha;omega
theorem dy.again(h:dy d K):dy (minD d K) K:=by
 refine⟨h.wq,λj hj=>?_,?_⟩
 ·rw[h.walk j 0 (.inl hj) (by omega),El];exact h.go j hj
 ·rw[h.walk K 0 (.inr ⟨rfl,rfl⟩) (by omega),El,h.len]
theorem dy.zBk(h:dy d K){k c:Nat}(hk:k<K)(hc:c<256):aN (minD d K) k c=aN d k c:=by
 have e:=zhs (st:=ai (minD d K)) (an:=au (minD d K)) h.again.go hk hc;have hw:=h.walk K 0 (.inr ⟨rfl,rfl⟩) (by omega);rw[h.len]at hw;have e1:(List.range K).getD k 0=k:=by simp[List.getD,hk]
 rw[hw,e1,h.st hk hc]at e;have nO:=h.az hk hc;unfold aN at nO ⊢;rw[e];have hlt:dZ (ai (minD d K)) (au (minD d K)) (List.range K) (Ct (ai d) (au d) k c)<(List.range K).length:=Cl.2 ⟨_,mB.2 nO,cD.refl _ _ _⟩;have ha:=zlF hlt;rw[List.getElem_range]at ha;rw[El]at hlt;exact h.alike hlt nO ha
theorem dy.Te(h:dy d K):minD (minD d K) K=minD d K:=by
 have hr:∀k,k<K->∀c,c<256->aN (minD d K) k c=aN d k c:=λk hk c hc=>h.zBk hk hc
 have hh:aM K (aN (minD d K)) 256=aM K (aN d) 256:=(zfS hr 256).1 (ax _);have hw:=h.walk K 0 (.inr ⟨rfl,rfl⟩) (by omega);rw[h.len]at hw;have hlen:=h.len;have e0:dG (minD d K) K 0=dG d K 0:=by
  show (List.range 256).map (λc=>(da K (aN (minD d K)) c:Int))=(List.range 256).map λc=>(da K (aN d) c:Int)
  refine uB λc hc=>?_
  rw[(zfS hr c).2 (mB.1 hc)]
 have e1:dG (minD d K) K 1=dG d K 1:=by
  show ((List.range K).flatMap λk=>(aM K (aN (minD d K)) 256).map λh=>(aN (minD d K) k h:Int))=(List.range K).flatMap λk=>(aM K (aN d) 256).map λh=>(aN d k h:Int)
  rw[hh,List.flatMap_def,List.flatMap_def];have:(List.range K).map (λk=>(aM K (aN d) 256).map λh=>(aN (minD d K) k h:Int))=(List.range K).map λk=>(aM K (aN d) 256).map λh=>(aN d k h:Int):=
   uB λk hk=>uB λc hc=>by rw[hr k (mB.1 hk) c (zd _ _ _ c hc)]
  rw[this]
 have zxx:∀xs:List Int,xs.length=K->(List.range K).map (λs=>xs.getD s 0)=xs:=by
  intro xs hx;refine List.ext_getElem (by simp[hx]) λi h1 h2=>?_
  simp[List.getD,h2]
 have e2:dG (minD d K) K 2=dG d K 2:=by
  show (aF (ai (minD d K)) (au (minD d K)) K 0).map (λs=>(dG d K 2).getD s 0)=dG d K 2;rw[hw];exact zxx _ (by simp[dG,hlen])
 have e3:dG (minD d K) K 3=dG d K 3:=by
  show (aF (ai (minD d K)) (au (minD d K)) K 0).map (λs=>(dG d K 3).getD s 0)=dG d K 3;rw[hw];exact zxx _ (by simp[dG,hlen])
 show aE.mk _ _ _ _ _=aE.mk _ _ _ _ _;rw[hh,e0,e1,e2,e3]
end Go.Proofs.Ytfajjdgkiilhfaa
