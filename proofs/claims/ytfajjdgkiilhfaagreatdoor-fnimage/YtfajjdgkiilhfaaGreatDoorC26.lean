import Derived.Test.YtfajjdgkiilhfaaGreatDoorC6
import Derived.Test.YtfajjdgkiilhfaaGreatDoorC25
namespace Go.Proofs.YtfajjdgkiilhfaaGreatDoor
set_option maxRecDepth 100000
open Go.RowKit
section
variable {bs:List dn}{most K:Nat}
theorem zp6{k0:Nat}(h:yG bs most K)(r:Jd bs most k0):False:=by
 rcases iX k0 K with q|q
 ·have:=(h.go k0 q).2;have:=r.big;omega
 ·rcases iX K k0 with q2|q2
  ·have:=(r.go K q2).1;have:=h.len;omega
  ·obtain rfl:K=k0:=by omega
   have:=r.lt;have:=h.len;omega
theorem zt7{K':Nat}(h:yG bs most K)(h':yG bs most K'):K=K':=by
 rcases Nat.lt_trichotomy K K' with q|q|q
 ·have:=(h'.go K q).1;have:=h.len;omega
 ·exact q
 ·have:=(h.go K' q).1;have:=h'.len;omega
def FK(rs:List dL)(most code width:Int)(l:Nat->List Int):Prop:=
 (¬(1<=most/\most<=4000)/\code=1/\width=0/\l=λ_=>[])\/
 ((1<=most/\most<=4000)/\qg rs=false/\code=2/\width=0/\l=λ_=>[])\/
 ((1<=most/\most<=4000)/\qg rs=true/\(∃k0,Jd (fA 0 rs) most.toNat k0)/\code=3/\width=0/\l=λ_=>[])\/
 ((1<=most/\most<=4000)/\qg rs=true/\∃K,yG (fA 0 rs) most.toNat K/\code=0/\width=sD (ie (fA 0 rs) K)/\l=pY (ie (fA 0 rs) K))
theorem TV(rs:List dL)(most:Int):∃code width l,FK rs most code width l:=by
 by_cases h:1<=most/\most<=4000
 ·cases hl:qg rs
  ·exact⟨2,0,λ_=>[],.inr (.inl ⟨h,hl,rfl,rfl,rfl⟩)⟩
  ·rcases zth (fA 0 rs) most.toNat with ⟨K,hK⟩|hr
   ·exact⟨0,sD (ie (fA 0 rs) K),pY (ie (fA 0 rs) K),.inr (.inr (.inr ⟨h,hl,K,hK,rfl,rfl,rfl⟩))⟩
   ·exact⟨3,0,λ_=>[],.inr (.inr (.inl ⟨h,hl,hr,rfl,rfl,rfl⟩))⟩
 ·exact⟨1,0,λ_=>[],.inl ⟨h,rfl,rfl,rfl⟩⟩
theorem zgk(v:Value)(rs:List dL)(most:Int)(w:World)(hs:qJ 0 w v rs)(hw:Jh rs)(h:1<=most/\most<=4000)(hl:qg rs=true){k0:Nat}(hk:Jd (fA 0 rs) most.toNat k0):
  Calls Tryz.prog 41 #[v,.int .i64 most] w (vg w 3 0 λ_=>[]):=by
 have e:((most.toNat:Nat):Int)=most:=by omega
 have:=zeE v rs most.toNat w hs hw (by omega) (by omega) hl (vg w 3 0 λ_=>[]) (λ_ W hb=>vg.E6 hb) (λK hK=>(zp6 hK hk).elim);rw[e]at this;exact this
theorem zgM(v:Value)(rs:List dL)(most:Int)(w:World)(hs:qJ 0 w v rs)(hw:Jh rs)(h:1<=most/\most<=4000)(hl:qg rs=true){K:Nat}(hK:yG (fA 0 rs) most.toNat K):
  Calls Tryz.prog 41 #[v,.int .i64 most] w (vg w 0 (sD (ie (fA 0 rs) K)) (pY (ie (fA 0 rs) K))):=by
 have e:((most.toNat:Nat):Int)=most:=by omega
 have:=zeE v rs most.toNat w hs hw (by omega) (by omega) hl (vg w 0 (sD (ie (fA 0 rs) K)) (pY (ie (fA 0 rs) K))) (λ⟨k0,hk⟩=>(zp6 hK hk).elim) (λK' hK' e W ha=>by rw[zt7 hK hK'];exact ha);rw[e]at this;exact this
theorem ziF(v:Value)(rs:List dL)(most code width:Int)(l:Nat->List Int)(w:World)(hs:qJ 0 w v rs)(hsm:Iy rs)(hw:qg rs=true->Jh rs)(hr:FK rs most code width l):
  Calls Tryz.prog 41 #[v,.int .i64 most] w (vg w code width l):=by
 unfold FK at hr;rcases hr with hr|hr|hr|hr
 ·have h:=hr.1;rw[hr.2.1,hr.2.2.1,hr.2.2.2];exact zgO v most w h
 ·rw[hr.2.2.1,hr.2.2.2.1,hr.2.2.2.2];exact zgN v rs most w hs hsm hr.1 hr.2.1
 ·obtain⟨k0,hk⟩:=hr.2.2.1;rw[hr.2.2.2.1,hr.2.2.2.2.1,hr.2.2.2.2.2];exact zgk v rs most w hs (hw hr.2.1) hr.1 hr.2.1 hk
 ·obtain⟨K,hK,e1,e2,e3⟩:=hr.2.2;rw[e1,e2,e3];exact zgM v rs most w hs (hw hr.2.1) hr.1 hr.2.1 hK
end
section
variable {n:aC}
def jr:Pt->Nat
 |.set _=>1
 |.seq l r=>jr l+jr r+1
 |.eH l r=>jr l+jr r+1
 |.jI b _ _=>jr b+1
 |.dX b _=>jr b+1
def yq:Pt->Prop
 |.set _=>True
 |.seq l r=>yq l/\yq r
 |.eH l r=>yq l/\yq r
 |.jI b mn mx=>yq b/\lz mn mx=true
 |.dX b _=>yq b
theorem zmx{n:Int}(h:oy n<=2000):oy n=n:=by unfold oy at h ⊢;split at h<;>omega
theorem zkM{mn mx:Int}(h:lz mn mx=true):∃k:Nat,oO mn mx=(k:Int)/\1<=k/\∀c,o6 c mn mx<=k*(c+3)+1:=by
 unfold lz at h;simp only[fI,lZ]at h;obtain⟨⟨h1,h2⟩,h3⟩:=h;obtain⟨m,rfl⟩:∃m:Nat,mn=(m:Int):=⟨mn.toNat,by omega⟩
 by_cases hx:mx=-1
 ·subst hx;refine⟨m+1,by unfold oO;rw[af rfl];omega,by omega,λc=>?_⟩;unfold o6;rw[af rfl,s7,Aj,Nat.one_mul];have:m*(c+1)<=m*(c+3):=Nat.mul_le_mul_left _ (by omega);omega
 ·obtain⟨x,rfl⟩:∃x:Nat,mx=(x:Int):=⟨mx.toNat,by omega⟩;obtain⟨y,rfl⟩:∃y,x=m+y:=⟨x-m,by omega⟩;have e1:(((m+y:Nat):Int)-(m:Int)).toNat=y:=by omega
  by_cases hz:m+y=0
  ·refine⟨1,by unfold oO;rw[ab hx,af (by omega)];rfl,aq _,λc=>?_⟩;unfold o6;rw[ab hx,e1,s7];obtain⟨rfl,rfl⟩:m=0/\y=0:=by omega
   omega
  ·refine⟨m+y,by unfold oO;rw[ab hx,ab (by omega)],by omega,λc=>?_⟩;unfold o6;rw[ab hx,e1,s7,Aj];have:m*(c+1)<=m*(c+3):=Nat.mul_le_mul_left _ (by omega);omega
theorem yj:∀p:Pt,yq p->1<=gE p
 |.set _,_=>by simp[gE]
 |.seq l r,h=>by have:=yj l h.1;have:=yj r h.2;unfold gE oy;split<;>omega
 |.eH l r,h=>by have:=yj l h.1;have:=yj r h.2;unfold gE oy;split<;>omega
 |.jI b mn mx,h=>by
  have:=yj b h.1;obtain⟨k,e,hk,_⟩:=zkM h.2;unfold gE;rw[e];have:1*(1:Int)<=gE b*(k:Int):=wU this (by omega) (by omega) (by omega);unfold oy;split<;>omega
 |.dX b _,h=>by have:=yj b h;unfold gE;exact this
theorem ztP{a b x y:Nat}(hx:1<=x)(hy:1<=y):a*x+b*y+(x+y)<=(a+b+1)*(x+y):=by
 have h1:a*x<=a*(x+y):=Nat.mul_le_mul_left _ (by omega);have h2:b*y<=b*(x+y):=Nat.mul_le_mul_left _ (by omega);have:(a+b+1)*(x+y)=a*(x+y)+b*(x+y)+(x+y):=by rw[Aj,Aj,Nat.one_mul]
 omega
theorem IA:∀p:Pt,yq p->gE p<=2000->∃W:Nat,gE p=(W:Int)/\1<=W/\dO p+3<=4*(jr p*W)
 |.set _,_,_=>⟨1,rfl,aq _,by simp[dO,jr]⟩
 |.seq l r,h,hw=>by
  have e:gE (.seq l r)=gE l+gE r:=zmx hw;have p1:=yj l h.1;have p2:=yj r h.2;rw[e]at hw ⊢;obtain⟨x,ex,hx,cx⟩:=IA l h.1 (by omega);obtain⟨y,ey,hy,cy⟩:=IA r h.2 (by omega);have:=ztP (a:=jr l) (b:=jr r) hx hy;exact⟨x+y,by omega,by omega,by simp only[dO,jr];omega⟩
 |.eH l r,h,hw=>by
  have e:gE (.eH l r)=gE l+gE r:=zmx hw;have p1:=yj l h.1;have p2:=yj r h.2;rw[e]at hw ⊢;obtain⟨x,ex,hx,cx⟩:=IA l h.1 (by omega);obtain⟨y,ey,hy,cy⟩:=IA r h.2 (by omega);have:=ztP (a:=jr l) (b:=jr r) hx hy;exact⟨x+y,by omega,by omega,by simp only[dO,jr];omega⟩
 |.jI b mn mx,h,hw=>by
  have e:gE (.jI b mn mx)=gE b*oO mn mx:=zmx hw;obtain⟨k,ek,hk,hc⟩:=zkM h.2;have p1:=yj b h.1;rw[e,ek]at hw ⊢;have h1:gE b*1<=gE b*(k:Int):=Int.mul_le_mul_of_nonneg_left (by omega) (by omega);obtain⟨x,ex,hx,cx⟩:=IA b h.1 (by omega);refine⟨x*k,by rw[ex,Int.natCast_mul],Nat.mul_pos hx hk,?_⟩;have h2:=hc (dO b);have h3:k*(dO b+3)<=k*(4*(jr b*x)):=Nat.mul_le_mul_left _ cx;have h4:k*(4*(jr b*x))=4*(jr b*(x*k)):=by
   rw[Nat.mul_comm k,Nat.mul_assoc,Nat.mul_assoc]
  have h5:1<=x*k:=Nat.mul_pos hx hk;simp only[dO,jr,Aj,Nat.one_mul];omega
 |.dX b g,h,hw=>by
  have e:gE (.dX b g)=gE b:=rfl;rw[e]at hw ⊢;obtain⟨x,ex,hx,cx⟩:=IA b h hw;exact⟨x,ex,hx,by simp only[dO,jr,Aj];omega⟩
def sH(l:List Pt):Nat:=(l.map jr).sum
theorem zoc(a b:List Pt):sH (a++b)=sH a+sH b:=by simp[sH,List.map_append,List.sum_append]
theorem zjl(l:List Pt)(k:Nat):sH l=sH (l.take k)+sH (l.drop k):=by rw[<-zoc,List.take_append_drop]
theorem zoq(h:bk n=true):(n.kind=1/\aP n.kind=0)\/((n.kind=2\/n.kind=3)/\aP n.kind=2)\/(n.kind=4/\aP n.kind=1/\lz n.min n.max=true)\/(n.kind=5/\aP n.kind=1):=by
 unfold bk at h;split at h
 ·rename_i e;rw[e];exact .inl ⟨rfl,rfl⟩
 ·split at h
  ·rename_i e;exact .inr (.inl ⟨e,by unfold aP;rw[af e]⟩)
  ·split at h
   ·rename_i e
    simp only[fI]at h;refine .inr (.inr (.inl ⟨e,by rw[e];rfl,h.1.2⟩))
   ·split at h
    ·rename_i e;exact .inr (.inr (.inr ⟨e,by rw[e];rfl⟩))
    ·cases h
theorem zol{ops:List Pt}(h:bk n=true)(hl:ops.length=aP n.kind)(hf:∀p,p∈ops->yq p):yq (lD n ops)/\jr (lD n ops)<=sH ops+1/\gE (lD n ops)=ql n (ops.map gE):=by
 rcases zoq h with ⟨e,a⟩|⟨e,a⟩|⟨e,a,hb⟩|⟨e,a⟩
 ·have:lD n ops=.set (tI n.set):=by unfold lD;rw[af e]
  rw[this];exact⟨trivial,by simp[jr],by unfold ql;simp[e,gE]⟩
 ·rw[a]at hl
  match ops,hl with
  |[x,y],_=>
  rcases e with e|e
  ·have:lD n [x,y]=.seq x y:=by unfold lD;rw[ab (by omega),af e];rfl
   rw[this];exact⟨⟨hf x (by simp),hf y (by simp)⟩,by simp[jr,sH];try omega,by unfold ql;simp[e,gE]⟩
  ·have:lD n [x,y]=.eH x y:=by unfold lD;rw[ab (by omega),ab (by omega),af e];rfl
   rw[this];exact⟨⟨hf x (by simp),hf y (by simp)⟩,by simp[jr,sH];try omega,by unfold ql;simp[e,gE]⟩
 ·rw[a]at hl
  match ops,hl with
  |[x],_=>
  have:lD n [x]=.jI x n.min n.max:=by unfold lD;rw[ab (by omega),ab (by omega),ab (by omega),af e];rfl
  rw[this];exact⟨⟨hf x (by simp),hb⟩,by simp[jr,sH],by unfold ql;simp[e,gE]⟩
 ·rw[a]at hl
  match ops,hl with
  |[x],_=>
  have:lD n [x]=.dX x n.group:=by unfold lD;rw[ab (by omega),ab (by omega),ab (by omega),ab (by omega)];rfl
  rw[this];exact⟨hf x (by simp),by simp[jr,sH],by unfold ql;simp[e,gE]⟩
theorem ztO{ns:List aC}(hk:∀i,i<ns.length->aP (dT ns i)<=(aN ns i).length)(hb:ns.all bk=true):∀i,i<=ns.length->(∀p,p∈jt ns i->yq p)/\sH (jt ns i)<=i/\(jt ns i).map gE=gf ns i
 |0,_=>⟨λp h=>by simp[jt]at h,by simp[jt,sH],by simp[jt,gf]⟩
 |i+1,hi=>by
  obtain⟨h1,h2,h3⟩:=ztO hk hb i (by omega);have hle:aP (ns.getD i .zero).kind<=(jt ns i).length:=by rw[zkq];exact hk i (by omega)
  have hn:=zj5 hb (k:=i) (by omega);have hd:=zol (ops:=(jt ns i).drop ((jt ns i).length-aP (ns.getD i .zero).kind)) hn (by rw[FD];omega) (λp hp=>h1 p (List.mem_of_mem_drop hp));have hsp:=zjl (jt ns i) ((jt ns i).length-aP (ns.getD i .zero).kind);refine⟨λp hp=>?_,?_,?_⟩
  ·rw[jt,Po]at hp;rcases gH.1 hp with hp|hp
   ·exact h1 p (List.mem_of_mem_take hp)
   ·rw[sZ.1 hp];exact hd.1
  ·rw[jt,Po,zoc];have:sH [lD (ns.getD i .zero) ((jt ns i).drop ((jt ns i).length-aP (ns.getD i .zero).kind))]=jr (lD (ns.getD i .zero) ((jt ns i).drop ((jt ns i).length-aP (ns.getD i .zero).kind))):=by simp[sH]
   have:=hd.2.1;omega
  ·rw[jt,Po,gf,FA,sY,List.map_take,h3,<-h3,lX];simp only[Dm,List.map_nil,hd.2.2,List.map_drop]
theorem zvK{b:dc}(hk:kL b.nodes=true)(hb:b.nodes.all bk=true):yq (wT b)/\jr (wT b)<=b.nodes.length/\gE (wT b)=IH b:=by
 have h0:=znO hk;have ha:=TH hk;obtain⟨h1,h2,h3⟩:=ztO ha hb (b.nodes.length-1) (by omega);have hle:aP (b.nodes.getD (b.nodes.length-1) .zero).kind<=(jt b.nodes (b.nodes.length-1)).length:=by rw[zkq];exact ha _ (by omega)
 have hn:=zj5 hb (k:=b.nodes.length-1) (by omega);have hd:=zol (ops:=(jt b.nodes (b.nodes.length-1)).drop ((jt b.nodes (b.nodes.length-1)).length-aP (b.nodes.getD (b.nodes.length-1) .zero).kind)) hn (by rw[FD];omega) (λp hp=>h1 p (List.mem_of_mem_drop hp));have hsp:=zjl (jt b.nodes (b.nodes.length-1)) ((jt b.nodes (b.nodes.length-1)).length-aP (b.nodes.getD (b.nodes.length-1) .zero).kind);have hq:=hd.2.1;refine⟨hd.1,?_,?_⟩
 ·show jr (lD _ _)<=_;exact cY hq (by omega)
 ·show gE (lD _ _)=ql _ _;rw[<-h3,<-List.map_drop,lX];exact hd.2.2
theorem zpT:∀(bs:List dc),qP bs->gG bs<=2000->pK bs<=8000*lT bs/\0<=gG bs
 |[],_,_=>by simp[pK,gG]
 |b::bs,h,hw=>by
  have hb:=h 0 (by simp);have ht:qP bs:=λi hi=>by have:=h (i+1) (by simpa using hi);simpa using this
  simp only[List.getD_cons_zero]at hb;obtain⟨f,s,e⟩:=zvK hb.1 hb.2;have h1:=yj _ f;have h2:=OS ht bs.length (aq _);rw[sW]at h2;simp only[gG]at hw ⊢;obtain⟨ih,_⟩:=zpT bs ht (by omega);obtain⟨W,eW,hW,hc⟩:=IA _ f (by omega);have hm:jr (wT b)*W<=b.nodes.length*2000:=oU s (by omega);simp only[pK,lT];exact⟨by omega,by omega⟩
theorem zpV:∀(rs:List dL),rs.all uT=true->oZ rs<=40000000*rs.length
 |[],_=>by simp[oZ]
 |r::rs,h=>by
  simp only[List.all_cons,fI]at h;have ih:=zpV rs h.2;have hk:=Ug h.1;have hb:=(zpT _ hk.1 hk.2.2).1;have hn:lT r.branches<=5000:=by
   have h1:=h.1;unfold uT sV at h1;simp only[fI,lZ]at h1;exact h1.1.1.1.1.2
  simp only[oZ,lW];omega
theorem zsQ{rs:List dL}(hs:Iy rs)(h:qg rs=true):Jh rs:=by
 unfold qg at h;simp only[fI,lZ]at h;obtain⟨⟨h1,h2⟩,h3⟩:=h;refine⟨hs,λk hk=>?_,by have:=zpV rs h2;omega⟩;have:rs.getD k .zero∈rs:=by simp[List.getD,hk]
 exact(Ug (jR.1 h2 _ this)).1
end
section
variable {K:Nat}{d:aL}
theorem zk5(K:Nat)(R:Nat->Nat->Nat)(c:Nat):∀n,∃t,aY K R (c+n)=aY K R c++t
 |0=>⟨[],by simp⟩
 |n+1=>by
  obtain⟨t,ht⟩:=zk5 K R c n;rw[<-yC,yg];split
  ·exact⟨t,ht⟩
  ·exact⟨t++[c+n],by rw[ht,gJ]⟩
theorem zso(K:Nat)(R:Nat->Nat->Nat)(c:Nat):fN K R c<(aY K R (c+1)).length/\lC K R ((aY K R (c+1)).getD (fN K R c) 0) c=true:=by
 rw[yg]
 by_cases h:fN K R c<(aY K R c).length
 ·rw[af h];exact⟨h,(O8 h).2 rfl⟩
 ·have hl:fN K R c<=(aY K R c).length:=LG;have e:fN K R c=(aY K R c).length:=by omega
  rw[ab h,e];exact⟨by simp,by simp[List.getD,zoG]⟩
theorem zpS{R:Nat->Nat->Nat}{c N:Nat}(h:c<N):fN K R c<(aY K R N).length:=by
 obtain⟨n,rfl⟩:∃n,N=c+1+n:=⟨N-(c+1),by omega⟩;obtain⟨t,ht⟩:=zk5 K R (c+1) n;have:=(zso K R c).1;rw[ht,aQ];omega
theorem zkX{α:Type}(f:Nat->List α)(m:Nat)(hf:∀k,(f k).length=m):∀n,((List.range n).flatMap f).length=n*m
 |0=>by simp
 |n+1=>by
  rw[yE,List.flatMap_append,aQ,zkX f m hf n,Bp];simp[hf]
structure rV(d:aL)(K:Nat):Prop where
 qx:eI d
 go:vh (bH d) (dI d) K
 len:(eX (bH d) (dI d) K 0).length=K
noncomputable def minD (d:aL) (K:Nat):aL:=⟨sE d K 0,((aY K (ke d) 256).length:Int),sE d K 1,sE d K 2,sE d K 3⟩
theorem rV.pos(h:rV d K):0<K:=by
 obtain⟨t,ht⟩:=Tw (bH d) (dI d) 0 K (dz _);have:=h.len;rw[ht,Z6]at this;simp at this;omega
theorem rV.SQ(h:rV d K):0<d.tag.length:=by have:=h.qx.n1;omega
theorem rV.le(h:rV d K):K<=d.tag.length:=by
 have:=Fe _ _ (Ik h.qx h.SQ K).1 (Ik h.qx h.SQ K).2;rw[h.len]at this;exact this
theorem rV.ay(h:rV d K){k c:Nat}(hk:k<K)(hc:c<256):ke d k c<K:=by
 have:=zrm (st:=bH d) (an:=dI d) hk hc;rw[h.len]at this;exact this
theorem xZ{lo hi:Int}{xs:List Int}(h:∀x∈xs,lo<=x/\x<=hi):cd lo hi xs=true:=by
 unfold cd;rw[jR];exact λx hx=>kK.2 (h x hx)
theorem rV.D9(h:rV d K):dH (minD d K)=true:=by
 have hK:=h.pos;have hle:=h.le;have kA:=h.qx.n2;have xU:0<(aY K (ke d) 256).length:=Nat.lt_of_le_of_lt (dz _) (zpS (c:=0) (by omega));have kY:=KV K (ke d) 256;have hlen:=h.len;have ht:(minD d K).tag.length=K:=by simp[minD,sE,hlen]
 have jp:(minD d K).next.length=K*(aY K (ke d) 256).length:=by
  exact zkX (λk=>(aY K (ke d) 256).map λh=>(ke d k h:Int)) _ (λ_=>by simp) _
 simp only[dH,fI,lZ,kK];refine⟨⟨⟨⟨⟨⟨⟨⟨by simp[minD,sE],?_⟩,?_⟩,by simp[minD,sE]⟩,?_⟩,xZ ?_⟩,xZ ?_⟩,xZ ?_⟩,xZ ?_⟩
 ·show (1:Int)<=((aY K (ke d) 256).length:Int)/\((aY K (ke d) 256).length:Int)<=256;omega
 ·rw[ht];omega
 ·rw[ht,jp];show ((K*(aY K (ke d) 256).length:Nat):Int)=(K:Int)*((aY K (ke d) 256).length:Int);simp
 ·intro x hx;simp only[minD,sE,Am,qm]at hx;obtain⟨c,hc,rfl⟩:=hx;have:=zpS (K:=K) (R:=ke d) hc;simp only[minD];omega
 ·intro x hx;rw[ht];simp only[minD,sE,List.mem_flatMap,Am,qm]at hx;obtain⟨k,hk,c,hc,rfl⟩:=hx;have:=h.ay hk (Il _ _ _ c hc);omega
 ·intro x hx;simp only[minD,sE,Am]at hx;obtain⟨s,hs,rfl⟩:=hx;exact ju h.qx.ts ((Ik h.qx h.SQ K).2 s hs)
 ·intro x hx;simp only[minD,sE,Am]at hx;obtain⟨s,hs,rfl⟩:=hx;exact ju h.qx.es (by rw[h.qx.fl];exact(Ik h.qx h.SQ K).2 s hs)
theorem rV.zCy(h:rV d K):(minD d K).tag.length=K:=by
 have hlen:=h.len;simp[minD,sE,hlen]
theorem rV.zA0(h:rV d K):eI (minD d K):=C6 h.D9
end
variable {l:List Int}{y:Int}{c:List UInt8}{d:aL}{cp:Nat}
theorem zqb{cl nx tg fn:List Int}{wd n:Nat}(h1:cl.length=256)(h2:1<=wd/\wd<=256)(h3:1<=n/\n<=4000)(h4:tg.length=n)(h5:fn.length=n)(h6:nx.length=n*wd)(h7:∀x∈cl,0<=x/\x<(wd:Int))(h8:∀x∈nx,0<=x/\x<(n:Int))(h9:∀x∈tg,-1<=x/\x<=99)(Gj:∀x∈fn,-1<=x/\x<=99):eI ⟨cl,(wd:Int),nx,tg,fn⟩:=by
 refine⟨h1,by show (1:Int)<=(wd:Int);omega,by show (wd:Int)<=256;omega,by show (1:Int)<=(tg.length:Int);omega,by show (tg.length:Int)<=4000;omega,by show fn.length=tg.length;omega,?_,xZ λx hx=>?_,xZ λx hx=>?_,xZ h9,xZ Gj⟩
 ·show ((nx.length:Nat):Int)=(tg.length:Int)*(wd:Int);rw[h6,h4];simp
 ·have:=h7 x hx;show 0<=x/\x<=(wd:Int)-1;omega
 ·have:=h8 x hx;show 0<=x/\x<=(tg.length:Int)-1;omega
theorem znW{i:Nat}{x:Int}(h:x∈l.set i y):x=y\/x∈l:=by
 rcases List.mem_or_eq_of_mem_set h with h|h
 ·exact .inr h
 ·exact .inl h
theorem CZ{a:Nat}{n:Int}(hn:1<=n):0<=(ae c n a).1/\(ae c n a).1<n:=by
 unfold ae;split
 ·exact⟨Ai _,by show (0:Int)<n;omega⟩
 ·split
  ·exact⟨Int.emod_nonneg _ (by omega),Int.emod_lt_of_pos _ (by omega)⟩
  ·exact⟨Int.emod_nonneg _ (by omega),Int.emod_lt_of_pos _ (by omega)⟩
theorem zmz(c:List UInt8)(wd:Nat)(hw:1<=wd)(a:Nat):∀k,∀x∈(fK c wd a k).1,0<=x/\x<(wd:Int)
 |0,x,hx=>by
  have:x=0:=List.eq_of_mem_replicate hx;omega
 |k+1,x,hx=>by
  rw[fK]at hx;rcases znW hx with rfl|h
  ·exact CZ (by omega)
  ·exact zmz c wd hw a k x h
theorem zt3(c:List UInt8)(wd:Nat)(hw:1<=wd)(a:Nat):∀x∈(nB c wd a).1,0<=x/\x<(wd:Int):=by
 intro x hx;unfold nB at hx;split at hx
 ·rcases znW hx with rfl|h
  ·exact CZ (by omega)
  ·exact zmz c wd hw a 6 x h
 ·exact zmz c wd hw a 6 x hx
theorem zqW(c:List UInt8)(n:Nat)(hn:1<=n)(l:List Int)(a:Nat)(hl:∀x∈l,0<=x/\x<(n:Int)):∀k,(∀x∈(kZ c n l a k).1,0<=x/\x<(n:Int))/\(kZ c n l a k).1.length=l.length+k
 |0=>⟨hl,rfl⟩
 |k+1=>by
  obtain⟨h1,h2⟩:=zqW c n hn l a hl k;rw[kZ];refine⟨λx hx=>?_,by simp only[aQ,lW,qU];omega⟩;rcases gH.1 hx with hx|hx
  ·exact h1 x hx
  ·simp at hx;subst hx;exact CZ (by omega)
structure zvf(n wd k:Nat)(s:vF):Prop where
 nx:(∀x∈s.nx,0<=x/\x<(n:Int))/\s.nx.length=k*wd
 tg:(∀x∈s.tg,-1<=x/\x<=99)/\s.tg.length=k
 fn:(∀x∈s.fn,-1<=x/\x<=99)/\s.fn.length=k
theorem Ll{lo hi:Int}(h:∀x∈l,lo<=x/\x<=hi)(hy:lo<=y/\y<=hi):∀x∈l++[y],lo<=x/\x<=hi:=λx hx=>by
 rcases gH.1 hx with hx|hx
 ·exact h x hx
 ·simp at hx;subst hx;exact hy
theorem zrb(c:List UInt8)(n wd:Nat)(hn:1<=n)(a:Nat):∀k,zvf n wd k (fH c n wd a k)
 |0=>⟨⟨λx hx=>(by cases hx),(by show 0=0*wd;simp)⟩,⟨λx hx=>(by cases hx),rfl⟩,⟨λx hx=>(by cases hx),rfl⟩⟩
 |k+1=>by
  have h:=zrb c n wd hn a k;obtain⟨h1,h2⟩:=zqW c n hn (fH c n wd a k).nx (fH c n wd a k).a h.nx.1 wd;have ht:-1<=zO (ae c 6 (kZ c n (fH c n wd a k).nx (fH c n wd a k).a wd).2).1/\zO (ae c 6 (kZ c n (fH c n wd a k).nx (fH c n wd a k).a wd).2).1<=99:=by
   have:=CZ (c:=c) (a:=(kZ c n (fH c n wd a k).nx (fH c n wd a k).a wd).2) (n:=6) (by omega);unfold zO;split<;>omega
  have hl:(kZ c n (fH c n wd a k).nx (fH c n wd a k).a wd).1.length=(k+1)*wd:=by rw[h2,h.nx.2,Aj,Nat.one_mul]
  have t2:=h.tg.2;have f2:=h.fn.2;show zvf n wd (k+1) (SI c n wd (fH c n wd a k));unfold SI SH;split
  ·have hy:=CZ (c:=c) (a:=(ae c 4 (ae c 6 (kZ c n (fH c n wd a k).nx (fH c n wd a k).a wd).2).2).2) (n:=3) (by omega);exact⟨⟨h1,hl⟩,⟨Ll h.tg.1 ht,by simp;omega⟩,⟨Ll h.fn.1 (by omega),by simp;omega⟩⟩
  ·exact⟨⟨h1,hl⟩,⟨Ll h.tg.1 ht,by simp;omega⟩,⟨Ll h.fn.1 ht,by simp;omega⟩⟩
structure Bh(d:aL):Prop where
 qx:eI d
 n:d.tag.length<=90
 w:bn d<=100
theorem Bh.nx(h:Bh d):d.next.length<=65536:=by
 rw[h.qx.N9];have:=oU h.n h.w;omega
theorem OZ(c:List UInt8)(a:Nat):Bh (nR c a).1:=by
 have b1:=CZ (c:=c) (a:=a) (n:=13) (by omega);have b2:=CZ (c:=c) (a:=(ae c 13 a).2) (n:=4) (by omega);have hN:2<=(2+(ae c 13 a).1).toNat/\(2+(ae c 13 a).1).toNat<=14:=by omega
 have hD:2<=(2+(ae c 4 (ae c 13 a).2).1).toNat/\(2+(ae c 4 (ae c 13 a).2).1).toNat<=5:=by omega
 unfold nR;generalize (2+(ae c 13 a).1).toNat=n at *;generalize (2+(ae c 4 (ae c 13 a).2).1).toNat=wd at *;generalize (ae c 4 (ae c 13 a).2).2=y at *;have h:=zrb c n wd (by omega) (nB c wd y).2 n;refine⟨zqb (n:=n) (znA _ _ _) (by omega) (by omega) h.tg.2 h.fn.2 h.nx.2 (zt3 c wd (by omega) y) h.nx.1 h.tg.1 h.fn.1,?_,?_⟩
 ·show (fH c n wd (nB c wd y).2 n).tg.length<=90;rw[h.tg.2];omega
 ·show (wd:Int).toNat<=100;omega
theorem ztA(hf:eI d)(iJ:1<=cp){s:Nat}(hs:s<d.tag.length){l:List Int}{a:Nat}(hl:∀x∈l,0<=x/\x<((cp*d.tag.length:Nat):Int)):∀j,j<=bn d->∀x∈(mM c cp d s l a j).1,0<=x/\x<((cp*d.tag.length:Nat):Int)
 |0,_,x,hx=>hl x hx
 |j+1,hj,x,hx=>by
  have ih:∀x∈(mM c cp d s l a j).1,0<=x/\x<((cp*d.tag.length:Nat):Int):=ztA hf iJ hs hl j (by omega);have hn:=(hf.nx hs (show j<bn d by omega)).2;have key:∀b,0<=(fj d s j:Int)+(ae c cp b).1*(d.tag.length:Int)/\(fj d s j:Int)+(ae c cp b).1*(d.tag.length:Int)<((cp*d.tag.length:Nat):Int):=λb=>by
   have hb:=CZ (c:=c) (a:=b) (n:=(cp:Int)) (by omega);obtain⟨m,hm⟩:∃m:Nat,(ae c cp b).1=(m:Int):=⟨(ae c cp b).1.toNat,by omega⟩;rw[hm]at hb ⊢;have h1:(m+1)*d.tag.length<=cp*d.tag.length:=IM _ (by omega);rw[Aj,Nat.one_mul]at h1;have h2:(m:Int)*(d.tag.length:Int)=((m*d.tag.length:Nat):Int):=by simp
   rw[h2];generalize m*d.tag.length=q at *;generalize cp*d.tag.length=q2 at *;omega
  rw[mM]at hx;rcases gH.1 hx with hx|hx
  ·rcases gH.1 hx with hx|hx
   ·exact ih x hx
   ·simp only[sZ]at hx;subst hx;exact key _
  ·simp only[sZ]at hx;subst hx;exact key _
structure Ps(N:Nat)(s:vF):Prop where
 nx:∀x∈s.nx,0<=x/\x<(N:Int)
 tg:∀x∈s.tg,-1<=x/\x<=99
 fn:∀x∈s.fn,-1<=x/\x<=99
theorem ztB(hf:eI d)(iJ:1<=cp){st:vF}(h:Ps (cp*d.tag.length) st):∀s,s<=d.tag.length->Ps (cp*d.tag.length) (kQ c cp d st s)
 |0,_=>h
 |s+1,hs=>by
  have ih:Ps (cp*d.tag.length) (kQ c cp d st s):=ztB hf iJ h s (by omega);exact⟨ztA hf iJ (by omega) ih.nx _ (aq _),Ll ih.tg (ju hf.ts (by omega)),Ll ih.fn (ju hf.es (by rw[hf.fl];omega))⟩
theorem ztz(hf:eI d)(iJ:1<=cp)(a:Nat):∀k,Ps (cp*d.tag.length) (fB c cp d a k)
 |0=>⟨λx hx=>(by cases hx),λx hx=>(by cases hx),λx hx=>(by cases hx)⟩
 |k+1=>ztB hf iJ (ztz hf iJ a k) _ (aq _)
theorem zp1(h:Bh d)(a:Nat):eI (uE c d a).1/\(uE c d a).1.next.length<=65536:=by
 have b1:=CZ (c:=c) (a:=a) (n:=2) (by omega);have hC:2<=(2+(ae c 2 a).1).toNat/\(2+(ae c 2 a).1).toNat<=3:=by omega
 unfold uE;generalize (2+(ae c 2 a).1).toNat=cp at *;generalize (ae c 2 a).2=y at *;have hf:=h.qx;have hI:=ztz (c:=c) hf (show 1<=cp by omega) y cp;obtain⟨l1,l2,l3⟩:=Ua c cp d y cp;have hw:=hf.wd;have hn:=h.n;have j7:=hf.n1;have kY:=h.w;have m1:cp*d.tag.length<=3*90:=oU hC.2 hn;have m0:1*1<=cp*d.tag.length:=oU (by omega) (by omega);have e:d.width*2=((bn d*2:Nat):Int):=by rw[hw.1];simp
 have hle:=(ztC (c:=c) (cp:=cp) (d:=d) (a:=y) (k:=cp) hn kY hC.2).2.2;refine⟨?_,by show (fB c cp d y cp).nx.length<=_;omega⟩;unfold QB;simp only;rw[e];refine zqb (n:=cp*d.tag.length) (TW d 256) (by omega) (by omega) l1 l2 (by rw[l3,Nat.mul_assoc,Nat.mul_comm 2]) (λx hx=>?_) hI.nx hI.tg hI.fn;simp only[qw,Am,qm]at hx;obtain⟨ch,hch,rfl⟩:=hx;have aV:=hf.yX hch;rw[aV.1];have:ch%2<2:=Nat.mod_lt _ (by omega);omega
theorem zkC:∀(rs:List dL) (i k:Nat) (b:dn),(fA i rs)[k]?=some b->b.rule<i+rs.length
 |[],i,k,b,h=>by simp[fA]at h
 |r::rs,i,k,b,h=>by
  rw[fA,zwq]at h;split at h
  ·have hb:=IL h;unfold wN at hb;obtain⟨x,_,rfl⟩:=Am.1 hb;simp
  ·have:=zkC rs (i+1) _ b h;simp only[lW];omega
theorem ztE(h:eI d):dH d=true:=by
 simp only[dH,fI,lZ,kK];exact⟨⟨⟨⟨⟨⟨⟨⟨h.cl,h.w1,h.w2⟩,h.n1,h.n2⟩,h.fl⟩,h.nl⟩,h.cs⟩,h.ns⟩,h.ts⟩,h.es⟩
theorem zvx(hf:eI d):∃K,rV d K:=by
 have hn:0<d.tag.length:=by have:=hf.n1;omega
 apply Classical.byContradiction
 intro hno;have bm:∀k,vh (bH d) (dI d) k:=by
  intro k
  induction k with
  |zero=>exact λj hj=>absurd hj (fw _)
  |succ k ih=>
   have h1:=zjN ih;refine ih.next (Nat.lt_of_le_of_ne h1 λe=>hno ⟨k,hf,ih,e.symm⟩)
 have h1:=zjN (bm (d.tag.length+1));have h2:=Fe _ _ (Ik hf hn (d.tag.length+1)).1 (Ik hf hn (d.tag.length+1)).2;omega
theorem zvw(hf:eI d):rV d (CG d)/\minD d (CG d)=⟨pY d 0,sD d,pY d 1,pY d 2,pY d 3⟩:=by
 obtain⟨K,hK⟩:=zvx hf;have e:=zqQ hK.go hK.len;rw[e];refine⟨hK,?_⟩;unfold minD pY sD;rw[af (ztE hf),af (ztE hf),e]
theorem zoI{rs:List dL}{width:Int}{l:Nat->List Int}(h:FK rs 90 0 width l)(hw:width<=100):Bh ⟨l 0,width,l 1,l 2,l 3⟩:=by
 unfold FK at h;rcases h with h|h|h|h
 ·have:=h.2.1;omega
 ·have:=h.2.2.1;omega
 ·have:=h.2.2.2.1;omega
 ·obtain⟨-,hl,K,hK,-,e2,e3⟩:=h;have hlen:rs.length<=100:=by
   unfold qg at hl;simp only[fI,lZ]at hl;exact hl.1.1
  have Nh:=zp3 hK (by decide) λk b hb=>by have:=zkC rs 0 k b hb;omega
  obtain⟨hE,hD⟩:=zvw Nh;have zCU:K<=90:=by
   have Jz:0<K:=by rw[<-hK.len];exact zng _ K
   have:=(hK.go (K-1) (by omega)).2;rw[show K-1+1=K by omega,hK.len]at this;exact this
  have CA:(ie (fA 0 rs) K).tag.length=K:=by show ((List.range K).map _).length=K;simp
  have eD:(⟨l 0,width,l 1,l 2,l 3⟩:aL)=minD (ie (fA 0 rs) K) (CG (ie (fA 0 rs) K)):=by rw[hD,e3,e2]
  rw[eD];have hle:=hE.le;have hw':bn (minD (ie (fA 0 rs) K) (CG (ie (fA 0 rs) K)))<=100:=by
   have:(minD (ie (fA 0 rs) K) (CG (ie (fA 0 rs) K))).width=sD (ie (fA 0 rs) K):=by rw[hD]
   unfold bn;rw[this,<-e2];omega
  exact⟨hE.zA0,by rw[hE.zCy];omega,hw'⟩
end Go.Proofs.YtfajjdgkiilhfaaGreatDoor
