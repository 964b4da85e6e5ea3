import Derived.Test.YthdljcdbfmhleaaGreatDoorC22
namespace Go.Proofs.YthdljcdbfmhleaaGreatDoor
section
def PA.Tk(M:PA)(L:Word->Prop):Prop:=Good M.tk M.fol M.D M.e M.first M.last L
section
variable {M N:PA} {L K:Word->Prop}
theorem zdr(h:M.Tk L)(e:∀u,L u↔K u):M.Tk K:=Good.words h e
theorem zq1(h:M.Tk L):M.opt.Tk (fun u=>u=[]\/L u):=Good.opt h
theorem znT(h:M.Tk L)(dj:∀p,M.D p->¬N.D p):Good (fun p c=>(M.D p/\M.tk p c)\/(N.D p/\N.tk p c)) (fun p q=>(M.D p/\M.fol p q)\/(N.D p/\N.fol p q)) M.D M.e M.first M.last L:=
 (Good.congr h fun p _ hp=>⟨fun k=>k.elim (fun x=>x.2) (fun x=>absurd x.1 (dj p hp)),fun k=>.inl ⟨hp,k⟩⟩).tk fun p _ hp=>⟨fun k=>k.elim (fun x=>x.2) (fun x=>absurd x.1 (dj p hp)),fun k=>.inl ⟨hp,k⟩⟩
theorem zkW(h:N.Tk K)(dj:∀p,M.D p->¬N.D p):Good (fun p c=>(M.D p/\M.tk p c)\/(N.D p/\N.tk p c)) (fun p q=>(M.D p/\M.fol p q)\/(N.D p/\N.fol p q)) N.D N.e N.first N.last K:=
 (Good.congr h fun p _ hp=>⟨fun k=>k.elim (fun x=>absurd hp (dj p x.1)) (fun x=>x.2),fun k=>.inr ⟨hp,k⟩⟩).tk fun p _ hp=>⟨fun k=>k.elim (fun x=>absurd hp (dj p x.1)) (fun x=>x.2),fun k=>.inr ⟨hp,k⟩⟩
theorem zq0(h:M.Tk L)(k:N.Tk K)(dj:∀p,M.D p->¬N.D p):(M.alt N).Tk (fun u=>L u\/K u):=zot (znT h dj) (zkW k dj) dj
theorem znU(h:M.Tk L)(k:N.Tk K)(dj:∀p,M.D p->¬N.D p):(M.seq N).Tk (fun u=>∃x y,u=x++y/\L x/\K y):=zov (znT h dj) (zkW k dj) dj (fun _ _ _=>Iff.rfl) (fun _=>Iff.rfl) (fun _=>Iff.rfl)
theorem zqv(h:M.Tk L):M.star.Tk (fun u=>∃k,Pow L k u):=zmQ h fun _ _ _=>Iff.rfl
end
theorem zq2{f:Nat->PA}{c:Nat}{L:Word->Prop}(hf:∀s,(f s).Tk L)(hD:∀s p,(f s).D p↔s<=p/\p<s+c)(n:Nat):∀j,(upD f c n j).Tk (UpTo L j)
 |0=>zdr (zmP _ _ (true=true)) fun u=>⟨fun h=>(ziN L u).1 ⟨h.1,trivial⟩,fun h=>⟨((ziN L u).2 h).1,rfl⟩⟩
 |j+1=>zdr (zq1 (znU (hf _) (zq2 hf hD n j) fun p h1 h2=>by rw[hD] at h1;rw[zl4 hD] at h2;omega)) fun u=>znY L j u
theorem zqu{f:Nat->PA}{c:Nat}{y:PA}{n s:Nat}{L K:Word->Prop}(hf:∀s,(f s).Tk L)(hD:∀s p,(f s).D p↔s<=p/\p<s+c)(hy:y.Tk K)(hyD:∀p,y.D p↔n<=p/\p<s)(hs:n<=s):∀k,(ahD f c y s k).Tk (zk0 L K k)
 |0=>zdr hy fun u=>zk6 L K u
 |k+1=>zdr (znU (hf _) (zqu hf hD hy hyD hs k) fun p h1 h2=>by rw[hD] at h1;rw[zk4 hD hyD hs] at h2;omega) fun u=>zk5 L K k u
theorem zdl:∀(p:Pt),OkP p->∀n,(unD p n).Tk (In p)
 |.set f,_,n=>zou (fun c=>⟨fun h=>h.2,fun h=>⟨rfl,h⟩⟩) (fun _ h=>h)
 |.seq l r,ho,n=>znU (zdl l ho.1 n) (zdl r ho.2 _) fun p h1 h2=>by rw[zco] at h1 h2;omega
 |.alt l r,ho,n=>zq0 (zdl l ho.1 n) (zdl r ho.2 _) fun p h1 h2=>by rw[zco] at h1 h2;omega
 |.rep b mn mx,ho,n=>by
  obtain⟨h1,h2,h3⟩:=ho;obtain⟨m,rfl⟩:∃m:Nat,mn=m:=⟨mn.toNat,by omega⟩
  by_cases h:mx=-1
  ·subst h;rw[<-zix];exact zdr (zqu (n:=n) (zdl b h1) (zco b) (zqv (zdl b h1 n)) (zpG b n) (by omega) m) (zpe b m)
  ·obtain⟨d,rfl⟩:∃d:Nat,mx=((m+d:Nat):Int):=⟨(mx-m).toNat,by omega⟩;rw[<-ziy];exact zdr (zqu (n:=n) (zdl b h1) (zco b) (zq2 (zdl b h1) (zco b) n d) (zl4 (zco b) n d) (by omega) m) (zpf b m d)
 |.grp b _,ho,n=>zdl b ho n
theorem zpv(b:Pt)(n:Nat):unD (.rep b 0 (-1)) n=(unD b n).star:=by
 rw[unD,zst rfl];rfl
inductive Back (u:Word) (M:PA) (E:Nat->Prop):Nat->Nat->Prop
 |stop (i p:Nat) (c:UInt8):u[i]?=some c->M.tk p c->M.D p->M.last p->E (i+1)->Back u M E i p
 |on (i p q:Nat) (c:UInt8):u[i]?=some c->M.tk p c->M.D p->M.fol p q->Back u M E (i+1) q->Back u M E i p
def Fwd(u:Word)(M:PA)(i j p:Nat):Prop:=i<j/\j<=u.length/\Run M.tk M.fol M.first ((u.drop i).take (j-i)) p
theorem zgT(u:Word){i j:Nat}{c:UInt8}(h:i<=j)(hc:u[j]?=some c):(u.drop i).take (j+1-i)=(u.drop i).take (j-i)++[c]:=by
 have hj:=(zrF.1 hc).1;rw[zdg u h (Nat.le_succ j),show j+1-j=1 from by omega,zrp hj];have:u[j]=c:=(zrF.1 hc).2;rw[this]
 rfl
theorem zkS(u:Word){i j:Nat}(h:i<j)(hj:j<=u.length):(u.drop i).take (j-i)≠[]:=by
 intro e;have:=congrArg List.length e;simp at this;omega
theorem zhb{u:Word}{M:PA}{i p:Nat}{c:UInt8}(hc:u[i]?=some c):Fwd u M i (i+1) p↔M.first p/\M.tk p c:=by
 have hj:=(zrF.1 hc).1;unfold Fwd;rw[zgT u (zsa i) hc,zsh];show i<i+1/\i+1<=u.length/\Run M.tk M.fol M.first [c] p↔_;rw[zqq];exact⟨fun h=>h.2.2,fun h=>⟨by omega,hj,h⟩⟩
theorem zd2{u:Word}{M:PA}{i j q:Nat}{c:UInt8}(hij:i<j)(hc:u[j]?=some c):Fwd u M i (j+1) q↔∃p,Fwd u M i j p/\M.fol p q/\M.tk q c:=by
 have hj:=(zrF.1 hc).1;unfold Fwd;rw[zgT u (Nat.le_of_lt hij) hc,zpi (zkS u hij (by omega))];constructor
 ·rintro ⟨-,-,p,h1,h2⟩;exact⟨p,⟨hij,by omega,h1⟩,h2⟩
 ·rintro ⟨p,⟨-,-,h1⟩,h2⟩;exact⟨by omega,hj,p,h1,h2⟩
theorem zmL{u:Word}{M:PA}{p:Pt}(h:M.Tk (In p)){i j:Nat}(hij:i<j)(hj:j<=u.length):Lg u p i j↔∃q,Fwd u M i j q/\M.last q:=by
 unfold Lg Fwd;rw[<-h.lang,zoa (zkS u hij hj)];exact⟨fun⟨_,_,q,h1,h2⟩=>⟨q,⟨hij,hj,h1⟩,h2⟩,fun⟨q,⟨_,_,h1⟩,h2⟩=>⟨by omega,hj,q,h1,h2⟩⟩
theorem zjr{u:Word}{M:PA}{p:Pt}(h:M.Tk (In p)){i:Nat}(hi:i<=u.length):Lg u p i i↔M.e:=by
 unfold Lg;rw[zsh,zr8,<-h.lang,zpN];exact⟨fun h=>h.2.2,fun h=>⟨zsa _,hi,h⟩⟩
theorem zor{u:Word}{M:PA}{E:Nat->Prop}:∀{j p:Nat},Back u M E j p->∀i,i<j+1->Fwd u M i (j+1) p->∃m q,j<m/\E m/\Fwd u M i m q/\M.last q:=by
 intro j p h
 induction h with
 |stop j p c h1 h2 h3 h4 h5=>intro i hi hf;exact⟨j+1,p,by omega,h5,hf,h4⟩
 |on j p q c h1 h2 h3 h4 h5 ih=>
  intro i hi hf;have hc:∃d,u[j+1]?=some d/\M.tk q d:=by
   cases h5 with
   |stop _ _ d a b=>exact⟨d,a,b⟩
   |on _ _ _ d a b=>exact⟨d,a,b⟩
  obtain⟨d,hd,hq⟩:=hc;obtain⟨m,r,a,b,c,e⟩:=ih i (by omega) ((zd2 hi hd).2 ⟨p,hf,h4,hq⟩);exact⟨m,r,by omega,b,c,e⟩
theorem zmc{u:Word}{M:PA}{E:Nat->Prop}{i p:Nat}{c:UInt8}(hc:u[i]?=some c):Back u M E i p↔M.tk p c/\M.D p/\((M.last p/\E (i+1))\/∃q,M.fol p q/\Back u M E (i+1) q):=by
 constructor
 ·intro h;cases h with
  |stop _ _ d a b e f g=>rw[hc] at a;cases a;exact⟨b,e,.inl ⟨f,g⟩⟩
  |on _ _ q d a b e f g=>rw[hc] at a;cases a;exact⟨b,e,.inr ⟨q,f,g⟩⟩
 ·rintro ⟨h1,h2,⟨h3,h4⟩|⟨q,h3,h4⟩⟩
  ·exact .stop i p c hc h1 h2 h3 h4
  ·exact .on i p q c hc h1 h2 h3 h4
theorem Back.byte{u:Word}{M:PA}{E:Nat->Prop}{i p:Nat}(h:Back u M E i p):∃c,u[i]?=some c/\M.tk p c/\M.D p:=by
 cases h with
 |stop _ _ d a b c=>exact⟨d,a,b,c⟩
 |on _ _ _ d a b c=>exact⟨d,a,b,c⟩
theorem Fwd.byte{u:Word}{M:PA}{i j p:Nat}(h:Fwd u M i (j+1) p)(hij:i<=j):∃c,u[j]?=some c/\M.tk p c:=by
 have hj:=h.2.1;obtain⟨c,hc⟩:∃c,u[j]?=some c:=⟨_,zrD (by omega)⟩;refine⟨c,hc,?_⟩
 by_cases e:i<j
 ·obtain⟨_,_,_,h⟩:=(zd2 e hc).1 h;exact h
 ·obtain rfl:i=j:=by omega
  exact((zhb hc).1 h).2
theorem zfh{u:Word}{M N:PA}{E:Nat->Prop}(hD:∀p,M.D p->N.D p)(ht:∀p c,M.tk p c->N.tk p c)(hf:∀p q,M.fol p q->N.fol p q)(fi:∀p,M.first p->M.D p)(fo:∀p q,M.D p->M.fol p q->M.D q){i:Nat}:∀(k x q:Nat),Fwd u M i (x+1) q->Back u N E x q->∀j,j+k=x->i<=j->∃p,Fwd u M i (j+1) p/\Back u N E j p
 |0,x,q,h1,h2,j,hj,_=>by
  obtain rfl:j=x:=hj;exact⟨q,h1,h2⟩
 |k+1,x,q,h1,h2,j,hj,hij=>by
  obtain⟨y,rfl⟩:∃y,x=y+1:=⟨x-1,by omega⟩;obtain⟨c,hc,_⟩:=h1.byte (by omega);obtain⟨p,h3,h4,_⟩:=(zd2 (by omega) hc).1 h1;obtain⟨d,hd,htk⟩:=h3.byte (by omega);exact zfh hD ht hf fi fo k y p h3 (.on y p q d hd (ht _ _ htk) (hD _ (h3.2.2.inside fi fo)) (hf _ _ h4) h2) j (by omega) hij
def Sta(u:Word)(M:PA)(E:Nat->Prop)(m:Nat):Prop:=(E m/\M.e)\/∃p,M.first p/\Back u M E m p
theorem zqZ{u:Word}{M:PA}{p:Pt}(h:M.Tk (In p)){E:Nat->Prop}(hE:∀m,E m->m<=u.length)(m:Nat):Sta u M E m↔∃e,E e/\Lg u p m e:=by
 constructor
 ·rintro (⟨h1,h2⟩|⟨q,h1,h2⟩)
  ·exact⟨m,h1,(zjr h (hE m h1)).2 h2⟩
  ·obtain⟨c,hc,htk,_⟩:=h2.byte;obtain⟨x,r,a,b,c',d⟩:=zor h2 m (by omega) ((zhb hc).2 ⟨h1,htk⟩);exact⟨x,b,(zmL h (by omega) (hE x b)).2 ⟨r,c',d⟩⟩
 ·rintro ⟨e,h1,h2⟩;have hme:=h2.1;rcases zsd m e with hlt|hge
  ·obtain⟨q,h3,h4⟩:=(zmL h hlt (hE e h1)).1 h2;obtain⟨x,rfl⟩:∃x,e=x+1:=⟨e-1,by omega⟩;obtain⟨c,hc,htk⟩:=h3.byte (by omega);obtain⟨r,h5,h6⟩:=zfh (N:=M) (E:=E) (fun _ h=>h) (fun _ _ h=>h) (fun _ _ h=>h) h.fi h.fo (x-m) x q h3 (.stop x q c hc htk (h3.2.2.inside h.fi h.fo) h4 h1) m (by omega) (zsa _);obtain⟨d,hd,_⟩:=h6.byte;exact .inr ⟨r,((zhb hd).1 h5).1,h6⟩
  ·obtain rfl:m=e:=by omega
   exact .inl ⟨h1,(zjr h (hE m h1)).1 h2⟩
theorem znG{u:Word}{M:PA}{L:Word->Prop}(h:M.Tk L){E:Nat->Prop}{i m q:Nat}(hf:Fwd u M i m q)(hl:M.last q)(hs:Sta u M.star E m)(j:Nat)(hij:i<=j)(hjm:j<m):∃p,Fwd u M i (j+1) p/\Back u M.star E j p:=by
 obtain⟨x,rfl⟩:∃x,m=x+1:=⟨m-1,by omega⟩;obtain⟨c,hc,htk⟩:=hf.byte (by omega);have hD:=hf.2.2.inside h.fi h.fo;refine zfh (M:=M) (N:=M.star) (E:=E) (fun _ h=>h) (fun _ _ h=>h) (fun _ _ h=>.inl h) h.fi h.fo (x-j) x q hf ?_ j (by omega) hij;rcases hs with ⟨h1,_⟩|⟨p,h1,h2⟩
 ·exact .stop x q c hc htk hD hl h1
 ·exact .on x q p c hc htk hD (.inr ⟨hl,h1⟩) h2
end
section
def zdG(nw:Nat)(T:Nat->Nat)(P:Nat->Prop):Prop:=∀q,q<64*nw->(zae T q=true↔P q)
structure zcZ(M:PA)(n nw:Nat)(f:Nat->Nat->Bool)(F G:Nat->Nat->Nat)(X Y:Nat->Nat):Prop where
 n64:n<=64*nw
 D:∀p,M.D p↔p<n
 fi:∀p,M.first p->M.D p
 la:∀p,M.last p->M.D p
 fo:∀p q,M.D p->M.fol p q->M.D q
 tk:∀p (c:UInt8),p<n->(M.tk p c↔f p c.toNat=true)
 fw:∀p q,p<n->q<64*nw->(zae (F p) q=true↔M.fol p q)
 bw:∀p q,p<n->q<n->(zae (G p) q=true↔M.fol q p)
 xs:∀q,q<64*nw->(zae X q=true↔M.first q)
 ys:∀q,q<64*nw->(zae Y q=true↔M.last q)
section
variable {M:PA} {n nw:Nat} {f:Nat->Nat->Bool} {F G:Nat->Nat->Nat} {X Y:Nat->Nat} {u:Word} {E:Nat->Prop}
theorem Back.lt(h:zcZ M n nw f F G X Y){i p:Nat}(hb:Back u M E i p):p<n:=by
 obtain⟨_,_,_,h1⟩:=hb.byte;exact(h.D p).1 h1
theorem zmb(h:zcZ M n nw f F G X Y){i:Nat}{c:UInt8}(hc:u[i]?=some c){T U:Nat->Nat}{b:Bool}(hb:b=true↔E (i+1))(hTn:∀q,q<64*nw->zae T q=true->q<n)(hUn:∀q,q<64*nw->zae U q=true->q<n)(hT:zdG nw T (Back u M E (i+1)))(hs:zfg nw f G Y T c.toNat b U):zdG nw U (Back u M E i):=fun q hq=>by
 have hn:=h.n64;rw[hs q hq,zmc hc];constructor
 ·rintro ⟨h1,h2⟩;have hqn:q<n:=hUn q hq ((hs q hq).2 ⟨h1,h2⟩);refine⟨(h.tk q c hqn).2 h1,(h.D q).2 hqn,?_⟩;rcases h2 with ⟨p,h3,h4,h5⟩|⟨h3,h4⟩
  ·have hpn:=hTn p h3 h4;exact .inr ⟨p,(h.bw p q hpn hqn).1 h5,(hT p h3).1 h4⟩
  ·exact .inl ⟨(h.ys q hq).1 h4,hb.1 h3⟩
 ·rintro ⟨h1,h2,h3⟩;have hqn:=(h.D q).1 h2;refine⟨(h.tk q c hqn).1 h1,?_⟩;rcases h3 with ⟨h3,h4⟩|⟨p,h3,h4⟩
  ·exact .inr ⟨hb.2 h4,(h.ys q hq).2 h3⟩
  ·have hpn:=Back.lt h h4;exact .inl ⟨p,by omega,(hT p (by omega)).2 h4,(h.bw p q hpn hqn).2 h3⟩
theorem zos(h:zcZ M n nw f F G X Y){i j:Nat}(hij:i<=j){c:UInt8}(hc:u[j]?=some c){T U:Nat->Nat}{b:Bool}(hb:b=true↔j=i)(hTn:∀q,q<64*nw->zae T q=true->q<n)(hUn:∀q,q<64*nw->zae U q=true->q<n)(hT:zdG nw T (Fwd u M i j))(hs:zfg nw f F X T c.toNat b U):zdG nw U (Fwd u M i (j+1)):=fun q hq=>by
 have hn:=h.n64;rw[hs q hq]
 by_cases e:i<j
 ·rw[zd2 e hc];constructor
  ·rintro ⟨h1,h2⟩;have hqn:q<n:=hUn q hq ((hs q hq).2 ⟨h1,h2⟩);rcases h2 with ⟨p,h3,h4,h5⟩|⟨h3,_⟩
   ·exact⟨p,(hT p h3).1 h4,(h.fw p q (hTn p h3 h4) hq).1 h5,(h.tk q c hqn).2 h1⟩
   ·have:=hb.1 h3;omega
  ·rintro ⟨p,h1,h2,h3⟩;have hpD:=h1.2.2.inside h.fi h.fo;have hpn:=(h.D p).1 hpD;have hqn:=(h.D q).1 (h.fo p q hpD h2);exact⟨(h.tk q c hqn).1 h3,.inl ⟨p,by omega,(hT p (by omega)).2 h1,(h.fw p q hpn hq).2 h2⟩⟩
 ·obtain rfl:i=j:=by omega
  rw[zhb hc];constructor
  ·rintro ⟨h1,h2⟩;have hqn:q<n:=hUn q hq ((hs q hq).2 ⟨h1,h2⟩);rcases h2 with ⟨p,h3,h4,_⟩|⟨_,h3⟩
   ·have:=((hT p h3).1 h4).1;omega
   ·exact⟨(h.xs q hq).1 h3,(h.tk q c hqn).2 h1⟩
  ·rintro ⟨h1,h2⟩;have hqn:=(h.D q).1 (h.fi q h1);exact⟨(h.tk q c hqn).1 h2,.inr ⟨hb.2 rfl,(h.xs q hq).2 h1⟩⟩
theorem zhN{hi:Nat}(hE:∀m,E m->m<=hi){i p:Nat}(h:Back u M E i p):i<hi:=by
 induction h with
 |stop i p c h1 h2 h3 h4 h5=>have:=hE _ h5;omega
 |on i p q c h1 h2 h3 h4 h5 ih=>omega
theorem zoe{k:Nat}(hE:∀m,m<=k->¬E m)(hk:∀p,¬Back u M E k p){i p:Nat}(h:Back u M E i p):k<i:=by
 induction h with
 |stop i p c h1 h2 h3 h4 h5=>
  rcases zsd k i with a|a
  ·exact a
  ·rcases zsd k (i+1) with b|b
   ·obtain rfl:i=k:=by omega
    exact absurd (.stop i p c h1 h2 h3 h4 h5) (hk p)
   ·exact absurd h5 (hE _ b)
 |on i p q c h1 h2 h3 h4 h5 ih=>
  rcases zsd k i with a|a
  ·exact a
  ·obtain rfl:i=k:=by omega
   exact absurd (.on i p q c h1 h2 h3 h4 h5) (hk p)
theorem zpm(h:zcZ M n nw f F G X Y){T:Nat->Nat}(hl:∀x,T x<18446744073709551616){i:Nat}(hT:zdG nw T (Back u M E i)):Sta u M E i↔(E i/\M.e)\/zb8 nw T X=true:=by
 have hn:=h.n64;rw[zfF nw T X hl];refine or_congr Iff.rfl ⟨fun⟨p,h1,h2⟩=>?_,fun⟨p,h1,h2,h3⟩=>⟨p,(h.xs p h1).1 h3,(hT p h1).1 h2⟩⟩;have:=Back.lt h h2;exact⟨p,by omega,(hT p (by omega)).2 h2,(h.xs p (by omega)).2 h1⟩
theorem zon(h:zcZ M n nw f F G X Y){T:Nat->Nat}(hl:∀x,T x<18446744073709551616){i j:Nat}(hT:zdG nw T (Fwd u M i j)):(∃p,Fwd u M i j p/\M.last p)↔zb8 nw T Y=true:=by
 have hn:=h.n64;rw[zfF nw T Y hl];refine⟨fun⟨p,h1,h2⟩=>?_,fun⟨p,h1,h2,h3⟩=>⟨p,(hT p h1).1 h2,(h.ys p h1).1 h3⟩⟩;have:=(h.D p).1 (h.la p h2);exact⟨p,by omega,(hT p (by omega)).2 h1,(h.ys p (by omega)).2 h2⟩
end
end
variable {s n nw bt ga gl:Nat}{w w':World}{lv:Value}{Lk:Nat -> Nat -> Nat}{A L:Nat -> Nat}{f:Nat -> Nat -> Bool}{O:Nat -> Prop}
open Go.RowKit
attribute [local go_sem ↓] Go.wp_at_zero Go.wp_at_succ
structure StV where
 b0:Nat
 B:Nat
 n:Nat
 nw:Nat
 bt:Nat
 ga:Nat
 gl:Nat
 sv:Value
 fa:Option Addr
 fc:Nat
 ba:Option Addr
 bc:Nat
 fr:Nat->Nat
 br:Nat->Nat
 mr:Nat->Nat
 f:Nat->Nat->Bool
 F:Nat->Nat->Nat
 G:Nat->Nat->Nat
 A:Nat->Nat
 L:Nat->Nat
 e:Bool
structure RdV where
 r:Nat
 gm:Nat
 gv:Nat
 sS:Value
 sP:Value
 gx:Nat->Nat
 Ts:Nat->Nat->Nat
 m:Nat
 es:List (Int×Int)
structure StdC(w:World)(s:Nat)(v:StV):Prop where
 c1:StC v.B w v.n v.nw v.bt v.ga v.gl (.slice v.fa v.n v.fc) v.sv (.slice v.fa v.n v.fc) v.fr v.mr v.F v.A v.L v.f
 c2:StC v.B w v.n v.nw v.bt v.gl v.ga (.slice v.ba v.n v.bc) v.sv (.slice v.fa v.n v.fc) v.br v.mr v.G v.L v.A v.f
 p0:0<v.b0
 s0:v.b0<=s
 s1:s<v.B
 tb:v.b0<=v.bt
 ab:v.b0<=v.ga
 lb:v.b0<=v.gl
 sb:∀k,v.sv.ownBlock=some k->v.b0<=k/\k≠s
 fb:∀k,(Value.slice v.fa v.n v.fc).ownBlock=some k->v.b0<=k/\k≠s
 bb:∀k,(Value.slice v.ba v.n v.bc).ownBlock=some k->v.b0<=k/\k≠s
 frb:∀p,p<v.n->v.b0<=v.fr p
 brb:∀p,p<v.n->v.b0<=v.br p
 ne:v.bt≠s/\v.ga≠s/\v.gl≠s/\∀p,p<v.n->v.fr p≠s/\v.br p≠s
theorem StC.keepW{B b0:Nat}{sv fv:Value}{lr mk:Nat->Nat}(h:StC B w n nw bt ga gl lv sv fv lr mk Lk A L f)
  (h1:b0<=bt/\bt≠s) (h2:b0<=ga/\ga≠s) (h3:b0<=gl/\gl≠s) (h4:∀k,sv.ownBlock=some k->b0<=k/\k≠s) (h5:∀k,lv.ownBlock=some k->b0<=k/\k≠s) (h6:∀p,p<n->b0<=lr p/\lr p≠s)
  (hk:∀k,b0<=k->k<B->k≠s->w'.heap[k]?=w.heap[k]?) (hm:zaJ w w') (hz:w'.heap[0]?=w.heap[0]?) (hs:B<=w'.heap.size):StC B w' n nw bt ga gl lv sv fv lr mk Lk A L f:=by
 have hc:∀k o,b0<=k->k<B->k≠s->w'.cell? ⟨k,o,none⟩=w.cell? ⟨k,o,none⟩:=fun k o g1 g2 g3=>World.cell?_of_block (hk k g1 g2 g3)
 have hp:∀{g:Nat} {T:Nat->Nat},zal w nw g T->b0<=g->g<B->g≠s->zal w' nw g T:=fun h g1 g2 g3=>⟨(hk _ g1 g2 g3).trans h.row,h.lt⟩
 refine⟨(hk bt h1.1 h.btB h1.2).trans h.box,h.btB,fun hn=>?_,fun p hn=>⟨hm _ _ (h.mks p hn).1,(h.mks p hn).2⟩,fun hn=>?_,fun p hn=>⟨hp (h.lrs p hn).1 (h6 p hn).1 (h.lrs p hn).2 (h6 p hn).2,(h.lrs p hn).2⟩,⟨hp h.pa.1 h2.1 h.pa.2 h2.2,h.pa.2⟩,⟨hp h.pl.1 h3.1 h.pl.2 h3.2,h.pl.2⟩,h.bru.keep hz,h.pos,hs,h.n64,h.nwl,h.lb,h.ab⟩
 ·obtain⟨gs,cs,e,hl,k⟩:=h.svs hn;have:=h4 gs (by rw[e];rfl);exact⟨gs,cs,e,hl,fun p hp=>(hc _ _ this.1 hl this.2).trans (k p hp)⟩
 ·obtain⟨gs,cs,e,hl,k⟩:=h.lvs hn;have:=h5 gs (by rw[e];rfl);exact⟨gs,cs,e,hl,fun p hp=>(hc _ _ this.1 hl this.2).trans (k p hp)⟩
theorem StdC.keep{v:StV}(h:StdC w s v)(hk:∀k,v.b0<=k->k<v.B->k≠s->w'.heap[k]?=w.heap[k]?)(hm:zaJ w w')(hz:w'.heap[0]?=w.heap[0]?)(hs:w.heap.size<=w'.heap.size):StdC w' s v:=
 ⟨h.c1.keepW (s:=s) ⟨h.tb,h.ne.1⟩ ⟨h.ab,h.ne.2.1⟩ ⟨h.lb,h.ne.2.2.1⟩ h.sb h.fb (fun p hp=>⟨h.frb p hp,(h.ne.2.2.2 p hp).1⟩) hk hm hz (zsb h.c1.le hs),h.c2.keepW (s:=s) ⟨h.tb,h.ne.1⟩ ⟨h.lb,h.ne.2.2.1⟩ ⟨h.ab,h.ne.2.1⟩ h.sb h.bb (fun p hp=>⟨h.brb p hp,(h.ne.2.2.2 p hp).2⟩) hk hm hz (zsb h.c2.le hs),h.p0,h.s0,h.s1,h.tb,h.ab,h.lb,h.sb,h.fb,h.bb,h.frb,h.brb,h.ne⟩
structure RdAt(O:Nat->Prop)(w:World)(n nw bt ga gl:Nat)(lv:Value)(f:Nat->Nat->Bool)(Lk:Nat->Nat->Nat)(A L:Nat->Nat)(v:RdV):Prop where
 s:RdS O w v.r nw bt ga gl lv L v.gm v.gv v.sS v.sP v.gx v.Ts v.m v.es
 mv:MvOk nw f Lk A v.Ts v.m v.es
 sets:ziW n nw v.Ts v.m
 zero:∀x,x<nw->v.Ts 0 x=0
 pos:0<v.m
theorem RdAt.keep{v:RdV}(h:RdAt O w n nw bt ga gl lv f Lk A L v)(hk:∀k,O k->k<w.heap.size->w'.heap[k]?=w.heap[k]?):RdAt O w' n nw bt ga gl lv f Lk A L v:=
 ⟨h.s.keep hk,h.mv,h.sets,h.zero,h.pos⟩
def zhB(v:StV)(x y:Value):Array Value:=#[.pointer (some ⟨v.bt,0,none⟩),.bool v.e,.slice (some ⟨v.ga,0,none⟩) v.nw v.nw,.slice (some ⟨v.gl,0,none⟩) v.nw v.nw,.slice v.ba v.n v.bc,x,y]
structure Strd(O1 O2:Nat->Prop)(w:World)(s:Nat)(v:StV)(a b:RdV):Prop where
 box:w.heap[s]?=some (.cells (zhB v (.pointer (some ⟨a.r,0,none⟩)) (.pointer (some ⟨b.r,0,none⟩))) 177 (0,0))
 c:StdC w s v
 ra:RdAt O1 w v.n v.nw v.bt v.ga v.gl (.slice v.fa v.n v.fc) v.f v.F v.A v.L a
 rb:RdAt O2 w v.n v.nw v.bt v.gl v.ga (.slice v.ba v.n v.bc) v.f v.G v.L v.A b
 o1:∀k,O1 k->v.B<=k/\k<w.heap.size
 o2:∀k,O2 k->v.B<=k/\k<w.heap.size
 o12:∀k,O1 k->¬O2 k
theorem Strd.keep{O1 O2:Nat->Prop}{v:StV}{a b:RdV}(h:Strd O1 O2 w s v a b)(hk:∀k,(v.b0<=k/\k<v.B)\/O1 k\/O2 k->w'.heap[k]?=w.heap[k]?)(hm:zaJ w w')(hz:w'.heap[0]?=w.heap[0]?)(hs:w.heap.size<=w'.heap.size):Strd O1 O2 w' s v a b:=
 ⟨(hk s (.inl ⟨h.c.s0,h.c.s1⟩)).trans h.box,h.c.keep (fun k h1 h2 _=>hk k (.inl ⟨h1,h2⟩)) hm hz hs,h.ra.keep fun k h1 _=>hk k (.inr (.inl h1)),h.rb.keep fun k h1 _=>hk k (.inr (.inr h1)),fun k h1=>⟨(h.o1 k h1).1,zsc (h.o1 k h1).2 hs⟩,fun k h1=>⟨(h.o2 k h1).1,zsc (h.o2 k h1).2 hs⟩,h.o12⟩
theorem zaG{g:Nat}{a0 a1 a2 a3 a4 a5 a6:Value}{t:TypeId}(h:w.heap[g]?=some (.cells #[a0,a1,a2,a3,a4,a5,a6] t (0,0))):w.cell? ⟨g,0,none⟩=some a0/\w.cell? ⟨g,1,none⟩=some a1/\w.cell? ⟨g,2,none⟩=some a2/\w.cell? ⟨g,3,none⟩=some a3/\w.cell? ⟨g,4,none⟩=some a4/\w.cell? ⟨g,5,none⟩=some a5/\w.cell? ⟨g,6,none⟩=some a6:=by
 have:∀o,w.cell? ⟨g,o,none⟩=#[a0,a1,a2,a3,a4,a5,a6][o]?:=fun _=>zsm _ _ _ _ _ _ h
 exact⟨this 0,this 1,this 2,this 3,this 4,this 5,this 6⟩
theorem RdAt.first{r gm gv:Nat}{sS sP:Value}{gx:Nat->Nat}{Ts:Nat->Nat->Nat}(h:RdS O w r nw bt ga gl lv L gm gv sS sP gx Ts 1 [])(hz:∀x,x<nw->Ts 0 x=0):RdAt O w n nw bt ga gl lv f Lk A L ⟨r,gm,gv,sS,sP,gx,Ts,1,[]⟩:=by
 refine⟨h,fun k hk=>by simp[za4] at hk,fun i q hi hq hb=>?_,hz,by simp⟩;have e:i=0:=by simp at hi;omega
 subst e;have:=hz (q/64) (by omega);unfold zae at hb;simp[this] at hb
end Go.Proofs.YthdljcdbfmhleaaGreatDoor
