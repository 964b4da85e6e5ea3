import Derived.Test.YtdimhpfiieepiaaGreatDoorC27
import Derived.Lib.ConvBytes
namespace Go.Proofs.YtdimhpfiieepiaaGreatDoor
open Proofs.Tryz
open Option renaming some->za,none->zb
open Go renaming World->zc,Value->ze
open Value renaming slice->zd
open Obj renaming cells->zf
set_option maxHeartbeats 1000000
set_option maxRecDepth 100000
section
open Go.RowKit
attribute [local go_sem ↓] wp_at_zero wp_at_succ
theorem Tryz.zyW:(prog.info? 5).map (λi=>(i.zero,i.size,i.bytes))=za (za (.int .u8 0),1,1):=by kernel_rfl
def EA(l:List UInt8):List ze:=l.map λb=>Value.int .u8 b.toNat
theorem zq9(l:List UInt8)(b:UInt8):EA (l++[b])=EA l++[.int .u8 b.toNat]:=by simp[EA]
theorem zse(nw g cap:Nat)(T:Nat->Nat)(w:zc)(hT:aH w nw g T)(bV:nw<=1000):
  Calls prog 194 #[zd (za ⟨g,0,zb⟩) nw cap] w λe w'=>e=.returned (.string (lI nw T))/\Below w.heap.size w w':=by
 obtain⟨iB,hjB,zwA,zwB,zwC⟩:=info_parts Tryz.zyW;have hi8:(nw:Int)<=1000:=by omega
 go_enter func194,ntmps194
 go_wp2_with (refine wpList_make_own _ rfl _ _ 140 rfl w.heap.size 5 iB _ 1 underlying140 hjB zwA zwB _ _ _ (8*nw) rfl rfl (by omega) (by rw[zwC];omega) (by unfold maxLen;omega) (ai _) ?_;intro w1 CD Cu)
 have ak:Below w.heap.size w w1:=(Below.refl _ _).grown Cu (ai _) (by intro k h;cases h);clear Cu
 go_loopw [3,13] (λs i wr=>∃(k g9 c9 nl:Nat),k<=nw/\i=.int .i64 k/\s=zd (za ⟨g9,0,zb⟩) nl c9/\Hid (nl=8*k)/\Below w.heap.size w wr/\wr.ownsRow w.heap.size 5 1 (zd (za ⟨g9,0,zb⟩) nl c9) nl (EA (rS T k)))
  (λ_ i _=>nw-(intOf i).toNat)
 case atStart=>exact⟨0,_,_,0,aZ _,rfl,rfl,rfl,ak,CD⟩
 case round=>
  clear ak CD;obtain⟨k,g9,c9,nl,hk,rfl,rfl,Jf,hb,az⟩:=hrel
  by_cases hlt:k<nw
  ·have c0:=(hT.below hb).cell hlt;have hx:=hT.lt k;have Hks:Hid (rS T (k+1)=rS T k++uS (T k) 8):=O7 T k;have dO:(0:Int)<=(k:Int):=by omega
   have dh:(k:Int)<(nw:Int):=by omega
   generalize T k=a at *;go_wp2;clear c0
   go_loopw [3,6] (λs sh wr=>∃(m g9 c9 nl:Nat),m<=8/\sh=.int .i64 ((8*m:Nat):Int)/\s=zd (za ⟨g9,0,zb⟩) nl c9/\Hid (nl=8*k+m)/\Below w.heap.size w wr/\wr.ownsRow w.heap.size 5 1 (zd (za ⟨g9,0,zb⟩) nl c9) nl (EA (rS T k++uS a m)))
    (λ_ sh _=>64-(intOf sh).toNat)
   case atStart=>exact⟨0,_,_,nl,by omega,rfl,rfl,by have:=Jf.out;show _=_;omega,hb,by simpa [uS]using az⟩
   case round=>
    clear hb az;obtain⟨m,g8,c8,OI,hm,rfl,rfl,fQ,hb,az⟩:=hrel
    by_cases hm8:m<8
    ·have th:((8*m:Nat):Int)<64:=by omega
     have uG:OI<=8000:=by have:=fQ.out;omega
     obtain⟨s8,QM⟩:∃s8,Hid (8*m=s8):=⟨_,rfl⟩;rw[QM.out]at th ⊢;have HV:Hid ((a:Int)/2 ^ s8%256=((UInt8.ofNat (a/2 ^ (8*m))).toNat:Int)):=by
      show _=_;rw[UInt8.toNat_ofNat',QM.out,Int.natCast_emod,Int.natCast_ediv,Int.natCast_pow]
      rfl
     go_wp2_with (at_builtin;refine pX wr rfl (.tmp 21) (.tmp 26) 140 rfl w.heap.size 5 iB _ 1 underlying140 hjB zwA zwB zwC rfl g8 c8 OI (EA (rS T k++uS a m)) (.int .u8 ((a:Int)/2 ^ s8%256)) rfl az rfl rfl (by omega) (by omega) hb.size ?_;intro g' cap' w5 jv gu dg)
     go_roundw
     case rel=>
      refine⟨m+1,g',cap',OI+1,by omega,?_,rfl,by have:=fQ.out;show _=_;omega,hb.grown gu hb.size (by intro q hq;cases hq;exact(qc az).1),?_⟩
      ·rw[show ((8*(m+1):Nat):Int)=(s8:Int)+8 by have:=QM.out;omega]
      ·rw[HV.out]at jv;rw[Wt,<-pA,zq9];exact jv
     case measure=>simp[intOf];omega
    ·have nX:m=8:=by omega
     subst nX;go_wp2
     go_roundw
     case rel=>exact⟨k+1,g8,c8,OI,by omega,by go_num,rfl,by have:=fQ.out;show _=_;omega,hb,by rw[Hks.out];exact az⟩
     case measure=>simp[intOf];omega
  ·have bC:k=nw:=by omega
   subst bC;have hcv:=run_convert_bytes_back (P:=prog) wr 140 9 5 ⟨g9,0,zb⟩ c9 (rS T k) underlying140 underlying5 underlying9 (λj hj=>by
    have e:(⟨g9,0,zb⟩:Addr).add j=⟨g9,j,zb⟩:=by unfold Addr.add;split<;>simp_all
    rw[e,az.cellAt j (by have:=Jf.out;rw[Ps]at hj;omega)];simp[EA,hj])
   rw[Ps,<-Jf.out]at hcv;have hck:lI k T=⟨(rS T k).toArray⟩:=rfl;rw[<-hck]at hcv;clear hck;go_wp2;go_ret;exact⟨rfl,hb⟩
end
section
variable {tk:Nat -> UInt8 -> Prop}{fol:Nat -> Nat -> Prop}{first last:Nat -> Prop}{c:UInt8}{u:aJ}{e:Prop}
theorem zs8{p:Nat}:cN tk fol first [c] p↔first p/\tk p c:=by
 constructor
 ·intro h;generalize hu:[c]=u at h;cases h with
  |one d _ a b=>cases hu;exact⟨a,b⟩
  |snoc v d q _ hr a b=>
   have hl:=congrArg List.length hu;simp at hl;subst hl;exact absurd rfl hr.ne
 ·rintro ⟨a,b⟩;exact .one c p a b
theorem zrR{q:Nat}(hu:u≠[]):cN tk fol first (u++[c]) q↔∃p,cN tk fol first u p/\fol p q/\tk q c:=by
 constructor
 ·intro h;generalize hw:u++[c]=w at h;cases h with
  |one d _ a b=>
   have hl:=congrArg List.length hw;simp at hl;exact absurd hl hu
  |snoc v d p _ hr a b=>
   obtain⟨e1,e2⟩:=List.append_inj' hw rfl;cases e2;subst e1;exact⟨p,hr,a,b⟩
 ·rintro ⟨p,hr,a,b⟩;exact .snoc u c p q hr a b
theorem zqA(hu:u≠[]):Acc tk fol e first last u↔∃p,cN tk fol first u p/\last p:=
 ⟨λh=>h.elim (λk=>absurd k.1 hu) id,.inr⟩
theorem zso:Acc tk fol e first last []↔e:=
 ⟨λh=>h.elim (λk=>k.2) (λ⟨_,hr,_⟩=>absurd rfl hr.ne),λh=>.inl ⟨rfl,h⟩⟩
end
section
structure PA where
 D:Nat->Prop
 e:Prop
 first:Nat->Prop
 last:Nat->Prop
 fol:Nat->Nat->Prop
 tk:Nat->UInt8->Prop
def PA.RB(b:Bool):PA:=⟨λ_=>False,b=true,λ_=>False,λ_=>False,λ_ _=>False,λ_ _=>False⟩
def PA.one(f:Nat->Bool)(n:Nat):PA:=⟨(· = n),False,(· = n),(· = n),λ_ _=>False,λp c=>p=n/\f c.toNat=true⟩
def PA.aQ(x y:PA):PA:=⟨λp=>x.D p\/y.D p,x.e\/y.e,λp=>x.first p\/y.first p,λp=>x.last p\/y.last p,λp q=>(x.D p/\x.fol p q)\/(y.D p/\y.fol p q),λp c=>(x.D p/\x.tk p c)\/(y.D p/\y.tk p c)⟩
def PA.seq(x y:PA):PA:=⟨λp=>x.D p\/y.D p,x.e/\y.e,λp=>x.first p\/(x.e/\y.first p),λp=>y.last p\/(y.e/\x.last p),λp q=>((x.D p/\x.fol p q)\/(y.D p/\y.fol p q))\/(x.last p/\y.first q),λp c=>(x.D p/\x.tk p c)\/(y.D p/\y.tk p c)⟩
def PA.star(x:PA):PA:=⟨x.D,True,x.first,x.last,λp q=>x.fol p q\/(x.last p/\x.first q),x.tk⟩
def PA.uO(x:PA):PA:={x with e:=True}
structure ic(tk:Nat->UInt8->Prop)(fol:Nat->Nat->Prop)(D:Nat->Prop)(e:Prop)(first last:Nat->Prop)(M:PA):Prop where
 fi:∀p,first p->D p
 la:∀p,last p->D p
 fo:∀p q,D p->fol p q->D q
 dm:∀p,D p↔M.D p
 em:e↔M.e
 fs:∀p,first p↔M.first p
 ls:∀p,last p↔M.last p
 fl:∀p q,D p->(fol p q↔M.fol p q)
 EL:∀p c,D p->(tk p c↔M.tk p c)
section
variable {tk:Nat->UInt8->Prop} {fol:Nat->Nat->Prop} {D:Nat->Prop} {e:Prop} {first last:Nat->Prop} {M:PA}
theorem ic.congr{fol':Nat->Nat->Prop}(h:ic tk fol D e first last M)(he:∀p q,D p->(fol' p q↔fol p q)):ic tk fol' D e first last M:=
 ⟨h.fi,h.la,λp q hp hq=>h.fo p q hp ((he p q hp).1 hq),h.dm,h.em,h.fs,h.ls,λp q hp=>(he p q hp).trans (h.fl p q hp),h.EL⟩
theorem ic.words{N:PA}(h:ic tk fol D e first last M)(hl:M=N):ic tk fol D e first last N:=hl ▸ h
theorem ic.uO(h:ic tk fol D e first last M):ic tk fol D True first last M.uO:=⟨h.fi,h.la,h.fo,h.dm,Iff.rfl,h.fs,h.ls,h.fl,h.EL⟩
theorem ic.dom{D':Nat->Prop}{e':Prop}{first' Uf:Nat->Prop}(h:ic tk fol D e first last M)(hd:∀p,D p↔D' p)(he:e↔e')(h1:∀p,first p↔first' p)(h2:∀p,last p↔Uf p):ic tk fol D' e' first' Uf M:=by
 obtain rfl:D=D':=funext λp=>propext (hd p)
 obtain rfl:e=e':=propext he;obtain rfl:first=first':=funext λp=>propext (h1 p)
 obtain rfl:last=Uf:=funext λp=>propext (h2 p)
 exact h
theorem zni(tk:Nat->UInt8->Prop)(fol:Nat->Nat->Prop)(b:Bool):ic tk fol (λ_=>False) (b=true) (λ_=>False) (λ_=>False) (.RB b):=
 ⟨λ_ h=>h,λ_ h=>h,λ_ _ h=>h.elim,λ_=>Iff.rfl,Iff.rfl,λ_=>Iff.rfl,λ_=>Iff.rfl,λ_ _ h=>h.elim,λ_ _ h=>h.elim⟩
theorem zoW{f:Nat->Bool}{n:Nat}(ht:∀c,tk n c↔f c.toNat=true)(hf:∀q,¬fol n q):ic tk fol (· = n) False (· = n) (· = n) (.one f n):=
 ⟨λ_ h=>h,λ_ h=>h,λp q hp hq=>absurd hq (hp ▸ hf q),λ_=>Iff.rfl,Iff.rfl,λ_=>Iff.rfl,λ_=>Iff.rfl,λp q hp=>⟨λh=>absurd h (hp ▸ hf q),False.elim⟩,λp c hp=>by
  subst hp;exact(ht c).trans ⟨λh=>⟨rfl,h⟩,λh=>h.2⟩⟩
end
theorem ic.tk{tk Hc:Nat->UInt8->Prop}{fol:Nat->Nat->Prop}{D:Nat->Prop}{e:Prop}{first last:Nat->Prop}{M:PA}(h:ic tk fol D e first last M)(he:∀p c,D p->(Hc p c↔tk p c)):ic Hc fol D e first last M:=
 ⟨h.fi,h.la,h.fo,h.dm,h.em,h.fs,h.ls,h.fl,λp c hp=>(he p c hp).trans (h.EL p c hp)⟩
section
variable {tk:Nat->UInt8->Prop} {fol fol':Nat->Nat->Prop} {D E:Nat->Prop} {e1 e2:Prop} {f1 l1 f2 l2:Nat->Prop} {M N:PA}
theorem zsl(hx:ic tk fol D e1 f1 l1 M)(hy:ic tk fol E e2 f2 l2 N)(dj:∀p,D p->¬E p)(p q:Nat)(hp:D p\/E p):fol p q↔(M.D p/\M.fol p q)\/(N.D p/\N.fol p q):=by
 rcases hp with hp|hp
 ·rw[hx.fl p q hp];exact⟨λh=>.inl ⟨(hx.dm p).1 hp,h⟩,λh=>h.elim (λk=>k.2) (λk=>absurd ((hy.dm p).2 k.1) (dj p hp))⟩
 ·rw[hy.fl p q hp];exact⟨λh=>.inr ⟨(hy.dm p).1 hp,h⟩,λh=>h.elim (λk=>absurd hp (dj p ((hx.dm p).2 k.1))) (λk=>k.2)⟩
theorem zqk(hx:ic tk fol D e1 f1 l1 M)(hy:ic tk fol E e2 f2 l2 N)(dj:∀p,D p->¬E p)(p:Nat)(c:UInt8)(hp:D p\/E p):tk p c↔(M.D p/\M.tk p c)\/(N.D p/\N.tk p c):=by
 rcases hp with hp|hp
 ·rw[hx.EL p c hp];exact⟨λh=>.inl ⟨(hx.dm p).1 hp,h⟩,λh=>h.elim (λk=>k.2) (λk=>absurd ((hy.dm p).2 k.1) (dj p hp))⟩
 ·rw[hy.EL p c hp];exact⟨λh=>.inr ⟨(hy.dm p).1 hp,h⟩,λh=>h.elim (λk=>absurd hp (dj p ((hx.dm p).2 k.1))) (λk=>k.2)⟩
theorem zoV(hx:ic tk fol D e1 f1 l1 M)(hy:ic tk fol E e2 f2 l2 N)(dj:∀p,D p->¬E p):ic tk fol (λp=>D p\/E p) (e1\/e2) (λp=>f1 p\/f2 p) (λp=>l1 p\/l2 p) (M.aQ N):=
 ⟨λp h=>h.imp (hx.fi p) (hy.fi p),λp h=>h.imp (hx.la p) (hy.la p),λp q hp hq=>hp.imp (λh=>hx.fo p q h hq) (λh=>hy.fo p q h hq),λp=>or_congr (hx.dm p) (hy.dm p),or_congr hx.em hy.em,λp=>or_congr (hx.fs p) (hy.fs p),λp=>or_congr (hx.ls p) (hy.ls p),zsl hx hy dj,zqk hx hy dj⟩
theorem zoX{f l:Nat->Prop}(hx:ic tk fol D e1 f1 l1 M)(hy:ic tk fol E e2 f2 l2 N)(dj:∀p,D p->¬E p)
  (rL:∀p q,D p\/E p->(fol' p q↔fol p q\/(l1 p/\f2 q))) (hf:∀p,f p↔f1 p\/(e1/\f2 p)) (hl:∀p,l p↔l2 p\/(e2/\l1 p)):ic tk fol' (λp=>D p\/E p) (e1/\e2) f l (M.seq N):=by
 refine⟨λp h=>?_,λp h=>?_,λp q hp hq=>?_,λp=>or_congr (hx.dm p) (hy.dm p),and_congr hx.em hy.em,λp=>(hf p).trans (or_congr (hx.fs p) (and_congr hx.em (hy.fs p))),λp=>(hl p).trans (or_congr (hy.ls p) (and_congr hy.em (hx.ls p))),λp q hp=>(rL p q hp).trans (or_congr (zsl hx hy dj p q hp) (and_congr (hx.ls p) (hy.fs q))),zqk hx hy dj⟩
 ·rcases(hf p).1 h with h|h
  ·exact .inl (hx.fi p h)
  ·exact .inr (hy.fi p h.2)
 ·rcases(hl p).1 h with h|h
  ·exact .inr (hy.la p h)
  ·exact .inl (hx.la p h.2)
 ·rcases(rL p q hp).1 hq with h|h
  ·exact hp.imp (λk=>hx.fo p q k h) (λk=>hy.fo p q k h)
  ·exact .inr (hy.fi q h.2)
theorem znj(h:ic tk fol D e1 f1 l1 M)(rL:∀p q,D p->(fol' p q↔fol p q\/(l1 p/\f1 q))):ic tk fol' D True f1 l1 M.star:=
 ⟨h.fi,h.la,λp q hp hq=>((rL p q hp).1 hq).elim (h.fo p q hp) (λk=>h.fi q k.2),h.dm,Iff.rfl,h.fs,h.ls,λp q hp=>(rL p q hp).trans (or_congr (h.fl p q hp) (and_congr (h.ls p) (h.fs q))),h.EL⟩
end
def xL(f:Nat->PA)(c n:Nat):Nat->PA
 |0=>.RB true
 |j+1=>((f (n+j*c)).seq (xL f c n j)).uO
def vB(f:Nat->PA)(c:Nat)(y:PA)(s:Nat):Nat->PA
 |0=>y
 |k+1=>(f (s+k*c)).seq (vB f c y s k)
def ez:Pt->Nat
 |.set _=>1
 |.seq l r=>ez l+ez r
 |.aQ l r=>ez l+ez r
 |.aw b mn mx=>if mx=-1 then (1+mn.toNat)*ez b else ((mx-mn).toNat+mn.toNat)*ez b
 |.aT b _=>ez b
def bY:Pt->Nat->PA
 |.set f,n=>.one f n
 |.seq l r,n=>(bY l n).seq (bY r (n+ez l))
 |.aQ l r,n=>(bY l n).aQ (bY r (n+ez l))
 |.aw b mn mx,n=>if mx=-1 then vB (bY b) (ez b) (bY b n).star (n+1*ez b) mn.toNat else vB (bY b) (ez b) (xL (bY b) (ez b) n (mx-mn).toNat) (n+(mx-mn).toNat*ez b) mn.toNat
 |.aT b _,n=>bY b n
theorem IK{f:Nat->PA}{c:Nat}(hf:∀s p,(f s).D p↔s<=p/\p<s+c)(n:Nat):∀j p,(xL f c n j).D p↔n<=p/\p<n+j*c
 |0,p=>⟨False.elim,λh=>by simp at h;omega⟩
 |j+1,p=>by
  show (f (n+j*c)).D p\/(xL f c n j).D p↔_;rw[hf,IK hf n j p,Nat.succ_mul];omega
theorem IJ{f:Nat->PA}{c:Nat}{y:PA}{n s:Nat}(hf:∀s p,(f s).D p↔s<=p/\p<s+c)(hy:∀p,y.D p↔n<=p/\p<s)(hs:n<=s):∀k p,(vB f c y s k).D p↔n<=p/\p<s+k*c
 |0,p=>by rw[Nat.zero_mul,wH];exact hy p
 |k+1,p=>by
  show (f (s+k*c)).D p\/(vB f c y s k).D p↔_;rw[hf,IJ hf hy hs k p,Nat.succ_mul];omega
theorem lN:∀(p:Pt) (n q:Nat),(bY p n).D q↔n<=q/\q<n+ez p
 |.set f,n,q=>by show q=n↔n<=q/\q<n+1;omega
 |.seq l r,n,q=>by
  show (bY l n).D q\/(bY r (n+ez l)).D q↔n<=q/\q<n+(ez l+ez r);rw[lN l,lN r];omega
 |.aQ l r,n,q=>by
  show (bY l n).D q\/(bY r (n+ez l)).D q↔n<=q/\q<n+(ez l+ez r);rw[lN l,lN r];omega
 |.aw b mn mx,n,q=>by
  by_cases h:mx=-1
  ·rw[bY,aD h,ez,aD h,IJ (n:=n) (lN b) (λp=>?_) (by omega),Nat.add_mul]
   ·omega
   ·show (bY b n).D p↔_;rw[lN b,Nat.one_mul]
  ·rw[bY,aq h,ez,aq h,IJ (n:=n) (lN b) (λp=>IK (lN b) n _ p) (by omega),Nat.add_mul];omega
 |.aT b _,n,q=>lN b n q
theorem zsj(p:Pt)(n q:Nat):(PA.star (bY p n)).D q↔n<=q/\q<n+1*ez p:=by
 rw[Nat.one_mul];exact lN p n q
theorem zke(n:Nat)(p:Pt)(k:Nat):vB (bY p) (ez p) (PA.star (bY p n)) (n+1*ez p) k=bY (.aw p (k:Int) (-1)) n:=by
 rw[bY,aD rfl,sx]
theorem zkf(n:Nat)(p:Pt)(k j:Nat):vB (bY p) (ez p) (xL (bY p) (ez p) n j) (n+j*ez p) k=bY (.aw p (k:Int) ((k+j:Nat):Int)) n:=by
 rw[bY,aq (by omega),sx,show (((k+j:Nat):Int)-k).toNat=j from by omega]
theorem zrS{n a b:Nat}{D:Nat->Prop}(h1:∀p,(n<=p/\p<a)↔D p)(h2:∀p,D p↔n<=p/\p<b)(ha:n<=a)(hb:n<=b):a=b:=by
 rcases Bn a b with h|h|h
 ·have:=((h1 a).trans (h2 a)).2 ⟨ha,h⟩;omega
 ·exact h
 ·have:=((h1 b).trans (h2 b)).1 ⟨hb,h⟩;omega
end
variable {B nw g ga gl n bt n' k o ha hl:Nat}{b c:Bool}{w W W1 W2:zc}{S D E:Nat -> Prop}{T A L mk fr mk' fr' A' L':Nat -> Nat}{f f':Nat -> Nat -> Bool}{F F':Nat -> Nat -> Nat}{M N:PA}{sv fv v:ze}{cs:Array ze}
open Go.RowKit
structure Kp(B:Nat)(w W:zc):Prop where
 os:W.os=w.os
 tape:W.tape=w.tape
 output:W.output=w.output
 size:w.heap.size<=W.heap.size
 low:∀k,k<B->W.heap[k]?=w.heap[k]?
 eV:∀(k:Nat) (cs:Array ze) (t:TypeId),w.heap[k]?=za (zf cs t (0,0))->t≠268->t≠295->t≠193->W.heap[k]?=za (zf cs t (0,0))
theorem Kp.trans{a b c:zc}(h:Kp B a b)(k:Kp B b c):Kp B a c:=
 ⟨k.os.trans h.os,k.tape.trans h.tape,k.output.trans h.output,aU h.size k.size,λi hi=>(k.low i hi).trans (h.low i hi),λi cs t e h1 h2 h3=>k.eV i cs t (h.eV i cs t e h1 h2 h3) h1 h2 h3⟩
theorem Kp.cH(hB:B<=w.heap.size)(h:Below w.heap.size w W):Kp B w W:=
 ⟨h.os,h.tape,h.output,h.size,λk hk=>h.block k (by omega),λk cs t e _ _ _=>(h.block k (ap.1 e).1).trans e⟩
theorem Kp.zy5(t:aE S w W)(hB:B<=w.heap.size)(hS:∀k,k<w.heap.size->S k->B<=k/\∃cs t,w.heap[k]?=za (zf cs t (0,0))/\(t=268\/t=295\/t=193)):Kp B w W:=
 ⟨t.os,t.tape,t.output,t.size,λk hk=>t.same k (by omega) (λhs=>by have:=(hS k (by omega) hs).1;omega),λk cs u e h1 h2 h3=>by
  have hlt:=(ap.1 e).1;refine(t.same k hlt (λhs=>?_)).trans e;obtain⟨-,gj,u',e',hu⟩:=hS k hlt hs;rw[e]at e';have:=bP e';subst this;rcases hu with hu|hu|hu
  ·exact h1 hu
  ·exact h2 hu
  ·exact h3 hu⟩
theorem Kp.kF(h:Kp B w W1)(hB:B<=w.heap.size)(t:aE S W1 W2)(hS:∀k,k<w.heap.size->S k->W2.heap[k]?=W1.heap[k]?):Kp B w W2:=by
 have same:∀k,k<w.heap.size->W2.heap[k]?=W1.heap[k]?:=λk hk=>by
  by_cases hs:S k
  ·exact hS k hk hs
  ·exact t.same k (bA hk h.size) hs
 exact⟨t.os.trans h.os,t.tape.trans h.tape,t.output.trans h.output,aU h.size t.size,λk hk=>(same k (by omega)).trans (h.low k hk),λk cs t e h1 h2 h3=>(same k (ap.1 e).1).trans (h.eV k cs t e h1 h2 h3)⟩
theorem Kp.pos(h:Kp B w W)(hp:aH w nw g T):aH W nw g T:=⟨h.eV _ _ _ hp.row (by decide) (by decide) (by decide),hp.lt⟩
theorem Kp.ZA(h:Kp B w W)(hp:mI w nw ga gl A L):mI W nw ga gl A L:=⟨h.pos hp.fi,h.pos hp.la,hp.ne⟩
theorem Kp.K1(h:Kp B w W):bR w W:=λ_ _ e=>h.eV _ _ _ e (by decide) (by decide) (by decide)
def HH(f:Nat->Nat->Bool)(p:Nat)(c:UInt8):Prop:=f p c.toNat=true
def xT(F:Nat->Nat->Nat)(p q:Nat):Prop:=ax (F p) q=true
def pd(T:Nat->Nat)(p:Nat):Prop:=ax T p=true
structure fK(B:Nat)(w:zc)(n nw bt:Nat)(mk:Nat->Nat)(f:Nat->Nat->Bool)(fr:Nat->Nat)(F:Nat->Nat->Nat)(W:zc)(n' ga gl:Nat)(b:Bool)(M:PA)(sv fv:ze)(mk':Nat->Nat)(f':Nat->Nat->Bool)(fr':Nat->Nat)(F':Nat->Nat->Nat)(A L:Nat->Nat):Prop where
 tk:jp B W n' nw bt sv fv mk' f' fr' F'
 fg:mI W nw ga gl A L
 le:n<=n'
 na:w.heap.size<=ga
 nl:w.heap.size<=gl
 ea:∀p,p<n'->fr' p≠ga
 el:∀p,p<n'->fr' p≠gl
 old:∀p,p<n->mk' p=mk p/\f' p=f p/\fr' p=fr p/\F' p=F p
 new:∀p,n<=p->p<n'->w.heap.size<=fr' p
 iV:ic (HH f') (xT F') (λp=>n<=p/\p<n') (b=true) (pd A) (pd L) M
 kp:Kp B w W
 hB:B<=w.heap.size
theorem fK.DN
  (h:fK B w n nw bt mk f fr F W n' ga gl b M sv fv mk' f' fr' F' A L) (hM:∀q,M.D q↔n<=q/\q<k) (hk:n<=k):n'=k:=zrS h.iV.dm hM h.le hk
theorem fK.start{w0:zc}
  (h:fK B w n nw bt mk f fr F W n' ga gl b M sv fv mk' f' fr' F' A L) (hb:Below w0.heap.size w0 w) (hB:B<=w0.heap.size):fK B w0 n nw bt mk f fr F W n' ga gl b M sv fv mk' f' fr' F' A L:=
 have hs:=hb.size
 ⟨h.tk,h.fg,h.le,by have:=h.na;omega,by have:=h.nl;omega,h.ea,h.el,h.old,λp h1 h2=>by have:=h.new p h1 h2;omega,h.iV,(Kp.cH hB hb).trans h.kp,hB⟩
theorem fK.below
  (h:fK B w n nw bt mk f fr F W n' ga gl b M sv fv mk' f' fr' F' A L) (hb:Below W.heap.size W W2):fK B w n nw bt mk f fr F W2 n' ga gl b M sv fv mk' f' fr' F' A L:=
 ⟨h.tk.below hb,h.fg.below hb,h.le,h.na,h.nl,h.ea,h.el,h.old,h.new,h.iV,h.kp.trans (Kp.cH (aU h.hB h.kp.size) hb),h.hB⟩
theorem jp.rU{b:Nat}(h:jp B w n nw bt sv fv mk f fr F)(hb:w.heap[b]?=za (zf cs 226 (0,0)))(h0:b≠0):jp B (w.setCell ⟨b,o,zb⟩ v) n nw bt sv fv mk f fr F:=by
 have hk:∀(k:Nat) (a:Array ze) (u:TypeId),w.heap[k]?=za (zf a u (0,0))->u≠226->(w.setCell ⟨b,o,zb⟩ v).heap[k]?=za (zf a u (0,0)):=λk a u hk hne=>
  ((jf w b o v).block k (ap.1 hk).1 (λe=>by cases e;rw[hb]at hk;exact hne (bP hk).symm)).trans hk
 exact⟨hk _ _ _ h.box (by decide),lg h.so λk cs e=>hk k cs _ e (by decide),lg h.fo λk cs e=>hk k cs _ e (by decide),⟨λp hp=>⟨hk _ _ _ (h.fol.rows p hp).row (by decide),(h.fol.rows p hp).lt⟩,h.fol.inj⟩,λp hp=>hk _ _ _ (h.pS p hp) (by decide),h.kC,h.gY,h.dR.keep ((jf w b o v).block 0 (qa h.dR) (λe=>h0 (by cases e;rfl))),h.bb,h.b0⟩
theorem aH.rU{b:Nat}(h:aH w nw g T)(hb:w.heap[b]?=za (zf cs 226 (0,0))):aH (w.setCell ⟨b,o,zb⟩ v) nw g T:=
 h.put (λe=>by subst e;have:=h.row;rw[hb]at this;exact absurd (bP this) (by decide))
theorem fK.rU
  (h:fK B w n nw bt mk f fr F W n' ga gl b M sv fv mk' f' fr' F' A L) (hb:W.heap[k]?=za (zf cs 226 (0,0))) (h0:w.heap.size<=k) (h1:0<w.heap.size):fK B w n nw bt mk f fr F (W.setCell ⟨k,o,zb⟩ v) n' ga gl b M sv fv mk' f' fr' F' A L:=
 ⟨h.tk.rU hb (by omega),⟨h.fg.fi.rU hb,h.fg.la.rU hb,h.fg.ne⟩,h.le,h.na,h.nl,h.ea,h.el,h.old,h.new,h.iV,h.kp.kF h.hB ((aE.refl (λj=>j=k) W).grown (jf W k o v) (λg e=>by cases e;exact .inl rfl)) (λj hj e=>by omega),h.hB⟩
structure yA(B:Nat)(w:zc)(n nw bt:Nat)(mk:Nat->Nat)(f:Nat->Nat->Bool)(fr:Nat->Nat)(F:Nat->Nat->Nat)(W:zc)(n' ga gl ha hl:Nat)(b c:Bool)(D E:Nat->Prop)(M N:PA)(sv fv:ze)(mk':Nat->Nat)(f':Nat->Nat->Bool)(fr':Nat->Nat)(F':Nat->Nat->Nat)(A L A' L':Nat->Nat):Prop where
 tk:jp B W n' nw bt sv fv mk' f' fr' F'
 x:mI W nw ga gl A L
 y:mI W nw ha hl A' L'
 le:n<=n'
 na:w.heap.size<=ga
 nl:w.heap.size<=gl
 ma:w.heap.size<=ha
 ml:w.heap.size<=hl
 aa:ga≠ha
 al:ga≠hl
 la:gl≠ha
 ll:gl≠hl
 e1:∀p,p<n'->fr' p≠ga
 e2:∀p,p<n'->fr' p≠gl
 e3:∀p,p<n'->fr' p≠ha
 e4:∀p,p<n'->fr' p≠hl
 old:∀p,p<n->mk' p=mk p/\f' p=f p/\fr' p=fr p/\F' p=F p
 new:∀p,n<=p->p<n'->w.heap.size<=fr' p
 gx:ic (HH f') (xT F') D (b=true) (pd A) (pd L) M
 gy:ic (HH f') (xT F') E (c=true) (pd A') (pd L') N
 dj:∀p,D p->¬E p
 un:∀p,D p\/E p↔n<=p/\p<n'
 kp:Kp B w W
 hB:B<=w.heap.size
theorem yA.swap
  (h:yA B w n nw bt mk f fr F W n' ga gl ha hl b c D E M N sv fv mk' f' fr' F' A L A' L'):yA B w n nw bt mk f fr F W n' ha hl ga gl c b E D N M sv fv mk' f' fr' F' A' L' A L:=
 ⟨h.tk,h.y,h.x,h.le,h.ma,h.ml,h.na,h.nl,h.aa.symm,h.la.symm,h.al.symm,h.ll.symm,h.e3,h.e4,h.e1,h.e2,h.old,h.new,h.gy,h.gx,λp a b=>h.dj p b a,λp=>(Or.comm).trans (h.un p),h.kp,h.hB⟩
theorem fK.pair{YV:zc}{n1 n2:Nat}{CT oR:ze}{mk1 Le:Nat->Nat}{f1 f2:Nat->Nat->Bool}{RE Gk:Nat->Nat}{F1 F2:Nat->Nat->Nat}
  (h:fK B w n nw bt mk f fr F W1 n1 ga gl b M sv fv mk1 f1 RE F1 A L) (hb:Below W1.heap.size W1 YV) (k:fK B YV n1 nw bt mk1 f1 RE F1 W2 n2 ha hl c N CT oR Le f2 Gk F2 A' L'):
  yA B w n nw bt mk f fr F W2 n2 ga gl ha hl b c (λp=>n<=p/\p<n1) (λp=>n1<=p/\p<n2) M N CT oR Le f2 Gk F2 A L A' L':=by
 have s1:=h.kp.size;have s2:=hb.size;have OE:=h.fg.fi.cj;have OG:=h.fg.la.cj;have q1:=h.na;have q2:=h.nl;have q3:=k.na;have q4:=k.nl;have l1:=h.le;have l2:=k.le;have eT:∀p,p<n2->∀g,g<W1.heap.size->(∀p,p<n1->RE p≠g)->Gk p≠g:=λp hp g hg h1 e=>by
  by_cases jw:p<n1
  ·rw[(k.old p jw).2.2.1]at e;exact h1 p jw e
  ·have:=k.new p (by omega) hp;omega
 refine⟨k.tk,k.kp.ZA (h.fg.below hb),k.fg,by omega,q1,q2,by omega,by omega,by omega,by omega,by omega,by omega,λp hp=>eT p hp ga OE h.ea,λp hp=>eT p hp gl OG h.el,k.ea,k.el,λp hp=>?_,λp h1 h2=>?_,?_,k.iV,λp a b=>by omega,λp=>by omega,h.kp.trans ((Kp.cH (by have:=h.hB;omega) hb).trans k.kp),h.hB⟩
 ·obtain⟨a1,a2,a3,a4⟩:=h.old p hp;obtain⟨b1,b2,b3,b4⟩:=k.old p (by omega);exact⟨b1.trans a1,b2.trans a2,b3.trans a3,b4.trans a4⟩
 ·by_cases jw:p<n1
  ·rw[(k.old p jw).2.2.1];exact h.new p h1 jw
  ·have:=k.new p (by omega) h2;omega
 ·refine(h.iV.congr (fol':=xT F2) λp q hp=>?_).tk λp c hp=>?_
  ·unfold xT;rw[(k.old p hp.2).2.2.2]
  ·unfold HH;rw[(k.old p hp.2).2.1]
theorem PT(T U:Nat->Nat)(p:Nat):pd (eD T U) p↔pd T p\/pd U p:=by unfold pd;rw[Iy,sw]
theorem yA.aQ
  (h:yA B w n nw bt mk f fr F W n' ga gl ha hl b c D E M N sv fv mk' f' fr' F' A L A' L') (hf:mI W2 nw ga gl (eD A A') (eD L L')) (t:aE (λk=>k=ga\/k=gl) W W2):
  fK B w n nw bt mk f fr F W2 n' ga gl (b || c) (PA.aQ M N) sv fv mk' f' fr' F' (eD A A') (eD L L'):=by
 have q1:=h.na;have q2:=h.nl;refine⟨h.tk.turn t (λk _ e=>?_) ⟨λp hp=>(h.tk.fol.rows p hp).kF t (λe=>?_),h.tk.fol.inj⟩,hf,h.le,h.na,h.nl,h.e1,h.e2,h.old,h.new,?_,h.kp.kF h.hB t (λk hk e=>by omega),h.hB⟩
 ·rcases e with rfl|rfl
  ·exact⟨_,_,h.x.fi⟩
  ·exact⟨_,_,h.x.la⟩
 ·rcases e with e|e
  ·exact h.e1 p hp e
  ·exact h.e2 p hp e
 ·exact(zoV h.gx h.gy h.dj).dom h.un (by simp) (λp=>(PT _ _ _).symm) (λp=>(PT _ _ _).symm)
theorem zp6(F:Nat->Nat->Nat)(L A:Nat->Nat)(p q:Nat):xT (λp=>if ax L p=true then eD (F p) A else F p) p q↔xT F p q\/(pd L p/\pd A q):=by
 show ax (if ax L p=true then eD (F p) A else F p) q=true↔ax (F p) q=true\/(ax L p=true/\ax A q=true)
 by_cases e:ax L p=true
 ·rw[aD e,Iy,sw];simp[e]
 ·rw[aq e];simp[e]
theorem yA.seq{e:Ending}
  (h:yA B w n nw bt mk f fr F W n' ga gl ha hl b c D E M N sv fv mk' f' fr' F' A L A' L')
  (hs:Xj W n' nw bt sv fv fr' (λp=>if ax L p=true then eD (F' p) A' else F' p) ga hl (b&&c) (if b=true then eD A A' else A) (if c=true then eD L' L else L') e W2):
  fK B w n nw bt mk f fr F W2 n' ga hl (b&&c) (PA.seq M N) sv fv mk' f' fr' (λp=>if ax L p=true then eD (F' p) A' else F' p) (if b=true then eD A A' else A) (if c=true then eD L' L else L'):=by
 obtain⟨-,hf,fL,t⟩:=hs;have q1:=h.na;have q2:=h.ml;have hL:∀p,ax L p=true->n<=p/\p<n':=λp hp=>(h.un p).1 (.inl (h.gx.la p hp))
 have hold:∀p,p<n->(if ax L p=true then eD (F' p) A' else F' p)=F' p:=λp hp=>by
  rw[aq (λe=>by have:=hL p e;omega)]
 refine⟨h.tk.turn t (λk _ e=>?_) fL.fol,hf,h.le,h.na,h.ml,h.e1,h.e4,λp hp=>?_,h.new,?_,h.kp.kF h.hB t (λk hk e=>?_),h.hB⟩
 ·rcases e with rfl|rfl|⟨p,hp,rfl⟩
  ·exact⟨_,_,h.x.fi⟩
  ·exact⟨_,_,h.y.la⟩
  ·exact⟨_,_,h.tk.fol.rows p hp⟩
 ·obtain⟨a1,a2,a3,a4⟩:=h.old p hp;exact⟨a1,a2,a3,(hold p hp).trans a4⟩
 ·refine(zoX (fol':=xT (λp=>if ax L p=true then eD (F' p) A' else F' p)) (f:=pd (if b=true then eD A A' else A)) (l:=pd (if c=true then eD L' L else L')) h.gx h.gy h.dj (λp q _=>?_) (λp=>?_) (λp=>?_)).dom h.un (by simp) (λ_=>Iff.rfl) (λ_=>Iff.rfl)
  ·exact zp6 F' L A' p q
  ·cases b
   ·simp
   ·rw[aD rfl,PT];simp
  ·cases c
   ·simp
   ·rw[aD rfl,PT];simp
 ·rcases e with e|e|⟨p,hp,e⟩
  ·omega
  ·omega
  ·have jw:p<n:=by
    rcases gh p n with h1|h1
    ·exact h1
    ·have:=h.new p h1 hp;omega
   have r1:=(h.tk.fol.rows p hp).row;have r2:=(fL.fol.rows p hp).row;rw[hold p jw]at r2;rw[e,r1,r2]
theorem fK.words
  (h:fK B w n nw bt mk f fr F W n' ga gl b M sv fv mk' f' fr' F' A L) (hl:M=N):fK B w n nw bt mk f fr F W n' ga gl b N sv fv mk' f' fr' F' A L:=
 ⟨h.tk,h.fg,h.le,h.na,h.nl,h.ea,h.el,h.old,h.new,h.iV.words hl,h.kp,h.hB⟩
theorem fK.uO
  (h:fK B w n nw bt mk f fr F W n' ga gl b M sv fv mk' f' fr' F' A L):fK B w n nw bt mk f fr F W n' ga gl true (PA.uO M) sv fv mk' f' fr' F' A L:=
 ⟨h.tk,h.fg,h.le,h.na,h.nl,h.ea,h.el,h.old,h.new,h.iV.uO.dom (λ_=>Iff.rfl) (by simp) (λ_=>Iff.rfl) (λ_=>Iff.rfl),h.kp,h.hB⟩
theorem fK.star
  (h:fK B w n nw bt mk f fr F W n' ga gl b M sv fv mk' f' fr' F' A L) (fL:nL W2 n' nw bt sv fv fr' (λp=>if ax L p=true then eD (F' p) A else F' p)) (t:aE (λk=>∃p,p<n'/\k=fr' p) W W2):
  fK B w n nw bt mk f fr F W2 n' ga gl true (PA.star M) sv fv mk' f' fr' (λp=>if ax L p=true then eD (F' p) A else F' p) A L:=by
 have hL:∀p,ax L p=true->n<=p/\p<n':=λp hp=>h.iV.la p hp
 have hold:∀p,p<n->(if ax L p=true then eD (F' p) A else F' p)=F' p:=λp hp=>by
  rw[aq (λe=>by have:=hL p e;omega)]
 refine⟨h.tk.turn t (λk _ ⟨p,hp,e⟩=>⟨_,_,e ▸ h.tk.fol.rows p hp⟩) fL.fol,⟨h.fg.fi.kF t (λ⟨p,hp,e⟩=>h.ea p hp e.symm),h.fg.la.kF t (λ⟨p,hp,e⟩=>h.el p hp e.symm),h.fg.ne⟩,h.le,h.na,h.nl,h.ea,h.el,λp hp=>?_,h.new,?_,h.kp.kF h.hB t (λk hk ⟨p,hp,e⟩=>?_),h.hB⟩
 ·obtain⟨a1,a2,a3,a4⟩:=h.old p hp;exact⟨a1,a2,a3,(hold p hp).trans a4⟩
 ·exact(znj (fol':=xT (λp=>if ax L p=true then eD (F' p) A else F' p)) h.iV (λp q _=>zp6 F' L A p q)).dom (λ_=>Iff.rfl) (by simp) (λ_=>Iff.rfl) (λ_=>Iff.rfl)
 ·have jw:p<n:=by
   rcases gh p n with h1|h1
   ·exact h1
   ·have:=h.new p h1 hp;omega
  have r1:=(h.tk.fol.rows p hp).row;have r2:=(fL.fol.rows p hp).row;rw[hold p jw]at r2;rw[e,r1,r2]
theorem zqx(p:Nat):pd cK p↔False:=by unfold pd;rw[Ba];simp
theorem fK.bare(h:jp B w n nw bt sv fv mk f fr F){ga gl:Nat}(b:Bool)(na:w.heap.size<=ga)(nl:w.heap.size<=gl)(hf:mI W nw ga gl cK cK)(hb:Below w.heap.size w W):
  fK B w n nw bt mk f fr F W n ga gl b (PA.RB b) sv fv mk f fr F cK cK:=by
 have jN:bt<w.heap.size:=(ap.1 h.box).1;have hB:B<=w.heap.size:=by have:=h.bb;omega
 have mQ:∀p,p<n->fr p<w.heap.size:=λp hp=>(h.fol.rows p hp).cj
 exact⟨h.below hb,hf,ai _,na,nl,λp hp=>by have:=mQ p hp;omega,λp hp=>by have:=mQ p hp;omega,λ_ _=>⟨rfl,rfl,rfl,rfl⟩,λp h1 h2=>by omega,(zni (HH f) (xT F) b).dom (λp=>⟨False.elim,λk=>by omega⟩) Iff.rfl (λp=>(zqx p).symm) (λp=>(zqx p).symm),Kp.cH hB hb,hB⟩
def zT(B:Nat)(w:zc)(n nw bt:Nat)(mk:Nat->Nat)(f:Nat->Nat->Bool)(fr:Nat->Nat)(F:Nat->Nat->Nat)(k:Nat)(M:PA)(e:Ending)(W:zc):Prop:=
 ∃(n' ga gl:Nat) (b:Bool) (sv fv:ze) (mk':Nat->Nat) (f':Nat->Nat->Bool) (fr':Nat->Nat) (F':Nat->Nat->Nat) (A L:Nat->Nat),e=.returned (.agg #[.bool b,zd (za ⟨ga,0,zb⟩) nw nw,zd (za ⟨gl,0,zb⟩) nw nw])/\n'<=n+k/\fK B w n nw bt mk f fr F W n' ga gl b M sv fv mk' f' fr' F' A L
theorem fK.ret{m:Nat}
  (h:fK B w n nw bt mk f fr F W n' ga gl b M sv fv mk' f' fr' F' A L) (hb:W.heap[k]?=za (zf cs 226 (0,0))) (h0:w.heap.size<=k) (h1:0<w.heap.size) (hm:n'<=n+m):
  zT B w n nw bt mk f fr F m M (.returned (.agg #[.bool b,zd (za ⟨ga,0,zb⟩) nw nw,zd (za ⟨gl,0,zb⟩) nw nw])) (((W.setCell ⟨k,0,zb⟩ (.bool b)).setCell ⟨k,1,zb⟩ (zd (za ⟨ga,0,zb⟩) nw nw)).setCell ⟨k,2,zb⟩ (zd (za ⟨gl,0,zb⟩) nw nw)):=by
 have r1:=dF _ _ 0 _ _ (.bool b) hb;have r2:=dF _ _ 1 _ _ (zd (za ⟨ga,0,zb⟩) nw nw) r1;exact⟨n',ga,gl,b,sv,fv,mk',f',fr',F',A,L,rfl,hm,((h.rU hb h0 h1).rU r1 h0 h1).rU r2 h0 h1⟩
end Go.Proofs.YtdimhpfiieepiaaGreatDoor
