import Derived.Test.YtdimhpfiieepiaaGreatDoorC27
import Derived.Lib.ConvBytes
namespace Go.Proofs.YtdimhpfiieepiaaGreatDoor
set_option maxHeartbeats 1000000
set_option maxRecDepth 100000
section
open Go.RowKit
attribute [local go_sem ↓] Go.wp_at_zero Go.wp_at_succ
theorem Tryz.infoByteC:(Tryz.prog.info? 5).map (fun i=>(i.zero,i.size,i.bytes))=some (some (.int .u8 0),1,1):=by kernel_rfl
def kbV(l:List UInt8):List Value:=l.map fun b=>Value.int .u8 b.toNat
theorem zrE(l:List UInt8)(b:UInt8):kbV (l++[b])=kbV l++[.int .u8 b.toNat]:=by simp[kbV]
theorem zsJ(nw g cap:Nat)(T:Nat->Nat)(w:World)(hT:zar w nw g T)(hnw:nw<=1000):
  Calls Tryz.prog 194 #[.slice (some ⟨g,0,none⟩) nw cap] w fun e w'=>e=.returned (.string (keyB nw T))/\Below w.heap.size w w':=by
 obtain⟨iB,hjB,hyB0,hyB1,hyB2⟩:=info_parts Tryz.infoByteC;have hi8:(nw:Int)<=1000:=by omega
 go_enter Tryz.func194,Tryz.ntmps194
 go_wp2_with (refine wpList_make_own _ rfl _ _ 140 rfl w.heap.size 5 iB _ 1 Tryz.underlying140 hjB hyB0 hyB1 _ _ _ (8*nw) rfl rfl (by omega) (by rw[hyB2];omega) (by unfold maxLen;omega) (zvJ _) ?_;intro w1 hown1 hgrow1)
 have hb1:Below w.heap.size w w1:=(Below.refl _ _).grown hgrow1 (zvJ _) (by intro k h;cases h);clear hgrow1
 go_loopw [3,13] (fun s i wr=>∃(k g9 c9 nl:Nat),k<=nw/\i=.int .i64 k/\s=.slice (some ⟨g9,0,none⟩) nl c9/\Hid (nl=8*k)/\Below w.heap.size w wr/\wr.ownsRow w.heap.size 5 1 (.slice (some ⟨g9,0,none⟩) nl c9) nl (kbV (keyU T k)))
  (fun _ i _=>nw-(intOf i).toNat)
 case atStart=>exact⟨0,_,_,0,zvT _,rfl,rfl,rfl,hb1,hown1⟩
 case round=>
  clear hb1 hown1;obtain⟨k,g9,c9,nl,hk,rfl,rfl,Hnl,hb,hown⟩:=hrel
  by_cases hlt:k<nw
  ·have c0:=(hT.below hb).cell hlt;have hx:=hT.lt k;have Hks:Hid (keyU T (k+1)=keyU T k++wdU (T k) 8):=ze5 T k;have hi0:(0:Int)<=(k:Int):=by omega
   have hi1:(k:Int)<(nw:Int):=by omega
   generalize T k=a at *;go_wp2;clear c0
   go_loopw [3,6] (fun s sh wr=>∃(m g9 c9 nl:Nat),m<=8/\sh=.int .i64 ((8*m:Nat):Int)/\s=.slice (some ⟨g9,0,none⟩) nl c9/\Hid (nl=8*k+m)/\Below w.heap.size w wr/\wr.ownsRow w.heap.size 5 1 (.slice (some ⟨g9,0,none⟩) nl c9) nl (kbV (keyU T k++wdU a m)))
    (fun _ sh _=>64-(intOf sh).toNat)
   case atStart=>exact⟨0,_,_,nl,by omega,rfl,rfl,by have:=Hnl.out;show _=_;omega,hb,by simpa [wdU] using hown⟩
   case round=>
    clear hb hown;obtain⟨m,g8,c8,nl2,hm,rfl,rfl,Hn2,hb,hown⟩:=hrel
    by_cases hm8:m<8
    ·have hi2:((8*m:Nat):Int)<64:=by omega
     have hnl:nl2<=8000:=by have:=Hn2.out;omega
     obtain⟨s8,Hs8⟩:∃s8,Hid (8*m=s8):=⟨_,rfl⟩;rw[Hs8.out] at hi2 ⊢;have HV:Hid ((a:Int)/2 ^ s8%256=((UInt8.ofNat (a/2 ^ (8*m))).toNat:Int)):=by
      show _=_;rw[UInt8.toNat_ofNat',Hs8.out,Int.natCast_emod,Int.natCast_ediv,Int.natCast_pow]
      rfl
     go_wp2_with (at_builtin;refine zau wr rfl (.tmp 21) (.tmp 26) 140 rfl w.heap.size 5 iB _ 1 Tryz.underlying140 hjB hyB0 hyB1 hyB2 rfl g8 c8 nl2 (kbV (keyU T k++wdU a m)) (.int .u8 ((a:Int)/2 ^ s8%256)) rfl hown rfl rfl (by omega) (by omega) hb.size ?_;intro g' cap' w5 hown5 hgrow5 hat)
     go_roundw
     case rel=>
      refine⟨m+1,g',cap',nl2+1,by omega,?_,rfl,by have:=Hn2.out;show _=_;omega,hb.grown hgrow5 hb.size (by intro q hq;cases hq;exact(zbu hown).1),?_⟩
      ·rw[show ((8*(m+1):Nat):Int)=(s8:Int)+8 by have:=Hs8.out;omega]
      ·rw[HV.out] at hown5;rw[zjE,<-zuR,zrE];exact hown5
     case measure=>simp[intOf];omega
    ·have hmm:m=8:=by omega
     subst hmm;go_wp2
     go_roundw
     case rel=>exact⟨k+1,g8,c8,nl2,by omega,by go_num,rfl,by have:=Hn2.out;show _=_;omega,hb,by rw[Hks.out];exact hown⟩
     case measure=>simp[intOf];omega
  ·have hkk:k=nw:=by omega
   subst hkk;have hcv:=run_convert_bytes_back (P:=Tryz.prog) wr 140 9 5 ⟨g9,0,none⟩ c9 (keyU T k) Tryz.underlying140 Tryz.underlying5 Tryz.underlying9 (fun j hj=>by
    have e:(⟨g9,0,none⟩:Addr).add j=⟨g9,j,none⟩:=by unfold Addr.add;split<;>simp_all
    rw[e,hown.cellAt j (by have:=Hnl.out;rw[zgr] at hj;omega)];simp[kbV,hj])
   rw[zgr,<-Hnl.out] at hcv;have hck:keyB k T=⟨(keyU T k).toArray⟩:=rfl;rw[<-hck] at hcv;clear hck;go_wp2;go_ret;exact⟨rfl,hb⟩
end
section
variable{tk:Nat -> UInt8 -> Prop}{fol:Nat -> Nat -> Prop}{first last:Nat -> Prop}{c:UInt8}{u:Word}{e:Prop}
theorem ztF{p:Nat}:Run tk fol first [c] p↔first p/\tk p c:=by
 constructor
 ·intro h;generalize hu:[c]=u at h;cases h with
  |one d _ a b=>cases hu;exact⟨a,b⟩
  |snoc v d q _ hr a b=>
   have hl:=congrArg List.length hu;simp at hl;subst hl;exact absurd rfl hr.ne
 ·rintro ⟨a,b⟩;exact .one c p a b
theorem zso{q:Nat}(hu:u≠[]):Run tk fol first (u++[c]) q↔∃p,Run tk fol first u p/\fol p q/\tk q c:=by
 constructor
 ·intro h;generalize hw:u++[c]=w at h;cases h with
  |one d _ a b=>
   have hl:=congrArg List.length hw;simp at hl;exact absurd hl hu
  |snoc v d p _ hr a b=>
   obtain⟨e1,e2⟩:=List.append_inj' hw rfl;cases e2;subst e1;exact⟨p,hr,a,b⟩
 ·rintro ⟨p,hr,a,b⟩;exact .snoc u c p q hr a b
theorem zq5(hu:u≠[]):Acc tk fol e first last u↔∃p,Run tk fol first u p/\last p:=
 ⟨fun h=>h.elim (fun k=>absurd k.1 hu) id,.inr⟩
theorem zsV:Acc tk fol e first last []↔e:=
 ⟨fun h=>h.elim (fun k=>k.2) (fun⟨_,hr,_⟩=>absurd rfl hr.ne),fun h=>.inl ⟨rfl,h⟩⟩
end
section
structure PA where
 D:Nat->Prop
 e:Prop
 first:Nat->Prop
 last:Nat->Prop
 fol:Nat->Nat->Prop
 tk:Nat->UInt8->Prop
def PA.eps(b:Bool):PA:=⟨fun _=>False,b=true,fun _=>False,fun _=>False,fun _ _=>False,fun _ _=>False⟩
def PA.one(f:Nat->Bool)(n:Nat):PA:=⟨(· = n),False,(· = n),(· = n),fun _ _=>False,fun p c=>p=n/\f c.toNat=true⟩
def PA.alt(x y:PA):PA:=⟨fun p=>x.D p\/y.D p,x.e\/y.e,fun p=>x.first p\/y.first p,fun p=>x.last p\/y.last p,fun p q=>(x.D p/\x.fol p q)\/(y.D p/\y.fol p q),fun p c=>(x.D p/\x.tk p c)\/(y.D p/\y.tk p c)⟩
def PA.seq(x y:PA):PA:=⟨fun p=>x.D p\/y.D p,x.e/\y.e,fun p=>x.first p\/(x.e/\y.first p),fun p=>y.last p\/(y.e/\x.last p),fun p q=>((x.D p/\x.fol p q)\/(y.D p/\y.fol p q))\/(x.last p/\y.first q),fun p c=>(x.D p/\x.tk p c)\/(y.D p/\y.tk p c)⟩
def PA.star(x:PA):PA:=⟨x.D,True,x.first,x.last,fun p q=>x.fol p q\/(x.last p/\x.first q),x.tk⟩
def PA.opt(x:PA):PA:={x with e:=True}
structure zbU(tk:Nat->UInt8->Prop)(fol:Nat->Nat->Prop)(D:Nat->Prop)(e:Prop)(first last:Nat->Prop)(M:PA):Prop where
 fi:∀p,first p->D p
 la:∀p,last p->D p
 fo:∀p q,D p->fol p q->D q
 dm:∀p,D p↔M.D p
 em:e↔M.e
 fs:∀p,first p↔M.first p
 ls:∀p,last p↔M.last p
 fl:∀p q,D p->(fol p q↔M.fol p q)
 tks:∀p c,D p->(tk p c↔M.tk p c)
section
variable {tk:Nat->UInt8->Prop} {fol:Nat->Nat->Prop} {D:Nat->Prop} {e:Prop} {first last:Nat->Prop} {M:PA}
theorem zbU.congr{fol':Nat->Nat->Prop}(h:zbU tk fol D e first last M)(he:∀p q,D p->(fol' p q↔fol p q)):zbU tk fol' D e first last M:=
 ⟨h.fi,h.la,fun p q hp hq=>h.fo p q hp ((he p q hp).1 hq),h.dm,h.em,h.fs,h.ls,fun p q hp=>(he p q hp).trans (h.fl p q hp),h.tks⟩
theorem zbU.words{N:PA}(h:zbU tk fol D e first last M)(hl:M=N):zbU tk fol D e first last N:=hl ▸ h
theorem zbU.opt(h:zbU tk fol D e first last M):zbU tk fol D True first last M.opt:=⟨h.fi,h.la,h.fo,h.dm,Iff.rfl,h.fs,h.ls,h.fl,h.tks⟩
theorem zbU.dom{D':Nat->Prop}{e':Prop}{first' last':Nat->Prop}(h:zbU tk fol D e first last M)(hd:∀p,D p↔D' p)(he:e↔e')(h1:∀p,first p↔first' p)(h2:∀p,last p↔last' p):zbU tk fol D' e' first' last' M:=by
 obtain rfl:D=D':=funext fun p=>propext (hd p)
 obtain rfl:e=e':=propext he;obtain rfl:first=first':=funext fun p=>propext (h1 p)
 obtain rfl:last=last':=funext fun p=>propext (h2 p)
 exact h
theorem znN(tk:Nat->UInt8->Prop)(fol:Nat->Nat->Prop)(b:Bool):zbU tk fol (fun _=>False) (b=true) (fun _=>False) (fun _=>False) (.eps b):=
 ⟨fun _ h=>h,fun _ h=>h,fun _ _ h=>h.elim,fun _=>Iff.rfl,Iff.rfl,fun _=>Iff.rfl,fun _=>Iff.rfl,fun _ _ h=>h.elim,fun _ _ h=>h.elim⟩
theorem zps{f:Nat->Bool}{n:Nat}(ht:∀c,tk n c↔f c.toNat=true)(hf:∀q,¬fol n q):zbU tk fol (· = n) False (· = n) (· = n) (.one f n):=
 ⟨fun _ h=>h,fun _ h=>h,fun p q hp hq=>absurd hq (hp ▸ hf q),fun _=>Iff.rfl,Iff.rfl,fun _=>Iff.rfl,fun _=>Iff.rfl,fun p q hp=>⟨fun h=>absurd h (hp ▸ hf q),False.elim⟩,fun p c hp=>by
  subst hp;exact(ht c).trans ⟨fun h=>⟨rfl,h⟩,fun h=>h.2⟩⟩
end
theorem zbU.tk{tk tk':Nat->UInt8->Prop}{fol:Nat->Nat->Prop}{D:Nat->Prop}{e:Prop}{first last:Nat->Prop}{M:PA}(h:zbU tk fol D e first last M)(he:∀p c,D p->(tk' p c↔tk p c)):zbU tk' fol D e first last M:=
 ⟨h.fi,h.la,h.fo,h.dm,h.em,h.fs,h.ls,h.fl,fun p c hp=>(he p c hp).trans (h.tks p c hp)⟩
section
variable {tk:Nat->UInt8->Prop} {fol fol':Nat->Nat->Prop} {D E:Nat->Prop} {e1 e2:Prop} {f1 l1 f2 l2:Nat->Prop} {M N:PA}
theorem zsQ(hx:zbU tk fol D e1 f1 l1 M)(hy:zbU tk fol E e2 f2 l2 N)(dj:∀p,D p->¬E p)(p q:Nat)(hp:D p\/E p):fol p q↔(M.D p/\M.fol p q)\/(N.D p/\N.fol p q):=by
 rcases hp with hp|hp
 ·rw[hx.fl p q hp];exact⟨fun h=>.inl ⟨(hx.dm p).1 hp,h⟩,fun h=>h.elim (fun k=>k.2) (fun k=>absurd ((hy.dm p).2 k.1) (dj p hp))⟩
 ·rw[hy.fl p q hp];exact⟨fun h=>.inr ⟨(hy.dm p).1 hp,h⟩,fun h=>h.elim (fun k=>absurd hp (dj p ((hx.dm p).2 k.1))) (fun k=>k.2)⟩
theorem zqP(hx:zbU tk fol D e1 f1 l1 M)(hy:zbU tk fol E e2 f2 l2 N)(dj:∀p,D p->¬E p)(p:Nat)(c:UInt8)(hp:D p\/E p):tk p c↔(M.D p/\M.tk p c)\/(N.D p/\N.tk p c):=by
 rcases hp with hp|hp
 ·rw[hx.tks p c hp];exact⟨fun h=>.inl ⟨(hx.dm p).1 hp,h⟩,fun h=>h.elim (fun k=>k.2) (fun k=>absurd ((hy.dm p).2 k.1) (dj p hp))⟩
 ·rw[hy.tks p c hp];exact⟨fun h=>.inr ⟨(hy.dm p).1 hp,h⟩,fun h=>h.elim (fun k=>absurd hp (dj p ((hx.dm p).2 k.1))) (fun k=>k.2)⟩
theorem zpr(hx:zbU tk fol D e1 f1 l1 M)(hy:zbU tk fol E e2 f2 l2 N)(dj:∀p,D p->¬E p):zbU tk fol (fun p=>D p\/E p) (e1\/e2) (fun p=>f1 p\/f2 p) (fun p=>l1 p\/l2 p) (M.alt N):=
 ⟨fun p h=>h.imp (hx.fi p) (hy.fi p),fun p h=>h.imp (hx.la p) (hy.la p),fun p q hp hq=>hp.imp (fun h=>hx.fo p q h hq) (fun h=>hy.fo p q h hq),fun p=>or_congr (hx.dm p) (hy.dm p),or_congr hx.em hy.em,fun p=>or_congr (hx.fs p) (hy.fs p),fun p=>or_congr (hx.ls p) (hy.ls p),zsQ hx hy dj,zqP hx hy dj⟩
theorem zpt{f l:Nat->Prop}(hx:zbU tk fol D e1 f1 l1 M)(hy:zbU tk fol E e2 f2 l2 N)(dj:∀p,D p->¬E p)
  (hfo:∀p q,D p\/E p->(fol' p q↔fol p q\/(l1 p/\f2 q))) (hf:∀p,f p↔f1 p\/(e1/\f2 p)) (hl:∀p,l p↔l2 p\/(e2/\l1 p)):zbU tk fol' (fun p=>D p\/E p) (e1/\e2) f l (M.seq N):=by
 refine⟨fun p h=>?_,fun p h=>?_,fun p q hp hq=>?_,fun p=>or_congr (hx.dm p) (hy.dm p),and_congr hx.em hy.em,fun p=>(hf p).trans (or_congr (hx.fs p) (and_congr hx.em (hy.fs p))),fun p=>(hl p).trans (or_congr (hy.ls p) (and_congr hy.em (hx.ls p))),fun p q hp=>(hfo p q hp).trans (or_congr (zsQ hx hy dj p q hp) (and_congr (hx.ls p) (hy.fs q))),zqP hx hy dj⟩
 ·rcases(hf p).1 h with h|h
  ·exact .inl (hx.fi p h)
  ·exact .inr (hy.fi p h.2)
 ·rcases(hl p).1 h with h|h
  ·exact .inr (hy.la p h)
  ·exact .inl (hx.la p h.2)
 ·rcases(hfo p q hp).1 hq with h|h
  ·exact hp.imp (fun k=>hx.fo p q k h) (fun k=>hy.fo p q k h)
  ·exact .inr (hy.fi q h.2)
theorem znO(h:zbU tk fol D e1 f1 l1 M)(hfo:∀p q,D p->(fol' p q↔fol p q\/(l1 p/\f1 q))):zbU tk fol' D True f1 l1 M.star:=
 ⟨h.fi,h.la,fun p q hp hq=>((hfo p q hp).1 hq).elim (h.fo p q hp) (fun k=>h.fi q k.2),h.dm,Iff.rfl,h.fs,h.ls,fun p q hp=>(hfo p q hp).trans (or_congr (h.fl p q hp) (and_congr (h.ls p) (h.fs q))),h.tks⟩
end
def upD(f:Nat->PA)(c n:Nat):Nat->PA
 |0=>.eps true
 |j+1=>((f (n+j*c)).seq (upD f c n j)).opt
def ahD(f:Nat->PA)(c:Nat)(y:PA)(s:Nat):Nat->PA
 |0=>y
 |k+1=>(f (s+k*c)).seq (ahD f c y s k)
def cntP:Pt->Nat
 |.set _=>1
 |.seq l r=>cntP l+cntP r
 |.alt l r=>cntP l+cntP r
 |.rep b mn mx=>if mx=-1 then (1+mn.toNat)*cntP b else ((mx-mn).toNat+mn.toNat)*cntP b
 |.grp b _=>cntP b
def unD:Pt->Nat->PA
 |.set f,n=>.one f n
 |.seq l r,n=>(unD l n).seq (unD r (n+cntP l))
 |.alt l r,n=>(unD l n).alt (unD r (n+cntP l))
 |.rep b mn mx,n=>if mx=-1 then ahD (unD b) (cntP b) (unD b n).star (n+1*cntP b) mn.toNat else ahD (unD b) (cntP b) (upD (unD b) (cntP b) n (mx-mn).toNat) (n+(mx-mn).toNat*cntP b) mn.toNat
 |.grp b _,n=>unD b n
theorem zoD{f:Nat->PA}{c:Nat}(hf:∀s p,(f s).D p↔s<=p/\p<s+c)(n:Nat):∀j p,(upD f c n j).D p↔n<=p/\p<n+j*c
 |0,p=>⟨False.elim,fun h=>by simp at h;omega⟩
 |j+1,p=>by
  show (f (n+j*c)).D p\/(upD f c n j).D p↔_;rw[hf,zoD hf n j p,Nat.succ_mul];omega
theorem znp{f:Nat->PA}{c:Nat}{y:PA}{n s:Nat}(hf:∀s p,(f s).D p↔s<=p/\p<s+c)(hy:∀p,y.D p↔n<=p/\p<s)(hs:n<=s):∀k p,(ahD f c y s k).D p↔n<=p/\p<s+k*c
 |0,p=>by rw[Nat.zero_mul,zvH];exact hy p
 |k+1,p=>by
  show (f (s+k*c)).D p\/(ahD f c y s k).D p↔_;rw[hf,znp hf hy hs k p,Nat.succ_mul];omega
theorem zde:∀(p:Pt) (n q:Nat),(unD p n).D q↔n<=q/\q<n+cntP p
 |.set f,n,q=>by show q=n↔n<=q/\q<n+1;omega
 |.seq l r,n,q=>by
  show (unD l n).D q\/(unD r (n+cntP l)).D q↔n<=q/\q<n+(cntP l+cntP r);rw[zde l,zde r];omega
 |.alt l r,n,q=>by
  show (unD l n).D q\/(unD r (n+cntP l)).D q↔n<=q/\q<n+(cntP l+cntP r);rw[zde l,zde r];omega
 |.rep b mn mx,n,q=>by
  by_cases h:mx=-1
  ·rw[unD,zv3 h,cntP,zv3 h,znp (n:=n) (zde b) (fun p=>?_) (by omega),Nat.add_mul]
   ·omega
   ·show (unD b n).D p↔_;rw[zde b,Nat.one_mul]
  ·rw[unD,zv2 h,cntP,zv2 h,znp (n:=n) (zde b) (fun p=>zoD (zde b) n _ p) (by omega),Nat.add_mul];omega
 |.grp b _,n,q=>zde b n q
theorem zsO(p:Pt)(n q:Nat):(PA.star (unD p n)).D q↔n<=q/\q<n+1*cntP p:=by
 rw[Nat.one_mul];exact zde p n q
theorem zkx(n:Nat)(p:Pt)(k:Nat):ahD (unD p) (cntP p) (PA.star (unD p n)) (n+1*cntP p) k=unD (.rep p (k:Int) (-1)) n:=by
 rw[unD,zv3 rfl,zuO]
theorem zky(n:Nat)(p:Pt)(k j:Nat):ahD (unD p) (cntP p) (upD (unD p) (cntP p) n j) (n+j*cntP p) k=unD (.rep p (k:Int) ((k+j:Nat):Int)) n:=by
 rw[unD,zv2 (by omega),zuO,show (((k+j:Nat):Int)-k).toNat=j from by omega]
theorem zsp{n a b:Nat}{D:Nat->Prop}(h1:∀p,(n<=p/\p<a)↔D p)(h2:∀p,D p↔n<=p/\p<b)(ha:n<=a)(hb:n<=b):a=b:=by
 rcases zvN a b with h|h|h
 ·have:=((h1 a).trans (h2 a)).2 ⟨ha,h⟩;omega
 ·exact h
 ·have:=((h1 b).trans (h2 b)).1 ⟨hb,h⟩;omega
end
variable{B nw g ga gl n bt n' k o ha hl:Nat}{b c:Bool}{w W W1 W2:World}{S D E:Nat -> Prop}{T A L mk fr mk' fr' A' L':Nat -> Nat}{f f':Nat -> Nat -> Bool}{F F':Nat -> Nat -> Nat}{M N:PA}{sv fv v:Value}{cs:Array Value}
open Go.RowKit
structure Kp(B:Nat)(w W:World):Prop where
 os:W.os=w.os
 tape:W.tape=w.tape
 output:W.output=w.output
 size:w.heap.size<=W.heap.size
 low:∀k,k<B->W.heap[k]?=w.heap[k]?
 typ:∀(k:Nat) (cs:Array Value) (t:TypeId),w.heap[k]?=some (.cells cs t (0,0))->t≠268->t≠295->t≠193->W.heap[k]?=some (.cells cs t (0,0))
theorem Kp.trans{a b c:World}(h:Kp B a b)(k:Kp B b c):Kp B a c:=
 ⟨k.os.trans h.os,k.tape.trans h.tape,k.output.trans h.output,zvK h.size k.size,fun i hi=>(k.low i hi).trans (h.low i hi),fun i cs t e h1 h2 h3=>k.typ i cs t (h.typ i cs t e h1 h2 h3) h1 h2 h3⟩
theorem Kp.of_below(hB:B<=w.heap.size)(h:Below w.heap.size w W):Kp B w W:=
 ⟨h.os,h.tape,h.output,h.size,fun k hk=>h.block k (by omega),fun k cs t e _ _ _=>(h.block k (zuH.1 e).1).trans e⟩
theorem Kp.of_touch(t:zam S w W)(hB:B<=w.heap.size)(hS:∀k,k<w.heap.size->S k->B<=k/\∃cs t,w.heap[k]?=some (.cells cs t (0,0))/\(t=268\/t=295\/t=193)):Kp B w W:=
 ⟨t.os,t.tape,t.output,t.size,fun k hk=>t.same k (by omega) (fun hs=>by have:=(hS k (by omega) hs).1;omega),fun k cs u e h1 h2 h3=>by
  have hlt:=(zuH.1 e).1;refine(t.same k hlt (fun hs=>?_)).trans e;obtain⟨-,cs',u',e',hu⟩:=hS k hlt hs;rw[e] at e';have:=zad e';subst this;rcases hu with hu|hu|hu
  ·exact h1 hu
  ·exact h2 hu
  ·exact h3 hu⟩
theorem Kp.touch(h:Kp B w W1)(hB:B<=w.heap.size)(t:zam S W1 W2)(hS:∀k,k<w.heap.size->S k->W2.heap[k]?=W1.heap[k]?):Kp B w W2:=by
 have same:∀k,k<w.heap.size->W2.heap[k]?=W1.heap[k]?:=fun k hk=>by
  by_cases hs:S k
  ·exact hS k hk hs
  ·exact t.same k (zvL hk h.size) hs
 exact⟨t.os.trans h.os,t.tape.trans h.tape,t.output.trans h.output,zvK h.size t.size,fun k hk=>(same k (by omega)).trans (h.low k hk),fun k cs t e h1 h2 h3=>(same k (zuH.1 e).1).trans (h.typ k cs t e h1 h2 h3)⟩
theorem Kp.pos(h:Kp B w W)(hp:zar w nw g T):zar W nw g T:=⟨h.typ _ _ _ hp.row (by decide) (by decide) (by decide),hp.lt⟩
theorem Kp.frag(h:Kp B w W)(hp:FrAt w nw ga gl A L):FrAt W nw ga gl A L:=⟨h.pos hp.fi,h.pos hp.la,hp.ne⟩
theorem Kp.keepM(h:Kp B w W):zaT w W:=fun _ _ e=>h.typ _ _ _ e (by decide) (by decide) (by decide)
def tkOf(f:Nat->Nat->Bool)(p:Nat)(c:UInt8):Prop:=f p c.toNat=true
def zgM(F:Nat->Nat->Nat)(p q:Nat):Prop:=zai (F p) q=true
def inT(T:Nat->Nat)(p:Nat):Prop:=zai T p=true
structure WrD(B:Nat)(w:World)(n nw bt:Nat)(mk:Nat->Nat)(f:Nat->Nat->Bool)(fr:Nat->Nat)(F:Nat->Nat->Nat)(W:World)(n' ga gl:Nat)(b:Bool)(M:PA)(sv fv:Value)(mk':Nat->Nat)(f':Nat->Nat->Bool)(fr':Nat->Nat)(F':Nat->Nat->Nat)(A L:Nat->Nat):Prop where
 tk:Trk B W n' nw bt sv fv mk' f' fr' F'
 fg:FrAt W nw ga gl A L
 le:n<=n'
 na:w.heap.size<=ga
 nl:w.heap.size<=gl
 ea:∀p,p<n'->fr' p≠ga
 el:∀p,p<n'->fr' p≠gl
 old:∀p,p<n->mk' p=mk p/\f' p=f p/\fr' p=fr p/\F' p=F p
 new:∀p,n<=p->p<n'->w.heap.size<=fr' p
 good:zbU (tkOf f') (zgM F') (fun p=>n<=p/\p<n') (b=true) (inT A) (inT L) M
 kp:Kp B w W
 hB:B<=w.heap.size
theorem WrD.cnt
  (h:WrD B w n nw bt mk f fr F W n' ga gl b M sv fv mk' f' fr' F' A L) (hM:∀q,M.D q↔n<=q/\q<k) (hk:n<=k):n'=k:=zsp h.good.dm hM h.le hk
theorem WrD.start{w0:World}
  (h:WrD B w n nw bt mk f fr F W n' ga gl b M sv fv mk' f' fr' F' A L) (hb:Below w0.heap.size w0 w) (hB:B<=w0.heap.size):WrD B w0 n nw bt mk f fr F W n' ga gl b M sv fv mk' f' fr' F' A L:=
 have hs:=hb.size
 ⟨h.tk,h.fg,h.le,by have:=h.na;omega,by have:=h.nl;omega,h.ea,h.el,h.old,fun p h1 h2=>by have:=h.new p h1 h2;omega,h.good,(Kp.of_below hB hb).trans h.kp,hB⟩
theorem WrD.below
  (h:WrD B w n nw bt mk f fr F W n' ga gl b M sv fv mk' f' fr' F' A L) (hb:Below W.heap.size W W2):WrD B w n nw bt mk f fr F W2 n' ga gl b M sv fv mk' f' fr' F' A L:=
 ⟨h.tk.below hb,h.fg.below hb,h.le,h.na,h.nl,h.ea,h.el,h.old,h.new,h.good,h.kp.trans (Kp.of_below (zvK h.hB h.kp.size) hb),h.hB⟩
theorem Trk.putF{b:Nat}(h:Trk B w n nw bt sv fv mk f fr F)(hb:w.heap[b]?=some (.cells cs 226 (0,0)))(h0:b≠0):Trk B (w.setCell ⟨b,o,none⟩ v) n nw bt sv fv mk f fr F:=by
 have hk:∀(k:Nat) (a:Array Value) (u:TypeId),w.heap[k]?=some (.cells a u (0,0))->u≠226->(w.setCell ⟨b,o,none⟩ v).heap[k]?=some (.cells a u (0,0)):=fun k a u hk hne=>
  ((zaK w b o v).block k (zuH.1 hk).1 (fun e=>by cases e;rw[hb] at hk;exact hne (zad hk).symm)).trans hk
 exact⟨hk _ _ _ h.box (by decide),zaw h.so fun k cs e=>hk k cs _ e (by decide),zaw h.fo fun k cs e=>hk k cs _ e (by decide),⟨fun p hp=>⟨hk _ _ _ (h.fol.rows p hp).row (by decide),(h.fol.rows p hp).lt⟩,h.fol.inj⟩,fun p hp=>hk _ _ _ (h.mks p hp) (by decide),h.n64,h.nwl,h.bru.keep ((zaK w b o v).block 0 (zbK h.bru) (fun e=>h0 (by cases e;rfl))),h.bb,h.b0⟩
theorem zar.putF{b:Nat}(h:zar w nw g T)(hb:w.heap[b]?=some (.cells cs 226 (0,0))):zar (w.setCell ⟨b,o,none⟩ v) nw g T:=
 h.put (fun e=>by subst e;have:=h.row;rw[hb] at this;exact absurd (zad this) (by decide))
theorem WrD.putF
  (h:WrD B w n nw bt mk f fr F W n' ga gl b M sv fv mk' f' fr' F' A L) (hb:W.heap[k]?=some (.cells cs 226 (0,0))) (h0:w.heap.size<=k) (h1:0<w.heap.size):WrD B w n nw bt mk f fr F (W.setCell ⟨k,o,none⟩ v) n' ga gl b M sv fv mk' f' fr' F' A L:=
 ⟨h.tk.putF hb (by omega),⟨h.fg.fi.putF hb,h.fg.la.putF hb,h.fg.ne⟩,h.le,h.na,h.nl,h.ea,h.el,h.old,h.new,h.good,h.kp.touch h.hB ((zam.refl (fun j=>j=k) W).grown (zaK W k o v) (fun g e=>by cases e;exact .inl rfl)) (fun j hj e=>by omega),h.hB⟩
structure Pair(B:Nat)(w:World)(n nw bt:Nat)(mk:Nat->Nat)(f:Nat->Nat->Bool)(fr:Nat->Nat)(F:Nat->Nat->Nat)(W:World)(n' ga gl ha hl:Nat)(b c:Bool)(D E:Nat->Prop)(M N:PA)(sv fv:Value)(mk':Nat->Nat)(f':Nat->Nat->Bool)(fr':Nat->Nat)(F':Nat->Nat->Nat)(A L A' L':Nat->Nat):Prop where
 tk:Trk B W n' nw bt sv fv mk' f' fr' F'
 x:FrAt W nw ga gl A L
 y:FrAt W nw ha hl A' L'
 le:n<=n'
 na:w.heap.size<=ga
 nl:w.heap.size<=gl
 ma:w.heap.size<=ha
 ml:w.heap.size<=hl
 aa:ga≠ha
 al:ga≠hl
 la:gl≠ha
 ll:gl≠hl
 e1:∀p,p<n'->fr' p≠ga
 e2:∀p,p<n'->fr' p≠gl
 e3:∀p,p<n'->fr' p≠ha
 e4:∀p,p<n'->fr' p≠hl
 old:∀p,p<n->mk' p=mk p/\f' p=f p/\fr' p=fr p/\F' p=F p
 new:∀p,n<=p->p<n'->w.heap.size<=fr' p
 gx:zbU (tkOf f') (zgM F') D (b=true) (inT A) (inT L) M
 gy:zbU (tkOf f') (zgM F') E (c=true) (inT A') (inT L') N
 dj:∀p,D p->¬E p
 un:∀p,D p\/E p↔n<=p/\p<n'
 kp:Kp B w W
 hB:B<=w.heap.size
theorem Pair.swap
  (h:Pair B w n nw bt mk f fr F W n' ga gl ha hl b c D E M N sv fv mk' f' fr' F' A L A' L'):Pair B w n nw bt mk f fr F W n' ha hl ga gl c b E D N M sv fv mk' f' fr' F' A' L' A L:=
 ⟨h.tk,h.y,h.x,h.le,h.ma,h.ml,h.na,h.nl,h.aa.symm,h.la.symm,h.al.symm,h.ll.symm,h.e3,h.e4,h.e1,h.e2,h.old,h.new,h.gy,h.gx,fun p a b=>h.dj p b a,fun p=>(Or.comm).trans (h.un p),h.kp,h.hB⟩
theorem WrD.pair{W1':World}{n1 n2:Nat}{sv2 fv2:Value}{mk1 mk2:Nat->Nat}{f1 f2:Nat->Nat->Bool}{fr1 fr2:Nat->Nat}{F1 F2:Nat->Nat->Nat}
  (h:WrD B w n nw bt mk f fr F W1 n1 ga gl b M sv fv mk1 f1 fr1 F1 A L) (hb:Below W1.heap.size W1 W1') (k:WrD B W1' n1 nw bt mk1 f1 fr1 F1 W2 n2 ha hl c N sv2 fv2 mk2 f2 fr2 F2 A' L'):
  Pair B w n nw bt mk f fr F W2 n2 ga gl ha hl b c (fun p=>n<=p/\p<n1) (fun p=>n1<=p/\p<n2) M N sv2 fv2 mk2 f2 fr2 F2 A L A' L':=by
 have s1:=h.kp.size;have s2:=hb.size;have lga:=h.fg.fi.glt;have lgl:=h.fg.la.glt;have q1:=h.na;have q2:=h.nl;have q3:=k.na;have q4:=k.nl;have l1:=h.le;have l2:=k.le;have hfr:∀p,p<n2->∀g,g<W1.heap.size->(∀p,p<n1->fr1 p≠g)->fr2 p≠g:=fun p hp g hg h1 e=>by
  by_cases hpn:p<n1
  ·rw[(k.old p hpn).2.2.1] at e;exact h1 p hpn e
  ·have:=k.new p (by omega) hp;omega
 refine⟨k.tk,k.kp.frag (h.fg.below hb),k.fg,by omega,q1,q2,by omega,by omega,by omega,by omega,by omega,by omega,fun p hp=>hfr p hp ga lga h.ea,fun p hp=>hfr p hp gl lgl h.el,k.ea,k.el,fun p hp=>?_,fun p h1 h2=>?_,?_,k.good,fun p a b=>by omega,fun p=>by omega,h.kp.trans ((Kp.of_below (by have:=h.hB;omega) hb).trans k.kp),h.hB⟩
 ·obtain⟨a1,a2,a3,a4⟩:=h.old p hp;obtain⟨b1,b2,b3,b4⟩:=k.old p (by omega);exact⟨b1.trans a1,b2.trans a2,b3.trans a3,b4.trans a4⟩
 ·by_cases hpn:p<n1
  ·rw[(k.old p hpn).2.2.1];exact h.new p h1 hpn
  ·have:=k.new p (by omega) h2;omega
 ·refine(h.good.congr (fol':=zgM F2) fun p q hp=>?_).tk fun p c hp=>?_
  ·unfold zgM;rw[(k.old p hp.2).2.2.2]
  ·unfold tkOf;rw[(k.old p hp.2).2.1]
theorem zmY(T U:Nat->Nat)(p:Nat):inT (orT T U) p↔inT T p\/inT U p:=by unfold inT;rw[zfO,zuM]
theorem Pair.alt
  (h:Pair B w n nw bt mk f fr F W n' ga gl ha hl b c D E M N sv fv mk' f' fr' F' A L A' L') (hf:FrAt W2 nw ga gl (orT A A') (orT L L')) (t:zam (fun k=>k=ga\/k=gl) W W2):
  WrD B w n nw bt mk f fr F W2 n' ga gl (b || c) (PA.alt M N) sv fv mk' f' fr' F' (orT A A') (orT L L'):=by
 have q1:=h.na;have q2:=h.nl;refine⟨h.tk.turn t (fun k _ e=>?_) ⟨fun p hp=>(h.tk.fol.rows p hp).touch t (fun e=>?_),h.tk.fol.inj⟩,hf,h.le,h.na,h.nl,h.e1,h.e2,h.old,h.new,?_,h.kp.touch h.hB t (fun k hk e=>by omega),h.hB⟩
 ·rcases e with rfl|rfl
  ·exact⟨_,_,h.x.fi⟩
  ·exact⟨_,_,h.x.la⟩
 ·rcases e with e|e
  ·exact h.e1 p hp e
  ·exact h.e2 p hp e
 ·exact(zpr h.gx h.gy h.dj).dom h.un (by simp) (fun p=>(zmY _ _ _).symm) (fun p=>(zmY _ _ _).symm)
theorem zqB(F:Nat->Nat->Nat)(L A:Nat->Nat)(p q:Nat):zgM (fun p=>if zai L p=true then orT (F p) A else F p) p q↔zgM F p q\/(inT L p/\inT A q):=by
 show zai (if zai L p=true then orT (F p) A else F p) q=true↔zai (F p) q=true\/(zai L p=true/\zai A q=true)
 by_cases e:zai L p=true
 ·rw[zv3 e,zfO,zuM];simp[e]
 ·rw[zv2 e];simp[e]
theorem Pair.seq{e:Ending}
  (h:Pair B w n nw bt mk f fr F W n' ga gl ha hl b c D E M N sv fv mk' f' fr' F' A L A' L')
  (hs:zsU W n' nw bt sv fv fr' (fun p=>if zai L p=true then orT (F' p) A' else F' p) ga hl (b&&c) (if b=true then orT A A' else A) (if c=true then orT L' L else L') e W2):
  WrD B w n nw bt mk f fr F W2 n' ga hl (b&&c) (PA.seq M N) sv fv mk' f' fr' (fun p=>if zai L p=true then orT (F' p) A' else F' p) (if b=true then orT A A' else A) (if c=true then orT L' L else L'):=by
 obtain⟨-,hf,htk,t⟩:=hs;have q1:=h.na;have q2:=h.ml;have hL:∀p,zai L p=true->n<=p/\p<n':=fun p hp=>(h.un p).1 (.inl (h.gx.la p hp))
 have hold:∀p,p<n->(if zai L p=true then orT (F' p) A' else F' p)=F' p:=fun p hp=>by
  rw[zv2 (fun e=>by have:=hL p e;omega)]
 refine⟨h.tk.turn t (fun k _ e=>?_) htk.fol,hf,h.le,h.na,h.ml,h.e1,h.e4,fun p hp=>?_,h.new,?_,h.kp.touch h.hB t (fun k hk e=>?_),h.hB⟩
 ·rcases e with rfl|rfl|⟨p,hp,rfl⟩
  ·exact⟨_,_,h.x.fi⟩
  ·exact⟨_,_,h.y.la⟩
  ·exact⟨_,_,h.tk.fol.rows p hp⟩
 ·obtain⟨a1,a2,a3,a4⟩:=h.old p hp;exact⟨a1,a2,a3,(hold p hp).trans a4⟩
 ·refine(zpt (fol':=zgM (fun p=>if zai L p=true then orT (F' p) A' else F' p)) (f:=inT (if b=true then orT A A' else A)) (l:=inT (if c=true then orT L' L else L')) h.gx h.gy h.dj (fun p q _=>?_) (fun p=>?_) (fun p=>?_)).dom h.un (by simp) (fun _=>Iff.rfl) (fun _=>Iff.rfl)
  ·exact zqB F' L A' p q
  ·cases b
   ·simp
   ·rw[zv3 rfl,zmY];simp
  ·cases c
   ·simp
   ·rw[zv3 rfl,zmY];simp
 ·rcases e with e|e|⟨p,hp,e⟩
  ·omega
  ·omega
  ·have hpn:p<n:=by
    rcases zvM p n with h1|h1
    ·exact h1
    ·have:=h.new p h1 hp;omega
   have r1:=(h.tk.fol.rows p hp).row;have r2:=(htk.fol.rows p hp).row;rw[hold p hpn] at r2;rw[e,r1,r2]
theorem WrD.words
  (h:WrD B w n nw bt mk f fr F W n' ga gl b M sv fv mk' f' fr' F' A L) (hl:M=N):WrD B w n nw bt mk f fr F W n' ga gl b N sv fv mk' f' fr' F' A L:=
 ⟨h.tk,h.fg,h.le,h.na,h.nl,h.ea,h.el,h.old,h.new,h.good.words hl,h.kp,h.hB⟩
theorem WrD.opt
  (h:WrD B w n nw bt mk f fr F W n' ga gl b M sv fv mk' f' fr' F' A L):WrD B w n nw bt mk f fr F W n' ga gl true (PA.opt M) sv fv mk' f' fr' F' A L:=
 ⟨h.tk,h.fg,h.le,h.na,h.nl,h.ea,h.el,h.old,h.new,h.good.opt.dom (fun _=>Iff.rfl) (by simp) (fun _=>Iff.rfl) (fun _=>Iff.rfl),h.kp,h.hB⟩
theorem WrD.star
  (h:WrD B w n nw bt mk f fr F W n' ga gl b M sv fv mk' f' fr' F' A L) (htk:TrkL W2 n' nw bt sv fv fr' (fun p=>if zai L p=true then orT (F' p) A else F' p)) (t:zam (fun k=>∃p,p<n'/\k=fr' p) W W2):
  WrD B w n nw bt mk f fr F W2 n' ga gl true (PA.star M) sv fv mk' f' fr' (fun p=>if zai L p=true then orT (F' p) A else F' p) A L:=by
 have hL:∀p,zai L p=true->n<=p/\p<n':=fun p hp=>h.good.la p hp
 have hold:∀p,p<n->(if zai L p=true then orT (F' p) A else F' p)=F' p:=fun p hp=>by
  rw[zv2 (fun e=>by have:=hL p e;omega)]
 refine⟨h.tk.turn t (fun k _ ⟨p,hp,e⟩=>⟨_,_,e ▸ h.tk.fol.rows p hp⟩) htk.fol,⟨h.fg.fi.touch t (fun⟨p,hp,e⟩=>h.ea p hp e.symm),h.fg.la.touch t (fun⟨p,hp,e⟩=>h.el p hp e.symm),h.fg.ne⟩,h.le,h.na,h.nl,h.ea,h.el,fun p hp=>?_,h.new,?_,h.kp.touch h.hB t (fun k hk ⟨p,hp,e⟩=>?_),h.hB⟩
 ·obtain⟨a1,a2,a3,a4⟩:=h.old p hp;exact⟨a1,a2,a3,(hold p hp).trans a4⟩
 ·exact(znO (fol':=zgM (fun p=>if zai L p=true then orT (F' p) A else F' p)) h.good (fun p q _=>zqB F' L A p q)).dom (fun _=>Iff.rfl) (by simp) (fun _=>Iff.rfl) (fun _=>Iff.rfl)
 ·have hpn:p<n:=by
   rcases zvM p n with h1|h1
   ·exact h1
   ·have:=h.new p h1 hp;omega
  have r1:=(h.tk.fol.rows p hp).row;have r2:=(htk.fol.rows p hp).row;rw[hold p hpn] at r2;rw[e,r1,r2]
theorem zq2(p:Nat):inT za0 p↔False:=by unfold inT;rw[zcg];simp
theorem WrD.bare(h:Trk B w n nw bt sv fv mk f fr F){ga gl:Nat}(b:Bool)(na:w.heap.size<=ga)(nl:w.heap.size<=gl)(hf:FrAt W nw ga gl za0 za0)(hb:Below w.heap.size w W):
  WrD B w n nw bt mk f fr F W n ga gl b (PA.eps b) sv fv mk f fr F za0 za0:=by
 have hbt:bt<w.heap.size:=(zuH.1 h.box).1;have hB:B<=w.heap.size:=by have:=h.bb;omega
 have hfl:∀p,p<n->fr p<w.heap.size:=fun p hp=>(h.fol.rows p hp).glt
 exact⟨h.below hb,hf,zvJ _,na,nl,fun p hp=>by have:=hfl p hp;omega,fun p hp=>by have:=hfl p hp;omega,fun _ _=>⟨rfl,rfl,rfl,rfl⟩,fun p h1 h2=>by omega,(znN (tkOf f) (zgM F) b).dom (fun p=>⟨False.elim,fun k=>by omega⟩) Iff.rfl (fun p=>(zq2 p).symm) (fun p=>(zq2 p).symm),Kp.of_below hB hb,hB⟩
def WrR(B:Nat)(w:World)(n nw bt:Nat)(mk:Nat->Nat)(f:Nat->Nat->Bool)(fr:Nat->Nat)(F:Nat->Nat->Nat)(k:Nat)(M:PA)(e:Ending)(W:World):Prop:=
 ∃(n' ga gl:Nat) (b:Bool) (sv fv:Value) (mk':Nat->Nat) (f':Nat->Nat->Bool) (fr':Nat->Nat) (F':Nat->Nat->Nat) (A L:Nat->Nat),e=.returned (.agg #[.bool b,.slice (some ⟨ga,0,none⟩) nw nw,.slice (some ⟨gl,0,none⟩) nw nw])/\n'<=n+k/\WrD B w n nw bt mk f fr F W n' ga gl b M sv fv mk' f' fr' F' A L
theorem WrD.ret{m:Nat}
  (h:WrD B w n nw bt mk f fr F W n' ga gl b M sv fv mk' f' fr' F' A L) (hb:W.heap[k]?=some (.cells cs 226 (0,0))) (h0:w.heap.size<=k) (h1:0<w.heap.size) (hm:n'<=n+m):
  WrR B w n nw bt mk f fr F m M (.returned (.agg #[.bool b,.slice (some ⟨ga,0,none⟩) nw nw,.slice (some ⟨gl,0,none⟩) nw nw])) (((W.setCell ⟨k,0,none⟩ (.bool b)).setCell ⟨k,1,none⟩ (.slice (some ⟨ga,0,none⟩) nw nw)).setCell ⟨k,2,none⟩ (.slice (some ⟨gl,0,none⟩) nw nw)):=by
 have r1:=zv1 _ _ 0 _ _ (.bool b) hb;have r2:=zv1 _ _ 1 _ _ (.slice (some ⟨ga,0,none⟩) nw nw) r1;exact⟨n',ga,gl,b,sv,fv,mk',f',fr',F',A,L,rfl,hm,((h.putF hb h0 h1).putF r1 h0 h1).putF r2 h0 h1⟩
end Go.Proofs.YtdimhpfiieepiaaGreatDoor
