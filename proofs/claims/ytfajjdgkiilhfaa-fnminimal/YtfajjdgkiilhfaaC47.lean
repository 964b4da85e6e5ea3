import Derived.Test.YtfajjdgkiilhfaaC34
import Derived.Test.YtfajjdgkiilhfaaC46
namespace Go.Proofs.Ytfajjdgkiilhfaa
open Proofs.Try
open Value renaming int->za,slice->zn,agg->zB
open Option renaming none->zh,some->zi
open Obj renaming cells->zp
open Go renaming World->zw,Value->zy,TypeId->zF
open RowKit renaming Hid->zx,Below->zD
set_option maxHeartbeats 8000000
set_option maxRecDepth 100000
open Go.RowKit
attribute [local go_sem ↓] wp_at_zero wp_at_succ
theorem zek(t:ByteArray)(w:zw){r:dC}{c a:Int}(h:A7 t.data.toList r c a):Calls prog 48 #[.string t] w (Bz w r c a):=by
 have hlen:t.data.toList.length=t.size:=jf;cases h with
 |ZQ h=>exact zhY t w (by omega)
 |lex h hl hc=>exact zjx t w (by omega) hl hc
 |fault h hl hk hj hf=>exact zhx t w (by omega) hl hk hj hf
 |op h hl hf ho=>rw[hlen];exact zkT t w (by omega) hl hf ho
 |opn h hl hf ho hd=>exact zjy t w (by omega) hl hf ho hd
 |Yu h hl hf ho hd hR hw=>exact(zeD t w (by omega) hl hf ho hd hR).mono λe w' h=>h.1 hw
 |C5 h hl hf ho hd hR hw=>exact(zeD t w (by omega) hl hf ho hd hR).mono λe w' h=>h.2 (by omega)
section
variable {r:Int}{c:List UInt8}{a p:Nat}{w w':zw}
noncomputable def wU (t:ByteArray):dC×Int:=((zfF t.data.toList).choose,(zfF t.data.toList).choose_spec.choose)
theorem Mn(t:ByteArray):∃x,A7 t.data.toList (wU t).1 (wU t).2 x:=(zfF t.data.toList).choose_spec.choose_spec
theorem zhi{s:List UInt8}{r:dC}{c a:Int}(h:A7 s r c a):qM r.branches/\Small r.branches:=by
 have hz:qM dC.zero.branches/\Small dC.zero.branches:=⟨λi hi=>absurd hi (dP _),⟨bH _,λi hi=>absurd hi (dP _)⟩⟩;cases h with
 |ZQ _=>exact hz
 |lex _ _ _=>exact hz
 |fault _ _ _ _ _=>exact hz
 |op _ _ _ _=>exact hz
 |opn _ _ _ _ _=>exact hz
 |Yu _ _ _ _ _ _ _=>exact hz
 |C5 h hl _ _ _ hR _=>
  have hk:=Gh s s.length 0 [] (by omega) (by simp) (by simp) (by simp);rw[hl]at hk;exact zrW hR (λx hx=>(hk.1 x hx).1) (cM hk.2.1 h)
noncomputable def zo (c:List UInt8) (room:Int) (a:Nat):dC:=if (wU (jW c room a).1).2=0 then (wU (jW c room a).1).1 else (wU ⟨#[97,124,98]⟩).1
theorem ziI(c:List UInt8)(room:Int)(a:Nat):qM (zo c room a).branches/\Small (zo c room a).branches:=by
 unfold zo;split
 ·obtain⟨x,hx⟩:=Mn (jW c room a).1;exact zhi hx
 ·obtain⟨x,hx⟩:=Mn ⟨#[97,124,98]⟩;exact zhi hx
theorem aJ.same{lo:Nat}(h:aJ p w w')(hl:p<lo):Same lo w w':=⟨h.size,λk hk hs=>h.block k hs (by omega)⟩
theorem aJ.new(h:aJ p w w'){b:Nat}(hb:w.heap.size<=b)(i:Nat)(u:zy):aJ p w (w'.setCell ⟨b,i,zh⟩ u):=
 ⟨h.os,h.tape,h.output,by simpa [World.setCell]using h.size,λk hk hs=>(cS _ _ _ _ (show k≠b by omega)).trans (h.block k hk hs)⟩
theorem a7.set(h:a7 w p c a r){b:Nat}(hb:p<b)(i:Nat)(u:zy):a7 (w.setCell ⟨b,i,zh⟩ u) p c a r:=h.keep λk hk=>cS _ _ _ _ (show k≠b by omega)
theorem a7.below(h:a7 w p c a r)(hb:zD w.heap.size w w'):a7 w' p c a r:=h.keep λk hk=>hb.block k (by have:=h.lt;omega)
theorem zrj{b:Nat}{C:Array zy}{t:zF}(h:w.heap[b]?=zi (zp C t (0,0)))(hk:aJ p w w')(hb:b≠p):w'.heap[b]?=zi (zp C t (0,0)):=(hk.block b (az h) hb).trans h
def ztn(p:Nat)(w:zw)(c:List UInt8)(r:dC)(s:fi)(e:Ending)(w':zw):Prop:=∃v,e=.returned (zB #[v,za .i64 r.jT])/\jd w.heap.size w' v r.branches/\a7 w' p c s.1 s.2/\aJ p w w'
theorem zlw(w:zw)(p:Nat)(c:List UInt8)(a:Nat)(r:Int)(h:a7 w p c a r)(room:Int)(iX:1<=room)(sF:room<=1000):
  Calls prog 47 #[.pointer (zi ⟨p,0,zh⟩),za .i64 room] w (ztn p w c (zo c room a) (jW c room a).2):=by
 have dz:=h.lt;obtain⟨W0,ay⟩:∃W0,w.alloc (zp #[zn zh 0 0,za .i64 0] 89)=W0:=⟨_,rfl⟩;have aG:zD w.heap.size w W0:=by rw[<-ay];exact aC
 have x0:W0.heap[w.heap.size]?=zi (zp #[zn zh 0 0,za .i64 0] 89 (0,0)):=by rw[<-ay];exact aU _ _
 have Za:=zhQ W0 p c a r (h.below aG) room iX sF;obtain⟨x1,FH⟩:=Mn (jW c room a).1;obtain⟨x2,S2⟩:=Mn ⟨#[97,124,98]⟩;have HR:zx (zo c room a=if (wU (jW c room a).1).2=0 then (wU (jW c room a).1).1 else (wU ⟨#[97,124,98]⟩).1):=rfl;obtain⟨tt,sa,sr,hpf⟩:∃t a1 r1,jW c room a=(t,(a1,r1)):=⟨_,_,_,rfl⟩;rw[hpf]at Za FH HR ⊢;obtain⟨r1,c1,zAP⟩:∃r c,wU tt=(r,c):=⟨_,_,rfl⟩;obtain⟨r2,c2,zAQ⟩:∃r c,wU ⟨#[97,124,98]⟩=(r,c):=⟨_,_,rfl⟩;simp only[zAP,zAQ]at FH S2 HR
 go_enter func47,ntmps47
 go_wp2_with fail
 refine Za.mono ?_;rintro e w1 ⟨rfl,eZ,cK,_⟩;have y1:=zrj x0 cK (by omega);have k1:=(aJ.of (p:=p) aG).trans cK
 go_wp2_with fail
 refine(zek tt w1 FH).mono ?_;rintro e w2 ⟨aL,v,rfl,hv⟩;obtain⟨ao,cap,rfl,ZB,O9⟩:=hv;have hv:jd w1.heap.size w2 (.slice ao r1.branches.length cap) r1.branches:=⟨ao,cap,rfl,ZB,O9⟩;have y2:=aY y1 aL;have pg:=az y1;have k2:=k1.trans (.of aL);have fF:=eZ.below aL;obtain⟨W3,sA⟩:∃W3,w2.alloc (zp #[.slice ao r1.branches.length cap,za .i64 r1.jT] 89)=W3:=⟨_,rfl⟩;have cN:zD w2.heap.size w2 W3:=by rw[<-sA];exact aC
 have z3:W3.heap[w2.heap.size]?=zi (zp #[.slice ao r1.branches.length cap,za .i64 r1.jT] 89 (0,0)):=by rw[<-sA];exact aU _ _
 have y3:=aY y2 cN;have k3:=k2.trans (.of cN);have eM:=fF.below cN;have hv3:=hv.below cN;have rB:=aL.size;generalize lP:r1.branches.length=nb at *;have Hnb:zx _:=lP;have Wo:=ah hv3;have Hd3:zx _:=eM;have Hk3:zx _:=k3;obtain⟨q0,q1,f0,f1⟩:=jZ y3;obtain⟨u0,u1,g0,g1⟩:=jZ z3;clear hv hv3 O9 eZ fF eM k1 k2 k3 cK aG x0 y1 Za h lP FH
 by_cases hc:c1=0
 ·subst hc;have HE:zx (zo c room a=r1):=HR.out;clear HR S2;go_wp2;refine bw (v:=zB #[.slice ao nb cap,za .i64 r1.jT]) (by simp[results,results47,go_sem,q0,q1]) rfl ?_;rw[HE.out];refine⟨_,rfl,?_,(Hd3.out.set (by omega) _ _).set (by omega) _ _,(Hk3.out.new (ax _) _ _).new (ax _) _ _⟩;rw[Hnb.out.symm]at Wo ⊢;exact((Wo.out.same (.setCell _ (by exact pg) _)).same (.setCell _ (by exact pg) _)).mono (by omega)
 ·have HE:zx (zo c room a=r2):=HR.out.trans (ab hc);have hc':(c1 != 0)=true:=by simp[hc]
  have zxL:=λW=>zek ⟨#[97,124,98]⟩ W S2
  clear HR S2
  go_wp2_with fail
  refine(zxL _).mono ?_;rintro e w4 ⟨bZ,v4,rfl,I6⟩;obtain⟨Ro,oW,rfl,zA1,zx7⟩:=I6;have CT:=ah (show jd W3.heap.size w4 (.slice Ro r2.branches.length oW) r2.branches from⟨Ro,oW,rfl,zA1,zx7⟩);have Hd4:=ah (Hd3.out.below bZ);have Hk4:=ah (Hk3.out.trans (.of bZ));have y4:=aY y3 bZ;have z4:=aY z3 bZ;have I1:=cN.size;have Jf:=az z3;generalize zxC:r2.branches.length=nb2 at *;have zy6:zx _:=zxC;obtain⟨q0,q1,f0,f1⟩:=jZ y4;obtain⟨u0,u1,g0,g1⟩:=jZ z4;clear zx7 zxC y3 z3 y2 aL bZ cN Wo zxL hc';go_wp2;refine bw (v:=zB #[.slice Ro nb2 oW,za .i64 r2.jT]) (by simp[results,results47,go_sem,q0,q1]) rfl ?_;rw[HE.out];refine⟨_,rfl,?_,(((Hd4.out.set (by omega) _ _).set (by omega) _ _).set (by omega) _ _).set (by omega) _ _,(((Hk4.out.new (by omega) _ _).new (by omega) _ _).new (ax _) _ _).new (ax _) _ _⟩;rw[zy6.out.symm]at CT ⊢;exact((((CT.out.same (.setCell _ (by exact Jf) _)).same (.setCell _ (by exact Jf) _)).same (.setCell _ (show w.heap.size<_ by omega) _)).same (.setCell _ (show w.heap.size<_ by omega) _)).mono (by omega)
end
structure vR where
 ns:List aI
 parts:Nat
 gr:Nat
 a:Nat
def Mw(c:List UInt8)(s:vR):vR:=
 if 2<=s.parts/\(af c 6 s.a).1=1 then ⟨s.ns++[⟨2,[],0,0,0⟩],s.parts-1,s.gr,(af c 6 s.a).2⟩
 else if 2<=s.parts/\(af c 6 s.a).1=2 then ⟨s.ns++[⟨3,[],0,0,0⟩],s.parts-1,s.gr,(af c 6 s.a).2⟩
 else if 1<=s.parts/\(af c 6 s.a).1=3 then ⟨s.ns++[⟨4,[],(af c 3 (af c 6 s.a).2).1,(af c 3 (af c 6 s.a).2).1+(af c 3 (af c 3 (af c 6 s.a).2).2).1,0⟩],s.parts,s.gr,(af c 3 (af c 3 (af c 6 s.a).2).2).2⟩
 else if 1<=s.parts/\(af c 6 s.a).1=4 then ⟨s.ns++[⟨4,[],(af c 2 (af c 6 s.a).2).1,-1,0⟩],s.parts,s.gr,(af c 2 (af c 6 s.a).2).2⟩
 else if 1<=s.parts/\(af c 6 s.a).1=5 then ⟨s.ns++[⟨5,[],0,0,((s.gr+1:Nat):Int)⟩],s.parts,s.gr+1,(af c 6 s.a).2⟩
 else ⟨s.ns++[⟨1,[(97+(af c 3 (af c 6 s.a).2).1,97+(af c 3 (af c 6 s.a).2).1+(af c 2 (af c 3 (af c 6 s.a).2).2).1)],0,0,0⟩],s.parts+1,s.gr,(af c 2 (af c 3 (af c 6 s.a).2).2).2⟩
def pT(c:List UInt8)(a:Nat):Nat->vR
 |0=>⟨[],0,0,a⟩
 |k+1=>Mw c (pT c a k)
def Qm(c:List UInt8)(s:vR):vR:=⟨s.ns++[⟨if (af c 3 s.a).1=2 then 3 else 2,[],0,0,0⟩],s.parts-1,s.gr,(af c 3 s.a).2⟩
def oz(c:List UInt8)(s:vR):Nat->vR
 |0=>s
 |k+1=>Qm c (oz c s k)
def Qt(c:List UInt8)(s:vR):dC×Nat:=
 if (af c 4 (af c 6 (af c 6 s.a).2).2).1=3 then (⟨[⟨decide ((af c 6 s.a).1=5),decide ((af c 6 (af c 6 s.a).2).1=5),s.ns⟩,⟨false,false,[⟨1,[(97,97)],0,0,0⟩]⟩],(s.gr:Int)⟩,(af c 4 (af c 6 (af c 6 s.a).2).2).2)
 else (⟨[⟨decide ((af c 6 s.a).1=5),decide ((af c 6 (af c 6 s.a).2).1=5),s.ns⟩],(s.gr:Int)⟩,(af c 4 (af c 6 (af c 6 s.a).2).2).2)
def SV(c:List UInt8)(n a:Nat):dC×Nat:=Qt c (oz c (pT c a n) ((pT c a n).parts-1))
def qe(c:List UInt8)(a:Nat):dC×Nat:=SV c (1+(af c 12 a).1).toNat (af c 12 a).2
structure xU(s:vR)(k:Nat):Prop where
 kids:gD s.ns 0=zi s.parts
 LI:s.ns.all bG=true
 len:s.ns.length<=k
 Tm:s.parts<=k
 RW:s.gr<=k
 set:∀x∈s.ns,x.set.length<=1
theorem znD(ns:List aI)(n:aI):∀d e,gD ns d=zi e->¬e<aV n.kind->gD (ns++[n]) d=zi (e-aV n.kind+1):=by
 induction ns with
 |nil=>
  intro d e h he;simp only[gD,Option.some.injEq]at h;subst h;show (if d<aV n.kind then zh else gD [] (d-aV n.kind+1))=_;rw[ab he]
  rfl
 |cons m ns ih=>
  intro d e h he;rw[gD]at h;show (if d<aV m.kind then zh else gD (ns++[n]) (d-aV m.kind+1))=_;split at h
  ·cases h
  ·rename_i h1
   rw[ab h1];exact ih _ _ h he
theorem xU.snoc{s:vR}{k:Nat}(h:xU s k){n:aI}{p g a:Nat}(hn:bG n=true)(ha:¬s.parts<aV n.kind)(hp:p=s.parts-aV n.kind+1)(hg:g<=k+1)(rC:n.set.length<=1):xU ⟨s.ns++[n],p,g,a⟩ (k+1):=by
 have h1:=znD s.ns n 0 _ h.kids ha;have:=h.Tm;refine⟨by rw[h1,hp],by show (s.ns++[n]).all bG=true;rw[vG,h.LI];simpa using hn,by have:=h.len;simp;omega,by show p<=_;omega,hg,λx hx=>?_⟩;rcases gH.1 hx with hx|hx
 ·exact h.set x hx
 ·simp at hx;subst hx;exact rC
theorem uv{c:List UInt8}{a:Nat}{n:Int}(hn:1<=n):0<=(af c n a).1/\(af c n a).1<n:=by
 unfold af;split
 ·exact⟨Int.le_refl _,by show (0:Int)<n;omega⟩
 ·split
  ·exact⟨Int.emod_nonneg _ (by omega),Int.emod_lt_of_pos _ (by omega)⟩
  ·exact⟨Int.emod_nonneg _ (by omega),Int.emod_lt_of_pos _ (by omega)⟩
theorem ar2:aV 2=2/\aV 3=2/\aV 4=1/\aV 5=1/\aV 1=0:=by decide
theorem xU.step{c:List UInt8}{s:vR}{k:Nat}(h:xU s k):xU (Mw c s) (k+1)/\1<=(Mw c s).parts:=by
 obtain⟨e2,e3,e4,e5,e1⟩:=ar2;have hg:=h.RW;unfold Mw
 by_cases c1:2<=s.parts/\(af c 6 s.a).1=1
 ·rw[ae c1];exact⟨h.snoc (by decide) (by show ¬s.parts<aV 2;omega) (by show _=s.parts-aV 2+1;omega) (by omega) (by simp),by show 1<=s.parts-1;omega⟩
 rw[ab c1]
 by_cases c2:2<=s.parts/\(af c 6 s.a).1=2
 ·rw[ae c2];exact⟨h.snoc (by decide) (by show ¬s.parts<aV 3;omega) (by show _=s.parts-aV 3+1;omega) (by omega) (by simp),by show 1<=s.parts-1;omega⟩
 rw[ab c2]
 by_cases c3:1<=s.parts/\(af c 6 s.a).1=3
 ·rw[ae c3];have b1:=uv (c:=c) (a:=(af c 6 s.a).2) (n:=3) (by omega);have b2:=uv (c:=c) (a:=(af c 3 (af c 6 s.a).2).2) (n:=3) (by omega);refine⟨h.snoc ?_ (by show ¬s.parts<aV 4;omega) (by show _=s.parts-aV 4+1;omega) (by omega) (by simp),c3.1⟩;simp[bG,ly];omega
 rw[ab c3]
 by_cases c4:1<=s.parts/\(af c 6 s.a).1=4
 ·rw[ae c4];have b1:=uv (c:=c) (a:=(af c 6 s.a).2) (n:=2) (by omega);refine⟨h.snoc ?_ (by show ¬s.parts<aV 4;omega) (by show _=s.parts-aV 4+1;omega) (by omega) (by simp),c4.1⟩;simp[bG,ly];omega
 rw[ab c4]
 by_cases c5:1<=s.parts/\(af c 6 s.a).1=5
 ·rw[ae c5];exact⟨h.snoc (by simp[bG]) (by show ¬s.parts<aV 5;omega) (by show _=s.parts-aV 5+1;omega) (by omega) (by simp),c5.1⟩
 rw[ab c5];have b1:=uv (c:=c) (a:=(af c 6 s.a).2) (n:=3) (by omega);have b2:=uv (c:=c) (a:=(af c 3 (af c 6 s.a).2).2) (n:=2) (by omega);refine⟨h.snoc ?_ (by show ¬s.parts<aV 1;omega) (by show _=s.parts-aV 1+1;omega) (by omega) (by simp),by show 1<=s.parts+1;omega⟩;simp[bG,qb];omega
theorem Up(c:List UInt8)(a:Nat):∀k,xU (pT c a k) k/\(0<k->1<=(pT c a k).parts)
 |0=>⟨⟨rfl,rfl,ax _,ax _,ax _,λx hx=>by cases hx⟩,λh=>absurd h (Nat.lt_irrefl _)⟩
 |k+1=>⟨((Up c a k).1.step).1,λ_=>((Up c a k).1.step).2⟩
theorem zlE(c:List UInt8){s:vR}{n:Nat}(h:xU s n):∀k,k<s.parts->xU (oz c s k) (n+k)/\(oz c s k).parts=s.parts-k/\(oz c s k).gr=s.gr
 |0,_=>⟨h,rfl,rfl⟩
 |k+1,hk=>by
  obtain⟨h1,h2,h3⟩:=zlE c h k (by omega);obtain⟨e2,e3,_,_,_⟩:=ar2;have hg:=h1.RW;refine⟨?_,by show (oz c s k).parts-1=_;omega,h3⟩;show xU (Qm c (oz c s k)) _;unfold Qm
  by_cases e:(af c 3 (oz c s k).a).1=2
  ·rw[ae e];exact h1.snoc (by decide) (by show ¬_<aV 3;omega) (by show _=_-aV 3+1;omega) (by omega) (by simp)
  ·rw[ab e];exact h1.snoc (by decide) (by show ¬_<aV 2;omega) (by show _=_-aV 2+1;omega) (by omega) (by simp)
theorem zr8{s:vR}{k:Nat}(h:xU s k)(hp:s.parts=1)(hk:k<=100)(b e:Bool)(bs:List cX)(hb:qM bs/\Small bs/\bs.length<=10):qM (⟨b,e,s.ns⟩::bs)/\Small (⟨b,e,s.ns⟩::bs):=by
 have hl:=h.len;refine⟨λi hi=>?_,by simp;omega,λi hi=>?_⟩
 ·cases i with
  |zero=>exact⟨by show kP s.ns=true;unfold kP;rw[h.kids,hp];rfl,h.LI⟩
  |succ i=>exact hb.1 i (by simpa using hi)
 ·cases i with
  |zero=>
   refine⟨by show s.ns.length<=_;omega,λj hj=>?_⟩;have hj:j<s.ns.length:=hj;have:(s.ns.getD j .zero).set.length<=1:=h.set _ (by rw[bI,bE hj];exact gy _);show (s.ns.getD j .zero).set.length<=_;omega
  |succ i=>exact hb.2.1.2 i (by simpa using hi)
theorem zid(c:List UInt8)(a:Nat):qM (qe c a).1.branches/\Small (qe c a).1.branches:=by
 have hb:=uv (c:=c) (a:=a) (n:=12) (by omega);have hN:(1+(af c 12 a).1).toNat<=12/\0<(1+(af c 12 a).1).toNat:=by omega
 unfold qe;generalize (1+(af c 12 a).1).toNat=n at *;generalize (af c 12 a).2=y at *;obtain⟨h1,h2⟩:=Up c y n;have hp:=h2 hN.2;have I0:=h1.Tm;obtain⟨h3,h4,_⟩:=zlE c h1 ((pT c y n).parts-1) (by omega);have hn:qM []/\Small []/\([]:List cX).length<=10:=⟨λi hi=>absurd hi (dP _),⟨bH _,λi hi=>absurd hi (dP _)⟩,by simp⟩;have ud:qM [⟨false,false,[⟨1,[(97,97)],0,0,0⟩]⟩]/\Small [⟨false,false,[⟨1,[(97,97)],0,0,0⟩]⟩]:=by
  have:xU ⟨[⟨1,[(97,97)],0,0,0⟩],1,0,0⟩ 1:=⟨by decide,by decide,by simp,by simp,by simp,λx hx=>by simp at hx;subst hx;simp⟩;exact zr8 this rfl (by omega) false false [] hn
 unfold SV Qt;split
 ·exact zr8 h3 (by omega) (by omega) _ _ _ ⟨ud.1,ud.2,by simp⟩
 ·exact zr8 h3 (by omega) (by omega) _ _ _ hn
structure xV(p:Nat)(w:zw)(c:List UInt8)(r:Int)(B:Nat)(W:zw)(nv:zy)(ns:List aI)(a:Nat):Prop where
 nd:eX B (λb=>B<=b) W nv ns
 kept:aJ p w W
 jn:a7 W p c a r
 dv:W.heap[w.heap.size]?=zi (zp #[zn zh 0 0,za .i64 0] 89 (0,0))
 base:p<w.heap.size/\w.heap.size<B/\B<=W.heap.size
section
variable {p:Nat} {w:zw} {c:List UInt8} {r:Int} {B:Nat} {W W' W2:zw} {nv:zy} {ns:List aI} {a a':Nat}
theorem xV.pick(h:xV p w c r B W nv ns a)(hd:a7 W' p c a' r)(hk:aJ p W W'):xV p w c r B W' nv ns a':=by
 obtain⟨b1,b2,b3⟩:=h.base;refine⟨h.nd.keep hk.size λb hb hl=>hk.block b hl ?_,h.kept.trans hk,hd,(hk.block _ (by omega) (by omega)).trans h.dv,b1,b2,cM b3 hk.size⟩;rcases hb with hb|hb
 ·obtain⟨sv,ho,_⟩:=h.nd;have:=(dL ho hb).1;omega
 ·omega
theorem xV.app(h:xV p w c r B W nv ns a)(hb:zD W.heap.size W W'){v2:zy}{n:aI}(hn:eX B (λb=>B<=b) W2 v2 (ns++[n]))(hg:W'.grownBy W2 nv.ownBlock):xV p w c r B W2 v2 (ns++[n]) a:=by
 obtain⟨b1,b2,b3⟩:=h.base;have qx:=hb.size;have key:∀b,nv.ownBlock=zi b->B<=b:=λb e=>by obtain⟨sv,ho,_⟩:=h.nd;exact(dL ho e).1
 refine⟨hn,(h.kept.trans (.of hb)).grown hg λb e=>by have:=key b e;omega,(h.jn.keep (w':=W') λb iQ=>hb.block b (by omega)).grown hg λb e=>by have:=key b e;omega,(hg.block _ (by omega) (λe=>by have:=key _ e.symm;omega)).trans ((hb.block _ (by omega)).trans h.dv),b1,b2,by have:=hg.size;omega⟩
end
def yc(t:zF)(parts:Array (Nat×zy)):Sem zy:=Instr.build t parts
theorem znc(parts:Array (Nat×zy)):Instr.build 125 parts=yc 125 parts:=rfl
theorem zpJ(k:Int)(W:zw):(yc 125 #[(0,za .i64 k)]).run prog W=.ok (zB #[za .i64 k,zn zh 0 0,za .i64 0,za .i64 0,za .i64 0]) W:=run_build W _ _ _ (by kernel_rfl)
theorem zsN(k x y:Int)(W:zw):(yc 125 #[(0,za .i64 k),(2,za .i64 x),(3,za .i64 y)]).run prog W=.ok (zB #[za .i64 k,zn zh 0 0,za .i64 x,za .i64 y,za .i64 0]) W:=run_build W _ _ _ (by kernel_rfl)
theorem zsO(k x:Int)(W:zw):(yc 125 #[(0,za .i64 k),(4,za .i64 x)]).run prog W=.ok (zB #[za .i64 k,zn zh 0 0,za .i64 0,za .i64 0,za .i64 x]) W:=run_build W _ _ _ (by kernel_rfl)
theorem zpK(k:Int)(ao:Option Addr)(n m:Nat)(W:zw):(yc 125 #[(0,za .i64 k),(1,.slice ao n m)]).run prog W=.ok (zB #[za .i64 k,.slice ao n m,za .i64 0,za .i64 0,za .i64 0]) W:=run_build W _ _ _ (by kernel_rfl)
attribute [local go_sem ↓] znc
theorem znd(parts:Array (Nat×zy)):Instr.build 89 parts=yc 89 parts:=rfl
theorem zm9(parts:Array (Nat×zy)):Instr.build 107 parts=yc 107 parts:=rfl
theorem ztI(g:Int)(W:zw):(yc 89 #[(1,za .i64 g)]).run prog W=.ok (zB #[zn zh 0 0,za .i64 g]) W:=run_build W _ _ _ (by kernel_rfl)
theorem ztG(b e:Bool)(ao:Option Addr)(n m:Nat)(W:zw):(yc 107 #[(0,.bool b),(1,.bool e),(2,.slice ao n m)]).run prog W=.ok (zB #[.bool b,.bool e,.slice ao n m]) W:=run_build W _ _ _ (by kernel_rfl)
theorem zsM(ao:Option Addr)(n m:Nat)(W:zw):(yc 107 #[(2,.slice ao n m)]).run prog W=.ok (zB #[.bool false,.bool false,.slice ao n m]) W:=run_build W _ _ _ (by kernel_rfl)
attribute [local go_sem ↓] znd zm9
theorem zto{B lo:Nat}{W:zw}{v:zy}{bs:List cX}{nv:Nat->zy}(ho:W.ownsRow B 107 3 v bs.length (yg bs nv))(hn:∀k,k<bs.length->nX lo W (nv k) (bs.getD k .zero).nodes)(oC:lo<=B):jd lo W v bs:=by
 rcases ho.2 with ⟨rfl,h0⟩|⟨g,cap,a9,rfl,hg,hh,h1,h2,h3,h4⟩
 ·have:bs=[]:=qj h0;subst this;exact jd.nil _ _
 ·refine⟨_,cap,rfl,cM h1 (Jr h2),λ_=>⟨g,0,rfl,cM oC hg,az hh,λi hi=>?_⟩⟩;have hg:=λj (hj:j<3)=>(ho.cellAt (i*3+j) (by omega)).trans (zoc bs nv hi hj)
  rw[jB];exact⟨hg 0 (by omega),hg 1 (by omega),⟨nv i,hg 2 (by omega),hn i hi⟩⟩
structure qo(p:Nat)(w:zw)(c:List UInt8)(r:Int)(G:Nat)(W:zw)(v:zy)(bs:List cX)(nv:Nat->zy)(g:Int)(a:Nat):Prop where
 own:W.ownsRow (G+1) 107 3 v bs.length (yg bs nv)
 LI:∀k,k<bs.length->fT (λb=>(w.heap.size<b/\b≠G)/\v.ownBlock≠zi b) W (nv k) (bs.getD k .zero).nodes
 box:W.heap[G]?=zi (zp #[v,za .i64 g] 89 (0,0))
 dv:W.heap[w.heap.size]?=zi (zp #[zn zh 0 0,za .i64 0] 89 (0,0))
 kept:aJ p w W
 jn:a7 W p c a r
 base:p<w.heap.size/\w.heap.size<G
section
variable {p:Nat} {w:zw} {c:List UInt8} {r:Int} {G:Nat} {W W' Wc w':zw} {v:zy} {bs:List cX} {nv:Nat->zy} {g:Int} {a a':Nat}
theorem qo.sI(h:qo p w c r G W v bs nv g a)(hs:W.heap.size<=W'.heap.size)(hb:∀b,w.heap.size<=b->b<W.heap.size->W'.heap[b]?=W.heap[b]?)(hk:aJ p w W')(hd:a7 W' p c a' r):qo p w c r G W' v bs nv g a':=by
 obtain⟨b1,b2⟩:=h.base;exact⟨uo h.own λb e=>hb b (by have:=(dL h.own e).1;omega) (dL h.own e).2,λk bJ=>(h.LI k bJ).keep hs λb aL hl=>hb b (by omega) hl,(hb G (by omega) (az h.box)).trans h.box,(hb _ (ax _) (az h.dv)).trans h.dv,hk,hd,b1,b2⟩
theorem qo.pick(h:qo p w c r G W v bs nv g a)(hd:a7 W' p c a' r)(hk:aJ p W W'):qo p w c r G W' v bs nv g a':=
 h.sI hk.size (λb hb hl=>hk.block b hl (by have:=h.base;omega)) (h.kept.trans hk) hd
theorem qo.below(h:qo p w c r G W v bs nv g a)(hb:zD W.heap.size W W'):qo p w c r G W' v bs nv g a:=
 h.sI hb.size (λb _ hl=>hb.block b hl) (h.kept.trans (.of hb)) (h.jn.below hb)
theorem qo.push(h:qo p w c r G W v bs nv g a){b:cX}{s:zy}{g' cap':Nat}(hv:fT (λb=>(w.heap.size<b/\b≠G)/\v.ownBlock≠zi b) W s b.nodes)
  (ho:w'.ownsRow (G+1) 107 3 (zn (zi ⟨g',0,zh⟩) (bs.length+1) cap') (bs.length+1) (yg bs nv++Hq b s)) (hg:W.grownBy w' v.ownBlock) (eY:v.ownBlock=zi g'\/W.heap.size<=g'):
  w'.heap[G]?=zi (zp #[v,za .i64 g] 89 (0,0))/\∃mW,qo p w c r G (w'.setCell ⟨G,0,zh⟩ (zn (zi ⟨g',0,zh⟩) (bs.length+1) cap')) (zn (zi ⟨g',0,zh⟩) (bs.length+1) cap') (bs++[b]) mW g a:=by
 obtain⟨b1,b2⟩:=h.base;have R9:∀b,v.ownBlock=zi b->G<b:=λb e=>(dL h.own e).1
 have bN:w'.heap[G]?=zi (zp #[v,za .i64 g] 89 (0,0)):=(hg.block G (az h.box) (λe=>by have:=R9 G e.symm;omega)).trans h.box;have key:∀s ns,fT (λb=>(w.heap.size<b/\b≠G)/\v.ownBlock≠zi b) W s ns->fT (λb=>(w.heap.size<b/\b≠G)/\(Value.slice (zi ⟨g',0,zh⟩) (bs.length+1) cap').ownBlock≠zi b) (w'.setCell ⟨G,0,zh⟩ (zn (zi ⟨g',0,zh⟩) (bs.length+1) cap')) s ns:=by
  intro s ns h;have h4:fT (λb=>((w.heap.size<b/\b≠G)/\v.ownBlock≠zi b)/\b<W.heap.size) W s ns:=h.mono λb hb hl=>⟨hb,hl⟩
  have h5:=h4.keep (W':=w'.setCell ⟨G,0,zh⟩ (zn (zi ⟨g',0,zh⟩) (bs.length+1) cap')) (by simpa [World.setCell]using hg.size) (λb hb hl=>(cS _ _ _ _ (show b≠G from hb.1.1.2)).trans (hg.block b hl (λe=>hb.1.2 e.symm)));refine h5.mono λb hb _=>⟨hb.1.1,λe=>?_⟩
  have e2:g'=b:=by simpa [Value.ownBlock]using e
  subst e2;rcases eY with h|h
  ·exact hb.1.2 h
  ·have:=hb.2;omega
 have ot:∀k,k<bs.length->(bs++[b]).getD k .zero=bs.getD k .zero:=λk hk=>by simp[List.getD,List.getElem?_append_left hk]
 have dH:(bs++[b]).getD bs.length .zero=b:=by simp[List.getD]
 have hgG:G<g':=(dL ho rfl).1;refine⟨bN,λk=>if k<bs.length then nv k else s,?_,λk hk=>?_,dx w' G 0 _ _ _ bN,?_,?_,?_,b1,b2⟩
 ·have:yg (bs++[b]) (λk=>if k<bs.length then nv k else s)=yg bs nv++Hq b s:=by
   unfold yg;rw[a6,show [b].length=1 from rfl,LY]
   congr 1
   ·exact PM _ λk hk=>by rw[ot k hk];simp only[ae hk]
   ·rw[dH];simp
  rw[this,a6];exact uo ho λb e=>cS _ _ _ _ (show b≠G by have:=(dL ho e).1;omega)
 ·by_cases e:k<bs.length
  ·rw[ot k e];simp only[ae e];exact key _ _ (h.LI k e)
  ·have e2:k=bs.length:=by simp at hk;omega
   subst e2;rw[dH];simp only[ab e];exact key _ _ hv
 ·exact(cS _ _ _ _ (show w.heap.size≠G by omega)).trans ((hg.block _ (az h.dv) (λe=>by have:=R9 _ e.symm;omega)).trans h.dv)
 ·exact(h.kept.grown hg λb e=>by have:=R9 b e;omega).wS (by omega) _ _
 ·exact(h.jn.grown hg λb e=>by have:=R9 b e;omega).set (by omega) _ _
theorem qo.done(h:qo p w c r G W v bs nv g a){v1:zy}(hv:v=v1):jd w.heap.size ((W.setCell ⟨w.heap.size,0,zh⟩ v1).setCell ⟨w.heap.size,1,zh⟩ (za .i64 g)) v bs/\a7 ((W.setCell ⟨w.heap.size,0,zh⟩ v1).setCell ⟨w.heap.size,1,zh⟩ (za .i64 g)) p c a r/\aJ p w ((W.setCell ⟨w.heap.size,0,zh⟩ v1).setCell ⟨w.heap.size,1,zh⟩ (za .i64 g)):=by
 subst hv;obtain⟨b1,b2⟩:=h.base;have h2:jd (w.heap.size+1) W v bs:=zto h.own (λk hk=>(h.LI k hk).at λb hb=>hb.1.1) (by omega);exact⟨((h2.same (.setCell _ (show w.heap.size<_ from GB _) _)).same (.setCell _ (show w.heap.size<_ from GB _) _)).mono (by omega),(h.jn.set b1 _ _).set b1 _ _,(h.kept.new (ax _) _ _).new (ax _) _ _⟩
end
theorem zh4(W:zw)(o:Obj)(C:Array zy)(t:zF):((W.alloc o).alloc (zp C t)).heap[W.heap.size+1]?=zi (zp C t (0,0)):=by
 have:=aU (W.alloc o) (zp C t);rw[show (W.alloc o).heap.size=W.heap.size+1 by simp]at this;exact this
theorem zpC{W:zw}{b:Nat}{x y:Int}{U:Nat->Prop}(h:W.heap[b]?=zi (zp #[za .i64 x,za .i64 y] 127 (0,0)))(hU:U b):fX U W (zn (zi ⟨b,0,zh⟩) 1 1) [(x,y)]:=
 ⟨_,1,rfl,by simp,by unfold maxLen;omega,λ_=>⟨b,rfl,hU,az h,λj u hu=>by rw[dt _ _ _ _ _ _ h];simpa [sP]using hu⟩⟩
theorem zpd{W:zw}{a b:Nat}{x y:Int}{U:Nat->Prop}(hn:W.heap[a]?=zi (zp #[za .i64 1,zn (zi ⟨b,0,zh⟩) 1 1,za .i64 0,za .i64 0,za .i64 0] 125 (0,0)))(hr:W.heap[b]?=zi (zp #[za .i64 x,za .i64 y] 127 (0,0)))(ha:U a)(hb:U b):fT U W (zn (zi ⟨a,0,zh⟩) 1 1) [⟨1,[(x,y)],0,0,0⟩]:=by
 refine⟨a,1,λ_=>zn (zi ⟨b,0,zh⟩) 1 1,rfl,by simp,by unfold maxLen;omega,ha,az hn,λj u hu=>?_,λk hk=>?_⟩
 ·rw[dt _ _ _ _ _ _ hn]
  simpa [mh,pw,List.range_succ,List.getD]using hu
 ·have:k=0:=by simp at hk;omega
  subst this;exact zpC hr hb
theorem zlC(w:zw)(p:Nat)(c:List UInt8)(a:Nat)(r:Int)(h:a7 w p c a r):
  Calls prog 45 #[.pointer (zi ⟨p,0,zh⟩)] w (ztn p w c (qe c a).1 ((qe c a).2,r)):=by
 have dz:=h.lt;obtain⟨W0,ay⟩:∃W0,w.alloc (zp #[zn zh 0 0,za .i64 0] 89)=W0:=⟨_,rfl⟩;have aG:zD w.heap.size w W0:=by rw[<-ay];exact aC
 have x0:W0.heap[w.heap.size]?=zi (zp #[zn zh 0 0,za .i64 0] 89 (0,0)):=by rw[<-ay];exact aU _ _
 have kI:W0.heap.size=w.heap.size+1:=by rw[<-ay];simp
 obtain⟨W1,bk⟩:∃W1,W0.alloc (zp #[] 125)=W1:=⟨_,rfl⟩;have aP:zD W0.heap.size W0 W1:=by rw[<-bk];exact aC
 have oD:eX (w.heap.size+1) (λb=>w.heap.size+1<=b) W1 (zn (zi ⟨w.heap.size+1,0,zh⟩) 0 0) []:=by rw[<-bk];exact eX.new W0 _ _ _ (ax _) kI
 have HP:=ah λW a hW (n:Int) (hn:n<=65536)=>uq W p c a r hW n hn
 have eZ:a7 W1 p c a r:=(h.below aG).below aP;have E1:=HP.out W1 a eZ 12 (by omega);have OJ:=ku h.le 12;have HF:zx (qe c a=SV c (1+(af c 12 a).1).toNat (af c 12 a).2):=rfl;obtain⟨x1,y1,pZ⟩:∃x y,af c 12 a=(x,y):=⟨_,_,rfl⟩;rw[pZ]at E1 OJ HF;obtain⟨N,hN⟩:∃N:Nat,1+x1=(N:Int):=⟨(1+x1).toNat,by have:=OJ.2.1;simp only at this;omega⟩;have Da:1<=N/\N<=12:=by have h1:=OJ.2.1;have h2:=OJ.2.2;simp only at h1 h2;omega
 have HF:zx (qe c a=SV c N y1):=by rw[hN]at HF;exact HF.out
 have hI:xV p w c r (w.heap.size+1) W1 (zn (zi ⟨w.heap.size+1,0,zh⟩) 0 0) [] a:=⟨oD,(aJ.of aG).trans (.of aP),eZ,aY x0 aP,dz,by omega,by have:=aP.size;omega⟩;have HI:=ah hI;clear OJ pZ hI oD eZ aP aG x0 h
 go_enter func45,ntmps45
 go_wp2_with fail
 refine E1.mono ?_;rintro e w2 ⟨rfl,fF,bJ⟩;have nz:=ah (HI.out.pick fF bJ);clear HI fF bJ E1 ay bk kI;go_wp2
 go_loopw [3,4,5,7] (λnv pv gv i wr=>∃k:Nat,k<=N/\i=za .i64 k/\∃na nc,nv=.slice na (pT c y1 k).ns.length nc/\pv=za .i64 ((pT c y1 k).parts:Int)/\gv=za .i64 ((pT c y1 k).gr:Int)/\xV p w c r (w.heap.size+1) wr (.slice na (pT c y1 k).ns.length nc) (pT c y1 k).ns (pT c y1 k).a) (λ_ _ _ i _=>N-(intOf i).toNat)
 case atStart=>exact⟨0,by omega,rfl,_,_,rfl,rfl,rfl,nz.out⟩
 case round=>
  clear nz;obtain⟨k,hk,rfl,na,nc,rfl,rfl,rfl,hS⟩:=hrel;have HS:=ah hS;have HO:=ah (Up c y1 k);clear hS
  by_cases hlt:k<N
  ·have Dt:(k:Int)<(N:Int):=by omega
   have kS:zx (pT c y1 (k+1)=Mw c (pT c y1 k)):=rfl;generalize pT c y1 k=st at *;obtain⟨ns,pt,gr,ak⟩:=st;replace HS:zx (xV p w c r (w.heap.size+1) wr (.slice na ns.length nc) ns ak):=HS.out;have hlen:ns.length<=12:=by have:=HO.out.1.len;show ns.length<=12;have h2:ns.length<=k:=this;omega
   have I0:pt<=12:=by have h2:pt<=k:=HO.out.1.Tm;omega
   have kZ:gr<=12:=by have h2:gr<=k:=HO.out.1.RW;omega
   have b6:=uv (c:=c) (a:=ak) (n:=6) (by omega);obtain⟨x6,y6,iJ⟩:∃x y,af c 6 ak=(x,y):=⟨_,_,rfl⟩;have b7:=uv (c:=c) (a:=y6) (n:=3) (by omega);obtain⟨x7,y7,AL⟩:∃x y,af c 3 y6=(x,y):=⟨_,_,rfl⟩;have b8:=uv (c:=c) (a:=y7) (n:=3) (by omega);obtain⟨x8,y8,wL⟩:∃x y,af c 3 y7=(x,y):=⟨_,_,rfl⟩;have b9:=uv (c:=c) (a:=y6) (n:=2) (by omega);obtain⟨x9,y9,ZF⟩:∃x y,af c 2 y6=(x,y):=⟨_,_,rfl⟩;have ba:=uv (c:=c) (a:=y7) (n:=2) (by omega);obtain⟨xa,ya,wM⟩:∃x y,af c 2 y7=(x,y):=⟨_,_,rfl⟩;rw[iJ]at b6;rw[AL]at b7;rw[wL]at b8;rw[ZF]at b9;rw[wM]at ba;obtain⟨b60,b61⟩:=b6;obtain⟨b70,b71⟩:=b7;obtain⟨b80,b81⟩:=b8;obtain⟨b90,b91⟩:=b9;obtain⟨ba0,ba1⟩:=ba;simp only at b60 b61 b70 b71 b80 b81 b90 b91 ba0 ba1;have iX:=zpJ;have sF:=zsN;have vf:=zsO;have hr4:=zpK;have HX:zx (pT c y1 (k+1)=if 2<=pt/\x6=1 then ⟨ns++[⟨2,[],0,0,0⟩],pt-1,gr,y6⟩ else if 2<=pt/\x6=2 then ⟨ns++[⟨3,[],0,0,0⟩],pt-1,gr,y6⟩ else if 1<=pt/\x6=3 then ⟨ns++[⟨4,[],x7,x7+x8,0⟩],pt,gr,y8⟩ else if 1<=pt/\x6=4 then ⟨ns++[⟨4,[],x9,-1,0⟩],pt,gr,y9⟩ else if 1<=pt/\x6=5 then ⟨ns++[⟨5,[],0,0,((gr+1:Nat):Int)⟩],pt,gr+1,y6⟩ else ⟨ns++[⟨1,[(97+x7,97+x7+xa)],0,0,0⟩],pt+1,gr,ya⟩):=by
    have:=kS.out;unfold Mw at this;simp only[iJ,AL,wL,ZF,wM]at this;exact this
   clear kS HO;have Ol:(pt=0\/(pt=1/\x6<3)\/(2<=pt/\x6=0))\/((pt=1/\x6=3)\/(2<=pt/\x6=3))\/((pt=1/\x6=4)\/(2<=pt/\x6=4))\/((pt=1/\x6=5)\/(2<=pt/\x6=5))\/(2<=pt/\x6=1)\/(2<=pt/\x6=2):=by omega
   rcases Ol with hF|hC|hD|hE|hA|hB
   ·have HE:=ah ((((((HX.out).trans (ab (by omega))).trans (ab (by omega))).trans (ab (by omega))).trans (ab (by omega))).trans (ab (by omega)));clear HX;rcases hF with rfl|⟨rfl,h3⟩|⟨h2,rfl⟩
    all_goals
     try have m3:(x6==3)=false:=by simp;omega
     try have m4:(x6==4)=false:=by simp;omega
     try have m5:(x6==5)=false:=by simp;omega
     try have g2:(2:Int)<=(pt:Int):=by omega
     try have g1:(1:Int)<=(pt:Int):=by omega
     have hp:=HP.out wr ak HS.out.jn 6 (by omega);rw[iJ]at hp
     go_wp2_with fail
     refine hp.mono ?_;rintro e w6 ⟨rfl,hd,bP⟩;replace HS:=ah (HS.out.pick hd bP);clear hp hd bP;have hp:=HP.out w6 y6 HS.out.jn 3 (by omega);rw[AL]at hp
     go_wp2_with fail
     refine hp.mono ?_;rintro e w7 ⟨rfl,hd,bP⟩;replace HS:=ah (HS.out.pick hd bP);clear hp hd bP;have hp:=HP.out w7 y7 HS.out.jn 2 (by omega);rw[wM]at hp
     go_wp2_with fail
     refine hp.mono ?_;rintro e w8 ⟨rfl,hd,bP⟩;replace HS:=ah (HS.out.pick hd bP);clear hp hd bP
     go_wp2_with (at_builtin;refine DU rfl (.tmp 95) (.tmp 104) rfl (w.heap.size+1) (λb=>w.heap.size+1<=b) (.slice na ns.length nc) ns rfl (HS.out.nd.below ((aC).alloc (by simp) _)) (w8.heap.size+1) ⟨1,[(97+x7,97+x7+xa)],0,0,0⟩ (zn (zi ⟨w8.heap.size,0,zh⟩) 1 1) rfl (zh4 _ _ _ _) (zpC ((Below.heap_alloc _ _ _ (by simp)).trans (aU _ _)) ⟨HS.out.base.2.2,λe=>by obtain⟨sv,ho,_⟩:=HS.out.nd;have:=(dL ho e).2;omega⟩) (by omega) (by have:=HS.out.base.2.2;simp;omega) ?_;intro g4 oW w4 jq cU;have kT:=ah (HS.out.app ((aC).alloc (by simp) _) jq cU);clear jq cU)
     go_roundw
     case rel=>
      refine⟨k+1,by omega,by go_num,zi ⟨g4,0,zh⟩,oW,?_,?_,?_,?_⟩
      ·rw[HE.out];simp
      ·first|(rw[HE.out];done)|(rw[HE.out];go_num)
      ·first|(rw[HE.out];done)|(rw[HE.out];go_num)
      ·rw[HE.out];simp only[a6,iG,n4];exact kT.out
     case measure=>simp[intOf];omega
   ·have HE:=ah ((((HX.out).trans (ab (by omega))).trans (ab (by omega))).trans (ae (by omega)));clear HX;rcases hC with ⟨rfl,rfl⟩|⟨h2,rfl⟩
    all_goals
     try have g2:(2:Int)<=(pt:Int):=by omega
     try have g1:(1:Int)<=(pt:Int):=by omega
     have hp:=HP.out wr ak HS.out.jn 6 (by omega);rw[iJ]at hp
     go_wp2_with fail
     refine hp.mono ?_;rintro e w6 ⟨rfl,hd,bP⟩;replace HS:=ah (HS.out.pick hd bP);clear hp hd bP;have hp:=HP.out w6 y6 HS.out.jn 3 (by omega);rw[AL]at hp
     go_wp2_with fail
     refine hp.mono ?_;rintro e w7 ⟨rfl,hd,bP⟩;replace HS:=ah (HS.out.pick hd bP);clear hp hd bP;have hp:=HP.out w7 y7 HS.out.jn 3 (by omega);rw[wL]at hp
     go_wp2_with fail
     refine hp.mono ?_;rintro e w8 ⟨rfl,hd,bP⟩;replace HS:=ah (HS.out.pick hd bP);clear hp hd bP
     go_wp2_with (at_builtin;refine DU rfl (.tmp 58) (.tmp 65) rfl (w.heap.size+1) (λb=>w.heap.size+1<=b) (.slice na ns.length nc) ns rfl (HS.out.nd.below (aC)) _ ⟨4,[],x7,x7+x8,0⟩ (zn zh 0 0) rfl (aU _ _) (fX.nil _ _) (by omega) (by have:=HS.out.base.2.2;simp;omega) ?_;intro g4 oW w4 jq cU;have kT:=ah (HS.out.app (aC) jq cU);clear jq cU)
     go_roundw
     case rel=>
      refine⟨k+1,by omega,by go_num,zi ⟨g4,0,zh⟩,oW,?_,?_,?_,?_⟩
      ·rw[HE.out];simp
      ·first|(rw[HE.out];done)|(rw[HE.out];go_num)
      ·first|(rw[HE.out];done)|(rw[HE.out];go_num)
      ·rw[HE.out];simp only[a6,iG,n4];exact kT.out
     case measure=>simp[intOf];omega
   ·have HE:=ah (((((HX.out).trans (ab (by omega))).trans (ab (by omega))).trans (ab (by omega))).trans (ae (by omega)));clear HX;rcases hD with ⟨rfl,rfl⟩|⟨h2,rfl⟩
    all_goals
     try have g2:(2:Int)<=(pt:Int):=by omega
     try have g1:(1:Int)<=(pt:Int):=by omega
     have hp:=HP.out wr ak HS.out.jn 6 (by omega);rw[iJ]at hp
     go_wp2_with fail
     refine hp.mono ?_;rintro e w6 ⟨rfl,hd,bP⟩;replace HS:=ah (HS.out.pick hd bP);clear hp hd bP;have hp:=HP.out w6 y6 HS.out.jn 2 (by omega);rw[ZF]at hp
     go_wp2_with fail
     refine hp.mono ?_;rintro e w7 ⟨rfl,hd,bP⟩;replace HS:=ah (HS.out.pick hd bP);clear hp hd bP
     go_wp2_with (at_builtin;refine DU rfl (.tmp 73) (.tmp 77) rfl (w.heap.size+1) (λb=>w.heap.size+1<=b) (.slice na ns.length nc) ns rfl (HS.out.nd.below (aC)) _ ⟨4,[],x9,-1,0⟩ (zn zh 0 0) rfl (aU _ _) (fX.nil _ _) (by omega) (by have:=HS.out.base.2.2;simp;omega) ?_;intro g4 oW w4 jq cU;have kT:=ah (HS.out.app (aC) jq cU);clear jq cU)
     go_roundw
     case rel=>
      refine⟨k+1,by omega,by go_num,zi ⟨g4,0,zh⟩,oW,?_,?_,?_,?_⟩
      ·rw[HE.out];simp
      ·first|(rw[HE.out];done)|(rw[HE.out];go_num)
      ·first|(rw[HE.out];done)|(rw[HE.out];go_num)
      ·rw[HE.out];simp only[a6,iG,n4];exact kT.out
     case measure=>simp[intOf];omega
   ·have HE:=ah ((((((HX.out).trans (ab (by omega))).trans (ab (by omega))).trans (ab (by omega))).trans (ab (by omega))).trans (ae (by omega)));clear HX;rcases hE with ⟨rfl,rfl⟩|⟨h2,rfl⟩
    all_goals
     try have g2:(2:Int)<=(pt:Int):=by omega
     try have g1:(1:Int)<=(pt:Int):=by omega
     have hp:=HP.out wr ak HS.out.jn 6 (by omega);rw[iJ]at hp
     go_wp2_with fail
     refine hp.mono ?_;rintro e w6 ⟨rfl,hd,bP⟩;replace HS:=ah (HS.out.pick hd bP);clear hp hd bP
     go_wp2_with (at_builtin;refine DU rfl (.tmp 87) (.tmp 90) rfl (w.heap.size+1) (λb=>w.heap.size+1<=b) (.slice na ns.length nc) ns rfl (HS.out.nd.below (aC)) _ ⟨5,[],0,0,((gr+1:Nat):Int)⟩ (zn zh 0 0) rfl (aU _ _) (fX.nil _ _) (by omega) (by have:=HS.out.base.2.2;simp;omega) ?_;intro g4 oW w4 jq cU;have kT:=ah (HS.out.app (aC) jq cU);clear jq cU)
     go_roundw
     case rel=>
      refine⟨k+1,by omega,by go_num,zi ⟨g4,0,zh⟩,oW,?_,?_,?_,?_⟩
      ·rw[HE.out];simp
      ·first|(rw[HE.out];done)|(rw[HE.out];go_num)
      ·first|(rw[HE.out];done)|(rw[HE.out];go_num)
      ·rw[HE.out];simp only[a6,iG,n4];exact kT.out
     case measure=>simp[intOf];omega
   ·have HE:=ah ((HX.out).trans (ae (by omega)));clear HX;obtain⟨h2,rfl⟩:=hA;have g2:(2:Int)<=(pt:Int):=by omega
    have hp:=HP.out wr ak HS.out.jn 6 (by omega);rw[iJ]at hp
    go_wp2_with fail
    refine hp.mono ?_;rintro e w6 ⟨rfl,hd,bP⟩;replace HS:=ah (HS.out.pick hd bP);clear hp hd bP
    go_wp2_with (at_builtin;refine DU rfl (.tmp 32) (.tmp 34) rfl (w.heap.size+1) (λb=>w.heap.size+1<=b) (.slice na ns.length nc) ns rfl (HS.out.nd.below (aC)) _ ⟨2,[],0,0,0⟩ (zn zh 0 0) rfl (aU _ _) (fX.nil _ _) (by omega) (by have:=HS.out.base.2.2;simp;omega) ?_;intro g4 oW w4 jq cU;have kT:=ah (HS.out.app (aC) jq cU);clear jq cU)
    go_roundw
    case rel=>
     refine⟨k+1,by omega,by go_num,zi ⟨g4,0,zh⟩,oW,?_,?_,?_,?_⟩
     ·rw[HE.out];simp
     ·first|(rw[HE.out];done)|(rw[HE.out];go_num)
     ·first|(rw[HE.out];done)|(rw[HE.out];go_num)
     ·rw[HE.out];simp only[a6,iG,n4];exact kT.out
    case measure=>simp[intOf];omega
   ·have HE:=ah (((HX.out).trans (ab (by omega))).trans (ae (by omega)));clear HX;obtain⟨h2,rfl⟩:=hB;have g2:(2:Int)<=(pt:Int):=by omega
    have hp:=HP.out wr ak HS.out.jn 6 (by omega);rw[iJ]at hp
    go_wp2_with fail
    refine hp.mono ?_;rintro e w6 ⟨rfl,hd,bP⟩;replace HS:=ah (HS.out.pick hd bP);clear hp hd bP
    go_wp2_with (at_builtin;refine DU rfl (.tmp 44) (.tmp 46) rfl (w.heap.size+1) (λb=>w.heap.size+1<=b) (.slice na ns.length nc) ns rfl (HS.out.nd.below (aC)) _ ⟨3,[],0,0,0⟩ (zn zh 0 0) rfl (aU _ _) (fX.nil _ _) (by omega) (by have:=HS.out.base.2.2;simp;omega) ?_;intro g4 oW w4 jq cU;have kT:=ah (HS.out.app (aC) jq cU);clear jq cU)
    go_roundw
    case rel=>
     refine⟨k+1,by omega,by go_num,zi ⟨g4,0,zh⟩,oW,?_,?_,?_,?_⟩
     ·rw[HE.out];simp
     ·first|(rw[HE.out];done)|(rw[HE.out];go_num)
     ·first|(rw[HE.out];done)|(rw[HE.out];go_num)
     ·rw[HE.out];simp only[a6,iG,n4];exact kT.out
    case measure=>simp[intOf];omega
  ·have II:k=N:=by omega
   subst II;have EC:=ah (HO.out.1);have rY:=ah (HO.out.2 (by omega));have HG:zx (qe c a=Qt c (oz c (pT c y1 k) ((pT c y1 k).parts-1))):=HF.out;clear HO HF;generalize pT c y1 k=s0 at *;have zAN:s0.parts<=12:=by have:=EC.out.Tm;omega
   have HJ:=ah λj (hj:j<s0.parts)=>zlE c EC.out j hj
   have zAO:1<=s0.parts:=rY.out;obtain⟨q,hq⟩:∃q,s0.parts=q+1:=⟨s0.parts-1,by omega⟩;have HQ:=ah hq;rw[hq]at zAN ⊢;clear hq zAO rY;go_wp2
   go_loopw [3,4,11] (λnv pv _ wr=>∃j:Nat,j<=q/\∃na nc,nv=.slice na (oz c s0 j).ns.length nc/\pv=za .i64 ((q+1-j:Nat):Int)/\xV p w c r (w.heap.size+1) wr (.slice na (oz c s0 j).ns.length nc) (oz c s0 j).ns (oz c s0 j).a) (λ_ pv _ _=>(intOf pv).toNat)
   case atStart=>exact⟨0,by omega,_,_,rfl,rfl,HS.out⟩
   case round=>
    clear HS;obtain⟨j,hj,na,nc,rfl,rfl,hS⟩:=hrel;have HS:=ah hS;clear hS;have IV:(oz c s0 j).ns.length<=24:=by have:=(HJ.out j (by have:=HQ.out;omega)).1.len;omega
    have iX:=zpJ
    by_cases hlt:j<q
    ·have kS:zx (oz c s0 (j+1)=Qm c (oz c s0 j)):=rfl;generalize oz c s0 j=st at *;obtain⟨ns,pt,gr,ak⟩:=st;replace HS:zx (xV p w c r (w.heap.size+1) wr (.slice na ns.length nc) ns ak):=HS.out;replace IV:ns.length<=24:=IV;obtain⟨x6,y6,iJ⟩:∃x y,af c 3 ak=(x,y):=⟨_,_,rfl⟩;have HX:zx (oz c s0 (j+1)=⟨ns++[⟨if x6=2 then 3 else 2,[],0,0,0⟩],pt-1,gr,y6⟩):=by
      have:=kS.out;unfold Qm at this;simp only[iJ]at this;exact this
     obtain⟨m,hm⟩:∃m,q+1-j=m+2:=⟨q-j-1,by omega⟩;rw[hm];have g1:(1:Int)<((m+2:Nat):Int):=by omega
     have zCL:m<=12:=by omega
     have HM:=ah hm;clear hm kS
     by_cases Xe:x6=2
     ·subst Xe;have HE:=ah HX.out;rw[ae rfl]at HE;clear HX;have hp:=HP.out wr ak HS.out.jn 3 (by omega);rw[iJ]at hp
      go_wp2_with fail
      refine hp.mono ?_;rintro e w6 ⟨rfl,hd,bP⟩;replace HS:=ah (HS.out.pick hd bP);clear hp hd bP
      go_wp2_with (at_builtin;refine DU rfl (.tmp 113) (.tmp 116) rfl (w.heap.size+1) (λb=>w.heap.size+1<=b) (.slice na ns.length nc) ns rfl (HS.out.nd.below (aC)) _ ⟨3,[],0,0,0⟩ (zn zh 0 0) rfl (aU _ _) (fX.nil _ _) (by omega) (by have:=HS.out.base.2.2;simp;omega) ?_;intro g4 oW w4 jq cU;have kT:=ah (HS.out.app (aC) jq cU);clear jq cU)
      go_roundw
      case rel=>
       refine⟨j+1,by omega,zi ⟨g4,0,zh⟩,oW,?_,?_,?_⟩
       ·rw[HE.out];simp
       ·have:=HM.out;go_num
       ·rw[HE.out];simp only[a6,iG,n4];exact kT.out
      case measure=>simp[intOf];omega
     ·have HE:=ah HX.out;rw[ab Xe]at HE;have m2:(x6==2)=false:=by simp[Xe]
      clear HX;have hp:=HP.out wr ak HS.out.jn 3 (by omega);rw[iJ]at hp
      go_wp2_with fail
      refine hp.mono ?_;rintro e w6 ⟨rfl,hd,bP⟩;replace HS:=ah (HS.out.pick hd bP);clear hp hd bP
      go_wp2_with (at_builtin;refine DU rfl (.tmp 113) (.tmp 116) rfl (w.heap.size+1) (λb=>w.heap.size+1<=b) (.slice na ns.length nc) ns rfl (HS.out.nd.below (aC)) _ ⟨2,[],0,0,0⟩ (zn zh 0 0) rfl (aU _ _) (fX.nil _ _) (by omega) (by have:=HS.out.base.2.2;simp;omega) ?_;intro g4 oW w4 jq cU;have kT:=ah (HS.out.app (aC) jq cU);clear jq cU)
      go_roundw
      case rel=>
       refine⟨j+1,by omega,zi ⟨g4,0,zh⟩,oW,?_,?_,?_⟩
       ·rw[HE.out];simp
       ·have:=HM.out;go_num
       ·rw[HE.out];simp only[a6,iG,n4];exact kT.out
      case measure=>simp[intOf];omega
    ·have hjq:j=q:=by omega
     subst hjq;have vK:zx (qe c a=Qt c (oz c s0 j)):=by have:=HG.out;rw[HQ.out,Ek]at this;exact this
     have oP:=ah (HJ.out j (by have:=HQ.out;omega)).2.2;have GX:zx ((oz c s0 j).parts=1):=by have:=(HJ.out j (by have:=HQ.out;omega)).2.1;have:=HQ.out;show _=_;omega
     rw[show j+1-j=1 by omega];clear HG;obtain⟨s1,bT⟩:∃s1,oz c s0 j=s1:=⟨_,rfl⟩;have J0:=ah (HJ.out j (by have:=HQ.out;omega)).1;rw[bT]at HS vK oP J0 GX IV ⊢;have YF:s0.gr=s1.gr:=oP.out.symm;rw[YF];clear HJ EC HQ oP YF bT;have zxd:s1.gr<=24:=by have:=J0.out.RW;omega
     have hne:0<s1.ns.length:=by
      rcases Du:s1.ns with _|⟨x,l⟩
      ·have:=J0.out.kids;rw[Du]at this;have FH:=GX.out;simp[gD]at this;omega
      ·simp
     obtain⟨ns,pt,gr,ak⟩:=s1;replace HS:zx (xV p w c r (w.heap.size+1) wr (.slice na ns.length nc) ns ak):=HS.out;replace IV:ns.length<=24:=IV;replace hne:0<ns.length:=hne;replace zxd:gr<=24:=zxd;obtain⟨x6,y6,iJ⟩:∃x y,af c 6 ak=(x,y):=⟨_,_,rfl⟩;obtain⟨x7,y7,AL⟩:∃x y,af c 6 y6=(x,y):=⟨_,_,rfl⟩;obtain⟨x8,y8,wL⟩:∃x y,af c 4 y7=(x,y):=⟨_,_,rfl⟩;obtain⟨bb,eB⟩:∃b,decide (x6=5)=b:=⟨_,rfl⟩;obtain⟨be,pi⟩:∃b,decide (x7=5)=b:=⟨_,rfl⟩;have HX:zx (qe c a=if x8=3 then (⟨[⟨bb,be,ns⟩,⟨false,false,[⟨1,[(97,97)],0,0,0⟩]⟩],(gr:Int)⟩,y8) else (⟨[⟨bb,be,ns⟩],(gr:Int)⟩,y8)):=by
      have:=vK.out;unfold Qt at this;simp only[iJ,AL,wL,eB,pi]at this;exact this
     have eb:(x6==5)=bb:=by rw[<-eB];rfl
     have ee:(x7==5)=be:=by rw[<-pi];rfl
     have hrR:=ztI;have hrB:=ztG;have zCZ:=zsM;have hr4:=zpK;clear vK eB pi J0 GX;have eK:¬(1:Int)<((1:Nat):Int):=by omega
     have hp:=HP.out wr ak HS.out.jn 6 (by omega);rw[iJ]at hp
     go_wp2_with fail
     refine hp.mono ?_;rintro e w6 ⟨rfl,hd,bP⟩;replace HS:=ah (HS.out.pick hd bP);clear hp hd bP;have hp:=HP.out w6 y6 HS.out.jn 6 (by omega);rw[AL]at hp
     go_wp2_with fail
     refine hp.mono ?_;rintro e w7 ⟨rfl,hd,bP⟩;replace HS:=ah (HS.out.pick hd bP);clear hp hd bP;obtain⟨G,hG⟩:∃G,w7.heap.size=G:=⟨_,rfl⟩;have hNd:=HS.out.nd.to hne (U':=λb=>w.heap.size<b/\b<G) (λb hb hl=>⟨by
      rcases hb with hb|hb
      ·obtain⟨sv,ho,_⟩:=HS.out.nd;have:=(dL ho hb).1;omega
      ·have hb:w.heap.size+1<=b:=hb;omega,by omega⟩)
     have Bm:=ah hNd;have lH:=ah HS.out;clear hNd HS;have dh:zD w7.heap.size w7 (w7.alloc (zp #[zn zh 0 0,za .i64 (gr:Int)] 89)):=aC;have hE:qo p w c r G (w7.alloc (zp #[zn zh 0 0,za .i64 (gr:Int)] 89)) (zn zh 0 0) [] (λ_=>zn zh 0 0) gr y7:=by
      have Oc:=lH.out.base;refine⟨World.ownsRow_nil _ _ _ _,λk hk=>absurd hk (dP _),by rw[<-hG];exact aU _ _,(dh.block _ (by omega)).trans lH.out.dv,lH.out.kept.trans (.of dh),lH.out.jn.below dh,Oc.1,by omega⟩
     have NZ:fT (λb=>(w.heap.size<b/\b≠G)/\(Value.slice zh 0 0).ownBlock≠zi b) (w7.alloc (zp #[zn zh 0 0,za .i64 (gr:Int)] 89)) (.slice na ns.length nc) ns:=(Bm.out.below dh).mono λb hb _=>⟨⟨hb.1,by omega⟩,by simp[Value.ownBlock]⟩
     have HE:=ah hE;have M3:=ah NZ;have hGs:=lH.out.base.2.2;obtain⟨iN,rn,rD,rE,rF⟩:=info_parts zoT;subst hG;clear hE NZ dh Bm lH
     go_wp2_with (at_builtin;refine wZ rfl (.tmp 135) (.tmp 140) 87 rfl _ #[.bool bb,.bool be,.slice na ns.length nc] 107 rfl (w7.heap.size+1) (by simp) (w7.heap.size+1) iN _ 3 32 underlying87 rn rD rE rF rfl (by omega) (zn zh 0 0) 0 [] rfl (World.ownsRow_nil _ _ _ _) rfl rfl (by intro u hu;simp at hu;rcases hu with rfl|rfl|rfl<;>rfl) (by omega) (by omega) (by simp) ?_;intro g1 Rv w9 AR pd qs;obtain⟨WG,mj,jC⟩:=HE.out.push (b:=⟨bb,be,ns⟩) M3.out AR pd qs;have y1':=kr WG 0;have fz1:=aR _ _ 0 _ _ WG;have gJ:=ah jC;clear AR pd qs WG jC)
     have hp:=HP.out _ y7 gJ.out.jn 4 (by omega);rw[wL]at hp;refine hp.mono ?_;rintro e eU ⟨rfl,hd,bP⟩;have ny:=ah (gJ.out.pick hd bP);clear hp hd bP gJ HE M3 y1' fz1
     by_cases Xh:x8=3
     ·subst Xh;have HZ:=ah (HX.out.trans (ae rfl));clear HX;have dh:zD eU.heap.size eU ((eU.alloc (zp #[za .i64 97,za .i64 97] 127)).alloc (zp #[za .i64 1,zn (zi ⟨eU.heap.size,0,zh⟩) 1 1,za .i64 0,za .i64 0,za .i64 0] 125)):=(aC).alloc (by simp) _;have hrN:=zh4 eU (zp #[za .i64 97,za .i64 97] 127) #[za .i64 1,zn (zi ⟨eU.heap.size,0,zh⟩) 1 1,za .i64 0,za .i64 0,za .i64 0] 125;have zxO:((eU.alloc (zp #[za .i64 97,za .i64 97] 127)).alloc (zp #[za .i64 1,zn (zi ⟨eU.heap.size,0,zh⟩) 1 1,za .i64 0,za .i64 0,za .i64 0] 125)).heap[eU.heap.size]?=zi (zp #[za .i64 97,za .i64 97] 127 (0,0)):=(Below.heap_alloc _ _ _ (by simp)).trans (aU _ _);have Sh:∀b,eU.heap.size<=b->(w.heap.size<b/\b≠w7.heap.size)/\(Value.slice (zi ⟨g1,0,zh⟩) (0+1) Rv).ownBlock≠zi b:=λb hb=>by
       have h1:=az ny.out.box;have h2:=(dL ny.out.own (b:=g1) rfl).2;have h3:=ny.out.base;refine⟨by omega,λe=>?_⟩;have e2:g1=b:=by simpa [Value.ownBlock]using e
       omega
      have NZ:=zpd (U:=λb=>(w.heap.size<b/\b≠w7.heap.size)/\(Value.slice (zi ⟨g1,0,zh⟩) (0+1) Rv).ownBlock≠zi b) hrN zxO (Sh _ (by omega)) (Sh _ (by omega));have UY:=ah (ny.out.below dh);have M3:=ah NZ;obtain⟨t0,t1,-,-⟩:=jZ ny.out.box;have S9:=az ny.out.box;clear dh hrN zxO Sh NZ ny
      go_upto_region 40 with (at_builtin;refine wZ rfl (.tmp 147) (.tmp 153) 87 rfl _ #[.bool false,.bool false,zn (zi ⟨eU.heap.size+1,0,zh⟩) 1 1] 107 rfl (eU.heap.size+2) (by simp) (w7.heap.size+1) iN _ 3 32 underlying87 rn rD rE rF rfl (by omega) (zn (zi ⟨g1,0,zh⟩) (0+1) Rv) 1 _ rfl UY.out.own rfl rfl (by intro u hu;simp at hu;rcases hu with rfl|rfl<;>rfl) (by omega) (by omega) (by simp;omega) ?_;intro g2 uS w11 pz kD kC;obtain⟨eG,mX,HE5⟩:=UY.out.push (b:=⟨false,false,[⟨1,[(97,97)],0,0,0⟩]⟩) M3.out pz kD kC;have Tv:=kr eG 0;have q9:=aR _ _ 0 _ _ eG;have q2':=kr eG 1;have MO:=ah HE5;clear pz kD kC eG HE5)
      replace MO:zx (qo p w c r w7.heap.size (w11.setCell ⟨w7.heap.size,0,zh⟩ (zn (zi ⟨g2,0,zh⟩) 2 uS)) (zn (zi ⟨g2,0,zh⟩) 2 uS) [⟨bb,be,ns⟩,⟨false,false,[⟨1,[(97,97)],0,0,0⟩]⟩] mX gr y8):=MO.out;generalize hU:w11.setCell ⟨w7.heap.size,0,zh⟩ (zn (zi ⟨g2,0,zh⟩) 2 uS)=U at *;clear t0 t1 Tv q2' q9 UY M3 hU;obtain⟨t0,t1,-,-⟩:=jZ MO.out.box;obtain⟨r0,r1,f0,f1⟩:=jZ MO.out.dv;have HD:=ah (MO.out.done rfl);go_wp2;refine bw (v:=_) (by simp[results,results45,go_sem,r0,r1];rfl) rfl ?_;rw[HZ.out];exact⟨_,rfl,HD.out⟩
     ·have HZ:=ah (HX.out.trans (ab Xh));have m3:(x8==3)=false:=by simp[Xh]
      obtain⟨t0,t1,-,-⟩:=jZ ny.out.box;obtain⟨r0,r1,f0,f1⟩:=jZ ny.out.dv;have HD:=ah (ny.out.done rfl);clear HX;go_wp2;refine bw (v:=_) (by simp[results,results45,go_sem,r0,r1];rfl) rfl ?_;rw[HZ.out];exact⟨_,rfl,HD.out⟩
end Go.Proofs.Ytfajjdgkiilhfaa
