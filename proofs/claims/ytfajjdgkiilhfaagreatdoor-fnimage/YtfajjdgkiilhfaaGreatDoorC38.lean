import Derived.Test.YtfajjdgkiilhfaaGreatDoorC5
import Derived.Test.YtfajjdgkiilhfaaGreatDoorC27
import Derived.Test.YtfajjdgkiilhfaaGreatDoorC37
namespace Go.Proofs.YtfajjdgkiilhfaaGreatDoor
open Proofs.Tryz
open Value renaming int->za,slice->zd,agg->zi
open Option renaming none->zb,some->zc
open Obj renaming cells->ze
open Go renaming World->zf,Value->zh,TypeId->zk
open RowKit renaming Hid->zg,Below->zj
set_option maxHeartbeats 8000000
set_option maxRecDepth 100000
open Go.RowKit
attribute [local go_sem ↓] wp_at_zero wp_at_succ
theorem ZE(t:ByteArray)(w:zf){r:dL}{c a:Int}(h:Ab t.data.toList r c a):Calls prog 63 #[.string t] w (AA w r c a):=by
 have hlen:t.data.toList.length=t.size:=iW;cases h with
 |Y0 h=>exact ziH t w (by omega)
 |lex h hl hc=>exact zkl t w (by omega) hl hc
 |fault h hl hk hj hf=>exact zih t w (by omega) hl hk hj hf
 |op h hl hf ho=>rw[hlen];exact zl0 t w (by omega) hl hf ho
 |opn h hl hf ho hd=>exact zkm t w (by omega) hl hf ho hd
 |XD h hl hf ho hd hR hw=>exact(ze1 t w (by omega) hl hf ho hd hR).mono λe w' h=>h.1 hw
 |D9 h hl hf ho hd hR hw=>exact(ze1 t w (by omega) hl hf ho hd hR).mono λe w' h=>h.2 (by omega)
section
variable {r:Int}{c:List UInt8}{a p:Nat}{w w':zf}
noncomputable def wB (t:ByteArray):dL×Int:=((Z4 t.data.toList).choose,(Z4 t.data.toList).choose_spec.choose)
theorem Lk(t:ByteArray):∃x,Ab t.data.toList (wB t).1 (wB t).2 x:=(Z4 t.data.toList).choose_spec.choose_spec
theorem Z9{s:List UInt8}{r:dL}{c a:Int}(h:Ab s r c a):qP r.branches/\Small r.branches:=by
 have hz:qP dL.zero.branches/\Small dL.zero.branches:=⟨λi hi=>absurd hi (fw _),⟨dz _,λi hi=>absurd hi (fw _)⟩⟩;cases h with
 |Y0 _=>exact hz
 |lex _ _ _=>exact hz
 |fault _ _ _ _ _=>exact hz
 |op _ _ _ _=>exact hz
 |opn _ _ _ _ _=>exact hz
 |XD _ _ _ _ _ _ _=>exact hz
 |D9 h hl _ _ _ hR _=>
  have hk:=Fh s s.length 0 [] (by omega) (by simp) (by simp) (by simp);rw[hl]at hk;exact ztK hR (λx hx=>(hk.1 x hx).1) (cY hk.2.1 h)
noncomputable def yy (c:List UInt8) (room:Int) (a:Nat):dL:=if (wB (jH c room a).1).2=0 then (wB (jH c room a).1).1 else (wB ⟨#[97,124,98]⟩).1
theorem zjp(c:List UInt8)(room:Int)(a:Nat):qP (yy c room a).branches/\Small (yy c room a).branches:=by
 unfold yy;split
 ·obtain⟨x,hx⟩:=Lk (jH c room a).1;exact Z9 hx
 ·obtain⟨x,hx⟩:=Lk ⟨#[97,124,98]⟩;exact Z9 hx
theorem aE.same{lo:Nat}(h:aE p w w')(hl:p<lo):Same lo w w':=⟨h.size,λk hk hs=>h.block k hs (by omega)⟩
theorem aE.new(h:aE p w w'){b:Nat}(hb:w.heap.size<=b)(i:Nat)(u:zh):aE p w (w'.setCell ⟨b,i,zb⟩ u):=
 ⟨h.os,h.tape,h.output,by simpa [World.setCell]using h.size,λk hk hs=>(bh _ _ _ _ (show k≠b by omega)).trans (h.block k hk hs)⟩
theorem aR.set(h:aR w p c a r){b:Nat}(hb:p<b)(i:Nat)(u:zh):aR (w.setCell ⟨b,i,zb⟩ u) p c a r:=h.keep λk hk=>bh _ _ _ _ (show k≠b by omega)
theorem aR.below(h:aR w p c a r)(hb:zj w.heap.size w w'):aR w' p c a r:=h.keep λk hk=>hb.block k (by have:=h.lt;omega)
theorem ztc{b:Nat}{C:Array zh}{t:zk}(h:w.heap[b]?=zc (ze C t (0,0)))(hk:aE p w w')(hb:b≠p):w'.heap[b]?=zc (ze C t (0,0)):=(hk.block b (ay h) hb).trans h
def zvg(p:Nat)(w:zf)(c:List UInt8)(r:dL)(s:ft)(e:Ending)(w':zf):Prop:=∃v,e=.returned (zi #[v,za .i64 r.jC])/\iQ w.heap.size w' v r.branches/\aR w' p c s.1 s.2/\aE p w w'
theorem zmH(w:zf)(p:Nat)(c:List UInt8)(a:Nat)(r:Int)(h:aR w p c a r)(room:Int)(iL:1<=room)(sq:room<=1000):
  Calls prog 62 #[.pointer (zc ⟨p,0,zb⟩),za .i64 room] w (zvg p w c (yy c room a) (jH c room a).2):=by
 have du:=h.lt;obtain⟨W0,aw⟩:∃W0,w.alloc (ze #[zd zb 0 0,za .i64 0] 101)=W0:=⟨_,rfl⟩;have aD:zj w.heap.size w W0:=by rw[<-aw];exact ax
 have x0:W0.heap[w.heap.size]?=zc (ze #[zd zb 0 0,za .i64 0] 101 (0,0)):=by rw[<-aw];exact aJ _ _
 have Yk:=ziy W0 p c a r (h.below aD) room iL sq;obtain⟨x1,xP⟩:=Lk (jH c room a).1;obtain⟨x2,Sc⟩:=Lk ⟨#[97,124,98]⟩;have HR:zg (yy c room a=if (wB (jH c room a).1).2=0 then (wB (jH c room a).1).1 else (wB ⟨#[97,124,98]⟩).1):=rfl;obtain⟨tt,sa,sr,hpf⟩:∃t a1 r1,jH c room a=(t,(a1,r1)):=⟨_,_,_,rfl⟩;rw[hpf]at Yk xP HR ⊢;obtain⟨r1,c1,zB4⟩:∃r c,wB tt=(r,c):=⟨_,_,rfl⟩;obtain⟨r2,c2,zB5⟩:∃r c,wB ⟨#[97,124,98]⟩=(r,c):=⟨_,_,rfl⟩;simp only[zB4,zB5]at xP Sc HR
 go_enter func62,ntmps62
 go_wp2_with fail
 refine Yk.mono ?_;rintro e w1 ⟨rfl,eM,bO,_⟩;have y1:=ztc x0 bO (by omega);have k1:=(aE.of (p:=p) aD).trans bO
 go_wp2_with fail
 refine(ZE tt w1 xP).mono ?_;rintro e w2 ⟨aB,v,rfl,hv⟩;obtain⟨ao,cap,rfl,YL,N4⟩:=hv;have hv:iQ w1.heap.size w2 (.slice ao r1.branches.length cap) r1.branches:=⟨ao,cap,rfl,YL,N4⟩;have y2:=aT y1 aB;have r8:=ay y1;have k2:=k1.trans (.of aB);have eQ:=eM.below aB;obtain⟨W3,Rf⟩:∃W3,w2.alloc (ze #[.slice ao r1.branches.length cap,za .i64 r1.jC] 101)=W3:=⟨_,rfl⟩;have fD:zj w2.heap.size w2 W3:=by rw[<-Rf];exact ax
 have z3:W3.heap[w2.heap.size]?=zc (ze #[.slice ao r1.branches.length cap,za .i64 r1.jC] 101 (0,0)):=by rw[<-Rf];exact aJ _ _
 have y3:=aT y2 fD;have k3:=k2.trans (.of fD);have eU:=eQ.below fD;have hv3:=hv.below fD;have pV:=aB.size;generalize pU:r1.branches.length=nb at *;have Hnb:zg _:=pU;have VH:=ah hv3;have Hd3:zg _:=eU;have Qh:zg _:=k3;obtain⟨q0,q1,f0,f1⟩:=jK y3;obtain⟨u0,u1,g0,g1⟩:=jK z3;clear hv hv3 N4 eM eQ eU k1 k2 k3 bO aD x0 y1 Yk h pU xP
 by_cases hc:c1=0
 ·subst hc;have HE:zg (yy c room a=r1):=HR.out;clear HR Sc;go_wp2;refine aW (v:=zi #[.slice ao nb cap,za .i64 r1.jC]) (by simp[results,results62,go_sem,q0,q1]) rfl ?_;rw[HE.out];refine⟨_,rfl,?_,(Hd3.out.set (by omega) _ _).set (by omega) _ _,(Qh.out.new (aq _) _ _).new (aq _) _ _⟩;rw[Hnb.out.symm]at VH ⊢;exact((VH.out.same (.setCell _ (by exact r8) _)).same (.setCell _ (by exact r8) _)).mono (by omega)
 ·have HE:zg (yy c room a=r2):=HR.out.trans (ab hc);have hc':(c1 != 0)=true:=by simp[hc]
  have zzm:=λW=>ZE ⟨#[97,124,98]⟩ W Sc
  clear HR Sc
  go_wp2_with fail
  refine(zzm _).mono ?_;rintro e w4 ⟨de,v4,rfl,Ha⟩;obtain⟨Qu,oX,rfl,zCe,zzG⟩:=Ha;have Hv4:=ah (show iQ W3.heap.size w4 (.slice Qu r2.branches.length oX) r2.branches from⟨Qu,oX,rfl,zCe,zzG⟩);have Hd4:=ah (Hd3.out.below de);have Hk4:=ah (Qh.out.trans (.of de));have y4:=aT y3 de;have z4:=aT z3 de;have G6:=fD.size;have Ht:=ay z3;generalize zzd:r2.branches.length=nb2 at *;have zAr:zg _:=zzd;obtain⟨q0,q1,f0,f1⟩:=jK y4;obtain⟨u0,u1,g0,g1⟩:=jK z4;clear zzG zzd y3 z3 y2 aB de fD VH zzm hc';go_wp2;refine aW (v:=zi #[.slice Qu nb2 oX,za .i64 r2.jC]) (by simp[results,results62,go_sem,q0,q1]) rfl ?_;rw[HE.out];refine⟨_,rfl,?_,(((Hd4.out.set (by omega) _ _).set (by omega) _ _).set (by omega) _ _).set (by omega) _ _,(((Hk4.out.new (by omega) _ _).new (by omega) _ _).new (aq _) _ _).new (aq _) _ _⟩;rw[zAr.out.symm]at Hv4 ⊢;exact((((Hv4.out.same (.setCell _ (by exact Ht) _)).same (.setCell _ (by exact Ht) _)).same (.setCell _ (show w.heap.size<_ by omega) _)).same (.setCell _ (show w.heap.size<_ by omega) _)).mono (by omega)
end
structure vz where
 ns:List aC
 parts:Nat
 gr:Nat
 a:Nat
def Lq(c:List UInt8)(s:vz):vz:=
 if 2<=s.parts/\(ae c 6 s.a).1=1 then ⟨s.ns++[⟨2,[],0,0,0⟩],s.parts-1,s.gr,(ae c 6 s.a).2⟩
 else if 2<=s.parts/\(ae c 6 s.a).1=2 then ⟨s.ns++[⟨3,[],0,0,0⟩],s.parts-1,s.gr,(ae c 6 s.a).2⟩
 else if 1<=s.parts/\(ae c 6 s.a).1=3 then ⟨s.ns++[⟨4,[],(ae c 3 (ae c 6 s.a).2).1,(ae c 3 (ae c 6 s.a).2).1+(ae c 3 (ae c 3 (ae c 6 s.a).2).2).1,0⟩],s.parts,s.gr,(ae c 3 (ae c 3 (ae c 6 s.a).2).2).2⟩
 else if 1<=s.parts/\(ae c 6 s.a).1=4 then ⟨s.ns++[⟨4,[],(ae c 2 (ae c 6 s.a).2).1,-1,0⟩],s.parts,s.gr,(ae c 2 (ae c 6 s.a).2).2⟩
 else if 1<=s.parts/\(ae c 6 s.a).1=5 then ⟨s.ns++[⟨5,[],0,0,((s.gr+1:Nat):Int)⟩],s.parts,s.gr+1,(ae c 6 s.a).2⟩
 else ⟨s.ns++[⟨1,[(97+(ae c 3 (ae c 6 s.a).2).1,97+(ae c 3 (ae c 6 s.a).2).1+(ae c 2 (ae c 3 (ae c 6 s.a).2).2).1)],0,0,0⟩],s.parts+1,s.gr,(ae c 2 (ae c 3 (ae c 6 s.a).2).2).2⟩
def pT(c:List UInt8)(a:Nat):Nat->vz
 |0=>⟨[],0,0,a⟩
 |k+1=>Lq c (pT c a k)
def O6(c:List UInt8)(s:vz):vz:=⟨s.ns++[⟨if (ae c 3 s.a).1=2 then 3 else 2,[],0,0,0⟩],s.parts-1,s.gr,(ae c 3 s.a).2⟩
def oG(c:List UInt8)(s:vz):Nat->vz
 |0=>s
 |k+1=>O6 c (oG c s k)
def Pm(c:List UInt8)(s:vz):dL×Nat:=
 if (ae c 4 (ae c 6 (ae c 6 s.a).2).2).1=3 then (⟨[⟨decide ((ae c 6 s.a).1=5),decide ((ae c 6 (ae c 6 s.a).2).1=5),s.ns⟩,⟨false,false,[⟨1,[(97,97)],0,0,0⟩]⟩],(s.gr:Int)⟩,(ae c 4 (ae c 6 (ae c 6 s.a).2).2).2)
 else (⟨[⟨decide ((ae c 6 s.a).1=5),decide ((ae c 6 (ae c 6 s.a).2).1=5),s.ns⟩],(s.gr:Int)⟩,(ae c 4 (ae c 6 (ae c 6 s.a).2).2).2)
def R6(c:List UInt8)(n a:Nat):dL×Nat:=Pm c (oG c (pT c a n) ((pT c a n).parts-1))
def qj(c:List UInt8)(a:Nat):dL×Nat:=R6 c (1+(ae c 12 a).1).toNat (ae c 12 a).2
structure xk(s:vz)(k:Nat):Prop where
 kids:gF s.ns 0=zc s.parts
 Ks:s.ns.all bk=true
 len:s.ns.length<=k
 SG:s.parts<=k
 QP:s.gr<=k
 set:∀x∈s.ns,x.set.length<=1
theorem zo1(ns:List aC)(n:aC):∀d e,gF ns d=zc e->¬e<aP n.kind->gF (ns++[n]) d=zc (e-aP n.kind+1):=by
 induction ns with
 |nil=>
  intro d e h he;simp only[gF,Option.some.injEq]at h;subst h;show (if d<aP n.kind then zb else gF [] (d-aP n.kind+1))=_;rw[ab he]
  rfl
 |cons m ns ih=>
  intro d e h he;rw[gF]at h;show (if d<aP m.kind then zb else gF (ns++[n]) (d-aP m.kind+1))=_;split at h
  ·cases h
  ·rename_i h1
   rw[ab h1];exact ih _ _ h he
theorem xk.snoc{s:vz}{k:Nat}(h:xk s k){n:aC}{p g a:Nat}(hn:bk n=true)(ha:¬s.parts<aP n.kind)(hp:p=s.parts-aP n.kind+1)(hg:g<=k+1)(G8:n.set.length<=1):xk ⟨s.ns++[n],p,g,a⟩ (k+1):=by
 have h1:=zo1 s.ns n 0 _ h.kids ha;have:=h.SG;refine⟨by rw[h1,hp],by show (s.ns++[n]).all bk=true;rw[vo,h.Ks];simpa using hn,by have:=h.len;simp;omega,by show p<=_;omega,hg,λx hx=>?_⟩;rcases gH.1 hx with hx|hx
 ·exact h.set x hx
 ·simp at hx;subst hx;exact G8
theorem ue{c:List UInt8}{a:Nat}{n:Int}(hn:1<=n):0<=(ae c n a).1/\(ae c n a).1<n:=by
 unfold ae;split
 ·exact⟨Ai _,by show (0:Int)<n;omega⟩
 ·split
  ·exact⟨Int.emod_nonneg _ (by omega),Int.emod_lt_of_pos _ (by omega)⟩
  ·exact⟨Int.emod_nonneg _ (by omega),Int.emod_lt_of_pos _ (by omega)⟩
theorem ar2:aP 2=2/\aP 3=2/\aP 4=1/\aP 5=1/\aP 1=0:=by decide
theorem xk.step{c:List UInt8}{s:vz}{k:Nat}(h:xk s k):xk (Lq c s) (k+1)/\1<=(Lq c s).parts:=by
 obtain⟨e2,e3,e4,e5,e1⟩:=ar2;have hg:=h.QP;unfold Lq
 by_cases c1:2<=s.parts/\(ae c 6 s.a).1=1
 ·rw[af c1];exact⟨h.snoc (by decide) (by show ¬s.parts<aP 2;omega) (by show _=s.parts-aP 2+1;omega) (by omega) (by simp),by show 1<=s.parts-1;omega⟩
 rw[ab c1]
 by_cases c2:2<=s.parts/\(ae c 6 s.a).1=2
 ·rw[af c2];exact⟨h.snoc (by decide) (by show ¬s.parts<aP 3;omega) (by show _=s.parts-aP 3+1;omega) (by omega) (by simp),by show 1<=s.parts-1;omega⟩
 rw[ab c2]
 by_cases c3:1<=s.parts/\(ae c 6 s.a).1=3
 ·rw[af c3];have b1:=ue (c:=c) (a:=(ae c 6 s.a).2) (n:=3) (by omega);have b2:=ue (c:=c) (a:=(ae c 3 (ae c 6 s.a).2).2) (n:=3) (by omega);refine⟨h.snoc ?_ (by show ¬s.parts<aP 4;omega) (by show _=s.parts-aP 4+1;omega) (by omega) (by simp),c3.1⟩;simp[bk,lz];omega
 rw[ab c3]
 by_cases c4:1<=s.parts/\(ae c 6 s.a).1=4
 ·rw[af c4];have b1:=ue (c:=c) (a:=(ae c 6 s.a).2) (n:=2) (by omega);refine⟨h.snoc ?_ (by show ¬s.parts<aP 4;omega) (by show _=s.parts-aP 4+1;omega) (by omega) (by simp),c4.1⟩;simp[bk,lz];omega
 rw[ab c4]
 by_cases c5:1<=s.parts/\(ae c 6 s.a).1=5
 ·rw[af c5];exact⟨h.snoc (by simp[bk]) (by show ¬s.parts<aP 5;omega) (by show _=s.parts-aP 5+1;omega) (by omega) (by simp),c5.1⟩
 rw[ab c5];have b1:=ue (c:=c) (a:=(ae c 6 s.a).2) (n:=3) (by omega);have b2:=ue (c:=c) (a:=(ae c 3 (ae c 6 s.a).2).2) (n:=2) (by omega);refine⟨h.snoc ?_ (by show ¬s.parts<aP 1;omega) (by show _=s.parts-aP 1+1;omega) (by omega) (by simp),by show 1<=s.parts+1;omega⟩;simp[bk,qe];omega
theorem Ub(c:List UInt8)(a:Nat):∀k,xk (pT c a k) k/\(0<k->1<=(pT c a k).parts)
 |0=>⟨⟨rfl,rfl,aq _,aq _,aq _,λx hx=>by cases hx⟩,λh=>absurd h (Nat.lt_irrefl _)⟩
 |k+1=>⟨((Ub c a k).1.step).1,λ_=>((Ub c a k).1.step).2⟩
theorem zmS(c:List UInt8){s:vz}{n:Nat}(h:xk s n):∀k,k<s.parts->xk (oG c s k) (n+k)/\(oG c s k).parts=s.parts-k/\(oG c s k).gr=s.gr
 |0,_=>⟨h,rfl,rfl⟩
 |k+1,hk=>by
  obtain⟨h1,h2,h3⟩:=zmS c h k (by omega);obtain⟨e2,e3,_,_,_⟩:=ar2;have hg:=h1.QP;refine⟨?_,by show (oG c s k).parts-1=_;omega,h3⟩;show xk (O6 c (oG c s k)) _;unfold O6
  by_cases e:(ae c 3 (oG c s k).a).1=2
  ·rw[af e];exact h1.snoc (by decide) (by show ¬_<aP 3;omega) (by show _=_-aP 3+1;omega) (by omega) (by simp)
  ·rw[ab e];exact h1.snoc (by decide) (by show ¬_<aP 2;omega) (by show _=_-aP 2+1;omega) (by omega) (by simp)
theorem ztW{s:vz}{k:Nat}(h:xk s k)(hp:s.parts=1)(hk:k<=100)(b e:Bool)(bs:List dc)(hb:qP bs/\Small bs/\bs.length<=10):qP (⟨b,e,s.ns⟩::bs)/\Small (⟨b,e,s.ns⟩::bs):=by
 have hl:=h.len;refine⟨λi hi=>?_,by simp;omega,λi hi=>?_⟩
 ·cases i with
  |zero=>exact⟨by show kL s.ns=true;unfold kL;rw[h.kids,hp];rfl,h.Ks⟩
  |succ i=>exact hb.1 i (by simpa using hi)
 ·cases i with
  |zero=>
   refine⟨by show s.ns.length<=_;omega,λj hj=>?_⟩;have hj:j<s.ns.length:=hj;have:(s.ns.getD j .zero).set.length<=1:=h.set _ (by rw[bJ,bE hj];exact gA _);show (s.ns.getD j .zero).set.length<=_;omega
  |succ i=>exact hb.2.1.2 i (by simpa using hi)
theorem ziY(c:List UInt8)(a:Nat):qP (qj c a).1.branches/\Small (qj c a).1.branches:=by
 have hb:=ue (c:=c) (a:=a) (n:=12) (by omega);have hN:(1+(ae c 12 a).1).toNat<=12/\0<(1+(ae c 12 a).1).toNat:=by omega
 unfold qj;generalize (1+(ae c 12 a).1).toNat=n at *;generalize (ae c 12 a).2=y at *;obtain⟨h1,h2⟩:=Ub c y n;have hp:=h2 hN.2;have G4:=h1.SG;obtain⟨h3,h4,_⟩:=zmS c h1 ((pT c y n).parts-1) (by omega);have hn:qP []/\Small []/\([]:List dc).length<=10:=⟨λi hi=>absurd hi (fw _),⟨dz _,λi hi=>absurd hi (fw _)⟩,by simp⟩;have tO:qP [⟨false,false,[⟨1,[(97,97)],0,0,0⟩]⟩]/\Small [⟨false,false,[⟨1,[(97,97)],0,0,0⟩]⟩]:=by
  have:xk ⟨[⟨1,[(97,97)],0,0,0⟩],1,0,0⟩ 1:=⟨by decide,by decide,by simp,by simp,by simp,λx hx=>by simp at hx;subst hx;simp⟩;exact ztW this rfl (by omega) false false [] hn
 unfold R6 Pm;split
 ·exact ztW h3 (by omega) (by omega) _ _ _ ⟨tO.1,tO.2,by simp⟩
 ·exact ztW h3 (by omega) (by omega) _ _ _ hn
structure xn(p:Nat)(w:zf)(c:List UInt8)(r:Int)(B:Nat)(W:zf)(nv:zh)(ns:List aC)(a:Nat):Prop where
 nd:e8 B (λb=>B<=b) W nv ns
 kept:aE p w W
 jc:aR W p c a r
 bw:W.heap[w.heap.size]?=zc (ze #[zd zb 0 0,za .i64 0] 101 (0,0))
 base:p<w.heap.size/\w.heap.size<B/\B<=W.heap.size
section
variable {p:Nat} {w:zf} {c:List UInt8} {r:Int} {B:Nat} {W W' W2:zf} {nv:zh} {ns:List aC} {a a':Nat}
theorem xn.pick(h:xn p w c r B W nv ns a)(hd:aR W' p c a' r)(hk:aE p W W'):xn p w c r B W' nv ns a':=by
 obtain⟨b1,b2,b3⟩:=h.base;refine⟨h.nd.keep hk.size λb hb hl=>hk.block b hl ?_,h.kept.trans hk,hd,(hk.block _ (by omega) (by omega)).trans h.bw,b1,b2,cY b3 hk.size⟩;rcases hb with hb|hb
 ·obtain⟨sv,ho,_⟩:=h.nd;have:=(dU ho hb).1;omega
 ·omega
theorem xn.app(h:xn p w c r B W nv ns a)(hb:zj W.heap.size W W'){v2:zh}{n:aC}(hn:e8 B (λb=>B<=b) W2 v2 (ns++[n]))(hg:W'.grownBy W2 nv.ownBlock):xn p w c r B W2 v2 (ns++[n]) a:=by
 obtain⟨b1,b2,b3⟩:=h.base;have nG:=hb.size;have key:∀b,nv.ownBlock=zc b->B<=b:=λb e=>by obtain⟨sv,ho,_⟩:=h.nd;exact(dU ho e).1
 refine⟨hn,(h.kept.trans (.of hb)).grown hg λb e=>by have:=key b e;omega,(h.jc.keep (w':=W') λb kT=>hb.block b (by omega)).grown hg λb e=>by have:=key b e;omega,(hg.block _ (by omega) (λe=>by have:=key _ e.symm;omega)).trans ((hb.block _ (by omega)).trans h.bw),b1,b2,by have:=hg.size;omega⟩
end
def xr(t:zk)(parts:Array (Nat×zh)):Sem zh:=Instr.build t parts
theorem zov(parts:Array (Nat×zh)):Instr.build 135 parts=xr 135 parts:=rfl
theorem zru(k:Int)(W:zf):(xr 135 #[(0,za .i64 k)]).run prog W=.ok (zi #[za .i64 k,zd zb 0 0,za .i64 0,za .i64 0,za .i64 0]) W:=run_build W _ _ _ (by kernel_rfl)
theorem zuJ(k x y:Int)(W:zf):(xr 135 #[(0,za .i64 k),(2,za .i64 x),(3,za .i64 y)]).run prog W=.ok (zi #[za .i64 k,zd zb 0 0,za .i64 x,za .i64 y,za .i64 0]) W:=run_build W _ _ _ (by kernel_rfl)
theorem zuK(k x:Int)(W:zf):(xr 135 #[(0,za .i64 k),(4,za .i64 x)]).run prog W=.ok (zi #[za .i64 k,zd zb 0 0,za .i64 0,za .i64 0,za .i64 x]) W:=run_build W _ _ _ (by kernel_rfl)
theorem zrv(k:Int)(ao:Option Addr)(n m:Nat)(W:zf):(xr 135 #[(0,za .i64 k),(1,.slice ao n m)]).run prog W=.ok (zi #[za .i64 k,.slice ao n m,za .i64 0,za .i64 0,za .i64 0]) W:=run_build W _ _ _ (by kernel_rfl)
attribute [local go_sem ↓] zov
theorem zow(parts:Array (Nat×zh)):Instr.build 101 parts=xr 101 parts:=rfl
theorem zou(parts:Array (Nat×zh)):Instr.build 115 parts=xr 115 parts:=rfl
theorem zvI(g:Int)(W:zf):(xr 101 #[(1,za .i64 g)]).run prog W=.ok (zi #[zd zb 0 0,za .i64 g]) W:=run_build W _ _ _ (by kernel_rfl)
theorem zvG(b e:Bool)(ao:Option Addr)(n m:Nat)(W:zf):(xr 115 #[(0,.bool b),(1,.bool e),(2,.slice ao n m)]).run prog W=.ok (zi #[.bool b,.bool e,.slice ao n m]) W:=run_build W _ _ _ (by kernel_rfl)
theorem zuI(ao:Option Addr)(n m:Nat)(W:zf):(xr 115 #[(2,.slice ao n m)]).run prog W=.ok (zi #[.bool false,.bool false,.slice ao n m]) W:=run_build W _ _ _ (by kernel_rfl)
attribute [local go_sem ↓] zow zou
theorem zvi{B lo:Nat}{W:zf}{v:zh}{bs:List dc}{nv:Nat->zh}(ho:W.ownsRow B 115 3 v bs.length (xt bs nv))(hn:∀k,k<bs.length->og lo W (nv k) (bs.getD k .zero).nodes)(nJ:lo<=B):iQ lo W v bs:=by
 rcases ho.2 with ⟨rfl,h0⟩|⟨g,cap,aZ,rfl,hg,hh,h1,h2,h3,h4⟩
 ·have:bs=[]:=qV h0;subst this;exact iQ.nil _ _
 ·refine⟨_,cap,rfl,cY h1 (Ii h2),λ_=>⟨g,0,rfl,cY nJ hg,ay hh,λi hi=>?_⟩⟩;have hg:=λj (hj:j<3)=>(ho.cellAt (i*3+j) (by omega)).trans (zpH bs nv hi hj)
  rw[iH];exact⟨hg 0 (by omega),hg 1 (by omega),⟨nv i,hg 2 (by omega),hn i hi⟩⟩
structure qu(p:Nat)(w:zf)(c:List UInt8)(r:Int)(G:Nat)(W:zf)(v:zh)(bs:List dc)(nv:Nat->zh)(g:Int)(a:Nat):Prop where
 own:W.ownsRow (G+1) 115 3 v bs.length (xt bs nv)
 Ks:∀k,k<bs.length->fU (λb=>(w.heap.size<b/\b≠G)/\v.ownBlock≠zc b) W (nv k) (bs.getD k .zero).nodes
 box:W.heap[G]?=zc (ze #[v,za .i64 g] 101 (0,0))
 bw:W.heap[w.heap.size]?=zc (ze #[zd zb 0 0,za .i64 0] 101 (0,0))
 kept:aE p w W
 jc:aR W p c a r
 base:p<w.heap.size/\w.heap.size<G
section
variable {p:Nat} {w:zf} {c:List UInt8} {r:Int} {G:Nat} {W W' Wc w':zf} {v:zh} {bs:List dc} {nv:Nat->zh} {g:Int} {a a':Nat}
theorem qu.AX(h:qu p w c r G W v bs nv g a)(hs:W.heap.size<=W'.heap.size)(hb:∀b,w.heap.size<=b->b<W.heap.size->W'.heap[b]?=W.heap[b]?)(hk:aE p w W')(hd:aR W' p c a' r):qu p w c r G W' v bs nv g a':=by
 obtain⟨b1,b2⟩:=h.base;exact⟨ub h.own λb e=>hb b (by have:=(dU h.own e).1;omega) (dU h.own e).2,λk bu=>(h.Ks k bu).keep hs λb aB hl=>hb b (by omega) hl,(hb G (by omega) (ay h.box)).trans h.box,(hb _ (aq _) (ay h.bw)).trans h.bw,hk,hd,b1,b2⟩
theorem qu.pick(h:qu p w c r G W v bs nv g a)(hd:aR W' p c a' r)(hk:aE p W W'):qu p w c r G W' v bs nv g a':=
 h.AX hk.size (λb hb hl=>hk.block b hl (by have:=h.base;omega)) (h.kept.trans hk) hd
theorem qu.below(h:qu p w c r G W v bs nv g a)(hb:zj W.heap.size W W'):qu p w c r G W' v bs nv g a:=
 h.AX hb.size (λb _ hl=>hb.block b hl) (h.kept.trans (.of hb)) (h.jc.below hb)
theorem qu.push(h:qu p w c r G W v bs nv g a){b:dc}{s:zh}{g' cap':Nat}(hv:fU (λb=>(w.heap.size<b/\b≠G)/\v.ownBlock≠zc b) W s b.nodes)
  (ho:w'.ownsRow (G+1) 115 3 (zd (zc ⟨g',0,zb⟩) (bs.length+1) cap') (bs.length+1) (xt bs nv++Gb b s)) (hg:W.grownBy w' v.ownBlock) (fV:v.ownBlock=zc g'\/W.heap.size<=g'):
  w'.heap[G]?=zc (ze #[v,za .i64 g] 101 (0,0))/\∃sF,qu p w c r G (w'.setCell ⟨G,0,zb⟩ (zd (zc ⟨g',0,zb⟩) (bs.length+1) cap')) (zd (zc ⟨g',0,zb⟩) (bs.length+1) cap') (bs++[b]) sF g a:=by
 obtain⟨b1,b2⟩:=h.base;have QX:∀b,v.ownBlock=zc b->G<b:=λb e=>(dU h.own e).1
 have dk:w'.heap[G]?=zc (ze #[v,za .i64 g] 101 (0,0)):=(hg.block G (ay h.box) (λe=>by have:=QX G e.symm;omega)).trans h.box;have key:∀s ns,fU (λb=>(w.heap.size<b/\b≠G)/\v.ownBlock≠zc b) W s ns->fU (λb=>(w.heap.size<b/\b≠G)/\(Value.slice (zc ⟨g',0,zb⟩) (bs.length+1) cap').ownBlock≠zc b) (w'.setCell ⟨G,0,zb⟩ (zd (zc ⟨g',0,zb⟩) (bs.length+1) cap')) s ns:=by
  intro s ns h;have h4:fU (λb=>((w.heap.size<b/\b≠G)/\v.ownBlock≠zc b)/\b<W.heap.size) W s ns:=h.mono λb hb hl=>⟨hb,hl⟩
  have h5:=h4.keep (W':=w'.setCell ⟨G,0,zb⟩ (zd (zc ⟨g',0,zb⟩) (bs.length+1) cap')) (by simpa [World.setCell]using hg.size) (λb hb hl=>(bh _ _ _ _ (show b≠G from hb.1.1.2)).trans (hg.block b hl (λe=>hb.1.2 e.symm)));refine h5.mono λb hb _=>⟨hb.1.1,λe=>?_⟩
  have e2:g'=b:=by simpa [Value.ownBlock]using e
  subst e2;rcases fV with h|h
  ·exact hb.1.2 h
  ·have:=hb.2;omega
 have pR:∀k,k<bs.length->(bs++[b]).getD k .zero=bs.getD k .zero:=λk hk=>by simp[List.getD,List.getElem?_append_left hk]
 have dE:(bs++[b]).getD bs.length .zero=b:=by simp[List.getD]
 have hgG:G<g':=(dU ho rfl).1;refine⟨dk,λk=>if k<bs.length then nv k else s,?_,λk hk=>?_,cJ w' G 0 _ _ _ dk,?_,?_,?_,b1,b2⟩
 ·have:xt (bs++[b]) (λk=>if k<bs.length then nv k else s)=xt bs nv++Gb b s:=by
   unfold xt;rw[aQ,show [b].length=1 from rfl,KU]
   congr 1
   ·exact Ov _ λk hk=>by rw[pR k hk];simp only[af hk]
   ·rw[dE];simp
  rw[this,aQ];exact ub ho λb e=>bh _ _ _ _ (show b≠G by have:=(dU ho e).1;omega)
 ·by_cases e:k<bs.length
  ·rw[pR k e];simp only[af e];exact key _ _ (h.Ks k e)
  ·have e2:k=bs.length:=by simp at hk;omega
   subst e2;rw[dE];simp only[ab e];exact key _ _ hv
 ·exact(bh _ _ _ _ (show w.heap.size≠G by omega)).trans ((hg.block _ (ay h.bw) (λe=>by have:=QX _ e.symm;omega)).trans h.bw)
 ·exact(h.kept.grown hg λb e=>by have:=QX b e;omega).ww (by omega) _ _
 ·exact(h.jc.grown hg λb e=>by have:=QX b e;omega).set (by omega) _ _
theorem qu.done(h:qu p w c r G W v bs nv g a){v1:zh}(hv:v=v1):iQ w.heap.size ((W.setCell ⟨w.heap.size,0,zb⟩ v1).setCell ⟨w.heap.size,1,zb⟩ (za .i64 g)) v bs/\aR ((W.setCell ⟨w.heap.size,0,zb⟩ v1).setCell ⟨w.heap.size,1,zb⟩ (za .i64 g)) p c a r/\aE p w ((W.setCell ⟨w.heap.size,0,zb⟩ v1).setCell ⟨w.heap.size,1,zb⟩ (za .i64 g)):=by
 subst hv;obtain⟨b1,b2⟩:=h.base;have h2:iQ (w.heap.size+1) W v bs:=zvi h.own (λk hk=>(h.Ks k hk).at λb hb=>hb.1.1) (by omega);exact⟨((h2.same (.setCell _ (show w.heap.size<_ from FG _) _)).same (.setCell _ (show w.heap.size<_ from FG _) _)).mono (by omega),(h.jc.set b1 _ _).set b1 _ _,(h.kept.new (aq _) _ _).new (aq _) _ _⟩
end
theorem ziN(W:zf)(o:Obj)(C:Array zh)(t:zk):((W.alloc o).alloc (ze C t)).heap[W.heap.size+1]?=zc (ze C t (0,0)):=by
 have:=aJ (W.alloc o) (ze C t);rw[show (W.alloc o).heap.size=W.heap.size+1 by simp]at this;exact this
theorem zrl{W:zf}{b:Nat}{x y:Int}{U:Nat->Prop}(h:W.heap[b]?=zc (ze #[za .i64 x,za .i64 y] 137 (0,0)))(hU:U b):gu U W (zd (zc ⟨b,0,zb⟩) 1 1) [(x,y)]:=
 ⟨_,1,rfl,by simp,by unfold maxLen;omega,λ_=>⟨b,rfl,hU,ay h,λj u hu=>by rw[iY _ _ _ _ _ _ h];simpa [sI]using hu⟩⟩
theorem zqZ{W:zf}{a b:Nat}{x y:Int}{U:Nat->Prop}(hn:W.heap[a]?=zc (ze #[za .i64 1,zd (zc ⟨b,0,zb⟩) 1 1,za .i64 0,za .i64 0,za .i64 0] 135 (0,0)))(hr:W.heap[b]?=zc (ze #[za .i64 x,za .i64 y] 137 (0,0)))(ha:U a)(hb:U b):fU U W (zd (zc ⟨a,0,zb⟩) 1 1) [⟨1,[(x,y)],0,0,0⟩]:=by
 refine⟨a,1,λ_=>zd (zc ⟨b,0,zb⟩) 1 1,rfl,by simp,by unfold maxLen;omega,ha,ay hn,λj u hu=>?_,λk hk=>?_⟩
 ·rw[iY _ _ _ _ _ _ hn]
  simpa [me,pn,List.range_succ,List.getD]using hu
 ·have:k=0:=by simp at hk;omega
  subst this;exact zrl hr hb
theorem zmP(w:zf)(p:Nat)(c:List UInt8)(a:Nat)(r:Int)(h:aR w p c a r):
  Calls prog 60 #[.pointer (zc ⟨p,0,zb⟩)] w (zvg p w c (qj c a).1 ((qj c a).2,r)):=by
 have du:=h.lt;obtain⟨W0,aw⟩:∃W0,w.alloc (ze #[zd zb 0 0,za .i64 0] 101)=W0:=⟨_,rfl⟩;have aD:zj w.heap.size w W0:=by rw[<-aw];exact ax
 have x0:W0.heap[w.heap.size]?=zc (ze #[zd zb 0 0,za .i64 0] 101 (0,0)):=by rw[<-aw];exact aJ _ _
 have pj:W0.heap.size=w.heap.size+1:=by rw[<-aw];simp
 obtain⟨W1,cZ⟩:∃W1,W0.alloc (ze #[] 135)=W1:=⟨_,rfl⟩;have aO:zj W0.heap.size W0 W1:=by rw[<-cZ];exact ax
 have Cr:e8 (w.heap.size+1) (λb=>w.heap.size+1<=b) W1 (zd (zc ⟨w.heap.size+1,0,zb⟩) 0 0) []:=by rw[<-cZ];exact e8.new W0 _ _ _ (aq _) pj
 have HP:=ah λW a hW (n:Int) (hn:n<=65536)=>rK W p c a r hW n hn
 have eM:aR W1 p c a r:=(h.below aD).below aO;have Eb:=HP.out W1 a eM 12 (by omega);have Nn:=jL h.le 12;have HF:zg (qj c a=R6 c (1+(ae c 12 a).1).toNat (ae c 12 a).2):=rfl;obtain⟨x1,y1,kC⟩:∃x y,ae c 12 a=(x,y):=⟨_,_,rfl⟩;rw[kC]at Eb Nn HF;obtain⟨N,hN⟩:∃N:Nat,1+x1=(N:Int):=⟨(1+x1).toNat,by have:=Nn.2.1;simp only at this;omega⟩;have Eg:1<=N/\N<=12:=by have h1:=Nn.2.1;have h2:=Nn.2.2;simp only at h1 h2;omega
 have HF:zg (qj c a=R6 c N y1):=by rw[hN]at HF;exact HF.out
 have hI:xn p w c r (w.heap.size+1) W1 (zd (zc ⟨w.heap.size+1,0,zb⟩) 0 0) [] a:=⟨Cr,(aE.of aD).trans (.of aO),eM,aT x0 aO,du,by omega,by have:=aO.size;omega⟩;have HI:=ah hI;clear Nn kC hI Cr eM aO aD x0 h
 go_enter func60,ntmps60
 go_wp2_with fail
 refine Eb.mono ?_;rintro e w2 ⟨rfl,eQ,bu⟩;have nz:=ah (HI.out.pick eQ bu);clear HI eQ bu Eb aw cZ pj;go_wp2
 go_loopw [3,4,5,7] (λnv pv gv i wr=>∃k:Nat,k<=N/\i=za .i64 k/\∃na nc,nv=.slice na (pT c y1 k).ns.length nc/\pv=za .i64 ((pT c y1 k).parts:Int)/\gv=za .i64 ((pT c y1 k).gr:Int)/\xn p w c r (w.heap.size+1) wr (.slice na (pT c y1 k).ns.length nc) (pT c y1 k).ns (pT c y1 k).a) (λ_ _ _ i _=>N-(intOf i).toNat)
 case atStart=>exact⟨0,by omega,rfl,_,_,rfl,rfl,rfl,nz.out⟩
 case round=>
  clear nz;obtain⟨k,hk,rfl,na,nc,rfl,rfl,rfl,hS⟩:=hrel;have HS:=ah hS;have HO:=ah (Ub c y1 k);clear hS
  by_cases hlt:k<N
  ·have Cm:(k:Int)<(N:Int):=by omega
   have mG:zg (pT c y1 (k+1)=Lq c (pT c y1 k)):=rfl;generalize pT c y1 k=st at *;obtain⟨ns,pt,gr,ak⟩:=st;replace HS:zg (xn p w c r (w.heap.size+1) wr (.slice na ns.length nc) ns ak):=HS.out;have hlen:ns.length<=12:=by have:=HO.out.1.len;show ns.length<=12;have h2:ns.length<=k:=this;omega
   have G4:pt<=12:=by have h2:pt<=k:=HO.out.1.SG;omega
   have mR:gr<=12:=by have h2:gr<=k:=HO.out.1.QP;omega
   have b6:=ue (c:=c) (a:=ak) (n:=6) (by omega);obtain⟨x6,y6,iE⟩:∃x y,ae c 6 ak=(x,y):=⟨_,_,rfl⟩;have b7:=ue (c:=c) (a:=y6) (n:=3) (by omega);obtain⟨x7,y7,zI⟩:∃x y,ae c 3 y6=(x,y):=⟨_,_,rfl⟩;have b8:=ue (c:=c) (a:=y7) (n:=3) (by omega);obtain⟨x8,y8,wo⟩:∃x y,ae c 3 y7=(x,y):=⟨_,_,rfl⟩;have b9:=ue (c:=c) (a:=y6) (n:=2) (by omega);obtain⟨x9,y9,YP⟩:∃x y,ae c 2 y6=(x,y):=⟨_,_,rfl⟩;have ba:=ue (c:=c) (a:=y7) (n:=2) (by omega);obtain⟨xa,ya,wu⟩:∃x y,ae c 2 y7=(x,y):=⟨_,_,rfl⟩;rw[iE]at b6;rw[zI]at b7;rw[wo]at b8;rw[YP]at b9;rw[wu]at ba;obtain⟨b60,b61⟩:=b6;obtain⟨b70,b71⟩:=b7;obtain⟨b80,b81⟩:=b8;obtain⟨b90,b91⟩:=b9;obtain⟨ba0,ba1⟩:=ba;simp only at b60 b61 b70 b71 b80 b81 b90 b91 ba0 ba1;have iL:=zru;have sq:=zuJ;have Cv:=zuK;have hr4:=zrv;have HX:zg (pT c y1 (k+1)=if 2<=pt/\x6=1 then ⟨ns++[⟨2,[],0,0,0⟩],pt-1,gr,y6⟩ else if 2<=pt/\x6=2 then ⟨ns++[⟨3,[],0,0,0⟩],pt-1,gr,y6⟩ else if 1<=pt/\x6=3 then ⟨ns++[⟨4,[],x7,x7+x8,0⟩],pt,gr,y8⟩ else if 1<=pt/\x6=4 then ⟨ns++[⟨4,[],x9,-1,0⟩],pt,gr,y9⟩ else if 1<=pt/\x6=5 then ⟨ns++[⟨5,[],0,0,((gr+1:Nat):Int)⟩],pt,gr+1,y6⟩ else ⟨ns++[⟨1,[(97+x7,97+x7+xa)],0,0,0⟩],pt+1,gr,ya⟩):=by
    have:=mG.out;unfold Lq at this;simp only[iE,zI,wo,YP,wu]at this;exact this
   clear mG HO;have M9:(pt=0\/(pt=1/\x6<3)\/(2<=pt/\x6=0))\/((pt=1/\x6=3)\/(2<=pt/\x6=3))\/((pt=1/\x6=4)\/(2<=pt/\x6=4))\/((pt=1/\x6=5)\/(2<=pt/\x6=5))\/(2<=pt/\x6=1)\/(2<=pt/\x6=2):=by omega
   rcases M9 with hF|hC|hD|hE|hA|hB
   ·have HE:=ah ((((((HX.out).trans (ab (by omega))).trans (ab (by omega))).trans (ab (by omega))).trans (ab (by omega))).trans (ab (by omega)));clear HX;rcases hF with rfl|⟨rfl,h3⟩|⟨h2,rfl⟩
    all_goals
     try have m3:(x6==3)=false:=by simp;omega
     try have m4:(x6==4)=false:=by simp;omega
     try have m5:(x6==5)=false:=by simp;omega
     try have g2:(2:Int)<=(pt:Int):=by omega
     try have g1:(1:Int)<=(pt:Int):=by omega
     have hp:=HP.out wr ak HS.out.jc 6 (by omega);rw[iE]at hp
     go_wp2_with fail
     refine hp.mono ?_;rintro e w6 ⟨rfl,hd,bC⟩;replace HS:=ah (HS.out.pick hd bC);clear hp hd bC;have hp:=HP.out w6 y6 HS.out.jc 3 (by omega);rw[zI]at hp
     go_wp2_with fail
     refine hp.mono ?_;rintro e w7 ⟨rfl,hd,bC⟩;replace HS:=ah (HS.out.pick hd bC);clear hp hd bC;have hp:=HP.out w7 y7 HS.out.jc 2 (by omega);rw[wu]at hp
     go_wp2_with fail
     refine hp.mono ?_;rintro e w8 ⟨rfl,hd,bC⟩;replace HS:=ah (HS.out.pick hd bC);clear hp hd bC
     go_wp2_with (at_builtin;refine CO rfl (.tmp 95) (.tmp 104) rfl (w.heap.size+1) (λb=>w.heap.size+1<=b) (.slice na ns.length nc) ns rfl (HS.out.nd.below ((ax).alloc (by simp) _)) (w8.heap.size+1) ⟨1,[(97+x7,97+x7+xa)],0,0,0⟩ (zd (zc ⟨w8.heap.size,0,zb⟩) 1 1) rfl (ziN _ _ _ _) (zrl ((Below.heap_alloc _ _ _ (by simp)).trans (aJ _ _)) ⟨HS.out.base.2.2,λe=>by obtain⟨sv,ho,_⟩:=HS.out.nd;have:=(dU ho e).2;omega⟩) (by omega) (by have:=HS.out.base.2.2;simp;omega) ?_;intro g4 oX w4 je cX;have kO:=ah (HS.out.app ((ax).alloc (by simp) _) je cX);clear je cX)
     go_roundw
     case rel=>
      refine⟨k+1,by omega,by go_num,zc ⟨g4,0,zb⟩,oX,?_,?_,?_,?_⟩
      ·rw[HE.out];simp
      ·first|(rw[HE.out];done)|(rw[HE.out];go_num)
      ·first|(rw[HE.out];done)|(rw[HE.out];go_num)
      ·rw[HE.out];simp only[aQ,lW,qU];exact kO.out
     case measure=>simp[intOf];omega
   ·have HE:=ah ((((HX.out).trans (ab (by omega))).trans (ab (by omega))).trans (af (by omega)));clear HX;rcases hC with ⟨rfl,rfl⟩|⟨h2,rfl⟩
    all_goals
     try have g2:(2:Int)<=(pt:Int):=by omega
     try have g1:(1:Int)<=(pt:Int):=by omega
     have hp:=HP.out wr ak HS.out.jc 6 (by omega);rw[iE]at hp
     go_wp2_with fail
     refine hp.mono ?_;rintro e w6 ⟨rfl,hd,bC⟩;replace HS:=ah (HS.out.pick hd bC);clear hp hd bC;have hp:=HP.out w6 y6 HS.out.jc 3 (by omega);rw[zI]at hp
     go_wp2_with fail
     refine hp.mono ?_;rintro e w7 ⟨rfl,hd,bC⟩;replace HS:=ah (HS.out.pick hd bC);clear hp hd bC;have hp:=HP.out w7 y7 HS.out.jc 3 (by omega);rw[wo]at hp
     go_wp2_with fail
     refine hp.mono ?_;rintro e w8 ⟨rfl,hd,bC⟩;replace HS:=ah (HS.out.pick hd bC);clear hp hd bC
     go_wp2_with (at_builtin;refine CO rfl (.tmp 58) (.tmp 65) rfl (w.heap.size+1) (λb=>w.heap.size+1<=b) (.slice na ns.length nc) ns rfl (HS.out.nd.below (ax)) _ ⟨4,[],x7,x7+x8,0⟩ (zd zb 0 0) rfl (aJ _ _) (gu.nil _ _) (by omega) (by have:=HS.out.base.2.2;simp;omega) ?_;intro g4 oX w4 je cX;have kO:=ah (HS.out.app (ax) je cX);clear je cX)
     go_roundw
     case rel=>
      refine⟨k+1,by omega,by go_num,zc ⟨g4,0,zb⟩,oX,?_,?_,?_,?_⟩
      ·rw[HE.out];simp
      ·first|(rw[HE.out];done)|(rw[HE.out];go_num)
      ·first|(rw[HE.out];done)|(rw[HE.out];go_num)
      ·rw[HE.out];simp only[aQ,lW,qU];exact kO.out
     case measure=>simp[intOf];omega
   ·have HE:=ah (((((HX.out).trans (ab (by omega))).trans (ab (by omega))).trans (ab (by omega))).trans (af (by omega)));clear HX;rcases hD with ⟨rfl,rfl⟩|⟨h2,rfl⟩
    all_goals
     try have g2:(2:Int)<=(pt:Int):=by omega
     try have g1:(1:Int)<=(pt:Int):=by omega
     have hp:=HP.out wr ak HS.out.jc 6 (by omega);rw[iE]at hp
     go_wp2_with fail
     refine hp.mono ?_;rintro e w6 ⟨rfl,hd,bC⟩;replace HS:=ah (HS.out.pick hd bC);clear hp hd bC;have hp:=HP.out w6 y6 HS.out.jc 2 (by omega);rw[YP]at hp
     go_wp2_with fail
     refine hp.mono ?_;rintro e w7 ⟨rfl,hd,bC⟩;replace HS:=ah (HS.out.pick hd bC);clear hp hd bC
     go_wp2_with (at_builtin;refine CO rfl (.tmp 73) (.tmp 77) rfl (w.heap.size+1) (λb=>w.heap.size+1<=b) (.slice na ns.length nc) ns rfl (HS.out.nd.below (ax)) _ ⟨4,[],x9,-1,0⟩ (zd zb 0 0) rfl (aJ _ _) (gu.nil _ _) (by omega) (by have:=HS.out.base.2.2;simp;omega) ?_;intro g4 oX w4 je cX;have kO:=ah (HS.out.app (ax) je cX);clear je cX)
     go_roundw
     case rel=>
      refine⟨k+1,by omega,by go_num,zc ⟨g4,0,zb⟩,oX,?_,?_,?_,?_⟩
      ·rw[HE.out];simp
      ·first|(rw[HE.out];done)|(rw[HE.out];go_num)
      ·first|(rw[HE.out];done)|(rw[HE.out];go_num)
      ·rw[HE.out];simp only[aQ,lW,qU];exact kO.out
     case measure=>simp[intOf];omega
   ·have HE:=ah ((((((HX.out).trans (ab (by omega))).trans (ab (by omega))).trans (ab (by omega))).trans (ab (by omega))).trans (af (by omega)));clear HX;rcases hE with ⟨rfl,rfl⟩|⟨h2,rfl⟩
    all_goals
     try have g2:(2:Int)<=(pt:Int):=by omega
     try have g1:(1:Int)<=(pt:Int):=by omega
     have hp:=HP.out wr ak HS.out.jc 6 (by omega);rw[iE]at hp
     go_wp2_with fail
     refine hp.mono ?_;rintro e w6 ⟨rfl,hd,bC⟩;replace HS:=ah (HS.out.pick hd bC);clear hp hd bC
     go_wp2_with (at_builtin;refine CO rfl (.tmp 87) (.tmp 90) rfl (w.heap.size+1) (λb=>w.heap.size+1<=b) (.slice na ns.length nc) ns rfl (HS.out.nd.below (ax)) _ ⟨5,[],0,0,((gr+1:Nat):Int)⟩ (zd zb 0 0) rfl (aJ _ _) (gu.nil _ _) (by omega) (by have:=HS.out.base.2.2;simp;omega) ?_;intro g4 oX w4 je cX;have kO:=ah (HS.out.app (ax) je cX);clear je cX)
     go_roundw
     case rel=>
      refine⟨k+1,by omega,by go_num,zc ⟨g4,0,zb⟩,oX,?_,?_,?_,?_⟩
      ·rw[HE.out];simp
      ·first|(rw[HE.out];done)|(rw[HE.out];go_num)
      ·first|(rw[HE.out];done)|(rw[HE.out];go_num)
      ·rw[HE.out];simp only[aQ,lW,qU];exact kO.out
     case measure=>simp[intOf];omega
   ·have HE:=ah ((HX.out).trans (af (by omega)));clear HX;obtain⟨h2,rfl⟩:=hA;have g2:(2:Int)<=(pt:Int):=by omega
    have hp:=HP.out wr ak HS.out.jc 6 (by omega);rw[iE]at hp
    go_wp2_with fail
    refine hp.mono ?_;rintro e w6 ⟨rfl,hd,bC⟩;replace HS:=ah (HS.out.pick hd bC);clear hp hd bC
    go_wp2_with (at_builtin;refine CO rfl (.tmp 32) (.tmp 34) rfl (w.heap.size+1) (λb=>w.heap.size+1<=b) (.slice na ns.length nc) ns rfl (HS.out.nd.below (ax)) _ ⟨2,[],0,0,0⟩ (zd zb 0 0) rfl (aJ _ _) (gu.nil _ _) (by omega) (by have:=HS.out.base.2.2;simp;omega) ?_;intro g4 oX w4 je cX;have kO:=ah (HS.out.app (ax) je cX);clear je cX)
    go_roundw
    case rel=>
     refine⟨k+1,by omega,by go_num,zc ⟨g4,0,zb⟩,oX,?_,?_,?_,?_⟩
     ·rw[HE.out];simp
     ·first|(rw[HE.out];done)|(rw[HE.out];go_num)
     ·first|(rw[HE.out];done)|(rw[HE.out];go_num)
     ·rw[HE.out];simp only[aQ,lW,qU];exact kO.out
    case measure=>simp[intOf];omega
   ·have HE:=ah (((HX.out).trans (ab (by omega))).trans (af (by omega)));clear HX;obtain⟨h2,rfl⟩:=hB;have g2:(2:Int)<=(pt:Int):=by omega
    have hp:=HP.out wr ak HS.out.jc 6 (by omega);rw[iE]at hp
    go_wp2_with fail
    refine hp.mono ?_;rintro e w6 ⟨rfl,hd,bC⟩;replace HS:=ah (HS.out.pick hd bC);clear hp hd bC
    go_wp2_with (at_builtin;refine CO rfl (.tmp 44) (.tmp 46) rfl (w.heap.size+1) (λb=>w.heap.size+1<=b) (.slice na ns.length nc) ns rfl (HS.out.nd.below (ax)) _ ⟨3,[],0,0,0⟩ (zd zb 0 0) rfl (aJ _ _) (gu.nil _ _) (by omega) (by have:=HS.out.base.2.2;simp;omega) ?_;intro g4 oX w4 je cX;have kO:=ah (HS.out.app (ax) je cX);clear je cX)
    go_roundw
    case rel=>
     refine⟨k+1,by omega,by go_num,zc ⟨g4,0,zb⟩,oX,?_,?_,?_,?_⟩
     ·rw[HE.out];simp
     ·first|(rw[HE.out];done)|(rw[HE.out];go_num)
     ·first|(rw[HE.out];done)|(rw[HE.out];go_num)
     ·rw[HE.out];simp only[aQ,lW,qU];exact kO.out
    case measure=>simp[intOf];omega
  ·have GN:k=N:=by omega
   subst GN;have DF:=ah (HO.out.1);have rS:=ah (HO.out.2 (by omega));have HG:zg (qj c a=Pm c (oG c (pT c y1 k) ((pT c y1 k).parts-1))):=HF.out;clear HO HF;generalize pT c y1 k=s0 at *;have zB2:s0.parts<=12:=by have:=DF.out.SG;omega
   have HJ:=ah λj (hj:j<s0.parts)=>zmS c DF.out j hj
   have zB3:1<=s0.parts:=rS.out;obtain⟨q,hq⟩:∃q,s0.parts=q+1:=⟨s0.parts-1,by omega⟩;have HQ:=ah hq;rw[hq]at zB2 ⊢;clear hq zB3 rS;go_wp2
   go_loopw [3,4,11] (λnv pv _ wr=>∃j:Nat,j<=q/\∃na nc,nv=.slice na (oG c s0 j).ns.length nc/\pv=za .i64 ((q+1-j:Nat):Int)/\xn p w c r (w.heap.size+1) wr (.slice na (oG c s0 j).ns.length nc) (oG c s0 j).ns (oG c s0 j).a) (λ_ pv _ _=>(intOf pv).toNat)
   case atStart=>exact⟨0,by omega,_,_,rfl,rfl,HS.out⟩
   case round=>
    clear HS;obtain⟨j,hj,na,nc,rfl,rfl,hS⟩:=hrel;have HS:=ah hS;clear hS;have GY:(oG c s0 j).ns.length<=24:=by have:=(HJ.out j (by have:=HQ.out;omega)).1.len;omega
    have iL:=zru
    by_cases hlt:j<q
    ·have mG:zg (oG c s0 (j+1)=O6 c (oG c s0 j)):=rfl;generalize oG c s0 j=st at *;obtain⟨ns,pt,gr,ak⟩:=st;replace HS:zg (xn p w c r (w.heap.size+1) wr (.slice na ns.length nc) ns ak):=HS.out;replace GY:ns.length<=24:=GY;obtain⟨x6,y6,iE⟩:∃x y,ae c 3 ak=(x,y):=⟨_,_,rfl⟩;have HX:zg (oG c s0 (j+1)=⟨ns++[⟨if x6=2 then 3 else 2,[],0,0,0⟩],pt-1,gr,y6⟩):=by
      have:=mG.out;unfold O6 at this;simp only[iE]at this;exact this
     obtain⟨m,hm⟩:∃m,q+1-j=m+2:=⟨q-j-1,by omega⟩;rw[hm];have g1:(1:Int)<((m+2:Nat):Int):=by omega
     have zDK:m<=12:=by omega
     have HM:=ah hm;clear hm mG
     by_cases Wo:x6=2
     ·subst Wo;have HE:=ah HX.out;rw[af rfl]at HE;clear HX;have hp:=HP.out wr ak HS.out.jc 3 (by omega);rw[iE]at hp
      go_wp2_with fail
      refine hp.mono ?_;rintro e w6 ⟨rfl,hd,bC⟩;replace HS:=ah (HS.out.pick hd bC);clear hp hd bC
      go_wp2_with (at_builtin;refine CO rfl (.tmp 113) (.tmp 116) rfl (w.heap.size+1) (λb=>w.heap.size+1<=b) (.slice na ns.length nc) ns rfl (HS.out.nd.below (ax)) _ ⟨3,[],0,0,0⟩ (zd zb 0 0) rfl (aJ _ _) (gu.nil _ _) (by omega) (by have:=HS.out.base.2.2;simp;omega) ?_;intro g4 oX w4 je cX;have kO:=ah (HS.out.app (ax) je cX);clear je cX)
      go_roundw
      case rel=>
       refine⟨j+1,by omega,zc ⟨g4,0,zb⟩,oX,?_,?_,?_⟩
       ·rw[HE.out];simp
       ·have:=HM.out;go_num
       ·rw[HE.out];simp only[aQ,lW,qU];exact kO.out
      case measure=>simp[intOf];omega
     ·have HE:=ah HX.out;rw[ab Wo]at HE;have m2:(x6==2)=false:=by simp[Wo]
      clear HX;have hp:=HP.out wr ak HS.out.jc 3 (by omega);rw[iE]at hp
      go_wp2_with fail
      refine hp.mono ?_;rintro e w6 ⟨rfl,hd,bC⟩;replace HS:=ah (HS.out.pick hd bC);clear hp hd bC
      go_wp2_with (at_builtin;refine CO rfl (.tmp 113) (.tmp 116) rfl (w.heap.size+1) (λb=>w.heap.size+1<=b) (.slice na ns.length nc) ns rfl (HS.out.nd.below (ax)) _ ⟨2,[],0,0,0⟩ (zd zb 0 0) rfl (aJ _ _) (gu.nil _ _) (by omega) (by have:=HS.out.base.2.2;simp;omega) ?_;intro g4 oX w4 je cX;have kO:=ah (HS.out.app (ax) je cX);clear je cX)
      go_roundw
      case rel=>
       refine⟨j+1,by omega,zc ⟨g4,0,zb⟩,oX,?_,?_,?_⟩
       ·rw[HE.out];simp
       ·have:=HM.out;go_num
       ·rw[HE.out];simp only[aQ,lW,qU];exact kO.out
      case measure=>simp[intOf];omega
    ·have hjq:j=q:=by omega
     subst hjq;have vu:zg (qj c a=Pm c (oG c s0 j)):=by have:=HG.out;rw[HQ.out,II]at this;exact this
     have kg:=ah (HJ.out j (by have:=HQ.out;omega)).2.2;have FV:zg ((oG c s0 j).parts=1):=by have:=(HJ.out j (by have:=HQ.out;omega)).2.1;have:=HQ.out;show _=_;omega
     rw[show j+1-j=1 by omega];clear HG;obtain⟨s1,cI⟩:∃s1,oG c s0 j=s1:=⟨_,rfl⟩;have PM:=ah (HJ.out j (by have:=HQ.out;omega)).1;rw[cI]at HS vu kg PM FV GY ⊢;have XN:s0.gr=s1.gr:=kg.out.symm;rw[XN];clear HJ DF HQ kg XN cI;have zyU:s1.gr<=24:=by have:=PM.out.QP;omega
     have hne:0<s1.ns.length:=by
      rcases Co:s1.ns with _|⟨x,l⟩
      ·have:=PM.out.kids;rw[Co]at this;have xP:=FV.out;simp[gF]at this;omega
      ·simp
     obtain⟨ns,pt,gr,ak⟩:=s1;replace HS:zg (xn p w c r (w.heap.size+1) wr (.slice na ns.length nc) ns ak):=HS.out;replace GY:ns.length<=24:=GY;replace hne:0<ns.length:=hne;replace zyU:gr<=24:=zyU;obtain⟨x6,y6,iE⟩:∃x y,ae c 6 ak=(x,y):=⟨_,_,rfl⟩;obtain⟨x7,y7,zI⟩:∃x y,ae c 6 y6=(x,y):=⟨_,_,rfl⟩;obtain⟨x8,y8,wo⟩:∃x y,ae c 4 y7=(x,y):=⟨_,_,rfl⟩;obtain⟨bb,bW⟩:∃b,decide (x6=5)=b:=⟨_,rfl⟩;obtain⟨be,xL⟩:∃b,decide (x7=5)=b:=⟨_,rfl⟩;have HX:zg (qj c a=if x8=3 then (⟨[⟨bb,be,ns⟩,⟨false,false,[⟨1,[(97,97)],0,0,0⟩]⟩],(gr:Int)⟩,y8) else (⟨[⟨bb,be,ns⟩],(gr:Int)⟩,y8)):=by
      have:=vu.out;unfold Pm at this;simp only[iE,zI,wo,bW,xL]at this;exact this
     have eb:(x6==5)=bb:=by rw[<-bW];rfl
     have ee:(x7==5)=be:=by rw[<-xL];rfl
     have hrR:=zvI;have hrB:=zvG;have zDX:=zuI;have hr4:=zrv;clear vu bW xL PM FV;have fX:¬(1:Int)<((1:Nat):Int):=by omega
     have hp:=HP.out wr ak HS.out.jc 6 (by omega);rw[iE]at hp
     go_wp2_with fail
     refine hp.mono ?_;rintro e w6 ⟨rfl,hd,bC⟩;replace HS:=ah (HS.out.pick hd bC);clear hp hd bC;have hp:=HP.out w6 y6 HS.out.jc 6 (by omega);rw[zI]at hp
     go_wp2_with fail
     refine hp.mono ?_;rintro e w7 ⟨rfl,hd,bC⟩;replace HS:=ah (HS.out.pick hd bC);clear hp hd bC;obtain⟨G,hG⟩:∃G,w7.heap.size=G:=⟨_,rfl⟩;have hNd:=HS.out.nd.to hne (U':=λb=>w.heap.size<b/\b<G) (λb hb hl=>⟨by
      rcases hb with hb|hb
      ·obtain⟨sv,ho,_⟩:=HS.out.nd;have:=(dU ho hb).1;omega
      ·have hb:w.heap.size+1<=b:=hb;omega,by omega⟩)
     have HNd:=ah hNd;have lH:=ah HS.out;clear hNd HS;have dA:zj w7.heap.size w7 (w7.alloc (ze #[zd zb 0 0,za .i64 (gr:Int)] 101)):=ax;have hE:qu p w c r G (w7.alloc (ze #[zd zb 0 0,za .i64 (gr:Int)] 101)) (zd zb 0 0) [] (λ_=>zd zb 0 0) gr y7:=by
      have M3:=lH.out.base;refine⟨World.ownsRow_nil _ _ _ _,λk hk=>absurd hk (fw _),by rw[<-hG];exact aJ _ _,(dA.block _ (by omega)).trans lH.out.bw,lH.out.kept.trans (.of dA),lH.out.jc.below dA,M3.1,by omega⟩
     have pM:fU (λb=>(w.heap.size<b/\b≠G)/\(Value.slice zb 0 0).ownBlock≠zc b) (w7.alloc (ze #[zd zb 0 0,za .i64 (gr:Int)] 101)) (.slice na ns.length nc) ns:=(HNd.out.below dA).mono λb hb _=>⟨⟨hb.1,by omega⟩,by simp[Value.ownBlock]⟩
     have HE:=ah hE;have Md:=ah pM;have hGs:=lH.out.base.2.2;obtain⟨iN,ru,rz,rA,rB⟩:=info_parts zqB;subst hG;clear hE pM dA HNd lH
     go_wp2_with (at_builtin;refine wE rfl (.tmp 135) (.tmp 140) 99 rfl _ #[.bool bb,.bool be,.slice na ns.length nc] 115 rfl (w7.heap.size+1) (by simp) (w7.heap.size+1) iN _ 3 32 underlying99 ru rz rA rB rfl (by omega) (zd zb 0 0) 0 [] rfl (World.ownsRow_nil _ _ _ _) rfl rfl (by intro u hu;simp at hu;rcases hu with rfl|rfl|rfl<;>rfl) (by omega) (by omega) (by simp) ?_;intro g1 mL w9 wA nD pJ;obtain⟨VU,mf,jl⟩:=HE.out.push (b:=⟨bb,be,ns⟩) Md.out wA nD pJ;have y1':=cG VU 0;have fz1:=aM _ _ 0 _ _ VU;have fM:=ah jl;clear wA nD pJ VU jl)
     have hp:=HP.out _ y7 fM.out.jc 4 (by omega);rw[wo]at hp;refine hp.mono ?_;rintro e kf ⟨rfl,hd,bC⟩;have nw:=ah (fM.out.pick hd bC);clear hp hd bC fM HE Md y1' fz1
     by_cases Wq:x8=3
     ·subst Wq;have HZ:=ah (HX.out.trans (af rfl));clear HX;have dA:zj kf.heap.size kf ((kf.alloc (ze #[za .i64 97,za .i64 97] 137)).alloc (ze #[za .i64 1,zd (zc ⟨kf.heap.size,0,zb⟩) 1 1,za .i64 0,za .i64 0,za .i64 0] 135)):=(ax).alloc (by simp) _;have hrN:=ziN kf (ze #[za .i64 97,za .i64 97] 137) #[za .i64 1,zd (zc ⟨kf.heap.size,0,zb⟩) 1 1,za .i64 0,za .i64 0,za .i64 0] 135;have zzo:((kf.alloc (ze #[za .i64 97,za .i64 97] 137)).alloc (ze #[za .i64 1,zd (zc ⟨kf.heap.size,0,zb⟩) 1 1,za .i64 0,za .i64 0,za .i64 0] 135)).heap[kf.heap.size]?=zc (ze #[za .i64 97,za .i64 97] 137 (0,0)):=(Below.heap_alloc _ _ _ (by simp)).trans (aJ _ _);have Rb:∀b,kf.heap.size<=b->(w.heap.size<b/\b≠w7.heap.size)/\(Value.slice (zc ⟨g1,0,zb⟩) (0+1) mL).ownBlock≠zc b:=λb hb=>by
       have h1:=ay nw.out.box;have h2:=(dU nw.out.own (b:=g1) rfl).2;have h3:=nw.out.base;refine⟨by omega,λe=>?_⟩;have e2:g1=b:=by simpa [Value.ownBlock]using e
       omega
      have pM:=zqZ (U:=λb=>(w.heap.size<b/\b≠w7.heap.size)/\(Value.slice (zc ⟨g1,0,zb⟩) (0+1) mL).ownBlock≠zc b) hrN zzo (Rb _ (by omega)) (Rb _ (by omega));have UD:=ah (nw.out.below dA);have Md:=ah pM;obtain⟨t0,t1,-,-⟩:=jK nw.out.box;have zD1:=ay nw.out.box;clear dA hrN zzo Rb pM nw
      go_upto_region 40 with (at_builtin;refine wE rfl (.tmp 147) (.tmp 153) 99 rfl _ #[.bool false,.bool false,zd (zc ⟨kf.heap.size+1,0,zb⟩) 1 1] 115 rfl (kf.heap.size+2) (by simp) (w7.heap.size+1) iN _ 3 32 underlying99 ru rz rA rB rfl (by omega) (zd (zc ⟨g1,0,zb⟩) (0+1) mL) 1 _ rfl UD.out.own rfl rfl (by intro u hu;simp at hu;rcases hu with rfl|rfl<;>rfl) (by omega) (by omega) (by simp;omega) ?_;intro g2 tB Om nP kx jb;obtain⟨dr,jq,HE5⟩:=UD.out.push (b:=⟨false,false,[⟨1,[(97,97)],0,0,0⟩]⟩) Md.out nP kx jb;have SV:=cG dr 0;have oA:=aM _ _ 0 _ _ dr;have q2':=cG dr 1;have LP:=ah HE5;clear nP kx jb dr HE5)
      replace LP:zg (qu p w c r w7.heap.size (Om.setCell ⟨w7.heap.size,0,zb⟩ (zd (zc ⟨g2,0,zb⟩) 2 tB)) (zd (zc ⟨g2,0,zb⟩) 2 tB) [⟨bb,be,ns⟩,⟨false,false,[⟨1,[(97,97)],0,0,0⟩]⟩] jq gr y8):=LP.out;generalize hU:Om.setCell ⟨w7.heap.size,0,zb⟩ (zd (zc ⟨g2,0,zb⟩) 2 tB)=U at *;clear t0 t1 SV q2' oA UD Md hU;obtain⟨t0,t1,-,-⟩:=jK LP.out.box;obtain⟨r0,r1,f0,f1⟩:=jK LP.out.bw;have HD:=ah (LP.out.done rfl);go_wp2;refine aW (v:=_) (by simp[results,results60,go_sem,r0,r1];rfl) rfl ?_;rw[HZ.out];exact⟨_,rfl,HD.out⟩
     ·have HZ:=ah (HX.out.trans (ab Wq));have m3:(x8==3)=false:=by simp[Wq]
      obtain⟨t0,t1,-,-⟩:=jK nw.out.box;obtain⟨r0,r1,f0,f1⟩:=jK nw.out.bw;have HD:=ah (nw.out.done rfl);clear HX;go_wp2;refine aW (v:=_) (by simp[results,results60,go_sem,r0,r1];rfl) rfl ?_;rw[HZ.out];exact⟨_,rfl,HD.out⟩
end Go.Proofs.YtfajjdgkiilhfaaGreatDoor
