import Derived.Test.YtdimhpfiieepiaaGreatDoorC9
import Derived.Deep.RegionHeld3
import Derived.Deep.DrawnRows
import Derived.Deep.QuietTactic
import Derived.BigQuiet
namespace Go.Proofs.YtdimhpfiieepiaaGreatDoor
open Proofs.Tryz
open Option renaming none->za,some->zb
open Value renaming int->zc,slice->zd,agg->zm
open Go renaming World->ze,Value->zk,Calls->zl
open RowKit renaming Below->zf,Hid->zh
open Obj renaming cells->zi
set_option maxHeartbeats 2000000
set_option maxRecDepth 100000
open Go.RowKit
section
attribute [local go_sem ↓] wp_at_zero wp_at_succ
section
variable {d:bj}
def oB(d:bj)(s:Nat):Int:=d.base.getD s 0
def oC(d:bj)(c:Nat):Int:=d.cG.getD c 0
def Gw(d:bj)(k:Nat):Int:=d.bH.getD k 0
def DO(d:bj)(k:Nat):Int:=d.next.getD k 0
def zU(d:bj)(s:Nat):Int:=d.cA.getD s 0
def kM(d:bj)(s c:Nat):Nat:=(oB d s+oC d c).toNat
def qp(d:bj)(s c:Nat):Int:=if kM d s c<d.bH.length/\Gw d (kM d s c)=s then DO d (kM d s c) else zU d s
structure yn(d:bj):Prop where
 cl:d.cG.length=256
 w1:1<=d.width
 w2:d.width<=256
 cs:bS 0 (d.width-1) d.cG=true
 n1:1<=(d.base.length:Int)
 n2:(d.base.length:Int)<=4000
 dl:d.cA.length=d.base.length
 tl:d.tag.length=d.base.length
 el:d.fin.length=d.base.length
 nk:d.next.length=d.bH.length
 nm:d.next.length<=60000
 fr:vr d.bH d.next=true
 bs:bS 0 59999 d.base=true
 ds:bS 0 (d.base.length-1) d.cA=true
 ts:bS (-1) 99 d.tag=true
 es:bS (-1) 99 d.fin=true
 ks:bS (-1) (d.base.length-1) d.bH=true
 ns:bS 0 (d.base.length-1) d.next=true
theorem XT(h:iy d=true):yn d:=by
 simp only[iy,de,lx,zR]at h;obtain⟨⟨⟨⟨⟨⟨⟨⟨⟨a,b⟩,c⟩,e⟩,f⟩,g⟩,i⟩,j⟩,k⟩,l,⟨⟨⟨⟨m,n⟩,o⟩,p⟩,q⟩,r⟩:=h;exact⟨a,b.1,b.2,c,e.1,e.2,f,g,i,j,k,l,m,n,o,p,q,r⟩
theorem yn.bd(h:yn d){s c:Nat}(hs:s<d.base.length)(hc:c<256):
  0<=oB d s/\oB d s<=59999/\0<=oC d c/\oC d c<=255/\((kM d s c:Nat):Int)=oB d s+oC d c:=by
 have a:=Jw h.bs (k:=s) hs;have b:=Jw h.cs (k:=c) (by rw[h.cl];exact hc);have w2:=h.w2;unfold kM oB oC;omega
theorem zs7{lo:Nat}(cv bv fv tv ev nv kv:zk)(d:bj)(s c:Nat)(w:ze)(hs:fV lo w cv bv fv tv ev nv kv d)(hf:yn d)(dD:s<d.base.length)(hc:c<256):
  zl prog 30 #[zm #[cv,zc .i64 d.width,bv,fv,tv,ev,nv,kv],zc .i64 s,zc .i64 c] w λe w'=>e=.returned (zc .i64 (qp d s c))/\zf w.heap.size w w':=by
 obtain⟨⟨a0,p0,rfl,m0,y0⟩,⟨a1,p1,rfl,m1,y1⟩,⟨a2,p2,rfl,m2,y2⟩,⟨a3,p3,rfl,m3,y3⟩,⟨a4,p4,rfl,m4,y4⟩,⟨a5,p5,rfl,m5,y5⟩,⟨a6,p6,rfl,m6,y6⟩⟩:=hs;have iq:=hf.cl;have rT:=hf.n1;have n8:=hf.n2;have zj:=hf.dl;have hnk:=hf.nk;have mQ:=hf.nm;obtain⟨x0,x1,z0,z1,mf⟩:=hf.bd dD hc;obtain⟨cb,co,rfl,_,cl,cq⟩:=y0 (by omega);obtain⟨bb,bo,rfl,_,bl,bq⟩:=y1 (by omega);obtain⟨fb,fo,rfl,_,fl,fq⟩:=y2 (by omega);have c0:w.cell? ⟨cb,co+c,za⟩=zb (zc .i64 (oC d c)):=cq c (by omega);have b0:w.cell? ⟨bb,bo+s,za⟩=zb (zc .i64 (oB d s)):=bq s dD;have f0:w.cell? ⟨fb,fo+s,za⟩=zb (zc .i64 (zU d s)):=fq s (by omega);have i0:(0:Int)<=(s:Int):=by omega
 have i1:(s:Int)<(d.base.length:Int):=by omega
 have i2:(0:Int)<=(c:Int):=by omega
 have i3:(c:Int)<(d.cG.length:Int):=by omega
 have i4:(s:Int)<(d.cA.length:Int):=by omega
 by_cases h:kM d s c<d.bH.length
 case' neg=>
  have H:zh (qp d s c=zU d s):=ak (λk=>h k.1);have i5:¬oB d s+oC d c<(d.bH.length:Int):=by omega
  clear y5 y6
 case' pos=>
  obtain⟨kb,ko,rfl,_,kl,kq⟩:=y6 (by omega);have k0:w.cell? ⟨kb,ko+(oB d s+oC d c).toNat,za⟩=zb (zc .i64 (Gw d (kM d s c))):=kq (kM d s c) h;have i5:oB d s+oC d c<(d.bH.length:Int):=by omega
  by_cases h2:Gw d (kM d s c)=s
  case' pos=>
   obtain⟨nb,no,rfl,_,nl,nq⟩:=y5 (by omega);have n0:w.cell? ⟨nb,no+(oB d s+oC d c).toNat,za⟩=zb (zc .i64 (DO d (kM d s c))):=nq (kM d s c) (by omega);have i6:oB d s+oC d c<(d.next.length:Int):=by omega
   have H:zh (qp d s c=DO d (kM d s c)):=aC ⟨h,h2⟩;rw[h2]at k0;clear kq nq h2;generalize DO d (kM d s c)=q at *
  case' neg=>
   have H:zh (qp d s c=zU d s):=ak (λk=>h2 k.2);clear y5 kq;generalize Gw d (kM d s c)=q at *
 all_goals
  clear y3 y4 cq bq fq mf h;generalize oB d s=x at *;generalize oC d c=y at *;generalize zU d s=z at *
  go_enter func30,ntmps30
  go_wp2
  go_quiet (fail)
  go_wp2;go_ret;exact⟨gh H.out.symm,below_drewN (aw) _⟩
end
structure cK where
 L:Int
 B:ByteArray
 C:Bool
 S:Int
 N:Int
def cK.zero:cK:=⟨0,⟨#[]⟩,false,0,0⟩
def fk(s:cK):Bool:=bF s.L 1 4096&&decide ((s.B.size:Int)<=s.L)&&bF s.N 0 s.B.size&&bF s.S 0 3999
def gj(L:Int):cK:=if bF L 1 4096 then ⟨L,⟨#[]⟩,false,0,0⟩ else .zero
def tV(s:cK):cK:=if fk s then ⟨s.L,s.B,true,s.S,s.N⟩ else .zero
def lq(s:cK)(c:ByteArray):cK:=if fk s then (if s.C then s else if s.L<(s.B.size:Int)+c.size then s else ⟨s.L,s.B++c,s.C,s.S,s.N⟩) else .zero
def qq(s:cK)(c:ByteArray):Int:=if fk s then (if s.C then 2 else if s.L<(s.B.size:Int)+c.size then 3 else 0) else 1
theorem DB(s:cK)(w:ze):
  zl prog 29 #[zm #[zc .i64 s.L,.string s.B,.bool s.C,zc .i64 s.S,zc .i64 s.N]] w λe w'=>e=.returned (.bool (fk s))/\zf w.heap.size w w':=by
 cases h1:bF s.L 1 4096
 ·have H:zh (fk s=false):=by show _=_;simp[fk,h1]
  go_enter func29,ntmps29
  go_wp2_with (go_at_call 47;refine(oz _ _ _ _).mono ?_;rintro e w' ⟨rfl,rfl⟩)
  go_ret
  exact⟨bz H.out.symm,aw⟩
 by_cases h2:(s.B.size:Int)<=s.L
 case neg=>
  have H:zh (fk s=false):=by show _=_;simp[fk,h2]
  go_enter func29,ntmps29
  go_wp2_with (go_at_call 47;refine(oz _ _ _ _).mono ?_;rintro e w' ⟨rfl,rfl⟩)
  go_ret
  exact⟨bz H.out.symm,aw⟩
 cases h3:bF s.N 0 s.B.size
 ·have H:zh (fk s=false):=by show _=_;simp[fk,h3]
  go_enter func29,ntmps29
  go_wp2_with (go_at_call 47;refine(oz _ _ _ _).mono ?_;rintro e w' ⟨rfl,rfl⟩)
  go_ret
  exact⟨bz H.out.symm,aw⟩
 have H:zh (fk s=bF s.S 0 3999):=by show _=_;simp[fk,h1,h2,h3]
 go_enter func29,ntmps29
 go_wp2_with (go_at_call 47;refine(oz _ _ _ _).mono ?_;rintro e w' ⟨rfl,rfl⟩)
 go_ret
 exact⟨bz H.out.symm,aw⟩
theorem zlQ(L:Int)(w:ze):
  zl prog 48 #[zc .i64 L] w λe w'=>e=.returned (zm #[zc .i64 (gj L).L,.string (gj L).B,.bool (gj L).C,zc .i64 (gj L).S,zc .i64 (gj L).N])/\zf w.heap.size w w':=by
 cases h:bF L 1 4096
 ·have H:gj L=.zero:=by simp[gj,h]
  rw[H];simp only[cK.zero];clear H
  go_enter func48,ntmps48
  go_wp2_with (go_at_call 47;refine(oz _ _ _ _).mono ?_;rintro e w' ⟨rfl,rfl⟩)
  exact bh (v:=zm #[zc .i64 0,.string ⟨#[]⟩,.bool false,zc .i64 0,zc .i64 0]) (by simp[results,results48,go_sem]) rfl ⟨rfl,aw⟩
 ·have H:gj L=⟨L,⟨#[]⟩,false,0,0⟩:=by simp[gj,h]
  rw[H];dsimp only;clear H
  go_enter func48,ntmps48
  go_wp2_with (go_at_call 47;refine(oz _ _ _ _).mono ?_;rintro e w' ⟨rfl,rfl⟩)
  exact bh (v:=zm #[zc .i64 L,.string ⟨#[]⟩,.bool false,zc .i64 0,zc .i64 0]) (by simp[results,results48,go_sem]) rfl ⟨rfl,aw⟩
section
variable {fol fol':Nat -> Nat -> Prop}{first D last f D1 D2 f1 l1 f2 l2 l:Nat -> Prop}{e e1 e2:Prop}
inductive Pt where
 |set (f:Nat->Bool)
 |seq (l r:Pt)
 |aN (l r:Pt)
 |az (b:Pt) (mn mx:Int)
 |aT (b:Pt) (g:Int)
abbrev aJ:=List UInt8
def Pow(L:aJ->Prop):Nat->aJ->Prop
 |0,u=>u=[]
 |k+1,u=>∃x y,u=x++y/\L x/\Pow L k y
def In:Pt->aJ->Prop
 |.set f,u=>∃c:UInt8,u=[c]/\f c.toNat=true
 |.seq l r,u=>∃x y,u=x++y/\In l x/\In r y
 |.aN l r,u=>In l u\/In r u
 |.az b mn mx,u=>∃k:Nat,mn<=k/\(mx=-1\/(k:Int)<=mx)/\Pow (In b) k u
 |.aT b _,u=>In b u
theorem Pow.snoc{L:aJ->Prop}:∀{k:Nat} {x y:aJ},Pow L k x->L y->Pow L (k+1) (x++y)
 |0,x,y,h,hy=>by subst h;exact⟨y,[],by simp,hy,rfl⟩
 |k+1,x,y,⟨a,b,e,ha,hb⟩,hy=>⟨a,b++y,by rw[e,pG],ha,Pow.snoc hb hy⟩
theorem Pow.Qn{L:aJ->Prop}:∀{k:Nat} {u:aJ},Pow L (k+1) u->∃x y,u=x++y/\Pow L k x/\L y
 |0,_,⟨a,b,e,ha,hb⟩=>by cases hb;exact⟨[],a,by rw[e];simp,rfl,ha⟩
 |k+1,_,⟨a,b,e,ha,hb⟩=>by
  obtain⟨x,y,e2,hx,hy⟩:=Pow.Qn hb;exact⟨a++x,y,by rw[e,e2,pG],⟨a,x,rfl,ha,hx⟩,hy⟩
theorem Pow.congr{L M:aJ->Prop}(h:∀u,L u↔M u):∀(k:Nat) (u:aJ),Pow L k u↔Pow M k u
 |0,_=>Iff.rfl
 |k+1,_=>⟨λ⟨a,b,e,ha,hb⟩=>⟨a,b,e,(h a).1 ha,(Pow.congr h k b).1 hb⟩,λ⟨a,b,e,ha,hb⟩=>⟨a,b,e,(h a).2 ha,(Pow.congr h k b).2 hb⟩⟩
inductive cU (tk:Nat->UInt8->Prop) (fol:Nat->Nat->Prop) (first:Nat->Prop):aJ->Nat->Prop
 |one (c:UInt8) (p:Nat):first p->tk p c->cU tk fol first [c] p
 |snoc (u:aJ) (c:UInt8) (p q:Nat):cU tk fol first u p->fol p q->tk q c->cU tk fol first (u++[c]) q
theorem cU.mono{tk:Nat->UInt8->Prop}{first':Nat->Prop}(hf:∀p q,fol p q->fol' p q)(hi:∀p,first p->first' p){u:aJ}{p:Nat}(h:cU tk fol first u p):cU tk fol' first' u p:=by
 induction h with
 |one c p a b=>exact .one c p (hi p a) b
 |snoc u c p q _ a b ih=>exact .snoc u c p q ih (hf p q a) b
theorem cU.inside{tk:Nat->UInt8->Prop}(hi:∀p,first p->D p)(hf:∀p q,D p->fol p q->D q){u:aJ}{p:Nat}(h:cU tk fol first u p):D p:=by
 induction h with
 |one c p a b=>exact hi p a
 |snoc u c p q _ a b ih=>exact hf p q ih a
theorem cU.ne{tk:Nat->UInt8->Prop}{u:aJ}{p:Nat}(h:cU tk fol first u p):u≠[]:=by
 cases h<;>simp
theorem cU.zzd{tk:Nat->UInt8->Prop}(hi:∀p,first p->D p)(hf:∀p q,D p->fol p q->D q)(he:∀p q,D p->(fol p q↔fol' p q)){u:aJ}{p:Nat}:cU tk fol first u p↔cU tk fol' first u p:=by
 constructor
 ·intro h
  induction h with
  |one c p a b=>exact .one c p a b
  |snoc u c p q h a b ih=>exact .snoc u c p q ih ((he p q (h.inside hi hf)).1 a) b
 ·intro h;have:∀{u p},cU tk fol' first u p->cU tk fol first u p/\D p:=by
   intro u p h
   induction h with
   |one c p a b=>exact⟨.one c p a b,hi p a⟩
   |snoc u c p q h a b ih=>have k:=(he p q ih.2).2 a;exact⟨.snoc u c p q ih.1 k b,hf p q ih.2 k⟩
  exact(this h).1
def Acc(tk:Nat->UInt8->Prop)(fol:Nat->Nat->Prop)(e:Prop)(first last:Nat->Prop)(u:aJ):Prop:=(u=[]/\e)\/∃p,cU tk fol first u p/\last p
structure Good(tk:Nat->UInt8->Prop)(fol:Nat->Nat->Prop)(D:Nat->Prop)(e:Prop)(first last:Nat->Prop)(L:aJ->Prop):Prop where
 fi:∀p,first p->D p
 la:∀p,last p->D p
 fo:∀p q,D p->fol p q->D q
 mj:∀u,Acc tk fol e first last u↔L u
theorem Good.congr{tk:Nat->UInt8->Prop}{L:aJ->Prop}(h:Good tk fol D e first last L)(he:∀p q,D p->(fol' p q↔fol p q)):Good tk fol' D e first last L:=by
 refine⟨h.fi,h.la,λp q hp hq=>h.fo p q hp ((he p q hp).1 hq),λu=>?_⟩;rw[<-h.mj u];unfold Acc;have:∀p,cU tk fol' first u p↔cU tk fol first u p:=λp=>(cU.zzd h.fi h.fo (λp q hp=>(he p q hp).symm)).symm
 simp only[this]
theorem Good.tk{tk Je:Nat->UInt8->Prop}{L:aJ->Prop}(h:Good tk fol D e first last L)(he:∀p c,D p->(Je p c↔tk p c)):Good Je fol D e first last L:=by
 refine⟨h.fi,h.la,h.fo,λu=>?_⟩;rw[<-h.mj u];unfold Acc;have a1:∀{t t':Nat->UInt8->Prop},(∀p c,D p->(t' p c->t p c))->∀{u p},cU t' fol first u p->cU t fol first u p:=by
  intro t t' ht u p hr
  induction hr with
  |one c p a b=>exact .one c p a (ht p c (h.fi p a) b)
  |snoc u c p q hr a b ih=>exact .snoc u c p q ih a (ht q c (h.fo p q (ih.inside h.fi h.fo) a) b)
 have:∀p,cU Je fol first u p↔cU tk fol first u p:=λp=>⟨a1 λp c hp=>(he p c hp).1,a1 λp c hp=>(he p c hp).2⟩
 simp only[this]
theorem Good.words{tk:Nat->UInt8->Prop}{L M:aJ->Prop}(h:Good tk fol D e first last L)(hl:∀u,L u↔M u):Good tk fol D e first last M:=⟨h.fi,h.la,h.fo,λu=>(h.mj u).trans (hl u)⟩
theorem Good.uZ{tk:Nat->UInt8->Prop}{L:aJ->Prop}(h:Good tk fol D e first last L):Good tk fol D True first last (λu=>u=[]\/L u):=by
 refine⟨h.fi,h.la,h.fo,λu=>?_⟩;have:=h.mj u;unfold Acc at this ⊢;constructor
 ·rintro (k|k)
  ·exact .inl k.1
  ·exact .inr (this.1 (.inr k))
 ·rintro (k|k)
  ·exact .inl ⟨k,trivial⟩
  ·rcases this.2 k with k|k
   ·exact .inl ⟨k.1,trivial⟩
   ·exact .inr k
theorem zo6(tk:Nat->UInt8->Prop)(fol:Nat->Nat->Prop)(e:Prop):Good tk fol (λ_=>False) e (λ_=>False) (λ_=>False) (λu=>u=[]/\e):=
 ⟨λ_ h=>h,λ_ h=>h,λ_ _ h=>h.elim,λu=>⟨λh=>by rcases h with h|⟨p,_,h⟩;exact h;exact h.elim,.inl⟩⟩
theorem zq2{tk:Nat->UInt8->Prop}{f:Nat->Bool}{n:Nat}(ht:∀c,tk n c↔f c.toNat=true)(hf:∀q,¬fol n q):Good tk fol (· = n) False (· = n) (· = n) (In (.set f)):=by
 refine⟨λ_ h=>h,λ_ h=>h,λp q hp hq=>absurd (hp ▸ hq) (hf q),λu=>?_⟩;unfold Acc;constructor
 ·rintro (h|⟨p,hr,hp⟩)
  ·exact h.2.elim
  ·cases hr with
   |one c _ a b=>rw[hp]at b;exact⟨c,rfl,(ht c).1 b⟩
   |snoc u c q _ hr a b=>
    have:=hr.inside (D:=(· = n)) (λp hp=>hp) (λp q hp hq=>absurd (hp ▸ hq) (hf q));rw[this]at a;exact absurd a (hf _)
 ·rintro ⟨c,rfl,h⟩;exact .inr ⟨n,.one c n rfl ((ht c).2 h),rfl⟩
theorem zq1{tk:Nat->UInt8->Prop}{L1 L2:aJ->Prop}
  (g1:Good tk fol D1 e1 f1 l1 L1) (g2:Good tk fol D2 e2 f2 l2 L2) (hd:∀p,D1 p->¬D2 p):
  Good tk fol (λp=>D1 p\/D2 p) (e1\/e2) (λp=>f1 p\/f2 p) (λp=>l1 p\/l2 p) (λu=>L1 u\/L2 u):=by
 refine⟨λp h=>h.imp (g1.fi p) (g2.fi p),λp h=>h.imp (g1.la p) (g2.la p),λp q hp hq=>hp.imp (λk=>g1.fo p q k hq) (λk=>g2.fo p q k hq),λu=>?_⟩;have key:∀{u p},cU tk fol (λp=>f1 p\/f2 p) u p->cU tk fol f1 u p\/cU tk fol f2 u p:=by
  intro u p h
  induction h with
  |one c p a b=>exact a.imp (.one c p · b) (.one c p · b)
  |snoc u c p q _ a b ih=>exact ih.imp (.snoc u c p q · a b) (.snoc u c p q · a b)
 rw[<-g1.mj u,<-g2.mj u];unfold Acc;constructor
 ·rintro (⟨rfl,h⟩|⟨p,hr,hl⟩)
  ·exact h.imp (λk=>.inl ⟨rfl,k⟩) (λk=>.inl ⟨rfl,k⟩)
  ·rcases key hr with k|k
   ·have dp:=k.inside g1.fi g1.fo;rcases hl with hl|hl
    ·exact .inl (.inr ⟨p,k,hl⟩)
    ·exact absurd (g2.la p hl) (hd p dp)
   ·have dp:=k.inside g2.fi g2.fo;rcases hl with hl|hl
    ·exact absurd dp (hd p (g1.la p hl))
    ·exact .inr (.inr ⟨p,k,hl⟩)
 ·rintro ((⟨rfl,h⟩|⟨p,hr,hl⟩)|(⟨rfl,h⟩|⟨p,hr,hl⟩))
  ·exact .inl ⟨rfl,.inl h⟩
  ·exact .inr ⟨p,hr.mono (λ_ _ h=>h) (λ_=>.inl),.inl hl⟩
  ·exact .inl ⟨rfl,.inr h⟩
  ·exact .inr ⟨p,hr.mono (λ_ _ h=>h) (λ_=>.inr),.inr hl⟩
theorem zq3{tk:Nat->UInt8->Prop}{L1 L2:aJ->Prop}
  (g1:Good tk fol D1 e1 f1 l1 L1) (g2:Good tk fol D2 e2 f2 l2 L2) (hd:∀p,D1 p->¬D2 p)
  (zr:∀p q,(D1 p\/D2 p)->(fol' p q↔fol p q\/(l1 p/\f2 q)))
  (hf:∀p,f p↔f1 p\/(e1/\f2 p)) (hl:∀p,l p↔l2 p\/(e2/\l1 p)):
  Good tk fol' (λp=>D1 p\/D2 p) (e1/\e2) f l (λu=>∃x y,u=x++y/\L1 x/\L2 y):=by
 have up:∀p q,(D1 p\/D2 p)->fol p q->fol' p q:=λp q h k=>(zr p q h).2 (.inl k)
 have fi:∀p,f p->D1 p\/D2 p:=λp h=>((hf p).1 h).imp (g1.fi p) (λk=>g2.fi p k.2)
 have fo:∀p q,(D1 p\/D2 p)->fol' p q->D1 q\/D2 q:=λp q hp hq=>by
  rcases(zr p q hp).1 hq with k|k
  ·exact hp.imp (g1.fo p q · k) (g2.fo p q · k)
  ·exact .inr (g2.fi q k.2)
 -- a run of the first,a run of the second,in the whole
 have r1:∀{u p},cU tk fol f1 u p->cU tk fol' f u p:=by
  intro u p h;have:∀{u p},cU tk fol f1 u p->cU tk fol' f u p/\D1 p:=by
   intro u p h
   induction h with
   |one c p a b=>exact⟨.one c p ((hf p).2 (.inl a)) b,g1.fi p a⟩
   |snoc u c p q _ a b ih=>exact⟨.snoc u c p q ih.1 (up p q (.inl ih.2) a) b,g1.fo p q ih.2 a⟩
  exact(this h).1
 have r2:∀{x y p q},cU tk fol' f x p->l1 p->cU tk fol f2 y q->cU tk fol' f (x++y) q:=by
  intro x y p q hx hp hy;have:∀{y q},cU tk fol f2 y q->cU tk fol' f (x++y) q/\D2 q:=by
   intro y q hy
   induction hy with
   |one c b a t=>exact⟨.snoc x c p b hx ((zr p b (.inl (g1.la p hp))).2 (.inr ⟨hp,a⟩)) t,g2.fi b a⟩
   |snoc u c a b _ g t ih=>rw[<-pG];exact⟨.snoc _ c a b ih.1 (up a b (.inr ih.2) g) t,g2.fo a b ih.2 g⟩
  exact(this hy).1
 have r2':∀{y q},e1->cU tk fol f2 y q->cU tk fol' f y q:=by
  intro y q he hy;have:∀{y q},cU tk fol f2 y q->cU tk fol' f y q/\D2 q:=by
   intro y q hy
   induction hy with
   |one c b a t=>exact⟨.one c b ((hf b).2 (.inr ⟨he,a⟩)) t,g2.fi b a⟩
   |snoc u c a b _ g t ih=>exact⟨.snoc _ c a b ih.1 (up a b (.inr ih.2) g) t,g2.fo a b ih.2 g⟩
  exact(this hy).1
 have key:∀{u p},cU tk fol' f u p->(D1 p/\cU tk fol f1 u p)\/(D2 p/\∃x y,u=x++y/\Acc tk fol e1 f1 l1 x/\cU tk fol f2 y p):=by
  intro u p h
  induction h with
  |one c p a b=>
   rcases(hf p).1 a with a|a
   ·exact .inl ⟨g1.fi p a,.one c p a b⟩
   ·exact .inr ⟨g2.fi p a.2,[],[c],rfl,.inl ⟨rfl,a.1⟩,.one c p a.2 b⟩
  |snoc u c p q hr a b ih=>
   rcases ih with ⟨dp,k⟩|⟨dp,x,y,e,hx,hy⟩
   ·rcases(zr p q (.inl dp)).1 a with a|a
    ·exact .inl ⟨g1.fo p q dp a,.snoc u c p q k a b⟩
    ·exact .inr ⟨g2.fi q a.2,u,[c],rfl,.inr ⟨p,k,a.1⟩,.one c q a.2 b⟩
   ·rcases(zr p q (.inr dp)).1 a with a|a
    ·exact .inr ⟨g2.fo p q dp a,x,y++[c],by rw[e,pG],hx,.snoc y c p q hy a b⟩
    ·exact absurd dp (hd p (g1.la p a.1))
 refine⟨fi,λp h=>((hl p).1 h).elim (λk=>.inr (g2.la p k)) (λk=>.inl (g1.la p k.2)),fo,λu=>?_⟩;constructor
 ·rintro (⟨rfl,h⟩|⟨p,hr,hp⟩)
  ·exact⟨[],[],rfl,(g1.mj []).1 (.inl ⟨rfl,h.1⟩),(g2.mj []).1 (.inl ⟨rfl,h.2⟩)⟩
  ·rcases key hr with ⟨dp,k⟩|⟨dp,x,y,e,hx,hy⟩
   ·rcases(hl p).1 hp with hp|hp
    ·exact absurd (g2.la p hp) (hd p dp)
    ·exact⟨u,[],by simp,(g1.mj u).1 (.inr ⟨p,k,hp.2⟩),(g2.mj []).1 (.inl ⟨rfl,hp.1⟩)⟩
   ·rcases(hl p).1 hp with hp|hp
    ·exact⟨x,y,e,(g1.mj x).1 hx,(g2.mj y).1 (.inr ⟨p,hy,hp⟩)⟩
    ·exact absurd dp (hd p (g1.la p hp.2))
 ·rintro ⟨x,y,rfl,hx,hy⟩;rcases(g1.mj x).2 hx with ⟨rfl,he1⟩|⟨p,hr,hp⟩
  ·rcases(g2.mj y).2 hy with ⟨rfl,Ul⟩|⟨q,hq,mS⟩
   ·exact .inl ⟨rfl,he1,Ul⟩
   ·exact .inr ⟨q,r2' he1 hq,(hl q).2 (.inl mS)⟩
  ·rcases(g2.mj y).2 hy with ⟨rfl,Ul⟩|⟨q,hq,mS⟩
   ·exact .inr ⟨p,by rw[ud];exact r1 hr,(hl p).2 (.inr ⟨Ul,hp⟩)⟩
   ·exact .inr ⟨q,r2 (r1 hr) hp hq,(hl q).2 (.inl mS)⟩
theorem zo7{tk:Nat->UInt8->Prop}{L:aJ->Prop}
  (g:Good tk fol D e f l L) (zr:∀p q,D p->(fol' p q↔fol p q\/(l p/\f q))):Good tk fol' D True f l (λu=>∃k,Pow L k u):=by
 have up:∀p q,D p->fol p q->fol' p q:=λp q h k=>(zr p q h).2 (.inl k)
 have fo:∀p q,D p->fol' p q->D q:=λp q hp hq=>by
  rcases(zr p q hp).1 hq with k|k
  ·exact g.fo p q hp k
  ·exact g.fi q k.2
 have r2:∀{x y p q},cU tk fol' f x p->l p->cU tk fol f y q->cU tk fol' f (x++y) q:=by
  intro x y p q hx hp hy;have:∀{y q},cU tk fol f y q->cU tk fol' f (x++y) q/\D q:=by
   intro y q hy
   induction hy with
   |one c b a t=>exact⟨.snoc x c p b hx ((zr p b (g.la p hp)).2 (.inr ⟨hp,a⟩)) t,g.fi b a⟩
   |snoc u c a b _ k t ih=>rw[<-pG];exact⟨.snoc _ c a b ih.1 (up a b ih.2 k) t,g.fo a b ih.2 k⟩
  exact(this hy).1
 have r1:∀{y q},cU tk fol f y q->cU tk fol' f y q:=by
  intro y q hy;have:∀{y q},cU tk fol f y q->cU tk fol' f y q/\D q:=by
   intro y q hy
   induction hy with
   |one c b a t=>exact⟨.one c b a t,g.fi b a⟩
   |snoc u c a b _ k t ih=>exact⟨.snoc _ c a b ih.1 (up a b ih.2 k) t,g.fo a b ih.2 k⟩
  exact(this hy).1
 have back:∀k {x y q},Pow L k x->cU tk fol f y q->cU tk fol' f (x++y) q:=by
  intro k
  induction k with
  |zero=>intro x y q hx hy;cases hx;exact r1 hy
  |succ k ih=>
   intro x y q hx hy;obtain⟨x',z,rfl,tP,hz⟩:=hx.Qn;rcases(g.mj z).2 hz with ⟨rfl,_⟩|⟨p,hr,hp⟩
   ·rw[ud];exact ih tP hy
   ·exact r2 (ih tP hr) hp hy
 have key:∀{u p},cU tk fol' f u p->D p/\∃k x y,u=x++y/\Pow L k x/\cU tk fol f y p:=by
  intro u p h
  induction h with
  |one c p a b=>exact⟨g.fi p a,0,[],[c],rfl,rfl,.one c p a b⟩
  |snoc u c p q hr a b ih=>
   obtain⟨dp,k,x,y,e,hx,hy⟩:=ih;rcases(zr p q dp).1 a with a|a
   ·exact⟨g.fo p q dp a,k,x,y++[c],by rw[e,pG],hx,.snoc y c p q hy a b⟩
   ·refine⟨g.fi q a.2,k+1,u,[c],rfl,?_,.one c q a.2 b⟩;rw[e];exact hx.snoc ((g.mj y).1 (.inr ⟨p,hy,a.1⟩))
 refine⟨g.fi,g.la,fo,λu=>?_⟩;constructor
 ·rintro (⟨rfl,-⟩|⟨p,hr,hp⟩)
  ·exact⟨0,rfl⟩
  ·obtain⟨_,k,x,y,rfl,hx,hy⟩:=key hr;exact⟨k+1,hx.snoc ((g.mj y).1 (.inr ⟨p,hy,hp⟩))⟩
 ·rintro ⟨k,hk⟩
  induction k generalizing u with
  |zero=>exact .inl ⟨hk,trivial⟩
  |succ k ih=>
   obtain⟨x,y,rfl,hx,hy⟩:=hk.Qn;rcases(g.mj y).2 hy with ⟨rfl,_⟩|⟨p,hr,hp⟩
   ·rw[ud];exact ih x hx
   ·exact .inr ⟨p,back k hx hr,hp⟩
def Ky(L:aJ->Prop)(n:Nat)(u:aJ):Prop:=∃k,k<=n/\Pow L k u
theorem zkB(L:aJ->Prop)(u:aJ):(u=[]/\True)↔Ky L 0 u:=by
 constructor
 ·rintro ⟨rfl,-⟩;exact⟨0,aj _,rfl⟩
 ·rintro ⟨k,hk,h⟩;obtain rfl:k=0:=by omega
  exact⟨h,trivial⟩
theorem zqs(L:aJ->Prop)(n:Nat)(u:aJ):(u=[]\/∃x y,u=x++y/\L x/\Ky L n y)↔Ky L (n+1) u:=by
 constructor
 ·rintro (rfl|⟨x,y,rfl,hx,k,hk,hy⟩)
  ·exact⟨0,aR _,rfl⟩
  ·exact⟨k+1,by omega,x,y,rfl,hx,hy⟩
 ·rintro ⟨k,hk,h⟩
  match k,hk,h with
  |0,_,h=>exact .inl h
  |k+1,hk,⟨x,y,e,hx,hy⟩=>exact .inr ⟨x,y,e,hx,k,by omega,hy⟩
def JP(L M:aJ->Prop)(n:Nat)(u:aJ):Prop:=∃x y,u=x++y/\Pow L n x/\M y
theorem zm0(L M:aJ->Prop)(u:aJ):M u↔JP L M 0 u:=by
 constructor
 ·intro h;exact⟨[],u,rfl,rfl,h⟩
 ·rintro ⟨x,y,rfl,hx,hy⟩;cases hx;exact hy
theorem zmZ(L M:aJ->Prop)(n:Nat)(u:aJ):(∃x y,u=x++y/\L x/\JP L M n y)↔JP L M (n+1) u:=by
 constructor
 ·rintro ⟨x,y,rfl,hx,a,b,rfl,ha,hb⟩;exact⟨x++a,b,by rw[pG],⟨x,a,rfl,hx,ha⟩,hb⟩
 ·rintro ⟨x,y,rfl,⟨a,b,rfl,ha,hb⟩,hy⟩;exact⟨a,b++y,by rw[pG],ha,b,y,rfl,hb,hy⟩
theorem Pow.add{L:aJ->Prop}:∀(m n:Nat) {x y:aJ},Pow L m x->Pow L n y->Pow L (m+n) (x++y)
 |0,n,x,y,hx,hy=>by cases hx;simpa using hy
 |m+1,n,x,y,⟨a,b,e,ha,hb⟩,hy=>by
  rw[show m+1+n=(m+n)+1 by omega,e];exact⟨a,b++y,by rw[pG],ha,Pow.add m n hb hy⟩
theorem Pow.split{L:aJ->Prop}:∀(m n:Nat) {u:aJ},Pow L (m+n) u->∃x y,u=x++y/\Pow L m x/\Pow L n y
 |0,n,u,h=>⟨[],u,rfl,rfl,by simpa using h⟩
 |m+1,n,u,h=>by
  rw[show m+1+n=(m+n)+1 by omega]at h;obtain⟨a,b,rfl,ha,hb⟩:=h;obtain⟨x,y,rfl,hx,hy⟩:=Pow.split m n hb;exact⟨a++x,y,by rw[pG],⟨a,x,rfl,ha,hx⟩,hy⟩
theorem zr7(b:Pt)(mn:Nat)(u:aJ):JP (In b) (λu=>∃k,Pow (In b) k u) mn u↔In (.az b mn (-1)) u:=by
 constructor
 ·rintro ⟨x,y,rfl,hx,k,hy⟩;exact⟨mn+k,by omega,.inl rfl,hx.add _ _ hy⟩
 ·rintro ⟨k,h1,-,h⟩;obtain⟨x,y,rfl,hx,hy⟩:=Pow.split mn (k-mn) (by rw[show mn+(k-mn)=k by omega];exact h);exact⟨x,y,rfl,hx,_,hy⟩
theorem zr8(b:Pt)(mn d:Nat)(u:aJ):JP (In b) (Ky (In b) d) mn u↔In (.az b mn ((mn+d:Nat):Int)) u:=by
 constructor
 ·rintro ⟨x,y,rfl,hx,k,hk,hy⟩;exact⟨mn+k,by omega,.inr (by omega),hx.add _ _ hy⟩
 ·rintro ⟨k,h1,h2,h⟩;obtain⟨x,y,rfl,hx,hy⟩:=Pow.split mn (k-mn) (by rw[show mn+(k-mn)=k by omega];exact h);exact⟨x,y,rfl,hx,k-mn,by omega,hy⟩
theorem zq9(b:Pt)(u:aJ):In (.az b 1 1) u↔In b u:=by
 constructor
 ·rintro ⟨k,h1,h2,h⟩;obtain rfl:k=1:=by omega
  obtain⟨x,y,rfl,hx,hy⟩:=h;cases hy
  simpa using hx
 ·intro h;exact⟨1,by omega,.inr (by omega),u,[],by simp,h,rfl⟩
end
section
variable {ns:List aL}{k mn n:Nat}{u:aJ}{L M:aJ -> Prop}{F P:Nat -> Prop}{S:List Bool}
def jE(rs:List (Int×Int))(c:Nat):Bool:=rs.any λr=>decide (r.1<=c/\(c:Int)<=r.2)
def ju:Pt:=.set λ_=>false
def iG(n:aL)(ops:List Pt):Pt:=
 if n.kind=1 then .set (jE n.set)
 else if n.kind=2 then .seq (ops.getD 0 ju) (ops.getD 1 ju)
 else if n.kind=3 then .aN (ops.getD 0 ju) (ops.getD 1 ju)
 else if n.kind=4 then .az (ops.getD 0 ju) n.min n.max
 else .aT (ops.getD 0 ju) n.group
def Rz(st:List Pt)(n:aL):List Pt:=st.take (st.length-bC n.kind)++[iG n (st.drop (st.length-bC n.kind))]
def iL(ns:List aL):Nat->List Pt
 |0=>[]
 |i+1=>Rz (iL ns i) (ns.getD i .zero)
def a8(ns:List aL)(i:Nat):Pt:=iG (ns.getD i .zero) ((iL ns i).drop ((iL ns i).length-bC (bO ns i)))
theorem QU(ns:List aL):∀i,(aK ns i).map (a8 ns)=iL ns i
 |0=>rfl
 |i+1=>by
  have ih:=QU ns i;have hl:(aK ns i).length=(iL ns i).length:=by rw[<-ih,rf]
  rw[aK,iL,Rz,zX,List.map_take,ih,hl]
  rfl
theorem zsj(ns:List aL)(i:Nat):(iL ns i).length=(aK ns i).length:=by rw[<-QU,rf]
theorem WZ(ns:List aL)(k j:Nat)(hj:j<(aK ns k).length):(aK ns k).getD j 0<k:=NI ns k _ (by
 rw[bP,dh hj];exact kg _)
theorem Jr(ha:bC (bO ns k)=2)(hl:2<=(aK ns k).length):∃x y:Nat,lm ns k=x/\oD ns k=y/\x<k/\y<k/\a8 ns k=iG (ns.getD k .zero) [a8 ns x,a8 ns y]:=by
 refine⟨(aK ns k).getD ((aK ns k).length-2) 0,(aK ns k).getD ((aK ns k).length-1) 0,?_,?_,WZ _ _ _ (by omega),WZ _ _ _ (by omega),?_⟩
 ·rw[lm,ha,ak (by omega)]
 ·rw[oD,aC ha]
 ·have hw:=zsj ns k;unfold a8;rw[ha]
  congr 1
  rw[<-QU ns k,rf];apply DY;intro i;rw[RA,yA]
  match i with
  |0=>simp[List.getD_eq_getElem?_getD,List.getElem?_eq_getElem (show (aK ns k).length-2<(aK ns k).length by omega),a8]
  |1=>rw[show (aK ns k).length-2+1=(aK ns k).length-1 by omega];simp[List.getD_eq_getElem?_getD,List.getElem?_eq_getElem (show (aK ns k).length-1<(aK ns k).length by omega),a8]
  |i+2=>rw[qw (by omega)];simp
theorem Jq(ha:bC (bO ns k)=1)(hl:1<=(aK ns k).length):∃x:Nat,lm ns k=x/\x<k/\a8 ns k=iG (ns.getD k .zero) [a8 ns x]:=by
 refine⟨(aK ns k).getD ((aK ns k).length-1) 0,?_,WZ _ _ _ (by omega),?_⟩
 ·rw[lm,ha,ak (by omega)]
 ·unfold a8;rw[ha]
  congr 1
  rw[<-QU ns k,rf];apply DY;intro i;rw[RA,yA]
  match i with
  |0=>simp[List.getD_eq_getElem?_getD,List.getElem?_eq_getElem (show (aK ns k).length-1<(aK ns k).length by omega),a8]
  |i+1=>rw[qw (by omega)];simp
def fZ(u:aJ)(L:aJ->Prop)(F:Nat->Prop)(j:Nat):Prop:=∃i,F i/\i<=j/\j<=u.length/\L ((u.drop i).take (j-i))
theorem zhJ{G:Nat->Prop}(hl:∀w,L w↔M w)(hf:∀i,F i↔G i)(j:Nat):fZ u L F j↔fZ u M G j:=
 exists_congr λi=>and_congr (hf i) (and_congr_right λ_=>and_congr_right λ_=>hl _)
theorem Xe(u:aJ){i m j:Nat}(h1:i<=m)(h2:m<=j):(u.drop i).take (j-i)=(u.drop i).take (m-i)++(u.drop m).take (j-m):=by
 have h3:u.drop m=(u.drop i).drop (m-i):=by rw[List.drop_drop];congr 1;omega
 rw[h3,show j-i=(m-i)+(j-m) by omega,List.take_add]
theorem QL(j:Nat):fZ u (λw=>∃x y,w=x++y/\L x/\M y) F j↔fZ u M (fZ u L F) j:=by
 constructor
 ·rintro ⟨i,hi,dL,hj,x,y,e,hx,hy⟩;have hlen:((u.drop i).take (j-i)).length=j-i:=by simp;omega
  have eZ:x.length+y.length=j-i:=by rw[<-hlen,e,nG]
  have e2:=Xe u (i:=i) (m:=i+x.length) (j:=j) (by omega) (by omega);rw[e]at e2;have uW:x=(u.drop i).take (i+x.length-i):=List.append_inj_left e2 (by simp;omega);have od:y=(u.drop (i+x.length)).take (j-(i+x.length)):=List.append_inj_right e2 (by simp;omega);exact⟨i+x.length,⟨i,hi,by omega,by omega,by rw[<-uW];exact hx⟩,by omega,hj,by rw[<-od];exact hy⟩
 ·rintro ⟨m,⟨i,hi,him,hm,hx⟩,hmj,hj,hy⟩;exact⟨i,hi,by omega,hj,_,_,Xe u him hmj,hx,hy⟩
theorem zqT(j:Nat):fZ u (λw=>L w\/M w) F j↔fZ u L F j\/fZ u M F j:=by
 constructor
 ·rintro ⟨i,h1,h2,h3,h|h⟩
  ·exact .inl ⟨i,h1,h2,h3,h⟩
  ·exact .inr ⟨i,h1,h2,h3,h⟩
 ·rintro (⟨i,h1,h2,h3,h⟩|⟨i,h1,h2,h3,h⟩)
  ·exact⟨i,h1,h2,h3,.inl h⟩
  ·exact⟨i,h1,h2,h3,.inr h⟩
theorem zqU{f:Nat->Bool}(j:Nat):fZ u (In (.set f)) F j↔∃i,∃h:i<u.length,j=i+1/\F i/\f (u[i]'h).toNat=true:=by
 constructor
 ·rintro ⟨i,h1,h2,h3,c,e,hc⟩;have hlen:((u.drop i).take (j-i)).length=j-i:=by simp;omega
  rw[e]at hlen;simp only[qu,oJ]at hlen;have hi:i<u.length:=by omega
  refine⟨i,hi,by omega,h1,?_⟩;have:(u.drop i).take (j-i)=[u[i]]:=by rw[oK hi,show j-i=1 by omega];rfl
  rw[this]at e;cases e;exact hc
 ·rintro ⟨i,hi,rfl,h1,h⟩;refine⟨i,h1,by omega,by omega,u[i],?_,h⟩;rw[oK hi,show i+1-i=1 by omega]
  rfl
theorem ziu(hF:∀i,F i->i<=u.length)(j:Nat):fZ u (Pow L 0) F j↔F j:=by
 constructor
 ·rintro ⟨i,h1,h2,h3,h⟩;have hlen:((u.drop i).take (j-i)).length=j-i:=by simp;omega
  have h':(u.drop i).take (j-i)=[]:=h;rw[h']at hlen;simp only[oJ]at hlen;obtain rfl:i=j:=by omega
  exact h1
 ·intro h;exact⟨j,h,aj _,hF j h,by rw[Aa];rfl⟩
theorem Qo(k j:Nat):fZ u (Pow L (k+1)) F j↔fZ u L (fZ u (Pow L k) F) j:=by
 rw[<-QL j];exact zhJ (λw=>⟨λh=>h.Qn,λ⟨x,y,e,hx,hy⟩=>by rw[e];exact hx.snoc hy⟩) (λ_=>Iff.rfl) j
theorem zoP{M:Nat->aJ->Prop}(j:Nat):fZ u (λw=>∃k,P k/\M k w) F j↔∃k,P k/\fZ u (M k) F j:=by
 constructor
 ·rintro ⟨i,h1,h2,h3,k,hk,h⟩;exact⟨k,hk,i,h1,h2,h3,h⟩
 ·rintro ⟨k,hk,i,h1,h2,h3,h⟩;exact⟨i,h1,h2,h3,k,hk,h⟩
theorem zoQ{K:Nat}(hK:mn<=K)(h:∀j,fZ u (Pow L (K+1)) F j->∃i,mn<=i/\i<=K/\fZ u (Pow L i) F j):
  ∀m,mn<=m->∀j,fZ u (Pow L m) F j->∃i,mn<=i/\i<=K/\fZ u (Pow L i) F j:=by
 intro m
 induction m with
 |zero=>intro hm j hj;exact⟨0,hm,by omega,hj⟩
 |succ m ih=>
  intro hm j hj
  by_cases hmK:m+1<=K
  ·exact⟨m+1,hm,hmK,hj⟩
  by_cases kx:mn<=m
  ·obtain⟨i,hi,dL,IE,hL⟩:=(Qo m j).1 hj;obtain⟨i0,a,b,c⟩:=ih kx i hi;have:fZ u (Pow L (i0+1)) F j:=(Qo i0 j).2 ⟨i,c,dL,IE,hL⟩
   by_cases e:i0+1<=K
   ·exact⟨i0+1,by omega,e,this⟩
   ·obtain rfl:i0=K:=by omega
    exact h j this
  ·obtain rfl:m+1=mn:=by omega
   exact absurd hK hmK
def zAB(mn:Nat)(mx:Int)(k:Nat):Prop:=mn<=k/\(mx=-1\/(k:Int)<=mx)
theorem zmc{b:Pt}{mx:Int}(j:Nat):fZ u (In (.az b mn mx)) F j↔∃k,zAB mn mx k/\fZ u (Pow (In b) k) F j:=by
 rw[<-zoP j];exact zhJ (λw=>⟨λ⟨k,a,c,d⟩=>⟨k,⟨by omega,c⟩,d⟩,λ⟨k,a,d⟩=>⟨k,by have:=a.1;omega,a.2,d⟩⟩) (λ_=>Iff.rfl) j
structure lP(n:Nat)(S:List Bool)(P:Nat->Prop):Prop where
 len:S.length=n+1
 iff:∀j,S.getD j false=true↔P j
theorem lP.le(h:lP n S P):∀j,P j->j<=n:=λj hj=>by
 have:=(h.iff j).2 hj
 by_cases e:j<S.length
 ·have:=h.len;omega
 ·rw[bP,qw (by omega)]at this;cases this
theorem lP.congr{Q:Nat->Prop}(h:lP n S P)(hq:∀j,P j↔Q j):lP n S Q:=⟨h.len,λj=>(h.iff j).trans (hq j)⟩
end
end
theorem Tryz.VL:(prog.info? 4).map (λi=>(i.zero,i.size,i.bytes))=zb (zb (.bool false),1,1):=by kernel_rfl
def oG(w:ze)(g:Nat)(S:List Bool):Prop:=g<w.heap.size/\∀i,i<S.length->w.cell? ⟨g,i,za⟩=zb (.bool (S.getD i false))
theorem oG.below{w w':ze}{g:Nat}{S:List Bool}(h:oG w g S)(hb:zf w.heap.size w w'):oG w' g S:=
 ⟨bA h.1 hb.size,λi hi=>(hb.cell (p:=⟨g,i,za⟩) h.1).trans (h.2 i hi)⟩
theorem zs5{xs:List zk}{k:Nat}{f:Nat->List zk}{a:zk}(h:mD xs 1 k f)(hl:k<xs.length)(hk:f k=[a]):mD (xs.set k a) 1 (k+1) f:=by
 intro j hj c hc;obtain rfl:c=0:=by omega
 rw[Nat.mul_one,uf,qx]
 by_cases e:j=k
 ·subst e;rw[hk];simp;omega
 ·rw[ak (by omega)];have:=h j (by omega) 0 (by omega)
  simpa using this
theorem zpa(rs:List (Int×Int))(c k:Nat)(hk:k<rs.length)(a b:Int)(h:rs.getD k (0,0)=(a,b)):jE (rs.drop k) c=(bF c a b || jE (rs.drop (k+1)) c):=by
 rw[oK hk];have:rs[k]=(a,b):=by rw[<-h];simp[List.getD,hk]
 unfold jE;rw[List.any_cons,this]
 rfl
theorem ztR{lo:Nat}(v:zk)(rs:List (Int×Int))(c:Nat)(w:ze)(hs:dR lo w v rs)(hc8:c<256):
  zl prog 112 #[v,.int .u8 c] w λe w'=>e=.returned (.bool (jE rs c))/\zf w.heap.size w w':=by
 obtain⟨ao,cap,rfl,hm,hc⟩:=hs;have xE:(0:Int)<=(c:Int):=by omega
 have uJ:(c:Int)<256:=by omega
 go_enter func112,ntmps112
 go_wp2
 go_loopw [9] (λi wr=>∃k:Nat,k<=rs.length/\i=zc .i64 k/\zh (jE rs c=jE (rs.drop k) c)/\zf w.heap.size w wr)
  (λi _=>rs.length-(intOf i).toNat)
 case atStart=>exact⟨0,aR _,rfl,rfl,Below.refl _ _⟩
 case round=>
  obtain⟨k,hk,rfl,HS,hb⟩:=hrel
  by_cases hlt:k<rs.length
  ·obtain⟨b,o,x,y,rfl,Hn,aZ,c0,c1⟩:=hc.elem hb hlt;have bQ:zf w.heap.size w (wr.alloc (zi #[zc .i64 x,zc .i64 y] 211)):=hb.alloc hb.size _;have HD:zh (jE (rs.drop k) c=(bF c x y || jE (rs.drop (k+1)) c)):=zpa rs c k hlt x y Hn.out
   go_wp2_with fail
   refine(oz _ _ _ _).mono ?_;rintro e w2 ⟨rfl,rfl⟩;cases hq:bF c x y
   ·go_wp2
    go_roundw
    case rel=>exact⟨k+1,by omega,by go_num,by show _=_;rw[HS.out,HD.out,hq,Bool.false_or],bQ⟩
    case measure=>simp[intOf];omega
   ·go_wp2;go_ret;exact⟨bz (by rw[HS.out,HD.out,hq,Bool.true_or]),bQ⟩
  ·go_wp2;go_ret;exact⟨bz (by rw[HS.out,sI (by omega)];rfl),hb⟩
def u9(X Y:List Bool):List Bool:=(List.range X.length).map λi=>X.getD i false || Y.getD i false
theorem JF(X Y:List Bool):(u9 X Y).length=X.length:=by simp[u9]
theorem Q7(X Y:List Bool){i:Nat}(h:i<X.length):(u9 X Y).getD i false=(X.getD i false || Y.getD i false):=by simp[u9,List.getD_eq_getElem?_getD,h]
theorem zmh{n:Nat}{X Y:List Bool}{P Q:Nat->Prop}(hx:lP n X P)(hy:lP n Y Q):lP n (u9 X Y) (λj=>P j\/Q j):=by
 refine⟨by rw[JF];exact hx.len,λj=>?_⟩
 by_cases hj:j<X.length
 ·rw[Q7 _ _ hj,sK,hx.iff,hy.iff]
 ·have e1:(u9 X Y).getD j false=false:=by rw[bP,qw (by rw[JF];omega)];rfl
  rw[e1];constructor
  ·intro h;cases h
  ·rintro (h|h)
   ·exact absurd (hx.le j h) (by have:=hx.len;omega)
   ·exact absurd (hy.le j h) (by have:=hx.len;omega)
theorem zt2(n:Nat)(X Y:List Bool)(g g2 cap fB:Nat)(w:ze)(hX:oG w g X)(hY:oG w g2 Y)(fK:X.length=n)(Ms:Y.length=n)(hn:n<=1048576):
  zl prog 113 #[zd (zb ⟨g,0,za⟩) n cap,zd (zb ⟨g2,0,za⟩) n fB] w λe w'=>e=.returned (zd (zb ⟨w.heap.size,0,za⟩) n n)/\oG w' w.heap.size (u9 X Y)/\zf w.heap.size w w':=by
 have Hx:zh _:=fK;have Hy:zh _:=Ms;clear fK Ms;obtain⟨i0,hi,bI,aO,aQ⟩:=info_parts Tryz.VL
 go_enter func113,ntmps113
 go_wp2_with (refine wpList_make_full _ rfl _ _ 144 rfl w.heap.size 4 i0 _ 1 underlying144 hi bI aO _ _ _ _ n rfl rfl rfl rfl (by rw[aQ];omega) (by unfold maxLen;omega) (aj _) ?_;intro w1 aB ez)
 have fO:zf w.heap.size w w1:=(Below.refl _ _).grown ez (aj _) (by intro k h;cases h);clear ez
 go_loopw [12] (λi wr=>∃k:Nat,k<=n/\i=zc .i64 k/\zf w.heap.size w wr/\∃zs:List zk,wr.ownsRow w.heap.size 4 1 (zd (zb ⟨w.heap.size,0,za⟩) n n) n zs/\
   mD zs 1 k (λj=>[.bool ((u9 X Y).getD j false)]))
  (λi _=>n-(intOf i).toNat)
 case atStart=>exact⟨0,aR _,rfl,fO,_,aB,λj hj=>absurd hj (cR _)⟩
 case round=>
  obtain⟨k,hk,rfl,hb,zs,aB,eH⟩:=hrel
  by_cases hlt:k<n
  ·have c0:=(hb.cell (p:=⟨g,k,za⟩) hX.1).trans (hX.2 k (by rw[Hx.out];exact hlt));have c1:=(hb.cell (p:=⟨g2,k,za⟩) hY.1).trans (hY.2 k (by rw[Hy.out];exact hlt));have Ho:zh ((u9 X Y).getD k false=(X.getD k false || Y.getD k false)):=Q7 X Y (by rw[Hx.out];exact hlt);generalize X.getD k false=a at *;generalize Y.getD k false=b at *;obtain⟨u0,d0⟩:=sw aB (j:=k) (by omega);have f0:=aB.frozenAt k;have eO:=hX.1;have bU:=hY.1;have da:(0:Int)<=(k:Int):=by omega
   have cO:(k:Int)<(n:Int):=by omega
   cases a
   all_goals
    go_wp2
    go_roundw
    case rel=>exact⟨k+1,by omega,by go_num,hb.setCell (by simp) _,_,(aB.stored _ _).1,zs5 eH (by have:=aB.1;omega) (by rw[Ho.out];rfl)⟩
    case measure=>simp[intOf];omega
  ·go_wp2;have bK:k=n:=by omega
   refine bh (v:=zd (zb ⟨w.heap.size,0,za⟩) n n) (by simp[results,results113,go_sem]) rfl ⟨rfl,⟨pE aB,λi hi=>?_⟩,hb⟩;rw[bK]at eH;have e0:=kL aB eH (i:=i) (c:=0) (by rw[JF,Hx.out]at hi;exact hi) (by omega)
   simpa using e0
def vv(X Y:List Bool)(k:Nat):Bool:=(List.range k).any λi=>Y.getD i false && !X.getD i false
theorem zmX(X Y:List Bool)(k:Nat):vv X Y (k+1)=(vv X Y k || (Y.getD k false && !X.getD k false)):=by simp[vv,List.range_succ]
theorem zsO(n:Nat)(X Y:List Bool)(g g2 cap fB:Nat)(w:ze)(hX:oG w g X)(hY:oG w g2 Y)(fK:X.length=n)(Ms:Y.length=n)(hn:n<=1048576):
  zl prog 136 #[zd (zb ⟨g,0,za⟩) n cap,zd (zb ⟨g2,0,za⟩) n fB] w λe w'=>e=.returned (.bool (vv X Y n))/\zf w.heap.size w w':=by
 have Hx:zh _:=fK;have Hy:zh _:=Ms;clear fK Ms
 go_enter func136,ntmps136
 go_wp2
 go_loopw [8] (λi wr=>∃k:Nat,k<=n/\i=zc .i64 k/\zf w.heap.size w wr/\zh (vv X Y k=false))
  (λi _=>n-(intOf i).toNat)
 case atStart=>exact⟨0,aR _,rfl,Below.refl _ _,rfl⟩
 case round=>
  obtain⟨k,hk,rfl,hb,HF⟩:=hrel
  by_cases hlt:k<n
  ·have c0:=(hb.cell (p:=⟨g,k,za⟩) hX.1).trans (hX.2 k (by rw[Hx.out];exact hlt));have c1:=(hb.cell (p:=⟨g2,k,za⟩) hY.1).trans (hY.2 k (by rw[Hy.out];exact hlt));have Ho:zh (vv X Y (k+1)=(Y.getD k false && !X.getD k false)):=by show _=_;rw[zmX,HF.out,Bool.false_or]
   have Hm:zh (vv X Y (k+1)=true->vv X Y n=true):=by
    intro h;unfold vv at h ⊢;obtain⟨i,hi,h2⟩:=D4.1 h;exact D4.2 ⟨i,by simp at hi ⊢;omega,h2⟩
   generalize X.getD k false=a at *;generalize Y.getD k false=b at *;have da:(0:Int)<=(k:Int):=by omega
   have cO:(k:Int)<(n:Int):=by omega
   cases b<;>cases a
   case true.false=>
    go_wp2;go_ret;exact⟨bz (Hm.out (by rw[Ho.out];rfl)).symm,hb⟩
   all_goals
    go_wp2
    go_roundw
    case rel=>exact⟨k+1,by omega,by go_num,hb,by show _=_;rw[Ho.out];rfl⟩
    case measure=>simp[intOf];omega
  ·have bK:k=n:=by omega
   subst bK;go_wp2;go_ret;exact⟨bz HF.out.symm,hb⟩
theorem zhR(N:Nat):(madeCells (Value.bool false).cells (N*1)).toList=List.replicate N (.bool false):=by
 apply List.ext_getElem
 ·simp[madeCells]
 ·intro i h1 h2;simp[madeCells,Value.cells,Nat.mod_one]
def re(n a:Nat):List Bool:=(List.replicate (n+1) false).set a true
theorem Xg(n a:Nat)(h:a<=n):lP n (re n a) (· = a):=by
 refine⟨by simp[re],λj=>?_⟩;unfold re;rw[bP,qx]
 by_cases e:a=j
 ·subst e;rw[aC rfl,aC (by simp;omega)];simp
 ·rw[ak e];have:(List.replicate (n+1) false)[j]?.getD false=false:=by
   rw[List.getElem?_replicate];split<;>rfl
  rw[this];constructor
  ·intro h;cases h
  ·intro h;exact absurd h.symm e
theorem YH(n a:Nat)(w:ze)(ha:a<=n)(hn:n<=1048576):
  zl prog 91 #[zc .i64 n,zc .i64 a] w λe w'=>e=.returned (zd (zb ⟨w.heap.size,0,za⟩) (n+1) (n+1))/\oG w' w.heap.size (re n a)/\zf w.heap.size w w':=by
 obtain⟨i0,hi,bI,aO,aQ⟩:=info_parts Tryz.VL
 go_enter func91,ntmps91
 go_wp2_with (refine wpList_make_full _ rfl _ _ 144 rfl w.heap.size 4 i0 _ 1 underlying144 hi bI aO _ _ _ _ (n+1) rfl rfl (by first|rfl|omega) (by first|rfl|omega) (by rw[aQ];omega) (by unfold maxLen;omega) (aj _) ?_;intro w1 aB ez;rw[zhR]at aB;obtain⟨u0,d0⟩:=sw aB (j:=a) (by omega);have f0:=aB.frozenAt a)
 have fO:zf w.heap.size w w1:=(Below.refl _ _).grown ez (aj _) (by intro k h;cases h);obtain⟨s1,s2⟩:=aB.stored a (.bool true);refine bh (v:=zd (zb ⟨w.heap.size,0,za⟩) (n+1) (n+1)) (by simp[results,results91,go_sem]) rfl ⟨rfl,⟨pE s1,λi hi=>?_⟩,fO.setCell (by simp) _⟩;rw[s1.cellAt i (by simp[re]at hi;omega)];rw[show (List.replicate (n+1) (Value.bool false)).set a (.bool true)=(re n a).map Value.bool by simp[re,List.map_set]];rw[yA,bP,dh hi]
 rfl
section
attribute [local go_sem ↓] wp_at_zero wp_at_succ
section
variable {w w':ze}{g:Nat}{A B:List Bool}
structure vx(w:ze)(ns:List aL)(vn:zk)(gl gr:Nat):Prop where
 nodes:dZ 0 w vn ns
 zG:gl<w.heap.size
 zH:gr<w.heap.size
 left:∀i,i<ns.length->w.cell? ⟨gl,i,za⟩=zb (zc .i64 (lm ns i))
 right:∀i,i<ns.length->w.cell? ⟨gr,i,za⟩=zb (zc .i64 (oD ns i))
theorem vx.below{ns:List aL}{vn:zk}{gl gr:Nat}(h:vx w ns vn gl gr)(hb:zf w.heap.size w w'):vx w' ns vn gl gr:=
 ⟨h.nodes.below hb,bA h.zG hb.size,bA h.zH hb.size,λi hi=>(hb.cell (p:=⟨gl,i,za⟩) h.zG).trans (h.left i hi),λi hi=>(hb.cell (p:=⟨gr,i,za⟩) h.zH).trans (h.right i hi)⟩
def NK(w:ze)(t:ByteArray)(m:Nat)(P:Nat->Prop)(e:Ending)(w':ze):Prop:=
 ∃(g' cap':Nat) (S':List Bool),e=.returned (zd (zb ⟨g',0,za⟩) m cap')/\oG w' g' S'/\S'.length=m/\lP t.size S' P/\zf w.heap.size w w'
def kN(ns:List aL)(n:Nat):Prop:=
 ∀(w:ze) (ao:Option Addr) (c gl cl gr cr:Nat) (t:ByteArray) (g cap m:Nat) (S:List Bool) (F:Nat->Prop),vx w ns (.slice ao ns.length c) gl gr->oG w g S->S.length=m->lP t.size S F->t.size<=4096->
  zl prog 90 #[zm #[.slice ao ns.length c,zd (zb ⟨gl,0,za⟩) ns.length cl,zd (zb ⟨gr,0,za⟩) ns.length cr,.string t],zc .i64 n,zd (zb ⟨g,0,za⟩) m cap] w λe w'=>NK w t m (fZ t.data.toList (In (a8 ns n)) F) e w'
theorem oF{a b c d:zk}{t:TypeId}(h:w.heap[g]?=zb (zi #[a,b,c,d] t (0,0))):w.cell? ⟨g,0,za⟩=zb a/\w.cell? ⟨g,1,za⟩=zb b/\w.cell? ⟨g,2,za⟩=zb c/\w.cell? ⟨g,3,za⟩=zb d:=by
 have:∀o,w.cell? ⟨g,o,za⟩=#[a,b,c,d][o]?:=λ_=>aM _ _ _ _ _ _ h
 exact⟨this 0,this 1,this 2,this 3⟩
def yy(A:List Bool):Nat:=A.countP id
theorem zsp(A:List Bool):yy A<=A.length:=List.countP_le_length
theorem zmR:∀(A B:List Bool),A.length=B.length->(∀i,A.getD i false=true->B.getD i false=true)->yy A<=yy B/\((∃i,B.getD i false=true/\A.getD i false=false)->yy A<yy B)
 |[],[],_,_=>⟨aj _,λ⟨i,h,_⟩=>by simp at h⟩
 |[],_::_,h,_=>by simp at h
 |_::_,[],h,_=>by simp at h
 |a::A,b::B,hl,h=>by
  have ih:=zmR A B (by simpa using hl) (λi hi=>by have:=h (i+1);simpa using this (by simpa using hi));have h0:a=true->b=true:=by have:=h 0;simpa using this
  have e:∀(x:Bool) (X:List Bool),yy (x::X)=yy X+(if x=true then 1 else 0):=by
   intro x X;simp[yy,List.countP_cons]
  rw[e,e];refine⟨?_,?_⟩
  ·cases a<;>cases b<;>simp at h0 ⊢<;>omega
  ·rintro ⟨i,hb,ha⟩;cases i with
   |zero=>
    have C5:b=true:=by simpa using hb
    have ha':a=false:=by simpa using ha
    subst C5 ha';simp;omega
   |succ i=>
    have:=ih.2 ⟨i,by simpa using hb,by simpa using ha⟩;cases a<;>cases b<;>simp at h0 ⊢<;>omega
theorem zsq(hl:A.length=B.length)(h:vv A B A.length=true):yy A+1<=yy (u9 A B):=by
 refine(zmR A (u9 A B) (JF A B).symm λi hi=>?_).2 ?_
 ·by_cases e:i<A.length
  ·rw[Q7 _ _ e,hi];rfl
  ·rw[bP,qw (by omega)]at hi;cases hi
 ·obtain⟨i,hi,h2⟩:=D4.1 h;simp at hi h2;exact⟨i,by rw[Q7 _ _ hi];simp[h2.1],h2.2⟩
theorem zsN{n:Nat}{P Q:Nat->Prop}(hA:lP n A P)(hB:lP n B Q)(m:Nat)(hm:A.length=m)(h:vv A B m=false):∀j,Q j->P j:=by
 intro j hj;have hj':=hB.le j hj;have h1:=(hB.iff j).2 hj;rw[<-hA.iff];cases hq:A.getD j false
 ·exfalso
  have:vv A B m=true:=D4.2 ⟨j,by simp;have:=hA.len;omega,by rw[h1,hq];rfl⟩;rw[h]at this;cases this
 ·rfl
theorem nu{o:Obj}(h:w.heap[g]?=zb o)(hb:zf w.heap.size w w'):w'.heap[g]?=zb o:=(hb.block g (ah.1 h).1).trans h
structure Y1(w wr:ze)(ob:Obj)(g n m:Nat)(C:List Bool)(P:Nat->Prop):Prop where
 below:zf w.heap.size w wr
 row:wr.heap[w.heap.size]?=zb ob
 at_:oG wr g C
 len:C.length=m
 set:lP n C P
def zyg(w:ze)(ob:Obj)(t:ByteArray)(m:Nat)(b:Pt)(F:Nat->Prop)(mn:Nat)(ax k:zk)(wr:ze):Prop:=
 ∃(gg cc kk:Nat) (C:List Bool),kk<=mn/\ax=zd (zb ⟨gg,0,za⟩) m cc/\k=zc .i64 kk/\Y1 w wr ob gg t.size m C (fZ t.data.toList (Pow (In b) kk) F)
def zyh(w:ze)(ob:Obj)(t:ByteArray)(m:Nat)(b:Pt)(F:Nat->Prop)(kk:Nat)(mx:Int)(ax all k:zk)(wr:ze):Prop:=
 ∃(gg cc ga ca k2:Nat) (C A:List Bool),kk<=k2/\(mx=-1\/(k2:Int)<=mx)/\ax=zd (zb ⟨gg,0,za⟩) m cc/\all=zd (zb ⟨ga,0,za⟩) m ca/\k=zc .i64 k2/\Y1 w wr ob gg t.size m C (fZ t.data.toList (Pow (In b) k2) F)/\oG wr ga A/\zh (A.length=m)/\lP t.size A (λj=>∃i,kk<=i/\i<=k2/\fZ t.data.toList (Pow (In b) i) F j)/\zh (k2<=kk+yy A)
theorem zjw(ns:List aL)(x:Nat)(hE:kN ns x)(w:ze)(ao:Option Addr)(c gl cl gr cr:Nat)(t:ByteArray)(g cap m:Nat)(S:List Bool)(F:Nat->Prop)(mn:Nat)(mx:Int)
  (aD:vx w ns (.slice ao ns.length c) gl gr) (hS:oG w g S) (tA:S.length=m) (hF:lP t.size S F) (ht:t.size<=4096) (pY:mn<=255) (hmx:mx=-1\/((mn:Int)<=mx/\mx<=255)):
  zl prog 114 #[zm #[.slice ao ns.length c,zd (zb ⟨gl,0,za⟩) ns.length cl,zd (zb ⟨gr,0,za⟩) ns.length cr,.string t],zc .i64 x,zc .i64 mn,zc .i64 mx,zd (zb ⟨g,0,za⟩) m cap] w λe w'=>NK w t m (fZ t.data.toList (In (.az (a8 ns x) mn mx)) F) e w':=by
 have TE:=λ(W:ze) (hb:zf w.heap.size w W) (g cap:Nat) (C:List Bool) (P:Nat->Prop) (h1:oG W g C) (h2:C.length=m) (h3:lP t.size C P)=>hE W ao c gl cl gr cr t g cap m C P (aD.below hb) h1 h2 h3 ht
 have Hm:zh (m=t.size+1):=by show _=_;rw[<-tA];exact hF.len
 have Bn:m<=1048576:=by rw[Hm.out];omega
 clear hE aD;generalize a8 ns x=b at TE ⊢;have af:zf w.heap.size w (w.alloc (zi #[.slice ao ns.length c,zd (zb ⟨gl,0,za⟩) ns.length cl,zd (zb ⟨gr,0,za⟩) ns.length cr,.string t] 119)):=aw
 go_enter func114,ntmps114
 go_wp2
 go_loopw [11,12] (λax k wr=>zyg w (zi #[.slice ao ns.length c,zd (zb ⟨gl,0,za⟩) ns.length cl,zd (zb ⟨gr,0,za⟩) ns.length cr,.string t] 119 (0,0)) t m b F mn ax k wr)
  (λ_ k _=>mn-(intOf k).toNat)
 case atStart=>exact⟨g,cap,0,S,aR _,rfl,rfl,af,aI _ _,hS.below af,tA,hF.congr λj=>(ziu (λi hi=>by have:=hF.le i hi;simpa using this) j).symm⟩
 case round=>
  obtain⟨gg,cc,kk,C,bK,rfl,rfl,hC⟩:=hrel;obtain⟨a0,a1,a2,a3⟩:=oF hC.row
  by_cases hlt:kk<mn
  ·have cO:(kk:Int)<(mn:Int):=by omega
   go_wp2_with fail
   refine(TE _ hC.below gg cc C _ hC.at_ hC.len hC.set).mono ?_;rintro e w2 ⟨g2,c2,S2,rfl,ae,eZ,cV,gA⟩;go_wp2
   go_roundw
   case rel=>exact⟨g2,c2,kk+1,S2,by omega,rfl,by go_num,aq hC.below hC.below.size gA,nu hC.row gA,ae,eZ,cV.congr λj=>(Qo kk j).symm⟩
   case measure=>simp[intOf];omega
  ·have IG:kk=mn:=by omega
   subst IG;have cO:¬(kk:Int)<(kk:Int):=by omega
   go_wp2;clear a0 a1 a2 a3
   go_loopw [11,13,14] (λax all k wr=>zyh w (zi #[.slice ao ns.length c,zd (zb ⟨gl,0,za⟩) ns.length cl,zd (zb ⟨gr,0,za⟩) ns.length cr,.string t] 119 (0,0)) t m b F kk mx ax all k wr)
    (λ_ _ k _=>kk+m+1-(intOf k).toNat)
   case atStart=>exact⟨gg,cc,gg,cc,kk,C,C,aj _,by omega,rfl,rfl,rfl,hC,hC.at_,hC.len,hC.set.congr λj=>⟨λh=>⟨kk,aj _,aj _,h⟩,λ⟨i,h1,h2,h⟩=>(show i=kk by omega) ▸ h⟩,Nat.le_add_right _ _⟩
   case round=>
    clear hC cO bK hlt;obtain⟨gg,cc,ga,ca,k2,C,A,mP,hkx,rfl,rfl,rfl,hC,hA,rp,OV,HT⟩:=hrel;obtain⟨a0,a1,a2,a3⟩:=oF hC.row
    by_cases hgo:mx=-1\/(k2:Int)<mx
    ·have rS:k2<=kk+m:=by have:=zsp A;rw[rp.out]at this;have:=HT.out;omega
     have zzy:(zh (mx=-1)/\(mx == -1)=true)\/((mx == -1)=false/\(k2:Int)<mx):=by
      by_cases e:mx=-1
      ·exact .inl ⟨e,by rw[e];rfl⟩
      ·exact .inr ⟨eB.2 e,by omega⟩
     have zBM:IntKind.i64.wrap ((k2:Int)+1)=(k2:Int)+1:=by rw[IntKind.wrap_i64];omega
     rcases zzy with ⟨rY,uW⟩|⟨rY,uW⟩
     all_goals
      go_wp2_with fail
      refine(TE _ hC.below gg cc C _ hC.at_ hC.len hC.set).mono ?_;rintro e w2 ⟨g2,c2,S2,rfl,ae,eZ,cV,gA⟩
      go_wp2_with fail
      refine(zsO m A S2 ga g2 ca c2 _ (hA.below gA) ae rp.out eZ Bn).mono ?_;rintro e w3 ⟨rfl,Bx⟩;have KY:=(hA.below gA).below Bx;have tx:=ae.below Bx;have hZ:=aq (aq hC.below hC.below.size gA) (aq hC.below hC.below.size gA).size Bx;have Vk:lP t.size S2 (fZ t.data.toList (Pow (In b) (k2+1)) F):=cV.congr λj=>(Qo k2 j).symm
      have hR3:=nu (nu hC.row gA) Bx;cases hq:vv A S2 m
      ·go_wp2;have Mh:=zoQ (u:=t.data.toList) (L:=In b) (F:=F) (mn:=kk) (K:=k2) mP (zsN OV Vk m rp.out hq);refine bh (v:=zd (zb ⟨ga,0,za⟩) m ca) (by simp[results,results114,go_sem]) rfl ⟨ga,ca,A,rfl,KY,rp.out,OV.congr λj=>?_,hZ⟩;rw[zmc];constructor
       ·rintro ⟨i,h1,h2,h⟩;exact⟨i,⟨h1,by omega⟩,h⟩
       ·rintro ⟨i,h1,h⟩;exact Mh i h1.1 j h
      ·go_wp2_with fail
       refine(zt2 m A S2 ga g2 ca c2 _ KY tx rp.out eZ Bn).mono ?_;rintro e w4 ⟨rfl,hO,Bz⟩;go_wp2
       go_roundw
       case rel=>
        refine⟨g2,c2,w3.heap.size,m,k2+1,S2,u9 A S2,by omega,by omega,rfl,rfl,by go_num,⟨aq hZ hZ.size Bz,nu hR3 Bz,tx.below Bz,eZ,Vk⟩,hO,by show _=_;rw[JF];exact rp.out,(zmh OV Vk).congr λj=>?_,?_⟩
        ·constructor
         ·rintro (⟨i,h1,h2,h⟩|h)
          ·exact⟨i,h1,by omega,h⟩
          ·exact⟨k2+1,by omega,aj _,h⟩
         ·rintro ⟨i,h1,h2,h⟩
          by_cases e:i<=k2
          ·exact .inl ⟨i,h1,e,h⟩
          ·obtain rfl:i=k2+1:=by omega
           exact .inr h
        ·have:=zsq (A:=A) (B:=S2) (by rw[rp.out,eZ]) (by rw[rp.out];exact hq);have:=HT.out;show _<=_;omega
       case measure=>simp[intOf];omega
    ·have rY:(mx == -1)=false:=eB.2 (by omega);have uW:¬(k2:Int)<mx:=by omega
     go_wp2;refine bh (v:=zd (zb ⟨ga,0,za⟩) m ca) (by simp[results,results114,go_sem]) rfl ⟨ga,ca,A,rfl,hA,rp.out,OV.congr λj=>?_,hC.below⟩;rw[zmc];constructor
     ·rintro ⟨i,h1,h2,h⟩;exact⟨i,⟨h1,by omega⟩,h⟩
     ·rintro ⟨i,h1,h⟩;exact⟨i,h1.1,by have:=h1.2;omega,h⟩
end
section
variable {m g k:Nat}{w wr:ze}{ob nb:Obj}{T:List Bool}
def si(m:Nat)(S:List Bool)(f:Nat->Bool)(u:aJ):Nat->List Bool
 |0=>List.replicate m false
 |k+1=>if (S.getD k false&&f (u.getD k 0).toNat)=true then (si m S f u k).set (k+1) true else si m S f u k
theorem Ns(m:Nat)(S:List Bool)(f:Nat->Bool)(u:aJ):∀k,(si m S f u k).length=m
 |0=>by simp[si]
 |k+1=>by rw[si];split<;>simp[Ns m S f u k]
theorem zmI(m:Nat)(S:List Bool)(f:Nat->Bool)(u:aJ):∀k,k<m->∀j,(si m S f u k).getD j false=true↔∃i,i<k/\j=i+1/\S.getD i false=true/\f (u.getD i 0).toNat=true
 |0,_,j=>by
  rw[si,bP,List.getElem?_replicate];constructor
  ·intro h;split at h<;>cases h
  ·rintro ⟨i,h,_⟩;exact absurd h (cR _)
 |k+1,hk,j=>by
  have ih:=zmI m S f u k (by omega) j;rw[si];split
  ·rename_i hc
   rw[de]at hc;rw[bP,qx]
   by_cases e:k+1=j
   ·rw[aC e,aC (by rw[Ns];omega)];exact⟨λ_=>⟨k,by omega,e.symm,hc⟩,λ_=>rfl⟩
   ·rw[ak e,<-bP,ih];constructor
    ·rintro ⟨i,h1,h2⟩;exact⟨i,by omega,h2⟩
    ·rintro ⟨i,h1,h2,h3⟩;exact⟨i,by omega,h2,h3⟩
  ·rename_i hc
   rw[ih];constructor
   ·rintro ⟨i,h1,h2⟩;exact⟨i,by omega,h2⟩
   ·rintro ⟨i,h1,h2,h3,h4⟩;refine⟨i,?_,h2,h3,h4⟩
    by_cases e:i=k
    ·subst e;exact absurd (by rw[h3,h4];rfl) hc
    ·omega
theorem zpf{S:List Bool}{f:Nat->Bool}{u:aJ}{F:Nat->Prop}(hm:m=u.length+1)(hF:lP u.length S F):lP u.length (si m S f u u.length) (fZ u (In (.set f)) F):=by
 refine⟨by rw[Ns,hm],λj=>?_⟩;rw[zmI m S f u u.length (by omega),zqU];constructor
 ·rintro ⟨i,h1,h2,h3,h4⟩;exact⟨i,h1,h2,(hF.iff i).1 h3,by simpa [List.getD_eq_getElem?_getD,List.getElem?_eq_getElem h1]using h4⟩
 ·rintro ⟨i,h1,h2,h3,h4⟩;exact⟨i,h1,h2,(hF.iff i).2 h3,by simpa [List.getD_eq_getElem?_getD,List.getElem?_eq_getElem h1]using h4⟩
theorem vm{o:Obj}(h:w.heap[g]?=zb o):g<w.heap.size:=(ah.1 h).1
structure xm(w wr:ze)(ob nb:Obj)(m k:Nat)(T:List Bool):Prop where
 below:zf w.heap.size w wr
 box:wr.heap[w.heap.size]?=zb ob
 node:wr.heap[w.heap.size+1]?=zb nb
 row:wr.ownsRow w.heap.size 4 1 (zd (zb ⟨w.heap.size+1+1,0,za⟩) m m) m (T.map Value.bool)
theorem xm.call{w2:ze}(h:xm w wr ob nb m k T)(hb:zf wr.heap.size wr w2):xm w w2 ob nb m (k+1) T:=
 ⟨aq h.below h.below.size hb,nu h.box hb,nu h.node hb,dQ h.row hb⟩
theorem xm.drew(h:xm w wr ob nb m k T):xm w wr.drew ob nb m (k+1) T:=h.call (Below.refl _ _).drew
theorem xm.put{j:Nat}(h:xm w wr ob nb m k T):xm w (wr.setCell ⟨w.heap.size+1+1,j,za⟩ (.bool true)) ob nb m k (T.set j true):=
 ⟨h.below.setCell (by simp;omega) _,(Below.heap_setCell _ _ _ _ (by simp;omega)).trans h.box,(Below.heap_setCell _ _ _ _ (by simp)).trans h.node,by rw[List.map_set];exact(h.row.stored j (.bool true)).1⟩
theorem FU{a b c d e:zk}{t:TypeId}(h:w.heap[g]?=zb (zi #[a,b,c,d,e] t (0,0))):w.cell? ⟨g,0,za⟩=zb a/\w.cell? ⟨g,1,za⟩=zb b/\w.cell? ⟨g,2,za⟩=zb c/\w.cell? ⟨g,3,za⟩=zb d/\w.cell? ⟨g,4,za⟩=zb e:=by
 have:∀o,w.cell? ⟨g,o,za⟩=#[a,b,c,d,e][o]?:=λ_=>aM _ _ _ _ _ _ h
 exact⟨this 0,this 1,this 2,this 3,this 4⟩
theorem zoN(ns:List aL)(n:Nat)(hn:n<ns.length)(hk:bO ns n=1)(hT:a8 ns n=.set (jE (ns.getD n .zero).set)):kN ns n:=by
 intro w ao c gl cl gr cr t g cap m S F aD hS tA hF ht;rw[hT];obtain⟨iD,fB,hv,Bo,hc⟩:=aD.nodes;cases hv;obtain⟨b,o,sv,nd,rfl,Hn,aZ,c0,c1,c2,c3,c4,dr⟩:=hc.elem (Below.refl _ _) hn;have db:nd.kind=1:=by rw[<-hk];unfold bO;rw[Hn.out]
 rw[db]at c0;rw[Hn.out];have Mi:=dr;obtain⟨bZ,cd,rfl,hsm,jJ⟩:=dr;have Hm:zh (m=t.size+1):=by show _=_;rw[<-tA];exact hF.len
 have Bn:m<=1048576:=by rw[Hm.out];omega
 have zy:t.size<m:=by rw[Hm.out];omega
 have zzl:=λ(W:ze) (hb:zf w.heap.size w W) (ch:Nat) (h8:ch<256)=>ztR _ nd.set ch W (Mi.below hb) h8
 clear hk hT db hc jJ Mi;obtain⟨i0,hi,bI,aO,aQ⟩:=info_parts Tryz.VL;have da:(0:Int)<=(n:Int):=by omega
 have cO:(n:Int)<(ns.length:Int):=by omega
 go_enter func90,ntmps90
 go_wp2_with (refine wpList_make_full _ rfl _ _ 144 rfl w.heap.size 4 i0 _ 1 underlying144 hi bI aO _ _ _ _ m rfl rfl rfl rfl (by rw[aQ];omega) (by unfold maxLen;omega) (by simp;omega) ?_;intro w1 aB ez;rw[zhR]at aB)
 have zg:xm w w1 (zi #[zd (zb ⟨b,o,za⟩) ns.length c,zd (zb ⟨gl,0,za⟩) ns.length cl,zd (zb ⟨gr,0,za⟩) ns.length cr,.string t] 119 (0,0)) (zi #[zc .i64 1,.slice bZ nd.set.length cd,zc .i64 nd.min,zc .i64 nd.max,zc .i64 nd.group] 149 (0,0)) m 0 (si m S (jE nd.set) t.data.toList 0):=by
  have bQ:=((Below.refl w.heap.size w).alloc (aj _) (zi #[zd (zb ⟨b,o,za⟩) ns.length c,zd (zb ⟨gl,0,za⟩) ns.length cl,zd (zb ⟨gr,0,za⟩) ns.length cr,.string t] 119)).alloc (by simp) (zi #[zc .i64 1,.slice bZ nd.set.length cd,zc .i64 nd.min,zc .i64 nd.max,zc .i64 nd.group] 149);refine⟨bQ.grown ez (by simp;omega) (by intro k h;cases h),?_,?_,?_⟩
  ·exact(ez.block _ (by simp;omega) (by simp)).trans (cX (aI _ _))
  ·refine(ez.block _ (by simp) (by simp)).trans ?_;have:=aI (w.alloc (zi #[zd (zb ⟨b,o,za⟩) ns.length c,zd (zb ⟨gl,0,za⟩) ns.length cl,zd (zb ⟨gr,0,za⟩) ns.length cr,.string t] 119)) (zi #[zc .i64 1,.slice bZ nd.set.length cd,zc .i64 nd.min,zc .i64 nd.max,zc .i64 nd.group] 149)
   simpa using this
  ·simpa [si]using aB
 clear aB ez c0 c1 c2 c3 c4
 go_loopw [9] (λi wr=>∃k:Nat,k<=t.size/\i=zc .i64 k/\xm w wr (zi #[zd (zb ⟨b,o,za⟩) ns.length c,zd (zb ⟨gl,0,za⟩) ns.length cl,zd (zb ⟨gr,0,za⟩) ns.length cr,.string t] 119 (0,0)) (zi #[zc .i64 1,.slice bZ nd.set.length cd,zc .i64 nd.min,zc .i64 nd.max,zc .i64 nd.group] 149 (0,0)) m k (si m S (jE nd.set) t.data.toList k)) (λi _=>t.size-(intOf i).toNat)
 case atStart=>exact⟨0,aR _,rfl,zg⟩
 case round=>
  clear zg;obtain⟨k,hk,rfl,hI⟩:=hrel;obtain⟨a0,a1,a2,a3⟩:=oF hI.box
  by_cases hlt:k<t.size
  ·have Hs:zh (si m S (jE nd.set) t.data.toList (k+1)=if (S.getD k false&&jE nd.set (t.data.toList.getD k 0).toNat)=true then (si m S (jE nd.set) t.data.toList k).set (k+1) true else si m S (jE nd.set) t.data.toList k):=rfl;have g0:=(hI.below.cell (p:=⟨g,k,za⟩) hS.1).trans (hS.2 k (by rw[tA];omega));obtain⟨n0,n1,n2,n3,n4⟩:=FU hI.node;have UC:(0:Int)<=(k:Int):=by omega
   have E7:(k:Int)<(m:Int):=by omega
   have zw:(k:Int)<(t.size:Int):=by omega
   generalize S.getD k false=a at *;have LO:g<wr.heap.size:=bA hS.1 hI.below.size;have uO:=vm hI.box;have UN:=vm hI.node;have hch:=λ(W:ze) (hb:zf w.heap.size w W)=>zzl W hb (t[k]'hlt).toNat (UInt8.toNat_lt _)
   have HC:zh ((t.data.toList.getD k 0).toNat=(t[k]'hlt).toNat):=by
    show _=_;rw[bP,dh (show k<t.data.toList.length by simpa using hlt)]
    rfl
   cases a
   ·go_wp2
    go_region
    go_wp2
    go_roundw
    case rel=>exact⟨k+1,by omega,by go_num,by rw[Hs.out,Bool.false_and,ak (by decide)];exact hI.drew⟩
    case measure=>simp[intOf];omega
   ·go_wp2
    go_region_held3 (λw'=>w'.cell? ⟨g,k,za⟩=zb (.bool true)/\w'.cell? ⟨w.heap.size,3,za⟩=zb (.string t)/\w'.cell? ⟨w.heap.size+1,1,za⟩=zb (.slice bZ nd.set.length cd)) ((first|go_keep|exact⟨(ae.cell (by exact LO)).trans g0,(ae.cell (by exact uO)).trans a3,(ae.cell (by exact UN)).trans n1⟩)) ((go_at_call 112;refine(hch _ hI.drew.below).mono ?_;rintro e w2 ⟨rfl,ae⟩))
    have dV:zf wr.heap.size wr w2:=aq (Below.refl _ _).drew (aj _) ae;have O0:=hI.call dV;rw[<-HC.out];cases hq:jE nd.set (t.data.toList.getD k 0).toNat
    ·go_wp2
     go_roundw
     case rel=>exact⟨k+1,by omega,by go_num,by rw[Hs.out,hq,Bool.and_false,ak (by decide)];exact O0⟩
     case measure=>simp[intOf];omega
    ·obtain⟨u0,d0⟩:=sw O0.row (j:=k+1) (by omega);have f0:=O0.row.frozenAt (k+1);have hj3:(k:Int)+1<(m:Int):=by omega
     go_wp2
     go_roundw
     case rel=>exact⟨k+1,by omega,by go_num,by rw[Hs.out,hq,Bool.and_true,aC rfl];exact O0.put⟩
     case measure=>simp[intOf];omega
  ·have bK:k=t.size:=by omega
   go_wp2;have hu:t.data.toList.length=t.size:=by simp
   have hs:=zpf (m:=m) (S:=S) (f:=jE nd.set) (u:=t.data.toList) (F:=F) (by rw[hu];exact Hm.out) (by rw[hu];exact hF);rw[hu,<-bK]at hs;refine bh (v:=zd (zb ⟨w.heap.size+1+1,0,za⟩) m m) (by simp[results,results90,go_sem]) rfl ⟨_,_,_,rfl,⟨pE hI.row,λi hi=>?_⟩,Ns _ _ _ _ _,by rw[<-bK];exact hs,hI.below⟩;rw[hI.row.cellAt i (by rw[Ns]at hi;omega),yA,bP,dh hi]
   rfl
end
end
end Go.Proofs.YtdimhpfiieepiaaGreatDoor
