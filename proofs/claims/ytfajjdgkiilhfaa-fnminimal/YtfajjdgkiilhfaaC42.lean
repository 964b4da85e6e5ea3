import Derived.Test.YtfajjdgkiilhfaaC41
import Derived.Deep.Cut
import Derived.Deep.CutRange
namespace Go.Proofs.Ytfajjdgkiilhfaa
open Proofs.Try
open Option renaming none->za,some->zh
open Value renaming int->zi,slice->zw
open Go renaming World->zn,Calls->zp
set_option maxHeartbeats 4000000
set_option maxRecDepth 100000
open Go.RowKit
attribute [local go_sem ↓] wp_at_zero wp_at_succ
section
variable {W:zn}{G O g c k:Nat}{l:List Tok}{q:Nat -> Nat}{ck:Int}
structure gK(W:zn)(G O g:Nat)(l:List Tok)(q:Nat->Nat):Prop where
 lt:G<W.heap.size
 BI:∀k,k<l.length->∀j,j<5->W.cell? ⟨G,O+k*5+j,za⟩=(vp g l q k)[j]?
 set:∀k,k<l.length->aZ l k=0->bC W (q k) (l.getD k jb).set
 qE:∀k,k<l.length->aZ l k<7
theorem gK.DG(h:gK W G O g l q){k:Nat}(hk:k<l.length):W.cell? ⟨G,O+k*5,za⟩=zh (.int .u8 (kB (aZ l k))):=h.BI k hk 0 (by omega)
theorem gK.Z6(h:gK W G O g l q){k:Nat}(hk:k<l.length):W.cell? ⟨G,O+k*5+1,za⟩=zh (zi .i64 ((l.getD k jb).pos:Int)):=h.BI k hk 1 (by omega)
theorem gK.zyp(h:gK W G O g l q){k:Nat}(hk:k<l.length):W.cell? ⟨G,O+k*5+2,za⟩=zh (DK (l.getD k jb) (q k)):=h.BI k hk 2 (by omega)
theorem gK.Tj(h:gK W G O g l q){k:Nat}(hk:k<l.length):W.cell? ⟨G,O+k*5+3,za⟩=zh (zi .i64 (mS g l k)):=h.BI k hk 3 (by omega)
theorem gK.zyj(h:gK W G O g l q){k:Nat}(hk:k<l.length):W.cell? ⟨G,O+k*5+4,za⟩=zh (zi .i64 (l.getD k jb).mx):=h.BI k hk 4 (by omega)
theorem gK.below{W':zn}(h:gK W G O g l q)(hb:Below W.heap.size W W'):gK W' G O g l q:=
 ⟨fR h.lt hb.size,λk hk j hj=>by rw[World.cell?_of_block (w:=W) (hb.block G h.lt)];exact h.BI k hk j hj,λk hk h0=>aY (h.set k hk h0) hb,h.qE⟩
theorem gK.sub{a b c:List Tok}(h:gK W G O g (a++(b++c)) q):gK W G (O+a.length*5) (g+cZ a a.length) b (λk=>q (a.length+k)):=by
 have hl:∀k,k<b.length->a.length+k<(a++(b++c)).length:=λk hk=>by simp;omega
 have hg:∀k,k<b.length->(a++(b++c)).getD (a.length+k) jb=b.getD k jb:=λk hk=>by rw[zgR,Uf _ hk]
 have bJ:∀k,k<b.length->aZ (a++(b++c)) (a.length+k)=aZ b k:=λk hk=>by rw[Gg,xt _ hk]
 refine⟨h.lt,λk hk j hj=>?_,λk hk h0=>?_,λk hk=>?_⟩
 ·have:=h.BI (a.length+k) (hl k hk) j hj;rw[show O+(a.length+k)*5+j=O+a.length*5+k*5+j by omega]at this;rw[this];unfold vp mS;rw[hg k hk,bJ k hk,Cv,zhe,Mi _ (by omega),show g+(cZ a a.length+cZ b (k+1))=g+cZ a a.length+cZ b (k+1) by omega]
 ·have:=h.set (a.length+k) (hl k hk) (by rw[bJ k hk];exact h0);rw[hg k hk]at this;exact this
 ·have:=h.qE (a.length+k) (hl k hk);rw[bJ k hk]at this;exact this
theorem zlv(l:List Tok):∀k:Nat,-(k:Int)<=bA l k/\bA l k<=k
 |0=>⟨by show -((0:Nat):Int)<=(0:Int);omega,by show (0:Int)<=((0:Nat):Int);omega⟩
 |k+1=>by
  have:=zlv l k;show -((k+1:Nat):Int)<=bA l k+(if aZ l k=1 then 1 else if aZ l k=2 then -1 else 0)/\bA l k+(if aZ l k=1 then 1 else if aZ l k=2 then -1 else 0)<=((k+1:Nat):Int);split
  ·omega
  ·split<;>omega
theorem Ef(hk:k<7)(m:Nat)(hm:m<7):(kB k==kB m)=decide (k=m):=by
 by_cases h:k=m
 ·subst h;simp
 ·have:kB k≠kB m:=λe=>h (ztw hk hm e)
  simp[this,h]
theorem L9(w:zn)(h:gK w G O g l q)(hk:k<=l.length)(hc:ck=k)(hl:l.length<=2000):
  zp prog 68 #[zw (zh ⟨G,O,za⟩) l.length c,zi .i64 ck] w λe w'=>e=.returned (zi .i64 (bA l k))/\w'=w:=by
 subst hc;obtain⟨n,hn⟩:∃n,n=l.length:=⟨_,rfl⟩;rw[<-hn]
 go_enter func68,ntmps68
 go_wp2
 go_loop [5,6] (λd i=>∃j:Nat,j<=k/\i=zi .i64 (j:Int)/\d=zi .i64 (bA l j)) (λ_ i=>k-(intOf i).toNat)
 case atStart=>exact⟨0,by omega,rfl,rfl⟩
 case round=>
  obtain⟨j,hj,rfl,rfl⟩:=hrel
  by_cases hlt:j<k
  ·have h1:(j:Int)<(k:Int):=by omega
   have h2:(j:Int)<(n:Int):=by omega
   have tX:j<l.length:=by omega
   have c0:=h.DG tX;have hb:=zlv l j;have aP:-2000<=bA l j:=by omega
   have aL:bA l j<=2000:=by omega
   have vd:=h.qE j tX;have e1:=Ef vd 1 (by omega);have e2:=Ef vd 2 (by omega);have HD:Hid (bA l (j+1)=bA l j+(if aZ l j=1 then 1 else if aZ l j=2 then -1 else 0)):=rfl;generalize hK:aZ l j=K at c0 e1 e2 HD;generalize KN:kB K=KB at c0 e1 e2;generalize hDD:bA l j=D at hb aP aL HD;have e1:(KB==40)=decide (K=1):=e1;have e2:(KB==41)=decide (K=2):=e2
   by_cases k1:K=1
   ·subst k1;have e1:(KB==40)=true:=e1;have e2:(KB==41)=false:=e2;go_wp2
    go_round
    case rel=>exact⟨j+1,by omega,by go_num,by rw[HD.out];go_num⟩
    case measure=>simp[intOf];omega
   by_cases k2:K=2
   ·subst k2;have e1:(KB==40)=false:=e1;have e2:(KB==41)=true:=e2;go_wp2
    go_round
    case rel=>exact⟨j+1,by omega,by go_num,by rw[HD.out];go_num⟩
    case measure=>simp[intOf];omega
   ·have e1:(KB==40)=false:=by rw[e1];simpa using k1
    have e2:(KB==41)=false:=by rw[e2];simpa using k2
    go_wp2
    go_round
    case rel=>exact⟨j+1,by omega,by go_num,by rw[HD.out,ab k1,ab k2,Int.add_zero]⟩
    case measure=>simp[intOf];omega
  ·have po:j=k:=by omega
   subst po;go_wp2;go_ret;exact⟨rfl,rfl⟩
theorem TF(w:zn)(h:gK w G O g l q)(hk:k<l.length)(hc:ck=k):
  zp prog 67 #[zw (zh ⟨G,O,za⟩) l.length c,zi .i64 ck] w λe w'=>e=.returned (.int .u8 (kB (aZ l k)))/\w'=w:=by
 subst hc;have c0:=h.DG hk;generalize kB (aZ l k)=K at c0 ⊢;have h1:(k:Int)<(l.length:Int):=by omega
 go_enter func67,ntmps67
 go_wp2;go_ret;exact⟨rfl,rfl⟩
theorem TW{v:Option Addr}{n:Nat}(w:zn)(hc:ck<0\/(n:Int)<=ck):
  zp prog 67 #[.slice v n c,zi .i64 ck] w λe w'=>e=.returned (.int .u8 46)/\w'=w:=by
 go_enter func67,ntmps67
 by_cases h0:ck<0
 ·go_wp2;go_ret;exact⟨rfl,rfl⟩
 ·have h1:(n:Int)<=ck:=by omega
  have h2:¬ck<(n:Int):=by omega
  go_wp2;go_ret;exact⟨rfl,rfl⟩
end
variable {l:List Tok}{G O g c k:Nat}{q:Nat -> Nat}{ck:Int}
def pB(p:Nat):Int:=if p=7 then 46 else kB p
theorem Bb{p:Nat}(hp:p<8)(m:Nat)(hm:m<7):(pB p==kB m)=decide (p=m):=by
 unfold pB
 by_cases h:p=7
 ·subst h;rw[ae rfl];have:(46:Int)≠kB m:=by
   match m,hm with
   |0,_|1,_|2,_|3,_|4,_|5,_|6,_=>decide
  have h2:¬7=m:=by omega
  simp[this,h2]
 ·rw[ab h];exact Ef (by omega) m hm
theorem Uk(h:Gl l){k:Nat}(hk:k<=l.length):dn l k<8:=by
 unfold dn;split
 ·omega
 ·have:=h (k-1) (by omega);omega
theorem zq4(h:Gl l)(k:Nat):uz l k<8:=by
 unfold uz;split
 ·rename_i h1;have:=h (k+1) h1;omega
 ·omega
theorem Ty(w:zn)(h:gK w G O g l q)(hk:k<=l.length)(hc:ck=(k:Int)-1):
  zp prog 67 #[zw (zh ⟨G,O,za⟩) l.length c,zi .i64 ck] w λe w'=>e=.returned (.int .u8 (pB (dn l k)))/\w'=w:=by
 unfold pB dn
 by_cases h0:k=0
 ·rw[ae h0,ae rfl];exact TW w (.inl (by omega))
 ·rw[ab h0];have:=h.qE (k-1) (by omega);rw[ab (by omega)];exact TF w h (by omega) (by omega)
theorem zlI(w:zn)(h:gK w G O g l q)(hc:ck=(k:Int)+1):
  zp prog 67 #[zw (zh ⟨G,O,za⟩) l.length c,zi .i64 ck] w λe w'=>e=.returned (.int .u8 (pB (uz l k)))/\w'=w:=by
 unfold pB uz
 by_cases h0:k+1<l.length
 ·rw[ae h0];have:=h.qE (k+1) h0;rw[ab (by omega)];exact TF w h h0 (by omega)
 ·rw[ab h0,ae rfl];exact TW w (.inr (by omega))
def nY(K P X:Nat)(D:Int)(M:Nat):Int:=
 if K=1 then (if 500<M then 9 else 0)
 else if K=2 then (if D=0 then 7 else if dO P then 6 else 0)
 else if K=3 then (if dO P then 6 else 0)
 else if K=4 then (if P≠0/\P≠2 then 6 else 0)
 else if K=5 then (if D≠0\/(P≠7/\P≠3) then 5 else 0)
 else if K=6 then (if D≠0\/(X≠7/\X≠3) then 5 else if dO P then 6 else 0)
 else 0
theorem zoA(l:List Tok)(k:Nat):lu l k=nY (aZ l k) (dn l k) (uz l k) (bA l k) (cZ l (k+1)):=rfl
theorem TV(w:zn)(h:gK w G O 0 l q)(hk:k<l.length)(hl:l.length<=2000):
  zp prog 66 #[zw (zh ⟨G,O,za⟩) l.length c,zi .i64 (k:Int)] w λe w'=>e=.returned (zi .i64 (lu l k))/\w'=w:=by
 have mM:=Uk h.qE (k:=k) (by omega);have hX8:=zq4 h.qE k;have tO:=h.qE k hk;have KS:k=0↔dn l k=7:=by
  unfold dn
  by_cases h0:k=0
  ·simp[h0]
  ·rw[ab h0];have:=h.qE (k-1) (by omega);omega
 have N9:¬k+1<l.length↔uz l k=7:=by
  unfold uz
  by_cases h0:k+1<l.length
  ·rw[ae h0];have:=h.qE (k+1) h0;omega
  ·simp[h0]
 have c1:=Ty (c:=c) w h (k:=k) (ck:=(k:Int)-1) (by omega) rfl;have c2:=zlI (c:=c) w h (k:=k) (ck:=(k:Int)+1) rfl;have c3:=L9 (c:=c) w h (k:=k) (ck:=k) (by omega) rfl hl;have k0:=h.DG hk;have k3:=h.Tj hk;have hm:aZ l k=1->mS 0 l k=(cZ l (k+1):Int):=λe=>by unfold mS;rw[ae e,jB]
 have pU:=Ux l (k+1);rw[zoA];generalize dn l k=P at *;generalize uz l k=X at *;generalize bA l k=D at *;generalize aZ l k=K at *;generalize cZ l (k+1)=M at *;generalize mS 0 l k=MS at *;obtain⟨n,hn⟩:∃n,n=l.length:=⟨_,rfl⟩;rw[<-hn]at c1 c2 c3 N9 ⊢;have h1:(k:Int)<(n:Int):=by omega
 have Hp:∀m,m<7->(pB P==kB m)=decide (P=m):=λm hm=>Bb mM m hm
 have Hx:∀m,m<7->(pB X==kB m)=decide (X=m):=λm hm=>Bb hX8 m hm
 have p1:(pB P==40)=decide (P=1):=Hp 1 (by omega);have p3:(pB P==124)=decide (P=3):=Hp 3 (by omega);have p5:(pB P==94)=decide (P=5):=Hp 5 (by omega);have p0:(pB P==97)=decide (P=0):=Hp 0 (by omega);have p2:(pB P==41)=decide (P=2):=Hp 2 (by omega);have x3:(pB X==124)=decide (X=3):=Hx 3 (by omega);clear Hp Hx;have q3:(pB P != 124)=!decide (P=3):=by rw[<-p3];rfl
 have q0:(pB P != 97)=!decide (P=0):=by rw[<-p0];rfl
 have q2:(pB P != 41)=!decide (P=2):=by rw[<-p2];rfl
 have y3:(pB X != 124)=!decide (X=3):=by rw[<-x3];rfl
 generalize pB P=PB at *;generalize pB X=XB at *;have bJ:k<=2000:=by omega
 have fc:n<=2000:=by omega
 clear hn;have Hk:Hid _:=hk;have Hl:Hid _:=hl;have P0:Hid _:=KS;have X0:Hid _:=N9;have P1:Hid _:=p1;have P3:Hid _:=p3;have P5:Hid _:=p5;have Q0:Hid _:=q0;have Q2:Hid _:=q2;have Q3:Hid _:=q3;have Y3:Hid _:=y3;have HM:Hid _:=hm;have K0:Hid _:=k0;have K3:Hid _:=k3;clear hk hl KS N9 p0 p1 p2 p3 p5 q0 q2 q3 x3 y3 hm k0 k3 h
 go_enter func66,ntmps66
 go_wp2_with fail
 refine c1.mono ?_;rintro e w' ⟨rfl,hw⟩;rw[hw];clear hw w' c1
 go_wp2_with fail
 refine c2.mono ?_;rintro e w' ⟨rfl,hw⟩;rw[hw];clear hw w' c2
 go_wp2_with fail
 refine c3.mono ?_;rintro e w' ⟨rfl,hw⟩;rw[hw];clear hw w' c3
 go_upto_region 4 with fail
 go_cut [8] from 9 to 33 (λv wx=>v=.bool (decide (dO P))/\wx=w)
 case first=>
  by_cases e0:k=0
  ·have a0:((k:Int)==0)=true:=by simpa using e0
   have ho:decide (dO P)=true:=by have:=P0.out.1 e0;simp[dO,this]
   go_wp2
   go_meet
   case rel=>exact⟨by rw[ho],rfl⟩
  have a0:((k:Int)==0)=false:=by simpa using e0
  have BQ:P≠7:=λh=>e0 (P0.out.2 h)
  by_cases e1:P=1
  ·have p1:(PB==40)=true:=by rw[P1.out];simpa using e1
   have ho:decide (dO P)=true:=by simp[dO,e1]
   go_wp2
   go_meet
   case rel=>exact⟨by rw[ho],rfl⟩
  have p1:(PB==40)=false:=by rw[P1.out];simpa using e1
  by_cases e3:P=3
  ·have p3:(PB==124)=true:=by rw[P3.out];simpa using e3
   have ho:decide (dO P)=true:=by simp[dO,e3]
   go_wp2
   go_meet
   case rel=>exact⟨by rw[ho],rfl⟩
  have p3:(PB==124)=false:=by rw[P3.out];simpa using e3
  by_cases e5:P=5
  ·have p5:(PB==94)=true:=by rw[P5.out];simpa using e5
   have ho:decide (dO P)=true:=by simp[dO,e5]
   go_wp2
   go_meet
   case rel=>exact⟨by rw[ho],rfl⟩
  have p5:(PB==94)=false:=by rw[P5.out];simpa using e5
  have ho:decide (dO P)=false:=by simp[dO,e1,e3,e5,BQ]
  go_wp2
  go_meet
  case rel=>exact⟨by rw[ho],rfl⟩
 obtain⟨rfl,rfl⟩:=hcut;have hO:decide (dO P)=true\/decide (dO P)=false:=by cases decide (dO P)<;>simp
 by_cases kk:K=0
 ·subst kk;have k0:wc.cell? ⟨G,O+k*5,za⟩=zh (.int .u8 97):=K0.out;go_wp2;go_ret;exact⟨gq (by unfold nY;rw[ab (by decide),ab (by decide),ab (by decide),ab (by decide),ab (by decide),ab (by decide)]),rfl⟩
 by_cases kk:K=1
 ·subst kk;have k0:wc.cell? ⟨G,O+k*5,za⟩=zh (.int .u8 40):=K0.out;have k3:wc.cell? ⟨G,O+k*5+3,za⟩=zh (zi .i64 (M:Int)):=by rw[<-HM.out rfl];exact K3.out
  by_cases e:500<M
  ·have e1:(500:Int)<(M:Int):=by omega
   go_wp2;go_ret;exact⟨gq (by unfold nY;rw[ae rfl,ae e]),rfl⟩
  ·have e1:¬(500:Int)<(M:Int):=by omega
   go_wp2;go_ret;exact⟨gq (by unfold nY;rw[ae rfl,ab e]),rfl⟩
 by_cases kk:K=2
 ·subst kk;have k0:wc.cell? ⟨G,O+k*5,za⟩=zh (.int .u8 41):=K0.out
  by_cases e:D=0
  ·have e1:(D==0)=true:=by simpa using e
   go_wp2;go_ret;exact⟨gq (by unfold nY;rw[ab (by decide),ae rfl,ae e]),rfl⟩
  ·have e1:(D==0)=false:=by simpa using e
   rcases hO with hO|hO
   ·rw[hO];go_wp2;go_ret;exact⟨gq (by unfold nY;rw[ab (by decide),ae rfl,ab e,ae (of_decide_eq_true hO)]),rfl⟩
   ·rw[hO];go_wp2;go_ret;exact⟨gq (by unfold nY;rw[ab (by decide),ae rfl,ab e,ab (of_decide_eq_false hO)]),rfl⟩
 by_cases kk:K=3
 ·subst kk;have k0:wc.cell? ⟨G,O+k*5,za⟩=zh (.int .u8 124):=K0.out;rcases hO with hO|hO
  ·rw[hO];go_wp2;go_ret;exact⟨gq (by unfold nY;rw[ab (by decide),ab (by decide),ae rfl,ae (of_decide_eq_true hO)]),rfl⟩
  ·rw[hO];go_wp2;go_ret;exact⟨gq (by unfold nY;rw[ab (by decide),ab (by decide),ae rfl,ab (of_decide_eq_false hO)]),rfl⟩
 by_cases kk:K=4
 ·subst kk;have k0:wc.cell? ⟨G,O+k*5,za⟩=zh (.int .u8 114):=K0.out
  by_cases e:P=0
  ·have e1:(PB != 97)=false:=by rw[Q0.out];simp[e]
   go_wp2;go_ret;exact⟨gq (by unfold nY;rw[ab (by decide),ab (by decide),ab (by decide),ae rfl,ab (by simp[e])]),rfl⟩
  have e1:(PB != 97)=true:=by rw[Q0.out];simp[e]
  by_cases e2:P=2
  ·have e3:(PB != 41)=false:=by rw[Q2.out];simp[e2]
   go_wp2;go_ret;exact⟨gq (by unfold nY;rw[ab (by decide),ab (by decide),ab (by decide),ae rfl,ab (by simp[e2])]),rfl⟩
  have e3:(PB != 41)=true:=by rw[Q2.out];simp[e2]
  go_wp2;go_ret;exact⟨gq (by unfold nY;rw[ab (by decide),ab (by decide),ab (by decide),ae rfl,ae ⟨e,e2⟩]),rfl⟩
 by_cases kk:K=5
 ·subst kk;have k0:wc.cell? ⟨G,O+k*5,za⟩=zh (.int .u8 94):=K0.out
  by_cases e:D=0
  case neg=>
   have e1:(D != 0)=true:=by simpa using e
   go_wp2;go_ret;exact⟨gq (by unfold nY;rw[ab (by decide),ab (by decide),ab (by decide),ab (by decide),ae rfl,ae (.inl e)]),rfl⟩
  have e1:(D != 0)=false:=by simpa using e
  by_cases e2:P=7
  ·have e3:¬(0:Int)<(k:Int):=by have:=P0.out.2 e2;omega
   go_wp2;go_ret;exact⟨gq (by unfold nY;rw[ab (by decide),ab (by decide),ab (by decide),ab (by decide),ae rfl,ab (by omega)]),rfl⟩
  have e3:(0:Int)<(k:Int):=by have:=P0.out.1;omega
  by_cases e4:P=3
  ·have e5:(PB != 124)=false:=by rw[Q3.out];simp[e4]
   go_wp2;go_ret;exact⟨gq (by unfold nY;rw[ab (by decide),ab (by decide),ab (by decide),ab (by decide),ae rfl,ab (by omega)]),rfl⟩
  have e5:(PB != 124)=true:=by rw[Q3.out];simp[e4]
  go_wp2;go_ret;exact⟨gq (by unfold nY;rw[ab (by decide),ab (by decide),ab (by decide),ab (by decide),ae rfl,ae (.inr ⟨e2,e4⟩)]),rfl⟩
 by_cases kk:K=6
 ·subst kk;have k0:wc.cell? ⟨G,O+k*5,za⟩=zh (.int .u8 36):=K0.out
  by_cases e:D=0
  case neg=>
   have e1:(D != 0)=true:=by simpa using e
   go_wp2;go_ret;exact⟨gq (by unfold nY;rw[ab (by decide),ab (by decide),ab (by decide),ab (by decide),ab (by decide),ae rfl,ae (.inl e)]),rfl⟩
  have e1:(D != 0)=false:=by simpa using e
  by_cases e2:X=7
  ·have e3:¬(k:Int)+1<(n:Int):=by have:=X0.out.2 e2;omega
   rcases hO with hO|hO
   ·rw[hO];go_wp2;go_ret;exact⟨gq (by unfold nY;rw[ab (by decide),ab (by decide),ab (by decide),ab (by decide),ab (by decide),ae rfl,ab (by omega),ae (of_decide_eq_true hO)]),rfl⟩
   ·rw[hO];go_wp2;go_ret;exact⟨gq (by unfold nY;rw[ab (by decide),ab (by decide),ab (by decide),ab (by decide),ab (by decide),ae rfl,ab (by omega),ab (of_decide_eq_false hO)]),rfl⟩
  have e3:(k:Int)+1<(n:Int):=by have:=X0.out.1;omega
  by_cases e4:X=3
  ·have e5:(XB != 124)=false:=by rw[Y3.out];simp[e4]
   rcases hO with hO|hO
   ·rw[hO];go_wp2;go_ret;exact⟨gq (by unfold nY;rw[ab (by decide),ab (by decide),ab (by decide),ab (by decide),ab (by decide),ae rfl,ab (by omega),ae (of_decide_eq_true hO)]),rfl⟩
   ·rw[hO];go_wp2;go_ret;exact⟨gq (by unfold nY;rw[ab (by decide),ab (by decide),ab (by decide),ab (by decide),ab (by decide),ae rfl,ab (by omega),ab (of_decide_eq_false hO)]),rfl⟩
  have e5:(XB != 124)=true:=by rw[Y3.out];simp[e4]
  go_wp2;go_ret;exact⟨gq (by unfold nY;rw[ab (by decide),ab (by decide),ab (by decide),ab (by decide),ab (by decide),ae rfl,ae (.inr ⟨e2,e4⟩)]),rfl⟩
 omega
def ztL(w:zn)(l:List Tok)(k:Nat)(e:Ending)(w':zn):Prop:=∃b:Bool,e=.returned (.bool b)/\w'=w/\(b=true↔ziQ l k)
theorem zjb(w:zn)(h:gK w G O g l q)(hk:k<l.length)(kf:l.length<=c)(dN:c<=9223372036854775807)(hl:l.length<=2000):
  zp prog 69 #[zw (zh ⟨G,O,za⟩) l.length c,zi .i64 (k:Int)] w (ztL w l k):=by
 have Fl:l=l.take k++(l.drop k++[]):=by simp
 have hs:gK w G (O+k*5) (g+cZ (l.take k) (l.take k).length) (l.drop k) (λj=>q ((l.take k).length+j)):=by
  have h2:=h;rw[Fl]at h2;have:=h2.sub;rw[show (l.take k).length=k by simp;omega]at this ⊢;exact this
 have hd:∀e,k<=e->e<=l.length->bA (l.drop k) (e-k)=bA l e-bA l k:=by
  intro e h1 h2;have h3:=Gc (l.take k) (l.drop k) (e-k);rw[List.take_append_drop,show (l.take k).length=k by simp;omega,show k+(e-k)=e by omega]at h3;have h4:bA (l.take k) k=bA l k:=by
   have:=Cf (l:=l.take k) (l.drop k) (k:=k) (by simp;omega);rw[List.take_append_drop]at this;exact this.symm
  omega
 clear Fl;have Dq:(l.drop k).length=l.length-k:=List.length_drop;obtain⟨n,hn⟩:∃n,n=l.length:=⟨_,rfl⟩;rw[<-hn];have k7:(k:Int)<=(n:Int):=by omega
 have nL:(n:Int)<=(c:Int):=by omega
 have Am:(c:Int)<=9223372036854775807:=by omega
 rw[<-hn]at Dq;have HN:Hid _:=hn;have fc:n<=2000:=by omega
 have bJ:k<n:=by omega
 clear hn hk hl kf
 go_enter func69,ntmps69
 go_wp2
 go_loop [5] (λi=>∃e:Nat,k<e/\e<=n+1/\i=zi .i64 (e:Int)/\∀j,k<j->j<e->bA l j≠bA l k) (λi=>n+1-(intOf i).toNat)
 case atStart=>exact⟨k+1,by omega,by omega,by go_num,λj h1 h2=>by omega⟩
 case round=>
  obtain⟨e,he1,Ys,rfl,cj⟩:=hrel
  by_cases hle:e<=n
  ·have h1:(e:Int)<=(n:Int):=by omega
   have hC:=L9 (c:=c-k) w hs (k:=e-k) (ck:=(e:Int)-k) (by omega) (by omega) (by omega);rw[hd e (by omega) (by have:=HN.out;omega),Dq]at hC;have i1:((n:Int)-(k:Int)).toNat=n-k:=by omega
   have i2:((c:Int)-(k:Int)).toNat=c-k:=by omega
   by_cases hz:bA l e-bA l k=0
   ·have hzb:(bA l e-bA l k==0)=true:=by simpa using hz
    have HZ:Hid _:=hz;clear hz
    go_wp2_with fail
    refine hC.mono ?_;rintro e' w' ⟨rfl,rfl⟩;go_wp2;go_ret;exact⟨false,rfl,rfl,⟨λh=>absurd h (by decide),λhU=>absurd (show bA l e=bA l k by have:=HZ.out;omega) (hU e he1 (by have:=HN.out;omega))⟩⟩
   ·have hzb:(bA l e-bA l k==0)=false:=by simpa using hz
    go_wp2_with fail
    refine hC.mono ?_;rintro e' w' ⟨rfl,rfl⟩;go_wp2
    go_round
    case rel=>
     refine⟨e+1,by omega,by omega,by go_num,λj h1 h2=>?_⟩
     by_cases hj:j=e
     ·subst hj;omega
     ·exact cj j h1 (by omega)
    case measure=>simp[intOf];omega
  ·have h1:¬(e:Int)<=(n:Int):=by omega
   go_wp2;go_ret;exact⟨true,rfl,rfl,⟨λ_ j h1 h2=>cj j h1 (by have:=HN.out;omega),λ_=>rfl⟩⟩
end Go.Proofs.Ytfajjdgkiilhfaa
