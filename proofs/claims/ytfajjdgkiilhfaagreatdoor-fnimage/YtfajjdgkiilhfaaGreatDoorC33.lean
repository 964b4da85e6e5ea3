import Derived.Test.YtfajjdgkiilhfaaGreatDoorC32
import Derived.Deep.Cut
import Derived.Deep.CutRange
namespace Go.Proofs.YtfajjdgkiilhfaaGreatDoor
open Proofs.Tryz
open Option renaming none->za,some->zb
open Value renaming int->zc,slice->zf
open Go renaming World->zd,Calls->ze
set_option maxHeartbeats 4000000
set_option maxRecDepth 100000
open Go.RowKit
attribute [local go_sem ↓] wp_at_zero wp_at_succ
section
variable {W:zd}{G O g c k:Nat}{l:List Tok}{q:Nat -> Nat}{ck:Int}
structure gP(W:zd)(G O g:Nat)(l:List Tok)(q:Nat->Nat):Prop where
 lt:G<W.heap.size
 AJ:∀k,k<l.length->∀j,j<5->W.cell? ⟨G,O+k*5+j,za⟩=(uW g l q k)[j]?
 set:∀k,k<l.length->aS l k=0->a9 W (q k) (l.getD k iP).set
 qG:∀k,k<l.length->aS l k<7
theorem gP.CD(h:gP W G O g l q){k:Nat}(hk:k<l.length):W.cell? ⟨G,O+k*5,za⟩=zb (.int .u8 (kB (aS l k))):=h.AJ k hk 0 (by omega)
theorem gP.Y4(h:gP W G O g l q){k:Nat}(hk:k<l.length):W.cell? ⟨G,O+k*5+1,za⟩=zb (zc .i64 ((l.getD k iP).pos:Int)):=h.AJ k hk 1 (by omega)
theorem gP.zzP(h:gP W G O g l q){k:Nat}(hk:k<l.length):W.cell? ⟨G,O+k*5+2,za⟩=zb (CJ (l.getD k iP) (q k)):=h.AJ k hk 2 (by omega)
theorem gP.SC(h:gP W G O g l q){k:Nat}(hk:k<l.length):W.cell? ⟨G,O+k*5+3,za⟩=zb (zc .i64 (mS g l k)):=h.AJ k hk 3 (by omega)
theorem gP.zzO(h:gP W G O g l q){k:Nat}(hk:k<l.length):W.cell? ⟨G,O+k*5+4,za⟩=zb (zc .i64 (l.getD k iP).mx):=h.AJ k hk 4 (by omega)
theorem gP.below{W':zd}(h:gP W G O g l q)(hb:Below W.heap.size W W'):gP W' G O g l q:=
 ⟨dR h.lt hb.size,λk hk j hj=>by rw[World.cell?_of_block (w:=W) (hb.block G h.lt)];exact h.AJ k hk j hj,λk hk h0=>aT (h.set k hk h0) hb,h.qG⟩
theorem gP.sub{a b c:List Tok}(h:gP W G O g (a++(b++c)) q):gP W G (O+a.length*5) (g+dh a a.length) b (λk=>q (a.length+k)):=by
 have hl:∀k,k<b.length->a.length+k<(a++(b++c)).length:=λk hk=>by simp;omega
 have hg:∀k,k<b.length->(a++(b++c)).getD (a.length+k) iP=b.getD k iP:=λk hk=>by rw[zhx,TF _ hk]
 have bu:∀k,k<b.length->aS (a++(b++c)) (a.length+k)=aS b k:=λk hk=>by rw[Fc,wI _ hk]
 refine⟨h.lt,λk hk j hj=>?_,λk hk h0=>?_,λk hk=>?_⟩
 ·have:=h.AJ (a.length+k) (hl k hk) j hj;rw[show O+(a.length+k)*5+j=O+a.length*5+k*5+j by omega]at this;rw[this];unfold uW mS;rw[hg k hk,bu k hk,yC,zhU,Lf _ (by omega),show g+(dh a a.length+dh b (k+1))=g+dh a a.length+dh b (k+1) by omega]
 ·have:=h.set (a.length+k) (hl k hk) (by rw[bu k hk];exact h0);rw[hg k hk]at this;exact this
 ·have:=h.qG (a.length+k) (hl k hk);rw[bu k hk]at this;exact this
theorem zmF(l:List Tok):∀k:Nat,-(k:Int)<=aX l k/\aX l k<=k
 |0=>⟨by show -((0:Nat):Int)<=(0:Int);omega,by show (0:Int)<=((0:Nat):Int);omega⟩
 |k+1=>by
  have:=zmF l k;show -((k+1:Nat):Int)<=aX l k+(if aS l k=1 then 1 else if aS l k=2 then -1 else 0)/\aX l k+(if aS l k=1 then 1 else if aS l k=2 then -1 else 0)<=((k+1:Nat):Int);split
  ·omega
  ·split<;>omega
theorem Dk(hk:k<7)(m:Nat)(hm:m<7):(kB k==kB m)=decide (k=m):=by
 by_cases h:k=m
 ·subst h;simp
 ·have:kB k≠kB m:=λe=>h (zvr hk hm e)
  simp[this,h]
theorem KO(w:zd)(h:gP w G O g l q)(hk:k<=l.length)(hc:ck=k)(hl:l.length<=2000):
  ze prog 82 #[zf (zb ⟨G,O,za⟩) l.length c,zc .i64 ck] w λe w'=>e=.returned (zc .i64 (aX l k))/\w'=w:=by
 subst hc;obtain⟨n,hn⟩:∃n,n=l.length:=⟨_,rfl⟩;rw[<-hn]
 go_enter func82,ntmps82
 go_wp2
 go_loop [5,6] (λd i=>∃j:Nat,j<=k/\i=zc .i64 (j:Int)/\d=zc .i64 (aX l j)) (λ_ i=>k-(intOf i).toNat)
 case atStart=>exact⟨0,by omega,rfl,rfl⟩
 case round=>
  obtain⟨j,hj,rfl,rfl⟩:=hrel
  by_cases hlt:j<k
  ·have h1:(j:Int)<(k:Int):=by omega
   have h2:(j:Int)<(n:Int):=by omega
   have mc:j<l.length:=by omega
   have c0:=h.CD mc;have hb:=zmF l j;have aO:-2000<=aX l j:=by omega
   have aB:aX l j<=2000:=by omega
   have uK:=h.qG j mc;have e1:=Dk uK 1 (by omega);have e2:=Dk uK 2 (by omega);have HD:Hid (aX l (j+1)=aX l j+(if aS l j=1 then 1 else if aS l j=2 then -1 else 0)):=rfl;generalize hK:aS l j=K at c0 e1 e2 HD;generalize JA:kB K=KB at c0 e1 e2;generalize hDD:aX l j=D at hb aO aB HD;have e1:(KB==40)=decide (K=1):=e1;have e2:(KB==41)=decide (K=2):=e2
   by_cases k1:K=1
   ·subst k1;have e1:(KB==40)=true:=e1;have e2:(KB==41)=false:=e2;go_wp2
    go_round
    case rel=>exact⟨j+1,by omega,by go_num,by rw[HD.out];go_num⟩
    case measure=>simp[intOf];omega
   by_cases k2:K=2
   ·subst k2;have e1:(KB==40)=false:=e1;have e2:(KB==41)=true:=e2;go_wp2
    go_round
    case rel=>exact⟨j+1,by omega,by go_num,by rw[HD.out];go_num⟩
    case measure=>simp[intOf];omega
   ·have e1:(KB==40)=false:=by rw[e1];simpa using k1
    have e2:(KB==41)=false:=by rw[e2];simpa using k2
    go_wp2
    go_round
    case rel=>exact⟨j+1,by omega,by go_num,by rw[HD.out,ab k1,ab k2,Int.add_zero]⟩
    case measure=>simp[intOf];omega
  ·have qz:j=k:=by omega
   subst qz;go_wp2;go_ret;exact⟨rfl,rfl⟩
theorem Tn(w:zd)(h:gP w G O g l q)(hk:k<l.length)(hc:ck=k):
  ze prog 81 #[zf (zb ⟨G,O,za⟩) l.length c,zc .i64 ck] w λe w'=>e=.returned (.int .u8 (kB (aS l k)))/\w'=w:=by
 subst hc;have c0:=h.CD hk;generalize kB (aS l k)=K at c0 ⊢;have h1:(k:Int)<(l.length:Int):=by omega
 go_enter func81,ntmps81
 go_wp2;go_ret;exact⟨rfl,rfl⟩
theorem Ti{v:Option Addr}{n:Nat}(w:zd)(hc:ck<0\/(n:Int)<=ck):
  ze prog 81 #[.slice v n c,zc .i64 ck] w λe w'=>e=.returned (.int .u8 46)/\w'=w:=by
 go_enter func81,ntmps81
 by_cases h0:ck<0
 ·go_wp2;go_ret;exact⟨rfl,rfl⟩
 ·have h1:(n:Int)<=ck:=by omega
  have h2:¬ck<(n:Int):=by omega
  go_wp2;go_ret;exact⟨rfl,rfl⟩
end
variable {l:List Tok}{G O g c k:Nat}{q:Nat -> Nat}{ck:Int}
def pB(p:Nat):Int:=if p=7 then 46 else kB p
theorem Ad{p:Nat}(hp:p<8)(m:Nat)(hm:m<7):(pB p==kB m)=decide (p=m):=by
 unfold pB
 by_cases h:p=7
 ·subst h;rw[af rfl];have:(46:Int)≠kB m:=by
   match m,hm with
   |0,_|1,_|2,_|3,_|4,_|5,_|6,_=>decide
  have h2:¬7=m:=by omega
  simp[this,h2]
 ·rw[ab h];exact Dk (by omega) m hm
theorem TP(h:Fu l){k:Nat}(hk:k<=l.length):dx l k<8:=by
 unfold dx;split
 ·omega
 ·have:=h (k-1) (by omega);omega
theorem zsU(h:Fu l)(k:Nat):uj l k<8:=by
 unfold uj;split
 ·rename_i h1;have:=h (k+1) h1;omega
 ·omega
theorem SW(w:zd)(h:gP w G O g l q)(hk:k<=l.length)(hc:ck=(k:Int)-1):
  ze prog 81 #[zf (zb ⟨G,O,za⟩) l.length c,zc .i64 ck] w λe w'=>e=.returned (.int .u8 (pB (dx l k)))/\w'=w:=by
 unfold pB dx
 by_cases h0:k=0
 ·rw[af h0,af rfl];exact Ti w (.inl (by omega))
 ·rw[ab h0];have:=h.qG (k-1) (by omega);rw[ab (by omega)];exact Tn w h (by omega) (by omega)
theorem zmY(w:zd)(h:gP w G O g l q)(hc:ck=(k:Int)+1):
  ze prog 81 #[zf (zb ⟨G,O,za⟩) l.length c,zc .i64 ck] w λe w'=>e=.returned (.int .u8 (pB (uj l k)))/\w'=w:=by
 unfold pB uj
 by_cases h0:k+1<l.length
 ·rw[af h0];have:=h.qG (k+1) h0;rw[ab (by omega)];exact Tn w h h0 (by omega)
 ·rw[ab h0,af rfl];exact Ti w (.inr (by omega))
def od(K P X:Nat)(D:Int)(M:Nat):Int:=
 if K=1 then (if 500<M then 9 else 0)
 else if K=2 then (if D=0 then 7 else if dZ P then 6 else 0)
 else if K=3 then (if dZ P then 6 else 0)
 else if K=4 then (if P≠0/\P≠2 then 6 else 0)
 else if K=5 then (if D≠0\/(P≠7/\P≠3) then 5 else 0)
 else if K=6 then (if D≠0\/(X≠7/\X≠3) then 5 else if dZ P then 6 else 0)
 else 0
theorem zqa(l:List Tok)(k:Nat):lu l k=od (aS l k) (dx l k) (uj l k) (aX l k) (dh l (k+1)):=rfl
theorem Th(w:zd)(h:gP w G O 0 l q)(hk:k<l.length)(hl:l.length<=2000):
  ze prog 80 #[zf (zb ⟨G,O,za⟩) l.length c,zc .i64 (k:Int)] w λe w'=>e=.returned (zc .i64 (lu l k))/\w'=w:=by
 have mO:=TP h.qG (k:=k) (by omega);have hX8:=zsU h.qG k;have tE:=h.qG k hk;have hP0:k=0↔dx l k=7:=by
  unfold dx
  by_cases h0:k=0
  ·simp[h0]
  ·rw[ab h0];have:=h.qG (k-1) (by omega);omega
 have Xm:¬k+1<l.length↔uj l k=7:=by
  unfold uj
  by_cases h0:k+1<l.length
  ·rw[af h0];have:=h.qG (k+1) h0;omega
  ·simp[h0]
 have c1:=SW (c:=c) w h (k:=k) (ck:=(k:Int)-1) (by omega) rfl;have c2:=zmY (c:=c) w h (k:=k) (ck:=(k:Int)+1) rfl;have c3:=KO (c:=c) w h (k:=k) (ck:=k) (by omega) rfl hl;have k0:=h.CD hk;have k3:=h.SC hk;have hm:aS l k=1->mS 0 l k=(dh l (k+1):Int):=λe=>by unfold mS;rw[af e,iH]
 have pi:=Uf l (k+1);rw[zqa];generalize dx l k=P at *;generalize uj l k=X at *;generalize aX l k=D at *;generalize aS l k=K at *;generalize dh l (k+1)=M at *;generalize mS 0 l k=MS at *;obtain⟨n,hn⟩:∃n,n=l.length:=⟨_,rfl⟩;rw[<-hn]at c1 c2 c3 Xm ⊢;have h1:(k:Int)<(n:Int):=by omega
 have Hp:∀m,m<7->(pB P==kB m)=decide (P=m):=λm hm=>Ad mO m hm
 have Hx:∀m,m<7->(pB X==kB m)=decide (X=m):=λm hm=>Ad hX8 m hm
 have p1:(pB P==40)=decide (P=1):=Hp 1 (by omega);have p3:(pB P==124)=decide (P=3):=Hp 3 (by omega);have p5:(pB P==94)=decide (P=5):=Hp 5 (by omega);have p0:(pB P==97)=decide (P=0):=Hp 0 (by omega);have p2:(pB P==41)=decide (P=2):=Hp 2 (by omega);have x3:(pB X==124)=decide (X=3):=Hx 3 (by omega);clear Hp Hx;have q3:(pB P != 124)=!decide (P=3):=by rw[<-p3];rfl
 have q0:(pB P != 97)=!decide (P=0):=by rw[<-p0];rfl
 have q2:(pB P != 41)=!decide (P=2):=by rw[<-p2];rfl
 have y3:(pB X != 124)=!decide (X=3):=by rw[<-x3];rfl
 generalize pB P=PB at *;generalize pB X=XB at *;have bu:k<=2000:=by omega
 have kA:n<=2000:=by omega
 clear hn;have Hk:Hid _:=hk;have Hl:Hid _:=hl;have P0:Hid _:=hP0;have X0:Hid _:=Xm;have P1:Hid _:=p1;have P3:Hid _:=p3;have P5:Hid _:=p5;have Q0:Hid _:=q0;have Q2:Hid _:=q2;have Q3:Hid _:=q3;have Y3:Hid _:=y3;have HM:Hid _:=hm;have K0:Hid _:=k0;have K3:Hid _:=k3;clear hk hl hP0 Xm p0 p1 p2 p3 p5 q0 q2 q3 x3 y3 hm k0 k3 h
 go_enter func80,ntmps80
 go_wp2_with fail
 refine c1.mono ?_;rintro e w' ⟨rfl,hw⟩;rw[hw];clear hw w' c1
 go_wp2_with fail
 refine c2.mono ?_;rintro e w' ⟨rfl,hw⟩;rw[hw];clear hw w' c2
 go_wp2_with fail
 refine c3.mono ?_;rintro e w' ⟨rfl,hw⟩;rw[hw];clear hw w' c3
 go_upto_region 4 with fail
 go_cut [8] from 9 to 33 (λv wx=>v=.bool (decide (dZ P))/\wx=w)
 case first=>
  by_cases e0:k=0
  ·have a0:((k:Int)==0)=true:=by simpa using e0
   have ho:decide (dZ P)=true:=by have:=P0.out.1 e0;simp[dZ,this]
   go_wp2
   go_meet
   case rel=>exact⟨by rw[ho],rfl⟩
  have a0:((k:Int)==0)=false:=by simpa using e0
  have AP:P≠7:=λh=>e0 (P0.out.2 h)
  by_cases e1:P=1
  ·have p1:(PB==40)=true:=by rw[P1.out];simpa using e1
   have ho:decide (dZ P)=true:=by simp[dZ,e1]
   go_wp2
   go_meet
   case rel=>exact⟨by rw[ho],rfl⟩
  have p1:(PB==40)=false:=by rw[P1.out];simpa using e1
  by_cases e3:P=3
  ·have p3:(PB==124)=true:=by rw[P3.out];simpa using e3
   have ho:decide (dZ P)=true:=by simp[dZ,e3]
   go_wp2
   go_meet
   case rel=>exact⟨by rw[ho],rfl⟩
  have p3:(PB==124)=false:=by rw[P3.out];simpa using e3
  by_cases e5:P=5
  ·have p5:(PB==94)=true:=by rw[P5.out];simpa using e5
   have ho:decide (dZ P)=true:=by simp[dZ,e5]
   go_wp2
   go_meet
   case rel=>exact⟨by rw[ho],rfl⟩
  have p5:(PB==94)=false:=by rw[P5.out];simpa using e5
  have ho:decide (dZ P)=false:=by simp[dZ,e1,e3,e5,AP]
  go_wp2
  go_meet
  case rel=>exact⟨by rw[ho],rfl⟩
 obtain⟨rfl,rfl⟩:=hcut;have hO:decide (dZ P)=true\/decide (dZ P)=false:=by cases decide (dZ P)<;>simp
 by_cases kk:K=0
 ·subst kk;have k0:wc.cell? ⟨G,O+k*5,za⟩=zb (.int .u8 97):=K0.out;go_wp2;go_ret;exact⟨ew (by unfold od;rw[ab (by decide),ab (by decide),ab (by decide),ab (by decide),ab (by decide),ab (by decide)]),rfl⟩
 by_cases kk:K=1
 ·subst kk;have k0:wc.cell? ⟨G,O+k*5,za⟩=zb (.int .u8 40):=K0.out;have k3:wc.cell? ⟨G,O+k*5+3,za⟩=zb (zc .i64 (M:Int)):=by rw[<-HM.out rfl];exact K3.out
  by_cases e:500<M
  ·have e1:(500:Int)<(M:Int):=by omega
   go_wp2;go_ret;exact⟨ew (by unfold od;rw[af rfl,af e]),rfl⟩
  ·have e1:¬(500:Int)<(M:Int):=by omega
   go_wp2;go_ret;exact⟨ew (by unfold od;rw[af rfl,ab e]),rfl⟩
 by_cases kk:K=2
 ·subst kk;have k0:wc.cell? ⟨G,O+k*5,za⟩=zb (.int .u8 41):=K0.out
  by_cases e:D=0
  ·have e1:(D==0)=true:=by simpa using e
   go_wp2;go_ret;exact⟨ew (by unfold od;rw[ab (by decide),af rfl,af e]),rfl⟩
  ·have e1:(D==0)=false:=by simpa using e
   rcases hO with hO|hO
   ·rw[hO];go_wp2;go_ret;exact⟨ew (by unfold od;rw[ab (by decide),af rfl,ab e,af (of_decide_eq_true hO)]),rfl⟩
   ·rw[hO];go_wp2;go_ret;exact⟨ew (by unfold od;rw[ab (by decide),af rfl,ab e,ab (of_decide_eq_false hO)]),rfl⟩
 by_cases kk:K=3
 ·subst kk;have k0:wc.cell? ⟨G,O+k*5,za⟩=zb (.int .u8 124):=K0.out;rcases hO with hO|hO
  ·rw[hO];go_wp2;go_ret;exact⟨ew (by unfold od;rw[ab (by decide),ab (by decide),af rfl,af (of_decide_eq_true hO)]),rfl⟩
  ·rw[hO];go_wp2;go_ret;exact⟨ew (by unfold od;rw[ab (by decide),ab (by decide),af rfl,ab (of_decide_eq_false hO)]),rfl⟩
 by_cases kk:K=4
 ·subst kk;have k0:wc.cell? ⟨G,O+k*5,za⟩=zb (.int .u8 114):=K0.out
  by_cases e:P=0
  ·have e1:(PB != 97)=false:=by rw[Q0.out];simp[e]
   go_wp2;go_ret;exact⟨ew (by unfold od;rw[ab (by decide),ab (by decide),ab (by decide),af rfl,ab (by simp[e])]),rfl⟩
  have e1:(PB != 97)=true:=by rw[Q0.out];simp[e]
  by_cases e2:P=2
  ·have e3:(PB != 41)=false:=by rw[Q2.out];simp[e2]
   go_wp2;go_ret;exact⟨ew (by unfold od;rw[ab (by decide),ab (by decide),ab (by decide),af rfl,ab (by simp[e2])]),rfl⟩
  have e3:(PB != 41)=true:=by rw[Q2.out];simp[e2]
  go_wp2;go_ret;exact⟨ew (by unfold od;rw[ab (by decide),ab (by decide),ab (by decide),af rfl,af ⟨e,e2⟩]),rfl⟩
 by_cases kk:K=5
 ·subst kk;have k0:wc.cell? ⟨G,O+k*5,za⟩=zb (.int .u8 94):=K0.out
  by_cases e:D=0
  case neg=>
   have e1:(D != 0)=true:=by simpa using e
   go_wp2;go_ret;exact⟨ew (by unfold od;rw[ab (by decide),ab (by decide),ab (by decide),ab (by decide),af rfl,af (.inl e)]),rfl⟩
  have e1:(D != 0)=false:=by simpa using e
  by_cases e2:P=7
  ·have e3:¬(0:Int)<(k:Int):=by have:=P0.out.2 e2;omega
   go_wp2;go_ret;exact⟨ew (by unfold od;rw[ab (by decide),ab (by decide),ab (by decide),ab (by decide),af rfl,ab (by omega)]),rfl⟩
  have e3:(0:Int)<(k:Int):=by have:=P0.out.1;omega
  by_cases e4:P=3
  ·have e5:(PB != 124)=false:=by rw[Q3.out];simp[e4]
   go_wp2;go_ret;exact⟨ew (by unfold od;rw[ab (by decide),ab (by decide),ab (by decide),ab (by decide),af rfl,ab (by omega)]),rfl⟩
  have e5:(PB != 124)=true:=by rw[Q3.out];simp[e4]
  go_wp2;go_ret;exact⟨ew (by unfold od;rw[ab (by decide),ab (by decide),ab (by decide),ab (by decide),af rfl,af (.inr ⟨e2,e4⟩)]),rfl⟩
 by_cases kk:K=6
 ·subst kk;have k0:wc.cell? ⟨G,O+k*5,za⟩=zb (.int .u8 36):=K0.out
  by_cases e:D=0
  case neg=>
   have e1:(D != 0)=true:=by simpa using e
   go_wp2;go_ret;exact⟨ew (by unfold od;rw[ab (by decide),ab (by decide),ab (by decide),ab (by decide),ab (by decide),af rfl,af (.inl e)]),rfl⟩
  have e1:(D != 0)=false:=by simpa using e
  by_cases e2:X=7
  ·have e3:¬(k:Int)+1<(n:Int):=by have:=X0.out.2 e2;omega
   rcases hO with hO|hO
   ·rw[hO];go_wp2;go_ret;exact⟨ew (by unfold od;rw[ab (by decide),ab (by decide),ab (by decide),ab (by decide),ab (by decide),af rfl,ab (by omega),af (of_decide_eq_true hO)]),rfl⟩
   ·rw[hO];go_wp2;go_ret;exact⟨ew (by unfold od;rw[ab (by decide),ab (by decide),ab (by decide),ab (by decide),ab (by decide),af rfl,ab (by omega),ab (of_decide_eq_false hO)]),rfl⟩
  have e3:(k:Int)+1<(n:Int):=by have:=X0.out.1;omega
  by_cases e4:X=3
  ·have e5:(XB != 124)=false:=by rw[Y3.out];simp[e4]
   rcases hO with hO|hO
   ·rw[hO];go_wp2;go_ret;exact⟨ew (by unfold od;rw[ab (by decide),ab (by decide),ab (by decide),ab (by decide),ab (by decide),af rfl,ab (by omega),af (of_decide_eq_true hO)]),rfl⟩
   ·rw[hO];go_wp2;go_ret;exact⟨ew (by unfold od;rw[ab (by decide),ab (by decide),ab (by decide),ab (by decide),ab (by decide),af rfl,ab (by omega),ab (of_decide_eq_false hO)]),rfl⟩
  have e5:(XB != 124)=true:=by rw[Y3.out];simp[e4]
  go_wp2;go_ret;exact⟨ew (by unfold od;rw[ab (by decide),ab (by decide),ab (by decide),ab (by decide),ab (by decide),af rfl,af (.inr ⟨e2,e4⟩)]),rfl⟩
 omega
def zvP(w:zd)(l:List Tok)(k:Nat)(e:Ending)(w':zd):Prop:=∃b:Bool,e=.returned (.bool b)/\w'=w/\(b=true↔zjB l k)
theorem zj1(w:zd)(h:gP w G O g l q)(hk:k<l.length)(iz:l.length<=c)(jE:c<=9223372036854775807)(hl:l.length<=2000):
  ze prog 83 #[zf (zb ⟨G,O,za⟩) l.length c,zc .i64 (k:Int)] w (zvP w l k):=by
 have JN:l=l.take k++(l.drop k++[]):=by simp
 have hs:gP w G (O+k*5) (g+dh (l.take k) (l.take k).length) (l.drop k) (λj=>q ((l.take k).length+j)):=by
  have h2:=h;rw[JN]at h2;have:=h2.sub;rw[show (l.take k).length=k by simp;omega]at this ⊢;exact this
 have hd:∀e,k<=e->e<=l.length->aX (l.drop k) (e-k)=aX l e-aX l k:=by
  intro e h1 h2;have h3:=Fa (l.take k) (l.drop k) (e-k);rw[List.take_append_drop,show (l.take k).length=k by simp;omega,show k+(e-k)=e by omega]at h3;have h4:aX (l.take k) k=aX l k:=by
   have:=A6 (l:=l.take k) (l.drop k) (k:=k) (by simp;omega);rw[List.take_append_drop]at this;exact this.symm
  omega
 clear JN;have vZ:(l.drop k).length=l.length-k:=FD;obtain⟨n,hn⟩:∃n,n=l.length:=⟨_,rfl⟩;rw[<-hn];have kz:(k:Int)<=(n:Int):=by omega
 have nH:(n:Int)<=(c:Int):=by omega
 have Cg:(c:Int)<=9223372036854775807:=by omega
 rw[<-hn]at vZ;have HN:Hid _:=hn;have kA:n<=2000:=by omega
 have bu:k<n:=by omega
 clear hn hk hl iz
 go_enter func83,ntmps83
 go_wp2
 go_loop [5] (λi=>∃e:Nat,k<e/\e<=n+1/\i=zc .i64 (e:Int)/\∀j,k<j->j<e->aX l j≠aX l k) (λi=>n+1-(intOf i).toNat)
 case atStart=>exact⟨k+1,by omega,by omega,by go_num,λj h1 h2=>by omega⟩
 case round=>
  obtain⟨e,he1,XC,rfl,bm⟩:=hrel
  by_cases hle:e<=n
  ·have h1:(e:Int)<=(n:Int):=by omega
   have hC:=KO (c:=c-k) w hs (k:=e-k) (ck:=(e:Int)-k) (by omega) (by omega) (by omega);rw[hd e (by omega) (by have:=HN.out;omega),vZ]at hC;have i1:((n:Int)-(k:Int)).toNat=n-k:=by omega
   have i2:((c:Int)-(k:Int)).toNat=c-k:=by omega
   by_cases hz:aX l e-aX l k=0
   ·have hzb:(aX l e-aX l k==0)=true:=by simpa using hz
    have HZ:Hid _:=hz;clear hz
    go_wp2_with fail
    refine hC.mono ?_;rintro e' w' ⟨rfl,rfl⟩;go_wp2;go_ret;exact⟨false,rfl,rfl,⟨λh=>absurd h (by decide),λhU=>absurd (show aX l e=aX l k by have:=HZ.out;omega) (hU e he1 (by have:=HN.out;omega))⟩⟩
   ·have hzb:(aX l e-aX l k==0)=false:=by simpa using hz
    go_wp2_with fail
    refine hC.mono ?_;rintro e' w' ⟨rfl,rfl⟩;go_wp2
    go_round
    case rel=>
     refine⟨e+1,by omega,by omega,by go_num,λj h1 h2=>?_⟩
     by_cases hj:j=e
     ·subst hj;omega
     ·exact bm j h1 (by omega)
    case measure=>simp[intOf];omega
  ·have h1:¬(e:Int)<=(n:Int):=by omega
   go_wp2;go_ret;exact⟨true,rfl,rfl,⟨λ_ j h1 h2=>bm j h1 (by have:=HN.out;omega),λ_=>rfl⟩⟩
end Go.Proofs.YtfajjdgkiilhfaaGreatDoor
