import Derived.Test.YtfajjdgkiilhfaaGreatDoorC8
import Derived.Test.YtfajjdgkiilhfaaGreatDoorC28
import Derived.Deep.AppendLies
namespace Go.Proofs.YtfajjdgkiilhfaaGreatDoor
open Proofs.Tryz
open Value renaming int->za,slice->zf
open Option renaming some->zb,none->zd
open RowKit renaming Hid->zc,Below->zg
open Go renaming World->ze,Calls->zh
set_option maxHeartbeats 4000000
set_option maxRecDepth 100000
open Go.RowKit
attribute [local go_sem ↓] wp_at_zero wp_at_succ
section
variable {n:List UInt8}{t:ByteArray}
def il(n:List UInt8)(c:Nat):Bool:=match oN n with|some f=>f c|none=>false
theorem zoz(c:Nat):il Lr c=(aG c 65 90 || aG c 97 122):=by
 unfold il oN;rw[af rfl]
 rfl
theorem zoB(c:Nat):il Lu c=(aG c 48 57):=by
 unfold il oN;rw[ab (by decide),af rfl]
 rfl
theorem zoy(c:Nat):il Lm c=(aG c 65 90 || aG c 97 122 || aG c 48 57):=by
 unfold il oN;rw[ab (by decide),ab (by decide),af rfl]
 rfl
theorem zoF(c:Nat):il Lz c=(aG c 65 90):=by
 unfold il oN;rw[ab (by decide),ab (by decide),ab (by decide),af rfl]
 rfl
theorem zoC(c:Nat):il Lv c=(aG c 97 122):=by
 unfold il oN;rw[ab (by decide),ab (by decide),ab (by decide),ab (by decide),af rfl]
 rfl
theorem zoE(c:Nat):il Lx c=(aG c 9 13 || decide ((c:Int)=32)):=by
 unfold il oN;rw[ab (by decide),ab (by decide),ab (by decide),ab (by decide),ab (by decide),af rfl];show (decide _ || decide _)=_;rw[FC];simp[aG];omega
theorem zoA(c:Nat):il Lt c=(decide ((c:Int)=9) || decide ((c:Int)=32)):=by
 unfold il oN;rw[ab (by decide),ab (by decide),ab (by decide),ab (by decide),ab (by decide),ab (by decide),af rfl];show (decide _ || decide _)=_;rw[FC];simp;omega
theorem zoD(c:Nat):il Lw c=(aG c 33 126 && !aG c 65 90 && !aG c 97 122 && !aG c 48 57):=by
 unfold il oN;rw[ab (by decide),ab (by decide),ab (by decide),ab (by decide),ab (by decide),ab (by decide),ab (by decide),af rfl];show (((decide _ || decide _) || decide _) || decide _)=_;rw[FC];simp[aG];omega
theorem zmy(c:Nat):il Li c=(aG c 48 57 || aG c 65 70 || aG c 97 102):=by
 unfold il oN;rw[ab (by decide),ab (by decide),ab (by decide),ab (by decide),ab (by decide),ab (by decide),ab (by decide),ab (by decide),af rfl]
 rfl
theorem zpO(c:Nat)(h0:¬n=Lr)(h1:¬n=Lu)(h2:¬n=Lm)(h3:¬n=Lz)(h4:¬n=Lv)(h5:¬n=Lx)(h6:¬n=Lt)(h7:¬n=Lw)(h8:¬n=Li):il n c=false:=by
 unfold il oN;rw[ab h0,ab h1,ab h2,ab h3,ab h4,ab h5,ab h6,ab h7,ab h8]
theorem CW(h:t.data.toList=n):(t.toList==n)=true:=by rw[A4,h];exact beq_self_eq_true n
theorem C9(h:¬t.data.toList=n):(t.toList==n)=false:=by rw[A4];exact lY.2 h
theorem zgv(t:ByteArray)(c:Nat)(ci:Int)(w:ze)(JS:ci=c):
  zh prog 105 #[.string t,za .i64 ci] w λe w'=>e=.returned (.bool (il t.data.toList c))/\w'=w:=by
 subst JS
 go_enter func105,ntmps105
 go_wp2_with fail
 refine(ln _ _ _ _).mono ?_;rintro e w' ⟨rfl,rfl⟩
 go_wp2_with fail
 refine(ln _ _ _ _).mono ?_;rintro e w' ⟨rfl,rfl⟩
 go_wp2_with fail
 refine(ln _ _ _ _).mono ?_;rintro e w' ⟨rfl,rfl⟩
 by_cases z0:t.data.toList=Lr
 ·have HV:zc (il t.data.toList c=(aG c 65 90 || aG c 97 122)):=by show _=_;rw[z0];exact zoz c
  have q0:(t.toList == [97,108,112,104,97])=true:=CW z0;clear z0;cases hu:aG (c:Int) 65 90<;>cases hl:aG (c:Int) 97 122<;>cases hd:aG (c:Int) 48 57
  all_goals
   go_wp2;go_ret;exact⟨cU (by have:=HV.out;rw[hu,hl]at this;exact this.symm),rfl⟩
 have q0:(t.toList == [97,108,112,104,97])=false:=C9 z0
 by_cases z1:t.data.toList=Lu
 ·have HV:zc (il t.data.toList c=(aG c 48 57)):=by show _=_;rw[z1];exact zoB c
  have q1:(t.toList == [100,105,103,105,116])=true:=CW z1;clear z1;cases hu:aG (c:Int) 65 90<;>cases hl:aG (c:Int) 97 122<;>cases hd:aG (c:Int) 48 57
  all_goals
   go_wp2;go_ret;exact⟨cU (by have:=HV.out;rw[hd]at this;exact this.symm),rfl⟩
 have q1:(t.toList == [100,105,103,105,116])=false:=C9 z1
 by_cases z2:t.data.toList=Lm
 ·have HV:zc (il t.data.toList c=(aG c 65 90 || aG c 97 122 || aG c 48 57)):=by show _=_;rw[z2];exact zoy c
  have q2:(t.toList == [97,108,110,117,109])=true:=CW z2;clear z2;cases hu:aG (c:Int) 65 90<;>cases hl:aG (c:Int) 97 122<;>cases hd:aG (c:Int) 48 57
  all_goals
   go_wp2;go_ret;exact⟨cU (by have:=HV.out;rw[hu,hl,hd]at this;exact this.symm),rfl⟩
 have q2:(t.toList == [97,108,110,117,109])=false:=C9 z2
 by_cases z3:t.data.toList=Lz
 ·have HV:zc (il t.data.toList c=(aG c 65 90)):=by show _=_;rw[z3];exact zoF c
  have q3:(t.toList == [117,112,112,101,114])=true:=CW z3;clear z3;cases hu:aG (c:Int) 65 90<;>cases hl:aG (c:Int) 97 122<;>cases hd:aG (c:Int) 48 57
  all_goals
   go_wp2;go_ret;exact⟨cU (by have:=HV.out;rw[hu]at this;exact this.symm),rfl⟩
 have q3:(t.toList == [117,112,112,101,114])=false:=C9 z3
 by_cases z4:t.data.toList=Lv
 ·have HV:zc (il t.data.toList c=(aG c 97 122)):=by show _=_;rw[z4];exact zoC c
  have q4:(t.toList == [108,111,119,101,114])=true:=CW z4;clear z4;cases hu:aG (c:Int) 65 90<;>cases hl:aG (c:Int) 97 122<;>cases hd:aG (c:Int) 48 57
  all_goals
   go_wp2;go_ret;exact⟨cU (by have:=HV.out;rw[hl]at this;exact this.symm),rfl⟩
 have q4:(t.toList == [108,111,119,101,114])=false:=C9 z4
 by_cases z5:t.data.toList=Lx
 ·have HV:zc (il t.data.toList c=(aG c 9 13 || decide ((c:Int)=32))):=by show _=_;rw[z5];exact zoE c
  have q5:(t.toList == [115,112,97,99,101])=true:=CW z5;clear z5
  go_wp2_with fail
  refine(ln _ _ _ _).mono ?_;rintro e w' ⟨rfl,rfl⟩;cases hs:aG (c:Int) 9 13<;>by_cases vO:(c:Int)=32
  all_goals
   go_wp2;go_ret;exact⟨cU (by have:=HV.out;first|(rw[hs,decide_eq_true vO]at this;exact this.symm)|(rw[hs,decide_eq_false vO]at this;exact this.symm)|(rw[hs,decide_eq_false vO]at this;rw[this];exact lY.2 vO)),rfl⟩
 have q5:(t.toList == [115,112,97,99,101])=false:=C9 z5
 by_cases z6:t.data.toList=Lt
 ·have HV:zc (il t.data.toList c=(decide ((c:Int)=9) || decide ((c:Int)=32))):=by show _=_;rw[z6];exact zoA c
  have q6:(t.toList == [98,108,97,110,107])=true:=CW z6;clear z6
  by_cases h9:(c:Int)=9<;>by_cases vO:(c:Int)=32
  all_goals
   go_wp2;go_ret;exact⟨cU (by have:=HV.out;first|(rw[decide_eq_true h9]at this;exact this.symm)|(rw[decide_eq_false h9,decide_eq_true vO]at this;exact this.symm)|(rw[decide_eq_false h9,decide_eq_false vO]at this;exact this.symm)|(rw[decide_eq_false h9,decide_eq_false vO]at this;rw[this,lY.2 h9,lY.2 vO])),rfl⟩
 have q6:(t.toList == [98,108,97,110,107])=false:=C9 z6
 by_cases z7:t.data.toList=Lw
 ·have HV:zc (il t.data.toList c=(aG c 33 126 && !aG c 65 90 && !aG c 97 122 && !aG c 48 57)):=by show _=_;rw[z7];exact zoD c
  have q7:(t.toList == [112,117,110,99,116])=true:=CW z7;clear z7
  go_wp2_with fail
  refine(ln _ _ _ _).mono ?_;rintro e w' ⟨rfl,rfl⟩;cases hp:aG (c:Int) 33 126<;>cases hu:aG (c:Int) 65 90<;>cases hl:aG (c:Int) 97 122<;>cases hd:aG (c:Int) 48 57
  all_goals
   go_wp2;go_ret;exact⟨cU (by have:=HV.out;rw[hp,hu,hl,hd]at this;exact this.symm),rfl⟩
 have q7:(t.toList == [112,117,110,99,116])=false:=C9 z7
 by_cases z8:t.data.toList=Li
 ·have HV:zc (il t.data.toList c=(aG c 48 57 || aG c 65 70 || aG c 97 102)):=by show _=_;rw[z8];exact zmy c
  have q8:(t.toList == [120,100,105,103,105,116])=true:=CW z8;clear z8;cases hd:aG (c:Int) 48 57
  ·go_wp2_with fail
   refine(ln _ _ _ _).mono ?_;rintro e w' ⟨rfl,rfl⟩;cases hu:aG (c:Int) 65 70
   ·go_wp2_with fail
    refine(ln _ _ _ _).mono ?_;rintro e w' ⟨rfl,rfl⟩;go_wp2;go_ret;exact⟨cU (by have:=HV.out;rw[hd,hu]at this;exact this.symm),rfl⟩
   ·go_wp2;go_ret;exact⟨cU (by have:=HV.out;rw[hd,hu]at this;exact this.symm),rfl⟩
  ·go_wp2;go_ret;exact⟨cU (by have:=HV.out;rw[hd]at this;exact this.symm),rfl⟩
 have q8:(t.toList == [120,100,105,103,105,116])=false:=C9 z8;have HV:zc (il t.data.toList c=false):=zpO c z0 z1 z2 z3 z4 z5 z6 z7 z8;clear z0 z1 z2 z3 z4 z5 z6 z7 z8;go_wp2;go_ret;exact⟨cU HV.out.symm,rfl⟩
end
section
variable {c:UInt8}{L:List UInt8}{t:ByteArray}{a:Nat}
def rO(at':Nat)(o:Option (Int×Int×Nat)):Value:=match o with
 |some (m,n,k)=>.tuple #[za .i64 m,za .i64 n,za .i64 ((at'+1+k:Nat):Int)]
 |none=>.tuple #[za .i64 0,za .i64 0,za .i64 (-1)]
theorem KS{l:List UInt8}{n:Nat}(h:nZ l=zb n):n<=255:=by
 unfold nZ at h;split at h
 ·rename_i hh;cases h;exact hh.2.2.2
 ·cases h
theorem zho{inner r:List UInt8}(hL:t.data.toList.drop a=L)(h:ri c L=zb (inner,r)):
  a+inner.length<t.size/\(∀hx:a+inner.length<t.size,t[a+inner.length]=c)/\(∀x (hx:x<t.size),a<=x->x<a+inner.length->t[x]≠c)/\(t.extract a (a+inner.length)).data.toList=inner:=by
 obtain⟨e,hn⟩:=zhp h;have hlen:t.data.toList.length=t.size:=iW;have hl:(t.data.toList.drop a).length=inner.length+1+r.length:=by rw[hL,e];simp;omega
 rw[FD,hlen]at hl;have tL:∀x (hx:x<t.size),a<=x->(t.data.toList.drop a)[x-a]?=zb t[x]:=λx hx M1=>by
  rw[Dq,show a+(x-a)=x by omega,bE (by rw[hlen];exact hx)]
  rfl
 refine⟨by omega,λhx=>?_,λx hx h1 h2=>?_,?_⟩
 ·have:=tL (a+inner.length) hx (by omega);rw[hL,e,show a+inner.length-a=inner.length by omega]at this
  simpa using this.symm
 ·have:=tL x hx h1;rw[hL,e,vp (by omega)]at this;intro hc;rw[hc]at this;exact hn (IL this)
 ·rw[TX,hL,e,show a+inner.length-a=inner.length by omega];simp
theorem ziT(hL:t.data.toList.drop a=L)(h:ri c L=zd):∀x (hx:x<t.size),a<=x->t[x]≠c:=by
 intro x hx M1 hc;have hlen:t.data.toList.length=t.size:=iW;refine zkN h ?_;rw[<-hL];have:(t.data.toList.drop a)[x-a]?=zb t[x]:=by
  rw[Dq,show a+(x-a)=x by omega,bE (by rw[hlen];exact hx)]
  rfl
 rw[hc]at this;exact IL this
theorem T9{b:UInt8}(h:b≠c):(b.toNat:Int)≠(c.toNat:Int):=λe=>h (UInt8.toNat_inj.1 (by omega))
theorem zhG(t:ByteArray)(a:Nat)(w:ze)(ha:a<t.size)(hb:(t[a].toNat:Int)=123)(hsz:t.size<=2000)(hN:ri 125 (t.data.toList.drop (a+1))=zd):
  zh prog 92 #[.string t,za .i64 (a:Int)] w λe w'=>e=.returned (rO a (nW (t.data.toList.drop (a+1))))/\w'=w:=by
 have HR:zc (rO a (nW (t.data.toList.drop (a+1)))=.tuple #[za .i64 0,za .i64 0,za .i64 (-1)]):=by
  show _=_;unfold nW;rw[hN]
  rfl
 have hne:∀x (hx:x<t.size),a<=x->(t[x].toNat:Int)≠125:=by
  intro x hx M1
  by_cases e:x=a
  ·subst e;omega
  ·exact T9 (c:=125) (ziT rfl hN x hx (by omega))
 go_enter func92,ntmps92
 go_wp2
 go_loop [7] (λi=>∃j:Nat,a<=j/\j<=t.size/\i=za .i64 j) (λi=>t.size-(intOf i).toNat)
 case atStart=>exact⟨a,aq _,by omega,rfl⟩
 case round=>
  obtain⟨j,Xp,hj,rfl⟩:=hrel
  by_cases hlt:j<t.size
  ·have h1:(j:Int)<(t.size:Int):=by omega
   have hq:=hne j hlt Xp;have hc:t[j].toNat<256:=t[j].toNat_lt;have j8:((t[j].toNat:Int) != 125)=true:=by simpa using hq
   go_wp2
   go_round
   case rel=>exact⟨j+1,by omega,by omega,by go_num⟩
   case measure=>simp[intOf];omega
  ·have qy:j=t.size:=by omega
   subst qy;have j8:((t.size:Int)==(t.size:Int))=true:=by simp
   go_wp2;refine aW (v:=.tuple #[za .i64 0,za .i64 0,za .i64 (-1)]) (by simp[results,results92,go_sem]) rfl ?_;exact⟨by rw[HR.out],rfl⟩
theorem zhH(t:ByteArray)(a:Nat)(w:ze)(ha:a<t.size)(hb:(t[a].toNat:Int)=123)(hsz:t.size<=2000)(inner r:List UInt8)(hN:ri 125 (t.data.toList.drop (a+1))=zb (inner,r)):
  zh prog 92 #[.string t,za .i64 (a:Int)] w λe w'=>e=.returned (rO a (nW (t.data.toList.drop (a+1))))/\w'=w:=by
 obtain⟨b1,b2,b3,b4⟩:=zho rfl hN;have hIF:nW (t.data.toList.drop (a+1))=match ri 44 inner with
  |none=>match nZ inner with
   |none=>zd
   |some m=>zb ((m:Int),(m:Int),inner.length+1)
  |some (low,high)=>
   match nZ low with
   |none=>zd
   |some m=>if high=[] then zb ((m:Int),-1,inner.length+1)
    else match nZ high with
     |none=>zd
     |some n=>if m<=n then zb ((m:Int),(n:Int),inner.length+1) else zd:=by
  unfold nW;rw[hN]
  rfl
 obtain⟨E,hE⟩:∃E,E=a+1+inner.length:=⟨_,rfl⟩;rw[<-hE]at b1 b2 b3 b4;have hne:∀x (hx:x<t.size),a<=x->x<E->(t[x].toNat:Int)≠125:=by
  intro x hx M1 YQ
  by_cases e:x=a
  ·subst e;omega
  ·exact T9 (c:=125) (b3 x hx (by omega) YQ)
 have hEq:(t[E].toNat:Int)=125:=by rw[b2 b1];rfl
 obtain⟨I,hI⟩:∃I,I=t.extract (a+1) E:=⟨_,rfl⟩;have HI:zc (I.data.toList=inner):=by show _=_;rw[hI];exact b4
 have hIs:I.size=inner.length:=by rw[<-HI.out];exact iW.symm
 have PJ:zc _:=hIF;have HE:zc _:=hE;have hEl:E=a+1+I.size:=by rw[hIs];exact hE
 have LW:zc (t.extract (a+1) E=I):=hI.symm;clear b2 b3 b4 hIF hI hN hE hIs;have ir:I.size<=2000:=by omega
 have HEl:zc _:=hEl;have haE:a+1<=E:=by omega
 clear hEl
 go_enter func92,ntmps92
 go_wp2
 go_loop [7] (λi=>∃j:Nat,a<=j/\j<=E/\i=za .i64 j) (λi=>t.size-(intOf i).toNat)
 case atStart=>exact⟨a,aq _,by omega,rfl⟩
 case round=>
  obtain⟨j,Xp,hj,rfl⟩:=hrel
  by_cases hlt:j<E
  ·have GM:j<t.size:=by omega
   have h1:(j:Int)<(t.size:Int):=by omega
   have hq:=hne j GM Xp hlt;have hc:t[j].toNat<256:=t[j].toNat_lt;have j8:((t[j].toNat:Int) != 125)=true:=by simpa using hq
   go_wp2
   go_round
   case rel=>exact⟨j+1,by omega,by omega,by go_num⟩
   case measure=>simp[intOf];omega
  ·have qy:j=E:=by omega
   subst qy;have h1:(j:Int)<(t.size:Int):=by omega
   have j8:((j:Int)==(t.size:Int))=false:=by simp;omega
   have h0:(0:Int)<=(a:Int)+1:=by omega
   have h2:(a:Int)+1<=(j:Int):=by omega
   have h3:(j:Int)<=(t.size:Int):=by omega
   have e1:((a:Int)+1).toNat=a+1:=by omega
   have eS:min j t.size-(a+1)=I.size:=by have:=HEl.out;omega
   have qu:zc _:=eS;clear eS;go_wp2;rw[LW.out,qu.out];have oF:inner.length=I.size:=by rw[<-HI.out];exact iW
   have Hin:zc _:=oF;clear oF hlt hj j8 h0 h2 h3 e1 hne hEq;cases hC:ri 44 inner with
   |none=>
    have Kd:∀x (hx:x<I.size),(I[x].toNat:Int)≠44:=λx hx=>T9 (c:=44) (ziT (t:=I) (a:=0) (by rw[Ao];exact HI.out) hC x hx (by omega))
    have Gq:=PJ.out;rw[hC]at Gq;have DA:zc _:=Gq;clear Gq PJ hC
    go_loop [9,10] (λcm i=>∃(x:Nat) (z:Int),z=(x:Int)-1/\i=za .i64 z/\x<=I.size/\cm=za .i64 (-1)) (λ_ i=>(intOf i+1).toNat)
    case atStart=>exact⟨I.size,_,rfl,rfl,aq _,rfl⟩
    case round=>
     obtain⟨x,z,hz,rfl,hx,rfl⟩:=hrel;cases x with
     |succ y=>
      have YX:z=(y:Int):=by omega
      subst YX;clear hz;have YW:y<I.size:=by omega
      have hyi:(y:Int)<(I.size:Int):=by omega
      have hc:I[y].toNat<256:=I[y].toNat_lt;have hq:=Kd y YW;have j8:((I[y].toNat:Int)==44)=false:=by simpa using hq
      go_wp2
      go_round
      case rel=>exact⟨y,_,rfl,rfl,by omega,rfl⟩
      case measure=>simp[intOf]
     |zero=>
      have cR:z=-1:=by omega
      subst cR;clear hz
      go_wp2_with fail
      refine(ZY I _).mono ?_;rintro e w' ⟨rfl,rfl⟩;rw[HI.out];cases hm:nZ inner with
      |none=>
       have HR:zc (rO a (nW (t.data.toList.drop (a+1)))=.tuple #[za .i64 0,za .i64 0,za .i64 (-1)]):=by
        show _=_;rw[DA.out,hm]
        rfl
       unfold uU;go_wp2;refine aW (v:=.tuple #[za .i64 0,za .i64 0,za .i64 (-1)]) (by simp[results,results92,go_sem]) rfl ?_;exact⟨by rw[HR.out],rfl⟩
      |some m=>
       have HR:zc (rO a (nW (t.data.toList.drop (a+1)))=.tuple #[za .i64 (m:Int),za .i64 (m:Int),za .i64 ((j:Int)+1)]):=by
        show _=_;rw[DA.out,hm];show Value.tuple #[_,_,za .i64 ((a+1+(inner.length+1):Nat):Int)]=_;have:=HE.out;rw[show ((a+1+(inner.length+1):Nat):Int)=(j:Int)+1 by omega]
       have GU:=KS hm;unfold uU;go_wp2;refine aW (v:=.tuple #[za .i64 (m:Int),za .i64 (m:Int),za .i64 ((j:Int)+1)]) (by simp[results,results92,go_sem]) rfl ?_;exact⟨by rw[HR.out],rfl⟩
   |some q=>
    obtain⟨low,high⟩:=q;obtain⟨d1,d2,d3,d4⟩:=zho (t:=I) (a:=0) (by rw[Ao];exact HI.out) hC;rw[iH]at d1 d2 d3 d4;have XQ:=(zhp hC).1;have Gq:=PJ.out;rw[hC]at Gq;have DA:zc _:=Gq;obtain⟨cq,Ry⟩:∃cq,cq=low.length:=⟨_,rfl⟩;rw[<-Ry]at d1 d2 d3 d4;have hlen:I.size=cq+1+high.length:=by rw[<-Hin.out,XQ,Ry];simp;omega
    have HX:zc (I.extract 0 cq=⟨low.toArray⟩/\(I.extract 0 cq).data.toList=low):=⟨zsj d4,d4⟩;have HY:zc ((I.extract (cq+1) I.size).data.toList=high):=by
     show _=_;rw[TX,HI.out,XQ,Ry];rw[sX (by simp;omega)];simp
    have Kd:∀x (hx:x<I.size),x<cq->(I[x].toNat:Int)≠44:=λx hx hlt=>T9 (c:=44) (d3 x hx (by omega) hlt)
    have hq0:(I[cq].toNat:Int)=44:=by rw[d2 d1];rfl
    have uw:zc _:=hlen;clear Gq PJ hC hlen d2 d3 d4 XQ Ry
    go_loop [9,10] (λcm i=>∃(x:Nat) (z c:Int),z=(x:Int)-1/\i=za .i64 z/\x<=I.size/\cm=za .i64 c/\-1<=c/\c<=2000/\(x<=cq->c=(cq:Int))) (λ_ i=>(intOf i+1).toNat)
    case atStart=>exact⟨I.size,_,-1,rfl,rfl,aq _,rfl,by omega,by omega,λh=>by omega⟩
    case round=>
     obtain⟨x,z,c,hz,rfl,hx,rfl,Cf,pO,hcc⟩:=hrel;cases x with
     |succ y=>
      have YX:z=(y:Int):=by omega
      subst YX;clear hz;have YW:y<I.size:=by omega
      have hyi:(y:Int)<(I.size:Int):=by omega
      have mP:I[y].toNat<256:=I[y].toNat_lt;have Mm:zc _:=hcc;clear hcc
      by_cases hq:(I[y].toNat:Int)=44
      ·have hyc:¬y<cq:=λh=>Kd y YW h hq
       have j8:((I[y].toNat:Int)==44)=true:=by simpa using hq
       go_wp2
       go_round
       case rel=>exact⟨y,_,(y:Int),rfl,rfl,by omega,rfl,by omega,by omega,λh=>by omega⟩
       case measure=>simp[intOf]
      ·have hyc:¬y=cq:=λh=>hq (by subst h;exact hq0)
       have j8:((I[y].toNat:Int)==44)=false:=by simpa using hq
       go_wp2
       go_round
       case rel=>exact⟨y,_,c,rfl,rfl,by omega,rfl,by omega,by omega,λh=>Mm.out (by omega)⟩
       case measure=>simp[intOf]
     |zero=>
      have cR:z=-1:=by omega
      have jE:c=(cq:Int):=hcc (by omega);subst cR jE;clear hz hcc Cf pO;have hcs:(cq:Int)<=(I.size:Int):=by omega
      go_wp2_with fail
      refine(ZY _ _).mono ?_;rintro e w' ⟨rfl,rfl⟩;rw[HX.out.2];cases hm:nZ low with
      |none=>
       have HR:zc (rO a (nW (t.data.toList.drop (a+1)))=.tuple #[za .i64 0,za .i64 0,za .i64 (-1)]):=by
        show _=_;rw[DA.out,hm]
        rfl
       unfold uU;go_wp2;refine aW (v:=.tuple #[za .i64 0,za .i64 0,za .i64 (-1)]) (by simp[results,results92,go_sem]) rfl ?_;exact⟨by rw[HR.out],rfl⟩
      |some m=>
       have GU:=KS hm
       by_cases hh:high=[]
       ·have HR:zc (rO a (nW (t.data.toList.drop (a+1)))=.tuple #[za .i64 (m:Int),za .i64 (-1),za .i64 ((j:Int)+1)]):=by
         show _=_;rw[DA.out,hm];show rO a (if high=[] then _ else _)=_;rw[af hh];show Value.tuple #[_,_,za .i64 ((a+1+(inner.length+1):Nat):Int)]=_;have:=HE.out;rw[show ((a+1+(inner.length+1):Nat):Int)=(j:Int)+1 by omega]
        have Yr:((cq:Int)==(I.size:Int)-1)=true:=by
         have:=uw.out;rw[hh]at this;simp at this ⊢;omega
        unfold uU;go_wp2;refine aW (v:=.tuple #[za .i64 (m:Int),za .i64 (-1),za .i64 ((j:Int)+1)]) (by simp[results,results92,go_sem]) rfl ?_;exact⟨by rw[HR.out],rfl⟩
       ·have Yr:((cq:Int)==(I.size:Int)-1)=false:=by
         have:=uw.out;have:0<high.length:=pC.2 hh;simp;omega
        have zDe:(cq:Int)+1<=(I.size:Int):=by omega
        have e1:((cq:Int)+1).toNat=cq+1:=by omega
        unfold uU
        go_wp2_with fail
        refine(ZY _ _).mono ?_;rintro e w' ⟨rfl,rfl⟩;rw[HY.out];cases fZ:nZ high with
        |none=>
         have HR:zc (rO a (nW (t.data.toList.drop (a+1)))=.tuple #[za .i64 0,za .i64 0,za .i64 (-1)]):=by
          show _=_;rw[DA.out,hm];show rO a (if high=[] then _ else _)=_;rw[ab hh,fZ]
          rfl
         unfold uU;have hlt:(-1:Int)<(m:Int):=by omega
         go_wp2;refine aW (v:=.tuple #[za .i64 0,za .i64 0,za .i64 (-1)]) (by simp[results,results92,go_sem]) rfl ?_;exact⟨by rw[HR.out],rfl⟩
        |some n=>
         have pU:=KS fZ;unfold uU
         by_cases nK:m<=n
         ·have HR:zc (rO a (nW (t.data.toList.drop (a+1)))=.tuple #[za .i64 (m:Int),za .i64 (n:Int),za .i64 ((j:Int)+1)]):=by
           show _=_;rw[DA.out,hm];show rO a (if high=[] then _ else _)=_;rw[ab hh,fZ];show rO a (if m<=n then _ else _)=_;rw[af nK];show Value.tuple #[_,_,za .i64 ((a+1+(inner.length+1):Nat):Int)]=_;have:=HE.out;rw[show ((a+1+(inner.length+1):Nat):Int)=(j:Int)+1 by omega]
          have hlt:¬(n:Int)<(m:Int):=by omega
          go_wp2;refine aW (v:=.tuple #[za .i64 (m:Int),za .i64 (n:Int),za .i64 ((j:Int)+1)]) (by simp[results,results92,go_sem]) rfl ?_;exact⟨by rw[HR.out],rfl⟩
         ·have HR:zc (rO a (nW (t.data.toList.drop (a+1)))=.tuple #[za .i64 0,za .i64 0,za .i64 (-1)]):=by
           show _=_;rw[DA.out,hm];show rO a (if high=[] then _ else _)=_;rw[ab hh,fZ];show rO a (if m<=n then _ else _)=_;rw[ab nK]
           rfl
          have hlt:(n:Int)<(m:Int):=by omega
          go_wp2;refine aW (v:=.tuple #[za .i64 0,za .i64 0,za .i64 (-1)]) (by simp[results,results92,go_sem]) rfl ?_;exact⟨by rw[HR.out],rfl⟩
theorem zj0(t:ByteArray)(a:Nat)(w:ze)(ha:a<t.size)(hb:(t[a].toNat:Int)=123)(hsz:t.size<=2000):
  zh prog 92 #[.string t,za .i64 (a:Int)] w λe w'=>e=.returned (rO a (nW (t.data.toList.drop (a+1))))/\w'=w:=by
 cases hN:ri 125 (t.data.toList.drop (a+1)) with
 |none=>exact zhG t a w ha hb hsz hN
 |some q=>exact zhH t a w ha hb hsz q.1 q.2 hN
end
section
variable {W:ze}{G:Nat}{f:Nat -> Bool}
theorem Tryz.YY:(prog.info? 4).map (λi=>(i.zero,i.size,i.bytes))=zb (zb (.bool false),1,1):=by kernel_rfl
theorem zhY{w:ze}{base:Nat}{e:TypeId}{g n:Nat}{xs:List Value}(h:w.ownsRow base e 1 (zf (zb ⟨g,0,zd⟩) n n) n xs):w.heap[g]?=zb (.cells xs.toArray e (0,0)):=by
 rcases h.2 with ⟨h,_⟩|⟨g',cap,cr,h,_,et,_,_,hsz,eV⟩
 ·cases h
 ·cases h
  rw[et]
  congr 2
  apply Array.ext'
  rw[<-eV];exact(sX (by rw[iW];omega)).symm
theorem ZZ:(madeCells (Value.bool false).cells (256*1)).toList.toArray=nV (λ_=>false):=by
 apply Array.ext_getElem?
 intro i
 by_cases h:i<256
 ·rw[KQ _ _ h];simp[madeCells,Value.cells,Nat.mod_one,h]
 ·have hn:(nV λ_=>false)[i]?=zd:=LF (by rw[Oo];omega);rw[hn];apply LF;simp[madeCells];omega
theorem zlr(f:Nat->Bool)(i:Nat)(b:Bool):(nV f).setIfInBounds i (.bool b)=nV (λc=>if c=i then b else f c):=by
 apply Array.ext_getElem?
 intro j;rw[Array.getElem?_setIfInBounds,Oo]
 by_cases hj:j<256
 ·rw[KQ _ _ hj,KQ _ _ hj]
  by_cases e:i=j
  ·subst e;simp[hj]
  ·have e':¬j=i:=λh=>e h.symm
   simp[e,e']
 ·have h1:∀g,(nV g)[j]?=zd:=λg=>LF (by rw[Oo];omega)
  rw[h1,h1];split<;>simp_all
def a9(W:ze)(G:Nat)(f:Nat->Bool):Prop:=W.heap[G]?=zb (.cells (nV f) 4 (0,0))
theorem a9.get(h:a9 W G f){i:Nat}(hi:i<256):W.cell? ⟨G,i,zd⟩=zb (.bool (f i)):=by rw[iY _ _ _ _ _ _ h,KQ _ _ hi]
theorem a9.thaw(h:a9 W G f)(i:Nat):W.frozen? ⟨G,i,zd⟩=false:=aM _ _ _ _ _ h
theorem a9.put(h:a9 W G f)(i:Nat)(b:Bool):a9 (W.setCell ⟨G,i,zd⟩ (.bool b)) G (λc=>if c=i then b else f c):=by
 unfold a9;rw[cJ _ _ _ _ _ _ h,zlr]
theorem a9.congr{g:Nat->Bool}(h:a9 W G f)(e:∀c,c<256->f c=g c):a9 W G g:=by unfold a9;rw[<-S7 e];exact h
theorem ZM(lo hi:Int)(w:ze)(h0:0<=lo)(h1:hi<=255):
  zh prog 94 #[za .i64 lo,za .i64 hi] w λe w'=>e=.returned (zf (zb ⟨w.heap.size,0,zd⟩) 256 256)/\a9 w' w.heap.size (iq lo hi)/\zg w.heap.size w w':=by
 obtain⟨l,rfl⟩:=Int.eq_ofNat_of_zero_le h0;obtain⟨iB,Ez,EQ,ER,ES⟩:=info_parts Tryz.YY
 go_enter func94,ntmps94
 go_wp2_with (refine wpList_make_full _ rfl _ _ 93 rfl w.heap.size 4 iB _ 1 underlying93 Ez EQ ER _ _ _ _ 256 rfl rfl rfl rfl (by rw[ES];omega) (by unfold maxLen;omega) (aq _) ?_;intro w1 bL jn)
 have r1:=zhY bL;rw[ZZ]at r1;have aO:zg w.heap.size w w1:=(Below.refl _ _).grown jn (aq _) (by intro k h;cases h);clear bL jn
 go_loopw [6] (λi wr=>∃k:Nat,l<=k/\(k=l\/(k:Int)<=hi+1)/\i=za .i64 k/\zg w.heap.size w wr/\a9 wr w.heap.size (io (λ_=>false) l k))
  (λi _=>(hi+1-intOf i).toNat)
 case atStart=>exact⟨l,aq _,.inl rfl,rfl,aO,by unfold a9;rw[CN];exact r1⟩
 case round=>
  obtain⟨k,hk,bu,rfl,hb,hr⟩:=hrel
  by_cases hlt:(k:Int)<=hi
  ·have bQ:k<256:=by omega
   have c0:=hr.get bQ;have f0:=hr.thaw k;generalize io (λ_=>false) l k k=old at c0;have HP:zc (a9 (wr.setCell ⟨w.heap.size,k,zd⟩ (.bool true)) w.heap.size (io (λ_=>false) l (k+1))):=by
    show a9 _ _ _;unfold a9;rw[cJ _ _ _ _ _ _ hr,CS,CM _ _ _ hk]
   clear hr;go_wp2
   go_roundw
   case rel=>exact⟨k+1,by omega,by omega,by go_num,hb.setCell (by simp) _,HP.out⟩
   case measure=>simp[intOf];omega
  ·have HR:zc (a9 wr w.heap.size (iq l hi)):=by
    show a9 _ _ _;unfold a9 at hr ⊢;rw[hr,zi8 (λ_=>false) l k hi bu (by omega)]
    congr 3
   clear hr;go_wp2;go_ret;exact⟨rfl,HR.out,hb⟩
end
section
variable {w w':ze}{a B k:Nat}{o:Option ((Nat -> Bool)×Nat)}{f:Nat -> Bool}{t:ByteArray}{neg:Bool}{l:List UInt8}
def FI(w:ze)(a:Nat)(o:Option ((Nat->Bool)×Nat))(e:Ending)(w':ze):Prop:=zg w.heap.size w w'/\w.heap.size<w'.heap.size/\match o with
 |none=>e=.returned (.tuple #[zf (zb ⟨w.heap.size,0,zd⟩) 256 256,za .i64 (-1)])
 |some (f,n)=>e=.returned (.tuple #[zf (zb ⟨w.heap.size,0,zd⟩) 256 256,za .i64 ((a+1+n:Nat):Int)])/\a9 w' w.heap.size f
theorem FI.bad(h1:zg w.heap.size w w')(h2:w.heap.size<w'.heap.size)(h:o=zd):FI w a o (.returned (.tuple #[zf (zb ⟨w.heap.size,0,zd⟩) 256 256,za .i64 (-1)])) w':=by
 subst h;exact⟨h1,h2,rfl⟩
theorem FI.D9{n:Nat}{z:Int}(h1:zg w.heap.size w w')(h2:a9 w' w.heap.size f)(h:o=zb (f,n))(hz:z=((a+1+n:Nat):Int)):FI w a o (.returned (.tuple #[zf (zb ⟨w.heap.size,0,zd⟩) 256 256,za .i64 z])) w':=by
 subst h hz;exact⟨h1,ay h2,rfl,h2⟩
structure pE(t:ByteArray)(a B:Nat)(neg:Bool)(k:Nat)(f:Nat->Bool):Prop where
 go:qN (t.data.toList.drop B) gU (B-(a+1)) true=qN (t.data.toList.drop k) f (k-(a+1)) (decide (k=B))
 whole:sP (t.data.toList.drop (a+1))=if neg=true then (qN (t.data.toList.drop B) gU (B-(a+1)) true).map (λq=>(CH q.1,q.2)) else qN (t.data.toList.drop B) gU (B-(a+1)) true
 b:a+1<=B
 ge:B<=k
 le:k<=t.size
theorem pE.zCu(h:¬aA t.data.toList (a+1)=94)(hl:a<t.size):pE t a (a+1) false (a+1) gU:=by
 refine⟨by simp,?_,by omega,by omega,by omega⟩;unfold sP;rw[ab (by rw[wF];simpa using h),ab (by decide),Nat.sub_self]
theorem pE.zCv(h:aA t.data.toList (a+1)=94):pE t a (a+2) true (a+2) gU:=by
 have hl:=Lp.1 (show 0<=aA t.data.toList (a+1) by omega);rw[iW]at hl;refine⟨by simp,?_,by omega,by omega,by show a+2<=t.data.size;omega⟩;unfold sP;rw[af (by rw[wF];simpa using h),af rfl,List.drop_drop,show a+2-(a+1)=1 by omega]
theorem pE.fin(h:pE t a B neg k f)(hk:B<k)(hc:aA t.data.toList k=93):sP (t.data.toList.drop (a+1))=zb (if neg=true then CH f else f,k-(a+1)+1):=by
 have e:qN (t.data.toList.drop k) f (k-(a+1)) (decide (k=B))=zb (f,k-(a+1)+1):=by
  rw[show decide (k=B)=false by simp;omega];exact zoY (by rw[wF];simpa using hc)
 rw[h.whole,h.go,e];cases neg<;>rfl
theorem pE.none(h:pE t a B neg k f)(hn:qN (t.data.toList.drop k) f (k-(a+1)) (decide (k=B))=zd):sP (t.data.toList.drop (a+1))=zd:=by
 rw[h.whole,h.go,hn];cases neg<;>rfl
theorem pE.over(h:pE t a B neg k f)(hk:¬k<t.size):sP (t.data.toList.drop (a+1))=.none:=
 h.none (by rw[Bn (by rw[iW];show t.size<=k;omega)];exact zi2)
theorem pE.AE(h:pE t a B neg k f)(hc:¬(aA t.data.toList k=93/\B<k))(hi:jN (t.data.toList.drop k)=.none):sP (t.data.toList.drop (a+1))=.none:=by
 refine h.none (zoX ?_ hi);rintro ⟨h1,h2⟩;rw[wF]at h1;have:=h.ge;have h3:¬k=B:=by simpa using h2
 exact hc ⟨by simpa using h1,by omega⟩
theorem pE.step{m:Nat}{g f':Nat->Bool}(h:pE t a B neg k f)(hk:k<t.size)(hc:¬(aA t.data.toList k=93/\B<k))(hi:jN (t.data.toList.drop k)=zb (g,m))(hm:k+m<=t.size)(hf:f'=p8 f g):pE t a B neg (k+m) f':=by
 subst hf;have hp:=zlh hi;have h1:=h.ge;have h2:=h.b;refine⟨?_,h.whole,h.b,by omega,hm⟩;have hne:t.data.toList.drop k≠[]:=by
  intro e;have:=congrArg List.length e;rw[FD,iW]at this;have:t.data.size=t.size:=rfl;simp at *;omega
 rw[h.go,zoZ hne ?_ hi,List.drop_drop,show k-(a+1)+m=k+m-(a+1) by omega,show decide (k+m=B)=false by simp;omega];rintro ⟨h3,h4⟩;rw[wF]at h3;have h5:¬k=B:=by simpa using h4
 exact hc ⟨by simpa using h3,by omega⟩
theorem zi1(h0:aA l 0=91)(h1:aA l 1=46\/aA l 1=61):jN l=zd:=by
 unfold jN;rw[ab (by omega),af ⟨h0,h1⟩]
theorem zhC(h0:aA l 0=91)(h1:aA l 1=58):jN l=match xA 58 93 (l.drop 2) with
  |none=>zd
  |some (name,_)=>match oN name with
   |none=>zd
   |some f=>zb (f,name.length+4):=by
 unfold jN;rw[af ⟨h0,h1⟩];rfl
theorem KL(hn:¬(aA l 0=91/\(aA l 1=58\/aA l 1=46\/aA l 1=61)))(h:¬(aA l 1=45/\0<=aA l 2/\aA l 2≠93)):jN l=zb (iq (aA l 0) (aA l 0),1):=by
 unfold jN;rw[ab (by omega),ab (by omega),ab h]
theorem TD(h1:aA l 1=45)(h2:0<=aA l 2)(h3:aA l 2≠93)(hb:(aA l 2=91/\(aA l 3=46\/aA l 3=61\/aA l 3=58))\/aA l 2<aA l 0):jN l=zd:=by
 unfold jN;rw[ab (by omega),ab (by omega),af ⟨h1,h2,h3⟩,af hb]
theorem zhD(h1:aA l 1=45)(h2:0<=aA l 2)(h3:aA l 2≠93)(hb:¬((aA l 2=91/\(aA l 3=46\/aA l 3=61\/aA l 3=58))\/aA l 2<aA l 0)):jN l=zb (iq (aA l 0) (aA l 2),3):=by
 unfold jN;rw[ab (by omega),ab (by omega),af ⟨h1,h2,h3⟩,ab hb]
theorem a9.grown{W:ze}{G:Nat}{l:Nat}{hi:Int}(h:a9 W G (io f l k))(h1:k=l\/(k:Int)<=hi+1)(h2:hi<k):a9 W G (p8 f (iq l hi)):=by
 unfold a9 at h ⊢;rw[h,zi8 f l k hi h1 h2]
 congr 3
end
section
variable {c d:UInt8}
theorem zhr:∀{l q r:List UInt8},xA c d l=zb (q,r)->l=q++c::d::r/\∀x,x<q.length->¬(l[x]?=zb c/\l[x+1]?=zb d)
 |[],q,r,h=>by simp[xA]at h
 |y::l,q,r,h=>by
  unfold xA at h
  by_cases e:y=c/\l.head?=zb d
  ·rw[af e]at h;cases h;obtain⟨e1,e2⟩:=e;subst e1;refine⟨?_,λx hx=>by simp at hx⟩;cases l with
   |nil=>simp at e2
   |cons z l=>simp at e2;subst e2;rfl
  ·rw[ab e]at h;cases hc:xA c d l with
   |none=>rw[hc]at h;cases h
   |some p=>
    obtain⟨a,b⟩:=p;rw[hc]at h;cases h;obtain⟨h1,h2⟩:=zhr hc;refine⟨by rw[h1];rfl,?_⟩;intro x hx;cases x with
    |zero=>
     rintro ⟨h3,h4⟩;refine e ⟨by simpa using h3,?_⟩;rw[List.head?_eq_getElem?]
     simpa using h4
    |succ x=>
     have:=h2 x (by simpa using hx)
     simpa using this
theorem zhq:∀{l:List UInt8},xA c d l=zd->∀x,¬(l[x]?=zb c/\l[x+1]?=zb d)
 |[],_,x=>by simp
 |y::l,h,x=>by
  unfold xA at h
  by_cases e:y=c/\l.head?=zb d
  ·rw[af e]at h;cases h
  ·rw[ab e]at h;cases hc:xA c d l with
   |some p=>rw[hc]at h;cases h
   |none=>
    cases x with
    |zero=>
     rintro ⟨h3,h4⟩;refine e ⟨by simpa using h3,?_⟩;rw[List.head?_eq_getElem?]
     simpa using h4
    |succ x=>
     have:=zhq hc x
     simpa using this
def jk:List (List UInt8):=[Lr,Lu,Lm,Lz,Lv,Lx,Lt,Lw,Li]
theorem zhl(n:List UInt8):(oN n).isSome=decide (n∈jk):=by
 unfold oN jk
 by_cases h0:n=Lr
 ·rw[af h0];simp[h0]
 rw[ab h0]
 by_cases h1:n=Lu
 ·rw[af h1];simp[h1]
 rw[ab h1]
 by_cases h2:n=Lm
 ·rw[af h2];simp[h2]
 rw[ab h2]
 by_cases h3:n=Lz
 ·rw[af h3];simp[h3]
 rw[ab h3]
 by_cases h4:n=Lv
 ·rw[af h4];simp[h4]
 rw[ab h4]
 by_cases h5:n=Lx
 ·rw[af h5];simp[h5]
 rw[ab h5]
 by_cases h6:n=Lt
 ·rw[af h6];simp[h6]
 rw[ab h6]
 by_cases h7:n=Lw
 ·rw[af h7];simp[h7]
 rw[ab h7]
 by_cases h8:n=Li
 ·rw[af h8];simp[h8]
 rw[ab h8];simp[h0,h1,h2,h3,h4,h5,h6,h7,h8]
end
def zvy:Array Value:=(jk.map Y9).toArray
theorem zex(w:ze):
  zh prog 104 #[] w λe w'=>e=.returned (zf (zb ⟨w.heap.size,0,zd⟩) 9 9)/\w'.heap[w.heap.size]?=zb (.cells zvy 9 (0,0))/\zg w.heap.size w w':=by
 go_enter func104,ntmps104
 go_wp2;go_ret;exact⟨rfl,aJ _ _,ax⟩
end Go.Proofs.YtfajjdgkiilhfaaGreatDoor
