import Derived.Test.YtfajjdgkiilhfaaC10
import Derived.Test.YtfajjdgkiilhfaaC36
import Derived.Deep.AppendLies
namespace Go.Proofs.Ytfajjdgkiilhfaa
open Proofs.Try
open Value renaming int->za,slice->zw
open Option renaming some->zh,none->zi
open RowKit renaming Hid->zn,Below->zx
open Go renaming World->zp,Calls->zy
set_option maxHeartbeats 4000000
set_option maxRecDepth 100000
open Go.RowKit
attribute [local go_sem ↓] wp_at_zero wp_at_succ
section
variable {c:UInt8}{L:List UInt8}{t:ByteArray}{a:Nat}
def rP(at':Nat)(o:Option (Int×Int×Nat)):Value:=match o with
 |some (m,n,k)=>.tuple #[za .i64 m,za .i64 n,za .i64 ((at'+1+k:Nat):Int)]
 |none=>.tuple #[za .i64 0,za .i64 0,za .i64 (-1)]
theorem Mc{l:List UInt8}{n:Nat}(h:nU l=zh n):n<=255:=by
 unfold nU at h;split at h
 ·rename_i hh;cases h;exact hh.2.2.2
 ·cases h
theorem zgH{inner r:List UInt8}(hL:t.data.toList.drop a=L)(h:qY c L=zh (inner,r)):
  a+inner.length<t.size/\(∀hx:a+inner.length<t.size,t[a+inner.length]=c)/\(∀x (hx:x<t.size),a<=x->x<a+inner.length->t[x]≠c)/\(t.extract a (a+inner.length)).data.toList=inner:=by
 obtain⟨e,hn⟩:=zgI h;have hlen:t.data.toList.length=t.size:=jf;have hl:(t.data.toList.drop a).length=inner.length+1+r.length:=by rw[hL,e];simp;omega
 rw[List.length_drop,hlen]at hl;have tV:∀x (hx:x<t.size),a<=x->(t.data.toList.drop a)[x-a]?=zh t[x]:=λx hx Oa=>by
  rw[En,show a+(x-a)=x by omega,bE (by rw[hlen];exact hx)]
  rfl
 refine⟨by omega,λhx=>?_,λx hx h1 h2=>?_,?_⟩
 ·have:=tV (a+inner.length) hx (by omega);rw[hL,e,show a+inner.length-a=inner.length by omega]at this
  simpa using this.symm
 ·have:=tV x hx h1;rw[hL,e,rU (by omega)]at this;intro hc;rw[hc]at this;exact hn (List.mem_of_getElem? this)
 ·rw[Uc,hL,e,show a+inner.length-a=inner.length by omega];simp
theorem zh8(hL:t.data.toList.drop a=L)(h:qY c L=zi):∀x (hx:x<t.size),a<=x->t[x]≠c:=by
 intro x hx Oa hc;have hlen:t.data.toList.length=t.size:=jf;refine zjU h ?_;rw[<-hL];have:(t.data.toList.drop a)[x-a]?=zh t[x]:=by
  rw[En,show a+(x-a)=x by omega,bE (by rw[hlen];exact hx)]
  rfl
 rw[hc]at this;exact List.mem_of_getElem? this
theorem Us{b:UInt8}(h:b≠c):(b.toNat:Int)≠(c.toNat:Int):=λe=>h (UInt8.toNat_inj.1 (by omega))
theorem zg7(t:ByteArray)(a:Nat)(w:zp)(ha:a<t.size)(hb:(t[a].toNat:Int)=123)(hsz:t.size<=2000)(hN:qY 125 (t.data.toList.drop (a+1))=zi):
  zy prog 81 #[.string t,za .i64 (a:Int)] w λe w'=>e=.returned (rP a (nS (t.data.toList.drop (a+1))))/\w'=w:=by
 have HR:zn (rP a (nS (t.data.toList.drop (a+1)))=.tuple #[za .i64 0,za .i64 0,za .i64 (-1)]):=by
  show _=_;unfold nS;rw[hN]
  rfl
 have hne:∀x (hx:x<t.size),a<=x->(t[x].toNat:Int)≠125:=by
  intro x hx Oa
  by_cases e:x=a
  ·subst e;omega
  ·exact Us (c:=125) (zh8 rfl hN x hx (by omega))
 go_enter func81,ntmps81
 go_wp2
 go_loop [7] (λi=>∃j:Nat,a<=j/\j<=t.size/\i=za .i64 j) (λi=>t.size-(intOf i).toNat)
 case atStart=>exact⟨a,ax _,by omega,rfl⟩
 case round=>
  obtain⟨j,Ye,hj,rfl⟩:=hrel
  by_cases hlt:j<t.size
  ·have h1:(j:Int)<(t.size:Int):=by omega
   have hq:=hne j hlt Ye;have hc:t[j].toNat<256:=t[j].toNat_lt;have im:((t[j].toNat:Int) != 125)=true:=by simpa using hq
   go_wp2
   go_round
   case rel=>exact⟨j+1,by omega,by omega,by go_num⟩
   case measure=>simp[intOf];omega
  ·have me:j=t.size:=by omega
   subst me;have im:((t.size:Int)==(t.size:Int))=true:=by simp
   go_wp2;refine bw (v:=.tuple #[za .i64 0,za .i64 0,za .i64 (-1)]) (by simp[results,results81,go_sem]) rfl ?_;exact⟨by rw[HR.out],rfl⟩
theorem zg8(t:ByteArray)(a:Nat)(w:zp)(ha:a<t.size)(hb:(t[a].toNat:Int)=123)(hsz:t.size<=2000)(inner r:List UInt8)(hN:qY 125 (t.data.toList.drop (a+1))=zh (inner,r)):
  zy prog 81 #[.string t,za .i64 (a:Int)] w λe w'=>e=.returned (rP a (nS (t.data.toList.drop (a+1))))/\w'=w:=by
 obtain⟨b1,b2,b3,b4⟩:=zgH rfl hN;have hIF:nS (t.data.toList.drop (a+1))=match qY 44 inner with
  |none=>match nU inner with
   |none=>zi
   |some m=>zh ((m:Int),(m:Int),inner.length+1)
  |some (low,high)=>
   match nU low with
   |none=>zi
   |some m=>if high=[] then zh ((m:Int),-1,inner.length+1)
    else match nU high with
     |none=>zi
     |some n=>if m<=n then zh ((m:Int),(n:Int),inner.length+1) else zi:=by
  unfold nS;rw[hN]
  rfl
 obtain⟨E,hE⟩:∃E,E=a+1+inner.length:=⟨_,rfl⟩;rw[<-hE]at b1 b2 b3 b4;have hne:∀x (hx:x<t.size),a<=x->x<E->(t[x].toNat:Int)≠125:=by
  intro x hx Oa ZG
  by_cases e:x=a
  ·subst e;omega
  ·exact Us (c:=125) (b3 x hx (by omega) ZG)
 have hEq:(t[E].toNat:Int)=125:=by rw[b2 b1];rfl
 obtain⟨I,hI⟩:∃I,I=t.extract (a+1) E:=⟨_,rfl⟩;have HI:zn (I.data.toList=inner):=by show _=_;rw[hI];exact b4
 have hIs:I.size=inner.length:=by rw[<-HI.out];exact jf.symm
 have QI:zn _:=hIF;have HE:zn _:=hE;have hEl:E=a+1+I.size:=by rw[hIs];exact hE
 have MV:zn (t.extract (a+1) E=I):=hI.symm;clear b2 b3 b4 hIF hI hN hE hIs;have iz:I.size<=2000:=by omega
 have HEl:zn _:=hEl;have haE:a+1<=E:=by omega
 clear hEl
 go_enter func81,ntmps81
 go_wp2
 go_loop [7] (λi=>∃j:Nat,a<=j/\j<=E/\i=za .i64 j) (λi=>t.size-(intOf i).toNat)
 case atStart=>exact⟨a,ax _,by omega,rfl⟩
 case round=>
  obtain⟨j,Ye,hj,rfl⟩:=hrel
  by_cases hlt:j<E
  ·have IH:j<t.size:=by omega
   have h1:(j:Int)<(t.size:Int):=by omega
   have hq:=hne j IH Ye hlt;have hc:t[j].toNat<256:=t[j].toNat_lt;have im:((t[j].toNat:Int) != 125)=true:=by simpa using hq
   go_wp2
   go_round
   case rel=>exact⟨j+1,by omega,by omega,by go_num⟩
   case measure=>simp[intOf];omega
  ·have me:j=E:=by omega
   subst me;have h1:(j:Int)<(t.size:Int):=by omega
   have im:((j:Int)==(t.size:Int))=false:=by simp;omega
   have h0:(0:Int)<=(a:Int)+1:=by omega
   have h2:(a:Int)+1<=(j:Int):=by omega
   have h3:(j:Int)<=(t.size:Int):=by omega
   have e1:((a:Int)+1).toNat=a+1:=by omega
   have eS:min j t.size-(a+1)=I.size:=by have:=HEl.out;omega
   have qo:zn _:=eS;clear eS;go_wp2;rw[MV.out,qo.out];have vb:inner.length=I.size:=by rw[<-HI.out];exact jf
   have Hin:zn _:=vb;clear vb hlt hj im h0 h2 h3 e1 hne hEq;cases hC:qY 44 inner with
   |none=>
    have SX:∀x (hx:x<I.size),(I[x].toNat:Int)≠44:=λx hx=>Us (c:=44) (zh8 (t:=I) (a:=0) (by rw[qi];exact HI.out) hC x hx (by omega))
    have Io:=QI.out;rw[hC]at Io;have EA:zn _:=Io;clear Io QI hC
    go_loop [9,10] (λcm i=>∃(x:Nat) (z:Int),z=(x:Int)-1/\i=za .i64 z/\x<=I.size/\cm=za .i64 (-1)) (λ_ i=>(intOf i+1).toNat)
    case atStart=>exact⟨I.size,_,rfl,rfl,ax _,rfl⟩
    case round=>
     obtain⟨x,z,hz,rfl,hx,rfl⟩:=hrel;cases x with
     |succ y=>
      have ZM:z=(y:Int):=by omega
      subst ZM;clear hz;have ZL:y<I.size:=by omega
      have hyi:(y:Int)<(I.size:Int):=by omega
      have hc:I[y].toNat<256:=I[y].toNat_lt;have hq:=SX y ZL;have im:((I[y].toNat:Int)==44)=false:=by simpa using hq
      go_wp2
      go_round
      case rel=>exact⟨y,_,rfl,rfl,by omega,rfl⟩
      case measure=>simp[intOf]
     |zero=>
      have dR:z=-1:=by omega
      subst dR;clear hz
      go_wp2_with fail
      refine(zfB I _).mono ?_;rintro e w' ⟨rfl,rfl⟩;rw[HI.out];cases hm:nU inner with
      |none=>
       have HR:zn (rP a (nS (t.data.toList.drop (a+1)))=.tuple #[za .i64 0,za .i64 0,za .i64 (-1)]):=by
        show _=_;rw[EA.out,hm]
        rfl
       unfold vo;go_wp2;refine bw (v:=.tuple #[za .i64 0,za .i64 0,za .i64 (-1)]) (by simp[results,results81,go_sem]) rfl ?_;exact⟨by rw[HR.out],rfl⟩
      |some m=>
       have HR:zn (rP a (nS (t.data.toList.drop (a+1)))=.tuple #[za .i64 (m:Int),za .i64 (m:Int),za .i64 ((j:Int)+1)]):=by
        show _=_;rw[EA.out,hm];show Value.tuple #[_,_,za .i64 ((a+1+(inner.length+1):Nat):Int)]=_;have:=HE.out;rw[show ((a+1+(inner.length+1):Nat):Int)=(j:Int)+1 by omega]
       have BV:=Mc hm;unfold vo;go_wp2;refine bw (v:=.tuple #[za .i64 (m:Int),za .i64 (m:Int),za .i64 ((j:Int)+1)]) (by simp[results,results81,go_sem]) rfl ?_;exact⟨by rw[HR.out],rfl⟩
   |some q=>
    obtain⟨low,high⟩:=q;obtain⟨d1,d2,d3,d4⟩:=zgH (t:=I) (a:=0) (by rw[qi];exact HI.out) hC;rw[jB]at d1 d2 d3 d4;have YG:=(zgI hC).1;have Io:=QI.out;rw[hC]at Io;have EA:zn _:=Io;obtain⟨cq,Sv⟩:∃cq,cq=low.length:=⟨_,rfl⟩;rw[<-Sv]at d1 d2 d3 d4;have hlen:I.size=cq+1+high.length:=by rw[<-Hin.out,YG,Sv];simp;omega
    have HX:zn (I.extract 0 cq=⟨low.toArray⟩/\(I.extract 0 cq).data.toList=low):=⟨zqs d4,d4⟩;have HY:zn ((I.extract (cq+1) I.size).data.toList=high):=by
     show _=_;rw[Uc,HI.out,YG,Sv];rw[tj (by simp;omega)];simp
    have SX:∀x (hx:x<I.size),x<cq->(I[x].toNat:Int)≠44:=λx hx hlt=>Us (c:=44) (d3 x hx (by omega) hlt)
    have hq0:(I[cq].toNat:Int)=44:=by rw[d2 d1];rfl
    have Bt:zn _:=hlen;clear Io QI hC hlen d2 d3 d4 YG Sv
    go_loop [9,10] (λcm i=>∃(x:Nat) (z c:Int),z=(x:Int)-1/\i=za .i64 z/\x<=I.size/\cm=za .i64 c/\-1<=c/\c<=2000/\(x<=cq->c=(cq:Int))) (λ_ i=>(intOf i+1).toNat)
    case atStart=>exact⟨I.size,_,-1,rfl,rfl,ax _,rfl,by omega,by omega,λh=>by omega⟩
    case round=>
     obtain⟨x,z,c,hz,rfl,hx,rfl,sB,nK,hcc⟩:=hrel;cases x with
     |succ y=>
      have ZM:z=(y:Int):=by omega
      subst ZM;clear hz;have ZL:y<I.size:=by omega
      have hyi:(y:Int)<(I.size:Int):=by omega
      have kH:I[y].toNat<256:=I[y].toNat_lt;have Nl:zn _:=hcc;clear hcc
      by_cases hq:(I[y].toNat:Int)=44
      ·have hyc:¬y<cq:=λh=>SX y ZL h hq
       have im:((I[y].toNat:Int)==44)=true:=by simpa using hq
       go_wp2
       go_round
       case rel=>exact⟨y,_,(y:Int),rfl,rfl,by omega,rfl,by omega,by omega,λh=>by omega⟩
       case measure=>simp[intOf]
      ·have hyc:¬y=cq:=λh=>hq (by subst h;exact hq0)
       have im:((I[y].toNat:Int)==44)=false:=by simpa using hq
       go_wp2
       go_round
       case rel=>exact⟨y,_,c,rfl,rfl,by omega,rfl,by omega,by omega,λh=>Nl.out (by omega)⟩
       case measure=>simp[intOf]
     |zero=>
      have dR:z=-1:=by omega
      have dN:c=(cq:Int):=hcc (by omega);subst dR dN;clear hz hcc sB nK;have hcs:(cq:Int)<=(I.size:Int):=by omega
      go_wp2_with fail
      refine(zfB _ _).mono ?_;rintro e w' ⟨rfl,rfl⟩;rw[HX.out.2];cases hm:nU low with
      |none=>
       have HR:zn (rP a (nS (t.data.toList.drop (a+1)))=.tuple #[za .i64 0,za .i64 0,za .i64 (-1)]):=by
        show _=_;rw[EA.out,hm]
        rfl
       unfold vo;go_wp2;refine bw (v:=.tuple #[za .i64 0,za .i64 0,za .i64 (-1)]) (by simp[results,results81,go_sem]) rfl ?_;exact⟨by rw[HR.out],rfl⟩
      |some m=>
       have BV:=Mc hm
       by_cases hh:high=[]
       ·have HR:zn (rP a (nS (t.data.toList.drop (a+1)))=.tuple #[za .i64 (m:Int),za .i64 (-1),za .i64 ((j:Int)+1)]):=by
         show _=_;rw[EA.out,hm];show rP a (if high=[] then _ else _)=_;rw[ae hh];show Value.tuple #[_,_,za .i64 ((a+1+(inner.length+1):Nat):Int)]=_;have:=HE.out;rw[show ((a+1+(inner.length+1):Nat):Int)=(j:Int)+1 by omega]
        have Zh:((cq:Int)==(I.size:Int)-1)=true:=by
         have:=Bt.out;rw[hh]at this;simp at this ⊢;omega
        unfold vo;go_wp2;refine bw (v:=.tuple #[za .i64 (m:Int),za .i64 (-1),za .i64 ((j:Int)+1)]) (by simp[results,results81,go_sem]) rfl ?_;exact⟨by rw[HR.out],rfl⟩
       ·have Zh:((cq:Int)==(I.size:Int)-1)=false:=by
         have:=Bt.out;have:0<high.length:=qh.2 hh;simp;omega
        have zCd:(cq:Int)+1<=(I.size:Int):=by omega
        have e1:((cq:Int)+1).toNat=cq+1:=by omega
        unfold vo
        go_wp2_with fail
        refine(zfB _ _).mono ?_;rintro e w' ⟨rfl,rfl⟩;rw[HY.out];cases fY:nU high with
        |none=>
         have HR:zn (rP a (nS (t.data.toList.drop (a+1)))=.tuple #[za .i64 0,za .i64 0,za .i64 (-1)]):=by
          show _=_;rw[EA.out,hm];show rP a (if high=[] then _ else _)=_;rw[ab hh,fY]
          rfl
         unfold vo;have hlt:(-1:Int)<(m:Int):=by omega
         go_wp2;refine bw (v:=.tuple #[za .i64 0,za .i64 0,za .i64 (-1)]) (by simp[results,results81,go_sem]) rfl ?_;exact⟨by rw[HR.out],rfl⟩
        |some n=>
         have lP:=Mc fY;unfold vo
         by_cases k8:m<=n
         ·have HR:zn (rP a (nS (t.data.toList.drop (a+1)))=.tuple #[za .i64 (m:Int),za .i64 (n:Int),za .i64 ((j:Int)+1)]):=by
           show _=_;rw[EA.out,hm];show rP a (if high=[] then _ else _)=_;rw[ab hh,fY];show rP a (if m<=n then _ else _)=_;rw[ae k8];show Value.tuple #[_,_,za .i64 ((a+1+(inner.length+1):Nat):Int)]=_;have:=HE.out;rw[show ((a+1+(inner.length+1):Nat):Int)=(j:Int)+1 by omega]
          have hlt:¬(n:Int)<(m:Int):=by omega
          go_wp2;refine bw (v:=.tuple #[za .i64 (m:Int),za .i64 (n:Int),za .i64 ((j:Int)+1)]) (by simp[results,results81,go_sem]) rfl ?_;exact⟨by rw[HR.out],rfl⟩
         ·have HR:zn (rP a (nS (t.data.toList.drop (a+1)))=.tuple #[za .i64 0,za .i64 0,za .i64 (-1)]):=by
           show _=_;rw[EA.out,hm];show rP a (if high=[] then _ else _)=_;rw[ab hh,fY];show rP a (if m<=n then _ else _)=_;rw[ab k8]
           rfl
          have hlt:(n:Int)<(m:Int):=by omega
          go_wp2;refine bw (v:=.tuple #[za .i64 0,za .i64 0,za .i64 (-1)]) (by simp[results,results81,go_sem]) rfl ?_;exact⟨by rw[HR.out],rfl⟩
theorem zja(t:ByteArray)(a:Nat)(w:zp)(ha:a<t.size)(hb:(t[a].toNat:Int)=123)(hsz:t.size<=2000):
  zy prog 81 #[.string t,za .i64 (a:Int)] w λe w'=>e=.returned (rP a (nS (t.data.toList.drop (a+1))))/\w'=w:=by
 cases hN:qY 125 (t.data.toList.drop (a+1)) with
 |none=>exact zg7 t a w ha hb hsz hN
 |some q=>exact zg8 t a w ha hb hsz q.1 q.2 hN
end
section
variable {W:zp}{G:Nat}{f:Nat -> Bool}
theorem Try.ZN:(prog.info? 4).map (λi=>(i.zero,i.size,i.bytes))=zh (zh (.bool false),1,1):=by kernel_rfl
theorem zhg{w:zp}{base:Nat}{e:TypeId}{g n:Nat}{xs:List Value}(h:w.ownsRow base e 1 (zw (zh ⟨g,0,zi⟩) n n) n xs):w.heap[g]?=zh (.cells xs.toArray e (0,0)):=by
 rcases h.2 with ⟨h,_⟩|⟨g',cap,cr,h,_,ff,_,_,hsz,jH⟩
 ·cases h
 ·cases h
  rw[ff]
  congr 2
  apply Array.ext'
  rw[<-jH];exact(tj (by rw[jf];omega)).symm
theorem zfC:(madeCells (Value.bool false).cells (256*1)).toList.toArray=nV (λ_=>false):=by
 apply Gu
 intro i
 by_cases h:i<256
 ·rw[LW _ _ h];simp[madeCells,Value.cells,Nat.mod_one,h]
 ·have hn:(nV λ_=>false)[i]?=zi:=zr (by rw[PG];omega);rw[hn];apply zr;simp[madeCells];omega
theorem zkk(f:Nat->Bool)(i:Nat)(b:Bool):(nV f).setIfInBounds i (.bool b)=nV (λc=>if c=i then b else f c):=by
 apply Gu
 intro j;rw[Qw,PG]
 by_cases hj:j<256
 ·rw[LW _ _ hj,LW _ _ hj]
  by_cases e:i=j
  ·subst e;simp[hj]
  ·have e':¬j=i:=λh=>e h.symm
   simp[e,e']
 ·have h1:∀g,(nV g)[j]?=zi:=λg=>zr (by rw[PG];omega)
  rw[h1,h1];split<;>simp_all
def bC(W:zp)(G:Nat)(f:Nat->Bool):Prop:=W.heap[G]?=zh (.cells (nV f) 4 (0,0))
theorem bC.get(h:bC W G f){i:Nat}(hi:i<256):W.cell? ⟨G,i,zi⟩=zh (.bool (f i)):=by rw[dt _ _ _ _ _ _ h,LW _ _ hi]
theorem bC.thaw(h:bC W G f)(i:Nat):W.frozen? ⟨G,i,zi⟩=false:=aR _ _ _ _ _ h
theorem bC.put(h:bC W G f)(i:Nat)(b:Bool):bC (W.setCell ⟨G,i,zi⟩ (.bool b)) G (λc=>if c=i then b else f c):=by
 unfold bC;rw[dx _ _ _ _ _ _ h,zkk]
theorem bC.congr{g:Nat->Bool}(h:bC W G f)(e:∀c,c<256->f c=g c):bC W G g:=by unfold bC;rw[<-TB e];exact h
theorem zfA(lo hi:Int)(w:zp)(h0:0<=lo)(h1:hi<=255):
  zy prog 83 #[za .i64 lo,za .i64 hi] w λe w'=>e=.returned (zw (zh ⟨w.heap.size,0,zi⟩) 256 256)/\bC w' w.heap.size (iu lo hi)/\zx w.heap.size w w':=by
 obtain⟨l,rfl⟩:=Int.eq_ofNat_of_zero_le h0;obtain⟨iB,yE,yR,yS,yT⟩:=info_parts Try.ZN
 go_enter func83,ntmps83
 go_wp2_with (refine wpList_make_full _ rfl _ _ 37 rfl w.heap.size 4 iB _ 1 underlying37 yE yR yS _ _ _ _ 256 rfl rfl rfl rfl (by rw[yT];omega) (by unfold maxLen;omega) (ax _) ?_;intro w1 bV nM)
 have r1:=zhg bV;rw[zfC]at r1;have aP:zx w.heap.size w w1:=(Below.refl _ _).grown nM (ax _) (by intro k h;cases h);clear bV nM
 go_loopw [6] (λi wr=>∃k:Nat,l<=k/\(k=l\/(k:Int)<=hi+1)/\i=za .i64 k/\zx w.heap.size w wr/\bC wr w.heap.size (ir (λ_=>false) l k))
  (λi _=>(hi+1-intOf i).toNat)
 case atStart=>exact⟨l,ax _,.inl rfl,rfl,aP,by unfold bC;rw[DT];exact r1⟩
 case round=>
  obtain⟨k,hk,bJ,rfl,hb,hr⟩:=hrel
  by_cases hlt:(k:Int)<=hi
  ·have cP:k<256:=by omega
   have c0:=hr.get cP;have f0:=hr.thaw k;generalize ir (λ_=>false) l k k=old at c0;have HP:zn (bC (wr.setCell ⟨w.heap.size,k,zi⟩ (.bool true)) w.heap.size (ir (λ_=>false) l (k+1))):=by
    show bC _ _ _;unfold bC;rw[dx _ _ _ _ _ _ hr,DW,DR _ _ _ hk]
   clear hr;go_wp2
   go_roundw
   case rel=>exact⟨k+1,by omega,by omega,by go_num,hb.setCell (by simp) _,HP.out⟩
   case measure=>simp[intOf];omega
  ·have HR:zn (bC wr w.heap.size (iu l hi)):=by
    show bC _ _ _;unfold bC at hr ⊢;rw[hr,zim (λ_=>false) l k hi bJ (by omega)]
    congr 3
   clear hr;go_wp2;go_ret;exact⟨rfl,HR.out,hb⟩
end
section
variable {w w':zp}{a B k:Nat}{o:Option ((Nat -> Bool)×Nat)}{f:Nat -> Bool}{t:ByteArray}{neg:Bool}{l:List UInt8}
def GD(w:zp)(a:Nat)(o:Option ((Nat->Bool)×Nat))(e:Ending)(w':zp):Prop:=zx w.heap.size w w'/\w.heap.size<w'.heap.size/\match o with
 |none=>e=.returned (.tuple #[zw (zh ⟨w.heap.size,0,zi⟩) 256 256,za .i64 (-1)])
 |some (f,n)=>e=.returned (.tuple #[zw (zh ⟨w.heap.size,0,zi⟩) 256 256,za .i64 ((a+1+n:Nat):Int)])/\bC w' w.heap.size f
theorem GD.bad(h1:zx w.heap.size w w')(h2:w.heap.size<w'.heap.size)(h:o=zi):GD w a o (.returned (.tuple #[zw (zh ⟨w.heap.size,0,zi⟩) 256 256,za .i64 (-1)])) w':=by
 subst h;exact⟨h1,h2,rfl⟩
theorem GD.C5{n:Nat}{z:Int}(h1:zx w.heap.size w w')(h2:bC w' w.heap.size f)(h:o=zh (f,n))(hz:z=((a+1+n:Nat):Int)):GD w a o (.returned (.tuple #[zw (zh ⟨w.heap.size,0,zi⟩) 256 256,za .i64 z])) w':=by
 subst h hz;exact⟨h1,az h2,rfl,h2⟩
structure pG(t:ByteArray)(a B:Nat)(neg:Bool)(k:Nat)(f:Nat->Bool):Prop where
 go:qL (t.data.toList.drop B) gR (B-(a+1)) true=qL (t.data.toList.drop k) f (k-(a+1)) (decide (k=B))
 whole:sV (t.data.toList.drop (a+1))=if neg=true then (qL (t.data.toList.drop B) gR (B-(a+1)) true).map (λq=>(DI q.1,q.2)) else qL (t.data.toList.drop B) gR (B-(a+1)) true
 b:a+1<=B
 ge:B<=k
 le:k<=t.size
theorem pG.zBn(h:¬aA t.data.toList (a+1)=94)(hl:a<t.size):pG t a (a+1) false (a+1) gR:=by
 refine⟨by simp,?_,by omega,by omega,by omega⟩;unfold sV;rw[ab (by rw[xi];simpa using h),ab (by decide),Nat.sub_self]
theorem pG.zBo(h:aA t.data.toList (a+1)=94):pG t a (a+2) true (a+2) gR:=by
 have hl:=Mt.1 (show 0<=aA t.data.toList (a+1) by omega);rw[jf]at hl;refine⟨by simp,?_,by omega,by omega,by show a+2<=t.data.size;omega⟩;unfold sV;rw[ae (by rw[xi];simpa using h),ae rfl,List.drop_drop,show a+2-(a+1)=1 by omega]
theorem pG.fin(h:pG t a B neg k f)(hk:B<k)(hc:aA t.data.toList k=93):sV (t.data.toList.drop (a+1))=zh (if neg=true then DI f else f,k-(a+1)+1):=by
 have e:qL (t.data.toList.drop k) f (k-(a+1)) (decide (k=B))=zh (f,k-(a+1)+1):=by
  rw[show decide (k=B)=false by simp;omega];exact znA (by rw[xi];simpa using hc)
 rw[h.whole,h.go,e];cases neg<;>rfl
theorem pG.none(h:pG t a B neg k f)(hn:qL (t.data.toList.drop k) f (k-(a+1)) (decide (k=B))=zi):sV (t.data.toList.drop (a+1))=zi:=by
 rw[h.whole,h.go,hn];cases neg<;>rfl
theorem pG.over(h:pG t a B neg k f)(hk:¬k<t.size):sV (t.data.toList.drop (a+1))=.none:=
 h.none (by rw[Em (by rw[jf];show t.size<=k;omega)];exact zig)
theorem pG.BF(h:pG t a B neg k f)(hc:¬(aA t.data.toList k=93/\B<k))(hi:j5 (t.data.toList.drop k)=.none):sV (t.data.toList.drop (a+1))=.none:=by
 refine h.none (znz ?_ hi);rintro ⟨h1,h2⟩;rw[xi]at h1;have:=h.ge;have h3:¬k=B:=by simpa using h2
 exact hc ⟨by simpa using h1,by omega⟩
theorem pG.step{m:Nat}{g f':Nat->Bool}(h:pG t a B neg k f)(hk:k<t.size)(hc:¬(aA t.data.toList k=93/\B<k))(hi:j5 (t.data.toList.drop k)=zh (g,m))(hm:k+m<=t.size)(hf:f'=p8 f g):pG t a B neg (k+m) f':=by
 subst hf;have hp:=zke hi;have h1:=h.ge;have h2:=h.b;refine⟨?_,h.whole,h.b,by omega,hm⟩;have hne:t.data.toList.drop k≠[]:=by
  intro e;have:=congrArg List.length e;rw[List.length_drop,jf]at this;have:t.data.size=t.size:=rfl;simp at *;omega
 rw[h.go,znB hne ?_ hi,List.drop_drop,show k-(a+1)+m=k+m-(a+1) by omega,show decide (k+m=B)=false by simp;omega];rintro ⟨h3,h4⟩;rw[xi]at h3;have h5:¬k=B:=by simpa using h4
 exact hc ⟨by simpa using h3,by omega⟩
theorem zif(h0:aA l 0=91)(h1:aA l 1=46\/aA l 1=61):j5 l=zi:=by
 unfold j5;rw[ab (by omega),ae ⟨h0,h1⟩]
theorem zg2(h0:aA l 0=91)(h1:aA l 1=58):j5 l=match yl 58 93 (l.drop 2) with
  |none=>zi
  |some (name,_)=>match oL name with
   |none=>zi
   |some f=>zh (f,name.length+4):=by
 unfold j5;rw[ae ⟨h0,h1⟩];rfl
theorem L8(hn:¬(aA l 0=91/\(aA l 1=58\/aA l 1=46\/aA l 1=61)))(h:¬(aA l 1=45/\0<=aA l 2/\aA l 2≠93)):j5 l=zh (iu (aA l 0) (aA l 0),1):=by
 unfold j5;rw[ab (by omega),ab (by omega),ab h]
theorem TT(h1:aA l 1=45)(h2:0<=aA l 2)(h3:aA l 2≠93)(hb:(aA l 2=91/\(aA l 3=46\/aA l 3=61\/aA l 3=58))\/aA l 2<aA l 0):j5 l=zi:=by
 unfold j5;rw[ab (by omega),ab (by omega),ae ⟨h1,h2,h3⟩,ae hb]
theorem zg3(h1:aA l 1=45)(h2:0<=aA l 2)(h3:aA l 2≠93)(hb:¬((aA l 2=91/\(aA l 3=46\/aA l 3=61\/aA l 3=58))\/aA l 2<aA l 0)):j5 l=zh (iu (aA l 0) (aA l 2),3):=by
 unfold j5;rw[ab (by omega),ab (by omega),ae ⟨h1,h2,h3⟩,ab hb]
theorem bC.grown{W:zp}{G:Nat}{l:Nat}{hi:Int}(h:bC W G (ir f l k))(h1:k=l\/(k:Int)<=hi+1)(h2:hi<k):bC W G (p8 f (iu l hi)):=by
 unfold bC at h ⊢;rw[h,zim f l k hi h1 h2]
 congr 3
end
section
variable {c d:UInt8}
theorem zgK:∀{l q r:List UInt8},yl c d l=zh (q,r)->l=q++c::d::r/\∀x,x<q.length->¬(l[x]?=zh c/\l[x+1]?=zh d)
 |[],q,r,h=>by simp[yl]at h
 |y::l,q,r,h=>by
  unfold yl at h
  by_cases e:y=c/\l.head?=zh d
  ·rw[ae e]at h;cases h;obtain⟨e1,e2⟩:=e;subst e1;refine⟨?_,λx hx=>by simp at hx⟩;cases l with
   |nil=>simp at e2
   |cons z l=>simp at e2;subst e2;rfl
  ·rw[ab e]at h;cases hc:yl c d l with
   |none=>rw[hc]at h;cases h
   |some p=>
    obtain⟨a,b⟩:=p;rw[hc]at h;cases h;obtain⟨h1,h2⟩:=zgK hc;refine⟨by rw[h1];rfl,?_⟩;intro x hx;cases x with
    |zero=>
     rintro ⟨h3,h4⟩;refine e ⟨by simpa using h3,?_⟩;rw[List.head?_eq_getElem?]
     simpa using h4
    |succ x=>
     have:=h2 x (by simpa using hx)
     simpa using this
theorem zgJ:∀{l:List UInt8},yl c d l=zi->∀x,¬(l[x]?=zh c/\l[x+1]?=zh d)
 |[],_,x=>by simp
 |y::l,h,x=>by
  unfold yl at h
  by_cases e:y=c/\l.head?=zh d
  ·rw[ae e]at h;cases h
  ·rw[ab e]at h;cases hc:yl c d l with
   |some p=>rw[hc]at h;cases h
   |none=>
    cases x with
    |zero=>
     rintro ⟨h3,h4⟩;refine e ⟨by simpa using h3,?_⟩;rw[List.head?_eq_getElem?]
     simpa using h4
    |succ x=>
     have:=zgJ hc x
     simpa using this
def jz:List (List UInt8):=[My,MA,Mx,ME,MB,MD,Mz,MC,Mm]
theorem zgE(n:List UInt8):(oL n).isSome=decide (n∈jz):=by
 unfold oL jz
 by_cases h0:n=My
 ·rw[ae h0];simp[h0]
 rw[ab h0]
 by_cases h1:n=MA
 ·rw[ae h1];simp[h1]
 rw[ab h1]
 by_cases h2:n=Mx
 ·rw[ae h2];simp[h2]
 rw[ab h2]
 by_cases h3:n=ME
 ·rw[ae h3];simp[h3]
 rw[ab h3]
 by_cases h4:n=MB
 ·rw[ae h4];simp[h4]
 rw[ab h4]
 by_cases h5:n=MD
 ·rw[ae h5];simp[h5]
 rw[ab h5]
 by_cases h6:n=Mz
 ·rw[ae h6];simp[h6]
 rw[ab h6]
 by_cases h7:n=MC
 ·rw[ae h7];simp[h7]
 rw[ab h7]
 by_cases h8:n=Mm
 ·rw[ae h8];simp[h8]
 rw[ab h8];simp[h0,h1,h2,h3,h4,h5,h6,h7,h8]
end
def ztB:Array Value:=(jz.map zvz).toArray
theorem zec(w:zp):
  zy prog 93 #[] w λe w'=>e=.returned (zw (zh ⟨w.heap.size,0,zi⟩) 9 9)/\w'.heap[w.heap.size]?=zh (.cells ztB 9 (0,0))/\zx w.heap.size w w':=by
 go_enter func93,ntmps93
 go_wp2;go_ret;exact⟨rfl,aU _ _,aC⟩
end Go.Proofs.Ytfajjdgkiilhfaa
