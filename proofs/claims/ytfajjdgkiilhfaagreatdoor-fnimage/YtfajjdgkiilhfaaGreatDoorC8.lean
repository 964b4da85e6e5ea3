import Derived.Test.YtfajjdgkiilhfaaGreatDoorC7
import Derived.Deep.Light
import Derived.Deep.QuietTactic
import Derived.BigQuiet
import Derived.Deep.WholeRow
import Derived.Laws.Tables
namespace Go.Proofs.YtfajjdgkiilhfaaGreatDoor
open Proofs.Tryz
open Value renaming int->za
set_option maxHeartbeats 4000000
set_option maxRecDepth 100000
open Go.RowKit
def qe:Int->List (Int×Int)->Bool
 |_,[]=>true
 |least,(lo,hi)::r=>if lo<least\/hi<lo\/255<hi then false else qe (hi+2) r
theorem zkd(rs:List (Int×Int))(i:Nat)(hi:i<rs.length)(least a b:Int)(h:rs.getD i (0,0)=(a,b)):
  qe least (rs.drop i)=if a<least\/b<a\/255<b then false else qe (b+2) (rs.drop (i+1)):=by
 rw[Dn hi];have:rs[i]=(a,b):=by rw[<-h];simp[List.getD,hi]
 rw[this]
 rfl
def bk(n:aC):Bool:=
 if n.kind=1 then qe 0 n.set&&(n.min==0&&n.max==0)&&n.group==0
 else if n.kind=2\/n.kind=3 then ((n.set.length:Int)==0)&&(n.min==0&&n.max==0)&&n.group==0
 else if n.kind=4 then ((n.set.length:Int)==0)&&lz n.min n.max&&n.group==0
 else if n.kind=5 then ((n.set.length:Int)==0)&&(n.min==0&&n.max==0)
 else false
theorem zji{lo:Nat}(v:Value)(rs:List (Int×Int))(w:World)(hs:nr lo w v rs):
  Calls prog 87 #[.agg #[za .i64 1,v,za .i64 0,za .i64 0,za .i64 0]] w λe w'=>e=.returned (.bool (qe 0 rs))/\Below w.heap.size w w':=by
 obtain⟨ao,cap,rfl,hm,hc⟩:=hs
 go_enter func87,ntmps87
 go_wp2
 go_loopw [59] (λi wr=>∃k:Nat,k<=rs.length/\i=za .i64 k/\∃L:Int,0<=L/\L<=257/\(k=0->L=0)/\(∀j,k=j+1->L=(rs.getD j (0,0)).2+2)/\Hid (qe 0 rs=qe L (rs.drop k))/\Below w.heap.size w wr/\wr.cell? ⟨w.heap.size,1,none⟩=some (.slice ao rs.length cap)/\w.heap.size<wr.heap.size)
  (λi _=>rs.length-(intOf i).toNat)
 case atStart=>exact⟨0,dz _,rfl,0,by omega,by omega,λ_=>rfl,λj hj=>by omega,rfl,ax,by simp,by simp⟩
 case round=>
  obtain⟨k,hk,rfl,L,Gs,AO,uo,l6,HS,hb,JR,hsz⟩:=hrel;have Hl0:Hid (k=0->L=0):=uo;have Hl1:Hid (∀j,k=j+1->L=(rs.getD j (0,0)).2+2):=l6;clear uo l6
  by_cases hlt:k<rs.length
  ·obtain⟨b,o,x,y,rfl,Hn,bF,c0,c1⟩:=hc.elem hb hlt;have hz:=hb.size;have fW:Below w.heap.size w (wr.alloc (.cells #[za .i64 x,za .i64 y] 137)):=hb.alloc hz _;have zyy:(wr.alloc (.cells #[za .i64 x,za .i64 y] 137)).cell? ⟨w.heap.size,1,none⟩=some (.slice (some ⟨b,o,none⟩) rs.length cap):=(World.cell?_of_block (Below.heap_alloc _ _ _ hsz)).trans JR;have HD:Hid (qe L (rs.drop k)=if x<L\/y<x\/255<y then false else qe (y+2) (rs.drop (k+1))):=zkd rs k hlt L x y Hn.out
   by_cases h1:x<0
   ·go_wp2;go_ret;exact⟨cU (by rw[HS.out,HD.out,af (by omega)]),fW⟩
   by_cases h2:y<x
   ·go_wp2;go_ret;exact⟨cU (by rw[HS.out,HD.out,af (by omega)]),fW⟩
   by_cases h3:255<y
   ·go_wp2;go_ret;exact⟨cU (by rw[HS.out,HD.out,af (by omega)]),fW⟩
   by_cases tM:k=0
   ·have hL:Hid (L=0):=Hl0.out tM;have hd:decide ((0:Int)<(k:Int))=false:=by simp;omega
    have eQ:decide (0<k)=false:=by simp;omega
    have eU:¬((0:Int)<(k:Int)):=by omega
    have Hk0:Hid (k=0):=tM;clear tM;go_wp2
    go_quiet (fail)
    go_wp2
    go_roundw
    case rel=>exact⟨k+1,by omega,by go_num,y+2,by omega,by omega,λh=>by omega,λj hj=>by rw[show j=k by omega,Hn.out],by show _=_;rw[HS.out,HD.out,ab (by have:=hL.out;omega)],below_drewN fW _,zyy,by simp;omega⟩
    case measure=>simp[intOf];omega
   ·obtain⟨j,rfl⟩:∃j,k=j+1:=⟨k-1,by omega⟩;obtain⟨b',o',x',y',hao,Vv,zk,d0,d1⟩:=hc.elem hb (show j<rs.length by omega);simp only[Option.some.injEq,Addr.mk.injEq,and_true]at hao;obtain⟨rfl,rfl⟩:=hao;have hL:=Hl1.out j rfl;rw[Vv.out]at hL;have QY:Hid (L=y'+2):=hL;have hy1:y'<=255:=by simp only at hL;omega
    have hy0:-2<=y':=by simp only at hL;omega
    clear hL;have hd:(0:Int)<(j:Int)+1:=by omega
    have eM:decide ((0:Int)<(j:Int)+1)=true:=by simp
    have hwj:IntKind.i64.wrap (j:Int)=(j:Int):=by rw[IntKind.wrap_i64];omega
    have hwy:IntKind.i64.wrap (y'+2)=y'+2:=by rw[IntKind.wrap_i64];omega
    have dJ:b<wr.heap.size:=by omega
    have GL:(0:Int)<=(j:Int):=by omega
    have se:(j:Int)<(rs.length:Int):=by omega
    by_cases h4:x<y'+2
    ·go_wp2
     go_quiet (fail)
     go_wp2;go_ret;exact⟨cU (by rw[HS.out,HD.out,af (by have:=QY.out;omega)]),below_drewN fW _⟩
    ·go_wp2
     go_quiet (fail)
     go_wp2
     go_roundw
     case rel=>exact⟨j+1+1,by omega,by go_num,y+2,by omega,by omega,λh=>by omega,λi hi=>by rw[show i=j+1 by omega,Hn.out],by show _=_;rw[HS.out,HD.out,ab (by have:=QY.out;omega)],below_drewN fW _,zyy,by simp;omega⟩
     case measure=>simp[intOf];omega
  ·go_wp2;go_ret;exact⟨cU (by rw[HS.out,Bn (by omega)];rfl),hb⟩
section
variable {lo:Nat}
def kr(v:Value)(w:World)(k mn mx g:Int)(b:Bool):Prop:=
 Calls prog 87 #[.agg #[za .i64 k,v,za .i64 mn,za .i64 mx,za .i64 g]] w λe w'=>e=.returned (.bool b)/\Below w.heap.size w w'
theorem zpe(v:Value)(rs:List (Int×Int))(w:World)(hs:nr lo w v rs):
  (∀mn mx g:Int,(g==0)=false->kr v w 1 mn mx g false)/\
  (∀mn mx:Int,(mn==0)=false->kr v w 1 mn mx 0 false)/\
  (∀mx:Int,(mx==0)=false->kr v w 1 0 mx 0 false)/\
  (∀mn mx g:Int,((rs.length:Int)==0)=false->kr v w 2 mn mx g false)/\
  (∀mn mx g:Int,((rs.length:Int)==0)=true->(g==0)=false->kr v w 2 mn mx g false)/\
  (∀mn mx:Int,((rs.length:Int)==0)=true->(mn==0)=false->kr v w 2 mn mx 0 false)/\
  (∀mx:Int,((rs.length:Int)==0)=true->(mx==0)=false->kr v w 2 0 mx 0 false)/\
  (∀mn mx g:Int,((rs.length:Int)==0)=false->kr v w 3 mn mx g false)/\
  (∀mn mx g:Int,((rs.length:Int)==0)=true->(g==0)=false->kr v w 3 mn mx g false)/\
  (∀mn mx:Int,((rs.length:Int)==0)=true->(mn==0)=false->kr v w 3 mn mx 0 false)/\
  (∀mx:Int,((rs.length:Int)==0)=true->(mx==0)=false->kr v w 3 0 mx 0 false)/\
  (∀mn mx g:Int,((rs.length:Int)==0)=false->kr v w 4 mn mx g false)/\
  (∀mn mx g:Int,((rs.length:Int)==0)=true->(g==0)=false->kr v w 4 mn mx g false)/\
  (∀mn mx g:Int,((rs.length:Int)==0)=false->kr v w 5 mn mx g false)/\
  (∀mn mx g:Int,((rs.length:Int)==0)=true->(mn==0)=false->kr v w 5 mn mx g false)/\
  (∀mx g:Int,((rs.length:Int)==0)=true->(mx==0)=false->kr v w 5 0 mx g false)/\
  (∀mn mx:Int,((rs.length:Int)==0)=true->aG mn 0 255=false->kr v w 4 mn mx 0 false)/\
  (∀mn mx:Int,((rs.length:Int)==0)=true->aG mn 0 255=true->(mx != -1)=true->aG mx mn 255=false->kr v w 4 mn mx 0 false)/\
  (∀k mn mx g:Int,k<1->kr v w k mn mx g false)/\
  (∀k mn mx g:Int,5<k->kr v w k mn mx g false):=by
 obtain⟨ao,cap,rfl,hm,hc⟩:=hs;clear hc;refine⟨?_,?_,?_,?_,?_,?_,?_,?_,?_,?_,?_,?_,?_,?_,?_,?_,?_,?_,?_,?_⟩
 all_goals
  intros
  unfold kr
  go_enter func87,ntmps87
  go_wp2_with (go_at_call 45;refine(ln _ _ _ _).mono ?_;rintro e w' ⟨rfl,rfl⟩)
  all_goals
   go_ret
   exact⟨rfl,ax⟩
theorem zpf(v:Value)(rs:List (Int×Int))(w:World)(hs:nr lo w v rs)(hl:((rs.length:Int)==0)=true):
  (kr v w 2 0 0 0 true)/\
  (kr v w 3 0 0 0 true)/\
  (∀g:Int,kr v w 5 0 0 g true)/\
  (∀mn:Int,aG mn 0 255=true->kr v w 4 mn (-1) 0 true)/\
  (∀mn mx:Int,aG mn 0 255=true->(mx != -1)=true->aG mx mn 255=true->kr v w 4 mn mx 0 true):=by
 obtain⟨ao,cap,rfl,hm,hc⟩:=hs;clear hc;have J6:rs.length=0:=by have:=eq_of_beq hl;omega
 rw[J6];clear hl hm;refine⟨?_,?_,?_,?_,?_⟩
 all_goals
  intros
  unfold kr
  go_enter func87,ntmps87
  go_wp2_with (go_at_call 45;refine(ln _ _ _ _).mono ?_;rintro e w' ⟨rfl,rfl⟩)
  refine wp_loop_rounds 1 ?_;rw[rounds_succ];go_wp2;go_ret;exact⟨rfl,ax⟩
end
theorem zly{lo:Nat}(k mn mx g:Int)(v:Value)(rs:List (Int×Int))(w:World)(hs:nr lo w v rs):
  Calls prog 87 #[.agg #[za .i64 k,v,za .i64 mn,za .i64 mx,za .i64 g]] w λe w'=>e=.returned (.bool (bk ⟨k,rs,mn,mx,g⟩))/\Below w.heap.size w w':=by
 have fin:∀{b:Bool},bk ⟨k,rs,mn,mx,g⟩=b->∀(e:Ending) (w':World),(e=.returned (.bool b)/\Below w.heap.size w w')->(e=.returned (.bool (bk ⟨k,rs,mn,mx,g⟩))/\Below w.heap.size w w'):=by
  intro b hb e w' h;rw[hb];exact h
 obtain⟨zx1,zx5,zx3,zAI,zAE,zAP,zAN,zAJ,zAF,zAQ,zAO,zAK,zAG,zAL,zx6,zx4,zAB,zxZ,zAM,zAH⟩:=zpe v rs w hs
 by_cases ED:k<1
 ·exact(zAM k mn mx g ED).mono (fin (by unfold bk;rw[ab (by simp only;omega),ab (by simp only;omega),ab (by simp only;omega),ab (by simp only;omega)]))
 by_cases zyV:5<k
 ·exact(zAH k mn mx g zyV).mono (fin (by unfold bk;rw[ab (by simp only;omega),ab (by simp only;omega),ab (by simp only;omega),ab (by simp only;omega)]))
 have hk:k=1\/k=2\/k=3\/k=4\/k=5:=by omega
 clear ED zyV
 by_cases hl:((rs.length:Int)==0)=true
 ·obtain⟨zCz,zCA,zzS,zzR,Zd⟩:=zpf v rs w hs hl
  by_cases hg:g=0
  ·subst hg
   by_cases hn:mn=0
   ·by_cases hx:mx=0
    ·subst hn hx;rcases hk with rfl|rfl|rfl|rfl|rfl
     ·exact(zji v rs w hs).mono (fin (by simp[bk]))
     ·exact(zCz).mono (fin (by simp[bk];exact qV (by have:=eq_of_beq hl;omega)))
     ·exact(zCA).mono (fin (by simp[bk];exact qV (by have:=eq_of_beq hl;omega)))
     ·exact(Zd 0 0 (by decide) (by decide) (by decide)).mono (fin (by simp[bk,lz];exact qV (by have:=eq_of_beq hl;omega)))
     ·exact(zzS 0).mono (fin (by simp[bk];exact qV (by have:=eq_of_beq hl;omega)))
    ·subst hn;have EN:(mx==0)=false:=lY.2 hx;rcases hk with rfl|rfl|rfl|rfl|rfl
     ·exact(zx3 mx EN).mono (fin (by simp[bk,hx]))
     ·exact(zAN mx hl EN).mono (fin (by simp[bk,hx]))
     ·exact(zAO mx hl EN).mono (fin (by simp[bk,hx]))
     ·by_cases h1:mx=-1
      ·subst h1;exact(zzR 0 (by decide)).mono (fin (by simp[bk,lz];exact qV (by have:=eq_of_beq hl;omega)))
      ·by_cases h2:aG mx 0 255=true
       ·exact(Zd 0 mx (by decide) (by simp[h1]) h2).mono (fin (by simp[bk,lz,h1]at *;simp[aG]at h2;exact⟨hl,h2⟩))
       ·exact(zxZ 0 mx hl (by decide) (by simp[h1]) (by simpa using h2)).mono (fin (by simp[bk,lz,h1];intro _;simp[aG]at h2;omega))
     ·exact(zx4 mx 0 hl EN).mono (fin (by simp[bk,hx]))
   ·have Cp:(mn==0)=false:=lY.2 hn;rcases hk with rfl|rfl|rfl|rfl|rfl
    ·exact(zx5 mn mx Cp).mono (fin (by simp[bk,hn]))
    ·exact(zAP mn mx hl Cp).mono (fin (by simp[bk,hn]))
    ·exact(zAQ mn mx hl Cp).mono (fin (by simp[bk,hn]))
    ·by_cases h0:aG mn 0 255=true
     ·by_cases h1:mx=-1
      ·subst h1;exact(zzR mn h0).mono (fin (by simp[bk,lz]at *;simp[aG]at h0;exact⟨hl,h0⟩))
      ·by_cases h2:aG mx mn 255=true
       ·exact(Zd mn mx h0 (by simp[h1]) h2).mono (fin (by simp[bk,lz,h1]at *;simp[aG]at h0 h2;exact⟨hl,h0,h2⟩))
       ·exact(zxZ mn mx hl h0 (by simp[h1]) (by simpa using h2)).mono (fin (by simp[bk,lz,h1];intro _ _ _;simp[aG]at h2;omega))
     ·exact(zAB mn mx hl (by simpa using h0)).mono (fin (by simp[bk,lz];simp[aG]at h0;intro _ _;omega))
    ·exact(zx6 mn mx 0 hl Cp).mono (fin (by simp[bk,hn]))
  ·have RB:(g==0)=false:=lY.2 hg;rcases hk with rfl|rfl|rfl|rfl|rfl
   ·exact(zx1 mn mx g RB).mono (fin (by simp[bk,hg]))
   ·exact(zAE mn mx g hl RB).mono (fin (by simp[bk,hg]))
   ·exact(zAF mn mx g hl RB).mono (fin (by simp[bk,hg]))
   ·exact(zAG mn mx g hl RB).mono (fin (by simp[bk,hg]))
   ·by_cases hn:mn=0
    ·subst hn
     by_cases hx:mx=0
     ·subst hx;exact(zzS g).mono (fin (by simp[bk];exact qV (by have:=eq_of_beq hl;omega)))
     ·exact(zx4 mx g hl (lY.2 hx)).mono (fin (by simp[bk,hx]))
    ·exact(zx6 mn mx g hl (lY.2 hn)).mono (fin (by simp[bk,hn]))
 ·have zC:((rs.length:Int)==0)=false:=by simpa using hl
  rcases hk with rfl|rfl|rfl|rfl|rfl
  ·by_cases hg:g=0
   ·subst hg
    by_cases hn:mn=0
    ·subst hn
     by_cases hx:mx=0
     ·subst hx;exact(zji v rs w hs).mono (fin (by simp[bk]))
     ·exact(zx3 mx (lY.2 hx)).mono (fin (by simp[bk,hx]))
    ·exact(zx5 mn mx (lY.2 hn)).mono (fin (by simp[bk,hn]))
   ·exact(zx1 mn mx g (lY.2 hg)).mono (fin (by simp[bk,hg]))
  ·exact(zAI mn mx g zC).mono (fin (by simp[bk,zC]))
  ·exact(zAJ mn mx g zC).mono (fin (by simp[bk,zC]))
  ·exact(zAK mn mx g zC).mono (fin (by simp[bk,zC]))
  ·exact(zAL mn mx g zC).mono (fin (by simp[bk,zC]))
def nV(f:Nat->Bool):Array Value:=((List.range 256).map λc=>Value.bool (f c)).toArray
theorem Oo(f:Nat->Bool):(nV f).size=256:=by simp[nV]
theorem KQ(f:Nat->Bool)(i:Nat)(h:i<256):(nV f)[i]?=some (.bool (f i)):=by simp[nV,h]
theorem S7{f g:Nat->Bool}(h:∀c,c<256->f c=g c):nV f=nV g:=by
 unfold nV;rw[Ak λc hc=>by rw[h c (by simpa using hc)]]
theorem CS(f:Nat->Bool)(i:Nat):(nV f).setIfInBounds i (.bool true)=nV (λc=>f c || c==i):=by
 apply Array.ext_getElem?
 intro j;rw[Array.getElem?_setIfInBounds,Oo]
 by_cases hj:j<256
 ·rw[KQ _ _ hj,KQ _ _ hj]
  by_cases e:i=j
  ·subst e;simp[hj]
  ·have e':(j==i)=false:=by simp;omega
   simp[e,e']
 ·have h1:∀g,(nV g)[j]?=none:=λg=>LF (by rw[Oo];omega)
  rw[h1,h1];split<;>simp_all
def io(f:Nat->Bool)(l k:Nat):Nat->Bool:=λc=>f c || decide (l<=c/\c<k)
theorem CM(f:Nat->Bool)(l k:Nat)(hk:l<=k):nV (λc=>io f l k c || c==k)=nV (io f l (k+1)):=by
 apply S7
 intro c _;unfold io;rw[Bool.or_assoc]
 congr 1
 by_cases e:c=k
 ·subst e;simp[hk]
 ·have e':(c==k)=false:=lY.2 e;rw[e',Bool.or_false,decide_eq_decide];omega
theorem CN(f:Nat->Bool)(l:Nat):nV (io f l l)=nV f:=S7 λc _=>by
 unfold io;have:decide (l<=c/\c<l)=false:=by rw[decide_eq_false_iff_not];omega
 rw[this,Bool.or_false]
def ztH(f:Nat->Bool)(lo hi:Int):Nat->Bool:=λc=>f c || decide (lo<=c/\(c:Int)<=hi)
theorem zi8(f:Nat->Bool)(l k:Nat)(hi:Int)(h:k=l\/(k:Int)<=hi+1)(h2:hi<k):nV (io f l k)=nV (ztH f l hi):=S7 λc _=>by
 unfold io ztH
 congr 1
 rw[decide_eq_decide];omega
end Go.Proofs.YtfajjdgkiilhfaaGreatDoor
