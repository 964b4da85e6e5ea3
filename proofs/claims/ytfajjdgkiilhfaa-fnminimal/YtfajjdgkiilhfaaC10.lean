import Derived.Test.YtfajjdgkiilhfaaC9
import Derived.Deep.Light
import Derived.Deep.QuietTactic
import Derived.BigQuiet
import Derived.Deep.WholeRow
import Derived.Laws.Tables
namespace Go.Proofs.Ytfajjdgkiilhfaa
open Proofs.Try
open Value renaming int->za
set_option maxHeartbeats 4000000
set_option maxRecDepth 100000
open Go.RowKit
def qb:Int->List (Int×Int)->Bool
 |_,[]=>true
 |least,(lo,hi)::r=>if lo<least\/hi<lo\/255<hi then false else qb (hi+2) r
theorem zjo(rs:List (Int×Int))(i:Nat)(hi:i<rs.length)(least a b:Int)(h:rs.getD i (0,0)=(a,b)):
  qb least (rs.drop i)=if a<least\/b<a\/255<b then false else qb (b+2) (rs.drop (i+1)):=by
 rw[JP hi];have:rs[i]=(a,b):=by rw[<-h];simp[List.getD,hi]
 rw[this]
 rfl
def bG(n:aI):Bool:=
 if n.kind=1 then qb 0 n.set&&(n.min==0&&n.max==0)&&n.group==0
 else if n.kind=2\/n.kind=3 then ((n.set.length:Int)==0)&&(n.min==0&&n.max==0)&&n.group==0
 else if n.kind=4 then ((n.set.length:Int)==0)&&ly n.min n.max&&n.group==0
 else if n.kind=5 then ((n.set.length:Int)==0)&&(n.min==0&&n.max==0)
 else false
theorem ziz{lo:Nat}(v:Value)(rs:List (Int×Int))(w:World)(hs:nk lo w v rs):
  Calls prog 76 #[.agg #[za .i64 1,v,za .i64 0,za .i64 0,za .i64 0]] w λe w'=>e=.returned (.bool (qb 0 rs))/\Below w.heap.size w w':=by
 obtain⟨ao,cap,rfl,hm,hc⟩:=hs
 go_enter func76,ntmps76
 go_wp2
 go_loopw [59] (λi wr=>∃k:Nat,k<=rs.length/\i=za .i64 k/\∃L:Int,0<=L/\L<=257/\(k=0->L=0)/\(∀j,k=j+1->L=(rs.getD j (0,0)).2+2)/\Hid (qb 0 rs=qb L (rs.drop k))/\Below w.heap.size w wr/\wr.cell? ⟨w.heap.size,1,none⟩=some (.slice ao rs.length cap)/\w.heap.size<wr.heap.size)
  (λi _=>rs.length-(intOf i).toNat)
 case atStart=>exact⟨0,bH _,rfl,0,by omega,by omega,λ_=>rfl,λj hj=>by omega,rfl,aC,by simp,by simp⟩
 case round=>
  obtain⟨k,hk,rfl,L,hL0,XE,oQ,jQ,HS,hb,Ak,hsz⟩:=hrel;have Hl0:Hid (k=0->L=0):=oQ;have CP:Hid (∀j,k=j+1->L=(rs.getD j (0,0)).2+2):=jQ;clear oQ jQ
  by_cases hlt:k<rs.length
  ·obtain⟨b,o,x,y,rfl,Hn,cQ,c0,c1⟩:=hc.elem hb hlt;have hz:=hb.size;have gP:Below w.heap.size w (wr.alloc (.cells #[za .i64 x,za .i64 y] 127)):=hb.alloc hz _;have zwR:(wr.alloc (.cells #[za .i64 x,za .i64 y] 127)).cell? ⟨w.heap.size,1,none⟩=some (.slice (some ⟨b,o,none⟩) rs.length cap):=(World.cell?_of_block (Below.heap_alloc _ _ _ hsz)).trans Ak;have HD:Hid (qb L (rs.drop k)=if x<L\/y<x\/255<y then false else qb (y+2) (rs.drop (k+1))):=zjo rs k hlt L x y Hn.out
   by_cases h1:x<0
   ·go_wp2;go_ret;exact⟨dD (by rw[HS.out,HD.out,ae (by omega)]),gP⟩
   by_cases h2:y<x
   ·go_wp2;go_ret;exact⟨dD (by rw[HS.out,HD.out,ae (by omega)]),gP⟩
   by_cases h3:255<y
   ·go_wp2;go_ret;exact⟨dD (by rw[HS.out,HD.out,ae (by omega)]),gP⟩
   by_cases tY:k=0
   ·have hL:Hid (L=0):=Hl0.out tY;have hd:decide ((0:Int)<(k:Int))=false:=by simp;omega
    have fF:decide (0<k)=false:=by simp;omega
    have eM:¬((0:Int)<(k:Int)):=by omega
    have Hk0:Hid (k=0):=tY;clear tY;go_wp2
    go_quiet (fail)
    go_wp2
    go_roundw
    case rel=>exact⟨k+1,by omega,by go_num,y+2,by omega,by omega,λh=>by omega,λj hj=>by rw[show j=k by omega,Hn.out],by show _=_;rw[HS.out,HD.out,ab (by have:=hL.out;omega)],below_drewN gP _,zwR,by simp;omega⟩
    case measure=>simp[intOf];omega
   ·obtain⟨j,rfl⟩:∃j,k=j+1:=⟨k-1,by omega⟩;obtain⟨b',o',x',y',hao,VS,Aj,d0,d1⟩:=hc.elem hb (show j<rs.length by omega);simp only[Option.some.injEq,Addr.mk.injEq,and_true]at hao;obtain⟨rfl,rfl⟩:=hao;have hL:=CP.out j rfl;rw[VS.out]at hL;have hL':Hid (L=y'+2):=hL;have hy1:y'<=255:=by simp only at hL;omega
    have hy0:-2<=y':=by simp only at hL;omega
    clear hL;have hd:(0:Int)<(j:Int)+1:=by omega
    have eZ:decide ((0:Int)<(j:Int)+1)=true:=by simp
    have hwj:IntKind.i64.wrap (j:Int)=(j:Int):=by rw[IntKind.wrap_i64];omega
    have hwy:IntKind.i64.wrap (y'+2)=y'+2:=by rw[IntKind.wrap_i64];omega
    have dB:b<wr.heap.size:=by omega
    have Dp:(0:Int)<=(j:Int):=by omega
    have pR:(j:Int)<(rs.length:Int):=by omega
    by_cases h4:x<y'+2
    ·go_wp2
     go_quiet (fail)
     go_wp2;go_ret;exact⟨dD (by rw[HS.out,HD.out,ae (by have:=hL'.out;omega)]),below_drewN gP _⟩
    ·go_wp2
     go_quiet (fail)
     go_wp2
     go_roundw
     case rel=>exact⟨j+1+1,by omega,by go_num,y+2,by omega,by omega,λh=>by omega,λi hi=>by rw[show i=j+1 by omega,Hn.out],by show _=_;rw[HS.out,HD.out,ab (by have:=hL'.out;omega)],below_drewN gP _,zwR,by simp;omega⟩
     case measure=>simp[intOf];omega
  ·go_wp2;go_ret;exact⟨dD (by rw[HS.out,Em (by omega)];rfl),hb⟩
section
variable {lo:Nat}
def kA(v:Value)(w:World)(k mn mx g:Int)(b:Bool):Prop:=
 Calls prog 76 #[.agg #[za .i64 k,v,za .i64 mn,za .i64 mx,za .i64 g]] w λe w'=>e=.returned (.bool b)/\Below w.heap.size w w'
theorem znL(v:Value)(rs:List (Int×Int))(w:World)(hs:nk lo w v rs):
  (∀mn mx g:Int,(g==0)=false->kA v w 1 mn mx g false)/\
  (∀mn mx:Int,(mn==0)=false->kA v w 1 mn mx 0 false)/\
  (∀mx:Int,(mx==0)=false->kA v w 1 0 mx 0 false)/\
  (∀mn mx g:Int,((rs.length:Int)==0)=false->kA v w 2 mn mx g false)/\
  (∀mn mx g:Int,((rs.length:Int)==0)=true->(g==0)=false->kA v w 2 mn mx g false)/\
  (∀mn mx:Int,((rs.length:Int)==0)=true->(mn==0)=false->kA v w 2 mn mx 0 false)/\
  (∀mx:Int,((rs.length:Int)==0)=true->(mx==0)=false->kA v w 2 0 mx 0 false)/\
  (∀mn mx g:Int,((rs.length:Int)==0)=false->kA v w 3 mn mx g false)/\
  (∀mn mx g:Int,((rs.length:Int)==0)=true->(g==0)=false->kA v w 3 mn mx g false)/\
  (∀mn mx:Int,((rs.length:Int)==0)=true->(mn==0)=false->kA v w 3 mn mx 0 false)/\
  (∀mx:Int,((rs.length:Int)==0)=true->(mx==0)=false->kA v w 3 0 mx 0 false)/\
  (∀mn mx g:Int,((rs.length:Int)==0)=false->kA v w 4 mn mx g false)/\
  (∀mn mx g:Int,((rs.length:Int)==0)=true->(g==0)=false->kA v w 4 mn mx g false)/\
  (∀mn mx g:Int,((rs.length:Int)==0)=false->kA v w 5 mn mx g false)/\
  (∀mn mx g:Int,((rs.length:Int)==0)=true->(mn==0)=false->kA v w 5 mn mx g false)/\
  (∀mx g:Int,((rs.length:Int)==0)=true->(mx==0)=false->kA v w 5 0 mx g false)/\
  (∀mn mx:Int,((rs.length:Int)==0)=true->aT mn 0 255=false->kA v w 4 mn mx 0 false)/\
  (∀mn mx:Int,((rs.length:Int)==0)=true->aT mn 0 255=true->(mx != -1)=true->aT mx mn 255=false->kA v w 4 mn mx 0 false)/\
  (∀k mn mx g:Int,k<1->kA v w k mn mx g false)/\
  (∀k mn mx g:Int,5<k->kA v w k mn mx g false):=by
 obtain⟨ao,cap,rfl,hm,hc⟩:=hs;clear hc;refine⟨?_,?_,?_,?_,?_,?_,?_,?_,?_,?_,?_,?_,?_,?_,?_,?_,?_,?_,?_,?_⟩
 all_goals
  intros
  unfold kA
  go_enter func76,ntmps76
  go_wp2_with (go_at_call 12;refine(lp _ _ _ _).mono ?_;rintro e w' ⟨rfl,rfl⟩)
  all_goals
   go_ret
   exact⟨rfl,aC⟩
theorem znM(v:Value)(rs:List (Int×Int))(w:World)(hs:nk lo w v rs)(hl:((rs.length:Int)==0)=true):
  (kA v w 2 0 0 0 true)/\
  (kA v w 3 0 0 0 true)/\
  (∀g:Int,kA v w 5 0 0 g true)/\
  (∀mn:Int,aT mn 0 255=true->kA v w 4 mn (-1) 0 true)/\
  (∀mn mx:Int,aT mn 0 255=true->(mx != -1)=true->aT mx mn 255=true->kA v w 4 mn mx 0 true):=by
 obtain⟨ao,cap,rfl,hm,hc⟩:=hs;clear hc;have sD:rs.length=0:=by have:=eq_of_beq hl;omega
 rw[sD];clear hl hm;refine⟨?_,?_,?_,?_,?_⟩
 all_goals
  intros
  unfold kA
  go_enter func76,ntmps76
  go_wp2_with (go_at_call 12;refine(lp _ _ _ _).mono ?_;rintro e w' ⟨rfl,rfl⟩)
  refine wp_loop_rounds 1 ?_;rw[rounds_succ];go_wp2;go_ret;exact⟨rfl,aC⟩
end
theorem zku{lo:Nat}(k mn mx g:Int)(v:Value)(rs:List (Int×Int))(w:World)(hs:nk lo w v rs):
  Calls prog 76 #[.agg #[za .i64 k,v,za .i64 mn,za .i64 mx,za .i64 g]] w λe w'=>e=.returned (.bool (bG ⟨k,rs,mn,mx,g⟩))/\Below w.heap.size w w':=by
 have fin:∀{b:Bool},bG ⟨k,rs,mn,mx,g⟩=b->∀(e:Ending) (w':World),(e=.returned (.bool b)/\Below w.heap.size w w')->(e=.returned (.bool (bG ⟨k,rs,mn,mx,g⟩))/\Below w.heap.size w w'):=by
  intro b hb e w' h;rw[hb];exact h
 obtain⟨zwc,zwg,zwe,zzo,zzk,zzv,zzt,zzp,zzl,zzw,zzu,zzq,zzm,zzr,zwh,zwf,zzh,zwa,zzs,zzn⟩:=znL v rs w hs
 by_cases FE:k<1
 ·exact(zzs k mn mx g FE).mono (fin (by unfold bG;rw[ab (by simp only;omega),ab (by simp only;omega),ab (by simp only;omega),ab (by simp only;omega)]))
 by_cases zxi:5<k
 ·exact(zzn k mn mx g zxi).mono (fin (by unfold bG;rw[ab (by simp only;omega),ab (by simp only;omega),ab (by simp only;omega),ab (by simp only;omega)]))
 have hk:k=1\/k=2\/k=3\/k=4\/k=5:=by omega
 clear FE zxi
 by_cases hl:((rs.length:Int)==0)=true
 ·obtain⟨zBr,zBs,zys,zyr,zvC⟩:=znM v rs w hs hl
  by_cases hg:g=0
  ·subst hg
   by_cases hn:mn=0
   ·by_cases hx:mx=0
    ·subst hn hx;rcases hk with rfl|rfl|rfl|rfl|rfl
     ·exact(ziz v rs w hs).mono (fin (by simp[bG]))
     ·exact(zBr).mono (fin (by simp[bG];exact qj (by have:=eq_of_beq hl;omega)))
     ·exact(zBs).mono (fin (by simp[bG];exact qj (by have:=eq_of_beq hl;omega)))
     ·exact(zvC 0 0 (by decide) (by decide) (by decide)).mono (fin (by simp[bG,ly];exact qj (by have:=eq_of_beq hl;omega)))
     ·exact(zys 0).mono (fin (by simp[bG];exact qj (by have:=eq_of_beq hl;omega)))
    ·subst hn;have FO:(mx==0)=false:=lX.2 hx;rcases hk with rfl|rfl|rfl|rfl|rfl
     ·exact(zwe mx FO).mono (fin (by simp[bG,hx]))
     ·exact(zzt mx hl FO).mono (fin (by simp[bG,hx]))
     ·exact(zzu mx hl FO).mono (fin (by simp[bG,hx]))
     ·by_cases h1:mx=-1
      ·subst h1;exact(zyr 0 (by decide)).mono (fin (by simp[bG,ly];exact qj (by have:=eq_of_beq hl;omega)))
      ·by_cases h2:aT mx 0 255=true
       ·exact(zvC 0 mx (by decide) (by simp[h1]) h2).mono (fin (by simp[bG,ly,h1]at *;simp[aT]at h2;exact⟨hl,h2⟩))
       ·exact(zwa 0 mx hl (by decide) (by simp[h1]) (by simpa using h2)).mono (fin (by simp[bG,ly,h1];intro _;simp[aT]at h2;omega))
     ·exact(zwf mx 0 hl FO).mono (fin (by simp[bG,hx]))
   ·have AC:(mn==0)=false:=lX.2 hn;rcases hk with rfl|rfl|rfl|rfl|rfl
    ·exact(zwg mn mx AC).mono (fin (by simp[bG,hn]))
    ·exact(zzv mn mx hl AC).mono (fin (by simp[bG,hn]))
    ·exact(zzw mn mx hl AC).mono (fin (by simp[bG,hn]))
    ·by_cases h0:aT mn 0 255=true
     ·by_cases h1:mx=-1
      ·subst h1;exact(zyr mn h0).mono (fin (by simp[bG,ly]at *;simp[aT]at h0;exact⟨hl,h0⟩))
      ·by_cases h2:aT mx mn 255=true
       ·exact(zvC mn mx h0 (by simp[h1]) h2).mono (fin (by simp[bG,ly,h1]at *;simp[aT]at h0 h2;exact⟨hl,h0,h2⟩))
       ·exact(zwa mn mx hl h0 (by simp[h1]) (by simpa using h2)).mono (fin (by simp[bG,ly,h1];intro _ _ _;simp[aT]at h2;omega))
     ·exact(zzh mn mx hl (by simpa using h0)).mono (fin (by simp[bG,ly];simp[aT]at h0;intro _ _;omega))
    ·exact(zwh mn mx 0 hl AC).mono (fin (by simp[bG,hn]))
  ·have SA:(g==0)=false:=lX.2 hg;rcases hk with rfl|rfl|rfl|rfl|rfl
   ·exact(zwc mn mx g SA).mono (fin (by simp[bG,hg]))
   ·exact(zzk mn mx g hl SA).mono (fin (by simp[bG,hg]))
   ·exact(zzl mn mx g hl SA).mono (fin (by simp[bG,hg]))
   ·exact(zzm mn mx g hl SA).mono (fin (by simp[bG,hg]))
   ·by_cases hn:mn=0
    ·subst hn
     by_cases hx:mx=0
     ·subst hx;exact(zys g).mono (fin (by simp[bG];exact qj (by have:=eq_of_beq hl;omega)))
     ·exact(zwf mx g hl (lX.2 hx)).mono (fin (by simp[bG,hx]))
    ·exact(zwh mn mx g hl (lX.2 hn)).mono (fin (by simp[bG,hn]))
 ·have AA:((rs.length:Int)==0)=false:=by simpa using hl
  rcases hk with rfl|rfl|rfl|rfl|rfl
  ·by_cases hg:g=0
   ·subst hg
    by_cases hn:mn=0
    ·subst hn
     by_cases hx:mx=0
     ·subst hx;exact(ziz v rs w hs).mono (fin (by simp[bG]))
     ·exact(zwe mx (lX.2 hx)).mono (fin (by simp[bG,hx]))
    ·exact(zwg mn mx (lX.2 hn)).mono (fin (by simp[bG,hn]))
   ·exact(zwc mn mx g (lX.2 hg)).mono (fin (by simp[bG,hg]))
  ·exact(zzo mn mx g AA).mono (fin (by simp[bG,AA]))
  ·exact(zzp mn mx g AA).mono (fin (by simp[bG,AA]))
  ·exact(zzq mn mx g AA).mono (fin (by simp[bG,AA]))
  ·exact(zzr mn mx g AA).mono (fin (by simp[bG,AA]))
def nV(f:Nat->Bool):Array Value:=((List.range 256).map λc=>Value.bool (f c)).toArray
theorem PG(f:Nat->Bool):(nV f).size=256:=by simp[nV]
theorem LW(f:Nat->Bool)(i:Nat)(h:i<256):(nV f)[i]?=some (.bool (f i)):=by simp[nV,h]
theorem TB{f g:Nat->Bool}(h:∀c,c<256->f c=g c):nV f=nV g:=by
 unfold nV;rw[uB λc hc=>by rw[h c (by simpa using hc)]]
theorem DW(f:Nat->Bool)(i:Nat):(nV f).setIfInBounds i (.bool true)=nV (λc=>f c || c==i):=by
 apply Gu
 intro j;rw[Qw,PG]
 by_cases hj:j<256
 ·rw[LW _ _ hj,LW _ _ hj]
  by_cases e:i=j
  ·subst e;simp[hj]
  ·have e':(j==i)=false:=by simp;omega
   simp[e,e']
 ·have h1:∀g,(nV g)[j]?=none:=λg=>zr (by rw[PG];omega)
  rw[h1,h1];split<;>simp_all
def ir(f:Nat->Bool)(l k:Nat):Nat->Bool:=λc=>f c || decide (l<=c/\c<k)
theorem DR(f:Nat->Bool)(l k:Nat)(hk:l<=k):nV (λc=>ir f l k c || c==k)=nV (ir f l (k+1)):=by
 apply TB
 intro c _;unfold ir;rw[Bool.or_assoc]
 congr 1
 by_cases e:c=k
 ·subst e;simp[hk]
 ·have e':(c==k)=false:=lX.2 e;rw[e',Bool.or_false,decide_eq_decide];omega
theorem DT(f:Nat->Bool)(l:Nat):nV (ir f l l)=nV f:=TB λc _=>by
 unfold ir;have:decide (l<=c/\c<l)=false:=by rw[decide_eq_false_iff_not];omega
 rw[this,Bool.or_false]
def zrR(f:Nat->Bool)(lo hi:Int):Nat->Bool:=λc=>f c || decide (lo<=c/\(c:Int)<=hi)
theorem zim(f:Nat->Bool)(l k:Nat)(hi:Int)(h:k=l\/(k:Int)<=hi+1)(h2:hi<k):nV (ir f l k)=nV (zrR f l hi):=TB λc _=>by
 unfold ir zrR
 congr 1
 rw[decide_eq_decide];omega
end Go.Proofs.Ytfajjdgkiilhfaa
