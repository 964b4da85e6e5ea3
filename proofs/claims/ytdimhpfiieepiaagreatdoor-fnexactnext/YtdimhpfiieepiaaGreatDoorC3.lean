import Derived.Test.YtdimhpfiieepiaaGreatDoorC2
import Derived.Deep.QuietTactic
import Derived.BigQuiet
import Derived.Deep.WholeRow
import Derived.Laws.Tables
namespace Go.Proofs.YtdimhpfiieepiaaGreatDoor
open Proofs.Tryz
open Value renaming int->za,agg->ze
open RowKit renaming Hid->zb,Below->zd
open Obj renaming cells->zc
open Go renaming World->zf,Value->zg,Calls->zh
set_option maxHeartbeats 4000000
set_option maxRecDepth 100000
open Go.RowKit
theorem zh4{lo:Nat}(v:zg)(rs:List (Int×Int))(w:zf)(hs:dD lo w v rs):
  zh prog 110 #[ze #[za .i64 1,v,za .i64 0,za .i64 0,za .i64 0]] w λe w'=>e=.returned (.bool (ny 0 rs))/\zd w.heap.size w w':=by
 obtain⟨ao,cap,rfl,hm,hc⟩:=hs
 go_enter func110,ntmps110
 go_wp2
 go_loopw [59] (λi wr=>∃k:Nat,k<=rs.length/\i=za .i64 k/\∃L:Int,0<=L/\L<=257/\(k=0->L=0)/\(∀j,k=j+1->L=(rs.getD j (0,0)).2+2)/\zb (ny 0 rs=ny L (rs.drop k))/\zd w.heap.size w wr/\wr.cell? ⟨w.heap.size,1,none⟩=some (.slice ao rs.length cap)/\w.heap.size<wr.heap.size)
  (λi _=>rs.length-(intOf i).toNat)
 case atStart=>exact⟨0,aZ _,rfl,0,by omega,by omega,λ_=>rfl,λj hj=>by omega,rfl,au,by simp,by simp⟩
 case round=>
  obtain⟨k,hk,rfl,L,uw,mO,XF,XG,HS,hb,gU,hsz⟩:=hrel;have Hl0:zb (k=0->L=0):=XF;have Hl1:zb (∀j,k=j+1->L=(rs.getD j (0,0)).2+2):=XG;clear XF XG
  by_cases hlt:k<rs.length
  ·obtain⟨b,o,x,y,rfl,Hn,bu,c0,c1⟩:=hc.elem hb hlt;have hz:=hb.size;have bB:zd w.heap.size w (wr.alloc (zc #[za .i64 x,za .i64 y] 211)):=hb.alloc hz _;have NY:(wr.alloc (zc #[za .i64 x,za .i64 y] 211)).cell? ⟨w.heap.size,1,none⟩=some (.slice (some ⟨b,o,none⟩) rs.length cap):=(World.cell?_of_block (Below.heap_alloc _ _ _ hsz)).trans gU;have HD:zb (ny L (rs.drop k)=if x<L\/y<x\/255<y then false else ny (y+2) (rs.drop (k+1))):=zfa rs k hlt L x y Hn.out
   by_cases h1:x<0
   ·go_wp2;go_ret;exact⟨bF (by rw[HS.out,HD.out,aD (by omega)]),bB⟩
   by_cases h2:y<x
   ·go_wp2;go_ret;exact⟨bF (by rw[HS.out,HD.out,aD (by omega)]),bB⟩
   by_cases h3:255<y
   ·go_wp2;go_ret;exact⟨bF (by rw[HS.out,HD.out,aD (by omega)]),bB⟩
   by_cases il:k=0
   ·have hL:zb (L=0):=Hl0.out il;have hd:decide ((0:Int)<(k:Int))=false:=by simp;omega
    have lz:decide (0<k)=false:=by simp;omega
    have AB:¬((0:Int)<(k:Int)):=by omega
    have Jb:zb (k=0):=il;clear il;go_wp2
    go_quiet (fail)
    go_wp2
    go_roundw
    case rel=>exact⟨k+1,by omega,by go_num,y+2,by omega,by omega,λh=>by omega,λj hj=>by rw[show j=k by omega,Hn.out],by show _=_;rw[HS.out,HD.out,aq (by have:=hL.out;omega)],below_drewN bB _,NY,by simp;omega⟩
    case measure=>simp[intOf];omega
   ·obtain⟨j,rfl⟩:∃j,k=j+1:=⟨k-1,by omega⟩;obtain⟨b',o',x',y',NM,Hn',zzS,d0,d1⟩:=hc.elem hb (show j<rs.length by omega);simp only[Option.some.injEq,Addr.mk.injEq,and_true]at NM;obtain⟨rfl,rfl⟩:=NM;have hL:=Hl1.out j rfl;rw[Hn'.out]at hL;have ZU:zb (L=y'+2):=hL;have kW:y'<=255:=by simp only at hL;omega
    have qB:-2<=y':=by simp only at hL;omega
    clear hL;have hd:(0:Int)<(j:Int)+1:=by omega
    have oV:decide ((0:Int)<(j:Int)+1)=true:=by simp
    have hwj:IntKind.i64.wrap (j:Int)=(j:Int):=by rw[IntKind.wrap_i64];omega
    have hwy:IntKind.i64.wrap (y'+2)=y'+2:=by rw[IntKind.wrap_i64];omega
    have aB:b<wr.heap.size:=by omega
    have hj0:(0:Int)<=(j:Int):=by omega
    have Eh:(j:Int)<(rs.length:Int):=by omega
    by_cases h4:x<y'+2
    ·go_wp2
     go_quiet (fail)
     go_wp2;go_ret;exact⟨bF (by rw[HS.out,HD.out,aD (by have:=ZU.out;omega)]),below_drewN bB _⟩
    ·go_wp2
     go_quiet (fail)
     go_wp2
     go_roundw
     case rel=>exact⟨j+1+1,by omega,by go_num,y+2,by omega,by omega,λh=>by omega,λi hi=>by rw[show i=j+1 by omega,Hn.out],by show _=_;rw[HS.out,HD.out,aq (by have:=ZU.out;omega)],below_drewN bB _,NY,by simp;omega⟩
     case measure=>simp[intOf];omega
  ·go_wp2;go_ret;exact⟨bF (by rw[HS.out,sA (by omega)];rfl),hb⟩
section
variable {lo:Nat}
def jn(v:zg)(w:zf)(k mn mx g:Int)(b:Bool):Prop:=
 zh prog 110 #[ze #[za .i64 k,v,za .i64 mn,za .i64 mx,za .i64 g]] w λe w'=>e=.returned (.bool b)/\zd w.heap.size w w'
theorem znF(v:zg)(rs:List (Int×Int))(w:zf)(hs:dD lo w v rs):
  (∀mn mx g:Int,(g==0)=false->jn v w 1 mn mx g false)/\
  (∀mn mx:Int,(mn==0)=false->jn v w 1 mn mx 0 false)/\
  (∀mx:Int,(mx==0)=false->jn v w 1 0 mx 0 false)/\
  (∀mn mx g:Int,((rs.length:Int)==0)=false->jn v w 2 mn mx g false)/\
  (∀mn mx g:Int,((rs.length:Int)==0)=true->(g==0)=false->jn v w 2 mn mx g false)/\
  (∀mn mx:Int,((rs.length:Int)==0)=true->(mn==0)=false->jn v w 2 mn mx 0 false)/\
  (∀mx:Int,((rs.length:Int)==0)=true->(mx==0)=false->jn v w 2 0 mx 0 false)/\
  (∀mn mx g:Int,((rs.length:Int)==0)=false->jn v w 3 mn mx g false)/\
  (∀mn mx g:Int,((rs.length:Int)==0)=true->(g==0)=false->jn v w 3 mn mx g false)/\
  (∀mn mx:Int,((rs.length:Int)==0)=true->(mn==0)=false->jn v w 3 mn mx 0 false)/\
  (∀mx:Int,((rs.length:Int)==0)=true->(mx==0)=false->jn v w 3 0 mx 0 false)/\
  (∀mn mx g:Int,((rs.length:Int)==0)=false->jn v w 4 mn mx g false)/\
  (∀mn mx g:Int,((rs.length:Int)==0)=true->(g==0)=false->jn v w 4 mn mx g false)/\
  (∀mn mx g:Int,((rs.length:Int)==0)=false->jn v w 5 mn mx g false)/\
  (∀mn mx g:Int,((rs.length:Int)==0)=true->(mn==0)=false->jn v w 5 mn mx g false)/\
  (∀mx g:Int,((rs.length:Int)==0)=true->(mx==0)=false->jn v w 5 0 mx g false)/\
  (∀mn mx:Int,((rs.length:Int)==0)=true->cz mn 0 255=false->jn v w 4 mn mx 0 false)/\
  (∀mn mx:Int,((rs.length:Int)==0)=true->cz mn 0 255=true->(mx != -1)=true->cz mx mn 255=false->jn v w 4 mn mx 0 false)/\
  (∀k mn mx g:Int,k<1->jn v w k mn mx g false)/\
  (∀k mn mx g:Int,5<k->jn v w k mn mx g false):=by
 obtain⟨ao,cap,rfl,hm,hc⟩:=hs;clear hc;refine⟨?_,?_,?_,?_,?_,?_,?_,?_,?_,?_,?_,?_,?_,?_,?_,?_,?_,?_,?_,?_⟩
 all_goals
  intros
  unfold jn
  go_enter func110,ntmps110
  go_wp2_with (go_at_call 47;refine(tO _ _ _ _).mono ?_;rintro e w' ⟨rfl,rfl⟩)
  all_goals
   go_ret
   exact⟨rfl,au⟩
theorem znG(v:zg)(rs:List (Int×Int))(w:zf)(hs:dD lo w v rs)(hl:((rs.length:Int)==0)=true):
  (jn v w 2 0 0 0 true)/\
  (jn v w 3 0 0 0 true)/\
  (∀g:Int,jn v w 5 0 0 g true)/\
  (∀mn:Int,cz mn 0 255=true->jn v w 4 mn (-1) 0 true)/\
  (∀mn mx:Int,cz mn 0 255=true->(mx != -1)=true->cz mx mn 255=true->jn v w 4 mn mx 0 true):=by
 obtain⟨ao,cap,rfl,hm,hc⟩:=hs;clear hc;have lD:rs.length=0:=by have:=eq_of_beq hl;omega
 rw[lD];clear hl hm;refine⟨?_,?_,?_,?_,?_⟩
 all_goals
  intros
  unfold jn
  go_enter func110,ntmps110
  go_wp2_with (go_at_call 47;refine(tO _ _ _ _).mono ?_;rintro e w' ⟨rfl,rfl⟩)
  refine wp_loop_rounds 1 ?_;rw[rounds_succ];go_wp2;go_ret;exact⟨rfl,au⟩
end
theorem zj9{lo:Nat}(k mn mx g:Int)(v:zg)(rs:List (Int×Int))(w:zf)(hs:dD lo w v rs):
  zh prog 110 #[ze #[za .i64 k,v,za .i64 mn,za .i64 mx,za .i64 g]] w λe w'=>e=.returned (.bool (aX ⟨k,rs,mn,mx,g⟩))/\zd w.heap.size w w':=by
 have fin:∀{b:Bool},aX ⟨k,rs,mn,mx,g⟩=b->∀(e:Ending) (w':zf),(e=.returned (.bool b)/\zd w.heap.size w w')->(e=.returned (.bool (aX ⟨k,rs,mn,mx,g⟩))/\zd w.heap.size w w'):=by
  intro b hb e w' h;rw[hb];exact h
 obtain⟨Y9,Zc,Za,zxu,zxp,zxB,zxz,zxv,zxq,zxC,zxA,zxw,zxr,zxx,Zd,Zb,zxn,Y7,zxy,zxs⟩:=znF v rs w hs
 by_cases oX:k<1
 ·exact(zxy k mn mx g oX).mono (fin (by unfold aX;rw[aq (by simp only;omega),aq (by simp only;omega),aq (by simp only;omega),aq (by simp only;omega)]))
 by_cases xk:5<k
 ·exact(zxs k mn mx g xk).mono (fin (by unfold aX;rw[aq (by simp only;omega),aq (by simp only;omega),aq (by simp only;omega),aq (by simp only;omega)]))
 have hk:k=1\/k=2\/k=3\/k=4\/k=5:=by omega
 clear oX xk
 by_cases hl:((rs.length:Int)==0)=true
 ·obtain⟨zzx,zzy,zwU,zwT,UI⟩:=znG v rs w hs hl
  by_cases hg:g=0
  ·subst hg
   by_cases hn:mn=0
   ·by_cases hx:mx=0
    ·subst hn hx;rcases hk with rfl|rfl|rfl|rfl|rfl
     ·exact(zh4 v rs w hs).mono (fin (by simp[aX]))
     ·exact(zzx).mono (fin (by simp[aX];exact Bu (by have:=eq_of_beq hl;omega)))
     ·exact(zzy).mono (fin (by simp[aX];exact Bu (by have:=eq_of_beq hl;omega)))
     ·exact(UI 0 0 (by decide) (by decide) (by decide)).mono (fin (by simp[aX,eK];exact Bu (by have:=eq_of_beq hl;omega)))
     ·exact(zwU 0).mono (fin (by simp[aX];exact Bu (by have:=eq_of_beq hl;omega)))
    ·subst hn;have tz:(mx==0)=false:=eu.2 hx;rcases hk with rfl|rfl|rfl|rfl|rfl
     ·exact(Za mx tz).mono (fin (by simp[aX,hx]))
     ·exact(zxz mx hl tz).mono (fin (by simp[aX,hx]))
     ·exact(zxA mx hl tz).mono (fin (by simp[aX,hx]))
     ·by_cases h1:mx=-1
      ·subst h1;exact(zwT 0 (by decide)).mono (fin (by simp[aX,eK];exact Bu (by have:=eq_of_beq hl;omega)))
      ·by_cases h2:cz mx 0 255=true
       ·exact(UI 0 mx (by decide) (by simp[h1]) h2).mono (fin (by simp[aX,eK,h1]at *;simp[cz]at h2;exact⟨hl,h2⟩))
       ·exact(Y7 0 mx hl (by decide) (by simp[h1]) (by simpa using h2)).mono (fin (by simp[aX,eK,h1];intro _;simp[cz]at h2;omega))
     ·exact(Zb mx 0 hl tz).mono (fin (by simp[aX,hx]))
   ·have jO:(mn==0)=false:=eu.2 hn;rcases hk with rfl|rfl|rfl|rfl|rfl
    ·exact(Zc mn mx jO).mono (fin (by simp[aX,hn]))
    ·exact(zxB mn mx hl jO).mono (fin (by simp[aX,hn]))
    ·exact(zxC mn mx hl jO).mono (fin (by simp[aX,hn]))
    ·by_cases h0:cz mn 0 255=true
     ·by_cases h1:mx=-1
      ·subst h1;exact(zwT mn h0).mono (fin (by simp[aX,eK]at *;simp[cz]at h0;exact⟨hl,h0⟩))
      ·by_cases h2:cz mx mn 255=true
       ·exact(UI mn mx h0 (by simp[h1]) h2).mono (fin (by simp[aX,eK,h1]at *;simp[cz]at h0 h2;exact⟨hl,h0,h2⟩))
       ·exact(Y7 mn mx hl h0 (by simp[h1]) (by simpa using h2)).mono (fin (by simp[aX,eK,h1];intro _ _ _;simp[cz]at h2;omega))
     ·exact(zxn mn mx hl (by simpa using h0)).mono (fin (by simp[aX,eK];simp[cz]at h0;intro _ _;omega))
    ·exact(Zd mn mx 0 hl jO).mono (fin (by simp[aX,hn]))
  ·have cY:(g==0)=false:=eu.2 hg;rcases hk with rfl|rfl|rfl|rfl|rfl
   ·exact(Y9 mn mx g cY).mono (fin (by simp[aX,hg]))
   ·exact(zxp mn mx g hl cY).mono (fin (by simp[aX,hg]))
   ·exact(zxq mn mx g hl cY).mono (fin (by simp[aX,hg]))
   ·exact(zxr mn mx g hl cY).mono (fin (by simp[aX,hg]))
   ·by_cases hn:mn=0
    ·subst hn
     by_cases hx:mx=0
     ·subst hx;exact(zwU g).mono (fin (by simp[aX];exact Bu (by have:=eq_of_beq hl;omega)))
     ·exact(Zb mx g hl (eu.2 hx)).mono (fin (by simp[aX,hx]))
    ·exact(Zd mn mx g hl (eu.2 hn)).mono (fin (by simp[aX,hn]))
 ·have uC:((rs.length:Int)==0)=false:=by simpa using hl
  rcases hk with rfl|rfl|rfl|rfl|rfl
  ·by_cases hg:g=0
   ·subst hg
    by_cases hn:mn=0
    ·subst hn
     by_cases hx:mx=0
     ·subst hx;exact(zh4 v rs w hs).mono (fin (by simp[aX]))
     ·exact(Za mx (eu.2 hx)).mono (fin (by simp[aX,hx]))
    ·exact(Zc mn mx (eu.2 hn)).mono (fin (by simp[aX,hn]))
   ·exact(Y9 mn mx g (eu.2 hg)).mono (fin (by simp[aX,hg]))
  ·exact(zxu mn mx g uC).mono (fin (by simp[aX,uC]))
  ·exact(zxv mn mx g uC).mono (fin (by simp[aX,uC]))
  ·exact(zxw mn mx g uC).mono (fin (by simp[aX,uC]))
  ·exact(zxx mn mx g uC).mono (fin (by simp[aX,uC]))
def dv(f:Nat->Bool):Array zg:=((List.range 256).map λc=>Value.bool (f c)).toArray
theorem mE(f:Nat->Bool):(dv f).size=256:=by simp[dv]
theorem O4(f:Nat->Bool)(i:Nat)(h:i<256):(dv f)[i]?=some (.bool (f i)):=by simp[dv,h]
theorem Vb{f g:Nat->Bool}(h:∀c,c<256->f c=g c):dv f=dv g:=by
 unfold dv;rw[Bo λc hc=>by rw[h c (by simpa using hc)]]
theorem zj1(f:Nat->Bool)(i:Nat):(dv f).setIfInBounds i (.bool true)=dv (λc=>f c || c==i):=by
 apply Array.ext_getElem?
 intro j;rw[Array.getElem?_setIfInBounds,mE]
 by_cases hj:j<256
 ·rw[O4 _ _ hj,O4 _ _ hj]
  by_cases e:i=j
  ·subst e;simp[hj]
  ·have e':(j==i)=false:=by simp;omega
   simp[e,e']
 ·have h1:∀g,(dv g)[j]?=none:=λg=>Ms (by rw[mE];omega)
  rw[h1,h1];split<;>simp_all
theorem LH(f:Nat->Bool):(dv f).all (·.oneCell')=true:=by
 simp[dv,Value.oneCell']
def xQ(f:Nat->Bool)(l k:Nat):Nat->Bool:=λc=>f c || decide (l<=c/\c<k)
theorem zll(f:Nat->Bool)(l k:Nat)(hk:l<=k):dv (λc=>xQ f l k c || c==k)=dv (xQ f l (k+1)):=by
 apply Vb
 intro c _;unfold xQ;rw[Bool.or_assoc]
 congr 1
 by_cases e:c=k
 ·subst e;simp[hk]
 ·have e':(c==k)=false:=eu.2 e;rw[e',Bool.or_false,decide_eq_decide];omega
theorem zlm(f:Nat->Bool)(l:Nat):dv (xQ f l l)=dv f:=Vb λc _=>by
 unfold xQ;have:decide (l<=c/\c<l)=false:=by rw[decide_eq_false_iff_not];omega
 rw[this,Bool.or_false]
def Fs(f:Nat->Bool)(lo hi:Int):Nat->Bool:=λc=>f c || decide (lo<=c/\(c:Int)<=hi)
theorem znp(f:Nat->Bool)(l k:Nat)(hi:Int)(h:k=l\/(k:Int)<=hi+1)(h2:hi<k):dv (xQ f l k)=dv (Fs f l hi):=Vb λc _=>by
 unfold xQ Fs
 congr 1
 rw[decide_eq_decide];omega
theorem Tryz.Iu:(prog.info? 293).map (λi=>(i.zero,i.size))=some (some (ze (dv λ_=>false)),256):=by kernel_rfl
theorem zti(f:Nat->Bool)(lo hi:Int)(w:zf)(h0:0<=lo)(h1:hi<=255):
  zh prog 199 #[ze (dv f),za .i64 lo,za .i64 hi] w λe w'=>e=.returned (ze (dv (Fs f lo hi)))/\zd w.heap.size w w':=by
 obtain⟨l,rfl⟩:=Int.eq_ofNat_of_zero_le h0;have T8:=(zero_of_info Tryz.Iu).1;have vX:zb _:=(zero_of_info Tryz.Iu).2
 go_enter func199,ntmps199
 go_wp2
 go_loopw [7] (λi wr=>∃k:Nat,l<=k/\(k=l\/(k:Int)<=hi+1)/\i=za .i64 k/\zd w.heap.size w wr/\wr.heap[w.heap.size]?=some (zc (dv (xQ f l k)) 293 (0,0))/\wr.heap[w.heap.size+1]?=some (zc (dv λ_=>false) 293 (0,0))/\w.heap.size+1<wr.heap.size)
  (λi _=>(hi+1-intOf i).toNat)
 case atStart=>exact⟨l,ai _,.inl rfl,rfl,(au).alloc (by simp) _,by rw[heap_alloc2_old,zlm],heap_alloc2_new _ _ _,by simp⟩
 case round=>
  obtain⟨k,hk,iA,rfl,hb,de,eH,hsz⟩:=hrel
  by_cases hlt:(k:Int)<=hi
  ·have nW:k<256:=by omega
   have c0:wr.cell? ⟨w.heap.size,k,none⟩=some (.bool (xQ f l k k)):=by rw[aO _ _ _ _ _ _ de,O4 _ _ nW]
   have f0:wr.frozen? ⟨w.heap.size,k,none⟩=false:=cF _ _ _ _ _ de;generalize xQ f l k k=old at c0;have H0:zb _:=de;have H1:zb _:=eH;clear de eH;go_wp2
   go_roundw
   case rel=>exact⟨k+1,by omega,by omega,by go_num,hb.setCell (by simp) _,by rw[dF _ _ _ _ _ _ H0.out,zj1,zll _ _ _ hk],by rw[cu _ _ _ _ (by simp)];exact H1.out,by simpa [World.setCell]using hsz⟩
   case measure=>simp[intOf];omega
  ·have H0:zb _:=de;have H1:zb _:=eH;clear de eH
   go_wp2_with (first|(refine wpList_load_row rfl 293 (.tmp 3) rfl w.heap.size rfl 293 _ (0,0) _ H0.out underlying293 rfl (by rw[mE];exact vX.out) ?_)|(refine wpList_store_row rfl 293 (.tmp 6) _ rfl (w.heap.size+1) _ rfl rfl 293 _ H1.out (by rw[mE];exact vX.out) (by rw[mE,mE]) (LH _) ?_))
   refine bD (v:=ze (dv (xQ f l k))) (results_cell_row results199 _ _ (w.heap.size+1) 293 _ (0,0) _ rfl (setRow_heap _ _ _ _ _ _ H1.out) underlying293 rfl (by rw[mE];exact vX.out)) rfl ⟨?_,Below.setRow hb (by omega) _⟩;rw[znp f l k hi iA (by omega)]
def uX(rs:List (Int×Int)):Nat->Bool:=rs.foldl (λf r=>Fs f r.1 r.2) (λ_=>false)
theorem zln(rs:List (Int×Int))(k:Nat)(hk:k<rs.length)(a b:Int)(h:rs.getD k (0,0)=(a,b)):uX (rs.take (k+1))=Fs (uX (rs.take k)) a b:=by
 unfold uX;rw[Mu hk,List.foldl_append];have:rs[k]=(a,b):=by rw[<-h];simp[List.getD,hk]
 rw[this]
 rfl
theorem zg6:∀(rs:List (Int×Int)) (least:Int),0<=least->ny least rs=true->∀k,k<rs.length->0<=(rs.getD k (0,0)).1/\(rs.getD k (0,0)).2<=255
 |[],_,_,_,k,hk=>absurd hk (dk _)
 |(a,b)::r,least,hl,h,k,hk=>by
  unfold ny at h
  by_cases hc:a<least\/b<a\/255<b
  ·rw[aD hc]at h;cases h
  ·rw[aq hc]at h;cases k with
   |zero=>simp[List.getD];omega
   |succ k=>exact zg6 r (b+2) (by omega) h k (by simpa using hk)
theorem znr{lo:Nat}(v:zg)(rs:List (Int×Int))(w:zf)(hs:dD lo w v rs)(eU:ny 0 rs=true):
  zh prog 179 #[v] w λe w'=>e=.returned (ze (dv (uX rs)))/\zd w.heap.size w w':=by
 obtain⟨ao,cap,rfl,hm,hc⟩:=hs;have BJ:zb _:=eU;clear eU;have T8:=(zero_of_info Tryz.Iu).1;have vX:zb _:=(zero_of_info Tryz.Iu).2;have dZ:=λw=>run_build (P:=prog) w 293 #[] (dv λ_=>false) (by kernel_rfl)
 go_enter func179,ntmps179
 go_wp2_with (refine wpList_store_row rfl 293 (.tmp 3) _ rfl (w.heap.size+1) _ rfl rfl 293 _ (heap_alloc2_new _ _ _) (by rw[mE];exact vX.out) (by rw[mE]) (LH _) ?_)
 have hW:zd w.heap.size w (((w.alloc (zc (dv λ_=>false) 293)).alloc (zc (dv λ_=>false) 293)).setRow (w.heap.size+1) (dv λ_=>false)):=Below.setRow ((au).alloc (by simp) _) (by omega) _;have hR0:zb ((((w.alloc (zc (dv λ_=>false) 293)).alloc (zc (dv λ_=>false) 293)).setRow (w.heap.size+1) (dv λ_=>false)).heap[w.heap.size]?=some (zc (dv λ_=>false) 293 (0,0))):=by show _=_;rw[setRow_other _ _ _ _ (by omega),heap_alloc2_old]
 have rD:zb ((((w.alloc (zc (dv λ_=>false) 293)).alloc (zc (dv λ_=>false) 293)).setRow (w.heap.size+1) (dv λ_=>false)).heap[w.heap.size+1]?=some (zc (dv λ_=>false) 293 (0,0))):=setRow_heap _ _ _ _ _ _ (heap_alloc2_new _ _ _)
 go_loopw [9] (λi wr=>∃k:Nat,k<=rs.length/\i=za .i64 k/\zd w.heap.size w wr/\zb (wr.heap[w.heap.size]?=some (zc (dv λ_=>false) 293 (0,0)))/\zb (wr.heap[w.heap.size+1]?=some (zc (dv (uX (rs.take k))) 293 (0,0)))/\w.heap.size+1<wr.heap.size)
  (λi _=>rs.length-(intOf i).toNat)
 case atStart=>exact⟨0,aZ _,rfl,hW,hR0,rD,by simp⟩
 case round=>
  obtain⟨k,hk,rfl,hb,H0,H1,hsz⟩:=hrel
  by_cases hlt:k<rs.length
  ·obtain⟨b,o,x,y,rfl,Hn,bu,c0,c1⟩:=hc.elem hb hlt;obtain⟨fE,kW⟩:=zg6 rs 0 (by omega) BJ.out k hlt;rw[Hn.out]at fE kW;simp only at fE kW;have bB:zd w.heap.size w (wr.alloc (zc #[za .i64 x,za .i64 y] 211)):=hb.alloc hb.size _;have H0a:zb _:=cQ (ob:=zc #[za .i64 x,za .i64 y] 211) H0.out;have P5:zb _:=cQ (ob:=zc #[za .i64 x,za .i64 y] 211) H1.out;have HT:zb _:=zln rs k hlt x y Hn.out;generalize uX (rs.take k)=F at P5 HT
   go_wp2_with (first|(refine wpList_load_row rfl 293 (.tmp 3) rfl (w.heap.size+1) rfl 293 _ (0,0) _ P5.out underlying293 rfl (by rw[mE];exact vX.out) ?_)|(go_at_call 199;refine(zti _ _ _ _ fE kW).mono ?_;rintro e w2 ⟨rfl,af⟩;have H0b:zb _:=(af.block w.heap.size (by simp;omega)).trans H0a.out;have Xu:zb _:=(af.block (w.heap.size+1) (by simp;omega)).trans P5.out;have cX:=aj bB bB.size af;have Ew:=af.size)|(refine wpList_store_row rfl 293 (.tmp 3) _ rfl (w.heap.size+1) _ rfl rfl 293 _ Xu.out (by rw[mE];exact vX.out) (by rw[mE,mE]) (LH _) ?_))
   go_roundw
   case rel=>exact⟨k+1,by omega,by go_num,Below.setRow cX (by omega) _,by show _=_;rw[setRow_other _ _ _ _ (by omega)];exact H0b.out,by show _=_;rw[setRow_heap _ _ _ _ _ _ Xu.out,HT.out],by simp at Ew ⊢;omega⟩
   case measure=>simp[intOf];omega
  ·have bC:rs.take k=rs:=wL (by omega);rw[bC]at H1
   go_wp2_with (first|(refine wpList_load_row rfl 293 (.tmp 3) rfl (w.heap.size+1) rfl 293 _ (0,0) _ H1.out underlying293 rfl (by rw[mE];exact vX.out) ?_)|(refine wpList_store_row rfl 293 (.tmp 2) _ rfl w.heap.size _ rfl rfl 293 _ H0.out (by rw[mE];exact vX.out) (by rw[mE,mE]) (LH _) ?_))
   exact bD (v:=ze (dv (uX rs))) (results_cell_row results179 _ _ w.heap.size 293 _ (0,0) _ rfl (setRow_heap _ _ _ _ _ _ H0.out) underlying293 rfl (by rw[mE];exact vX.out)) rfl ⟨rfl,Below.setRow hb (by omega) _⟩
end Go.Proofs.YtdimhpfiieepiaaGreatDoor
