import Derived.Test.YtdimhpfiieepiaaGreatDoorC0
import Derived.Deep.Light
import Derived.Deep.QuietTactic
import Derived.BigQuiet
import Derived.Deep.WholeRow
import Derived.Laws.Tables
namespace Go.Proofs.YtdimhpfiieepiaaGreatDoor
open Proofs.Tryz
open Value renaming int->za,agg->ze
open RowKit renaming Hid->zb,Below->zd
open Obj renaming cells->zc
open Go renaming World->zf,Value->zg,Calls->zh
set_option maxHeartbeats 4000000
set_option maxRecDepth 100000
open Go.RowKit
section
variable {lo:Nat}
def nz:Int->List (Int×Int)->Bool
 |_,[]=>true
 |least,(lo,hi)::r=>if lo<least\/hi<lo\/255<hi then false else nz (hi+2) r
theorem zfa(rs:List (Int×Int))(i:Nat)(hi:i<rs.length)(least a b:Int)(h:rs.getD i (0,0)=(a,b)):
  nz least (rs.drop i)=if a<least\/b<a\/255<b then false else nz (b+2) (rs.drop (i+1)):=by
 rw[oK hi];have:rs[i]=(a,b):=by rw[<-h];simp[List.getD,hi]
 rw[this]
 rfl
theorem XV(v:zg)(rs:List (Int×Int))(w:zf)(hs:dR lo w v rs):
  zh prog 176 #[v] w λe w'=>e=.returned (.bool (nz 0 rs))/\zd w.heap.size w w':=by
 obtain⟨ao,cap,rfl,hm,hc⟩:=hs
 go_enter func176,ntmps176
 go_wp2
 go_loopw [3,8] (λl i wr=>∃k:Nat,k<=rs.length/\i=za .i64 k/\∃L:Int,l=za .i64 L/\0<=L/\L<=257/\zb (nz 0 rs=nz L (rs.drop k))/\zd w.heap.size w wr)
  (λ_ i _=>rs.length-(intOf i).toNat)
 case atStart=>exact⟨0,aR _,rfl,_,rfl,by omega,by omega,rfl,Below.refl _ _⟩
 case round=>
  obtain⟨k,hk,rfl,L,rfl,uE,mN,HS,hb⟩:=hrel
  by_cases hlt:k<rs.length
  ·obtain⟨b,o,x,y,rfl,Hn,aZ,c0,c1⟩:=hc.elem hb hlt;have hz:=hb.size;have bQ:zd w.heap.size w (wr.alloc (zc #[za .i64 x,za .i64 y] 211)):=hb.alloc hz _;have HD:zb (nz L (rs.drop k)=if x<L\/y<x\/255<y then false else nz (y+2) (rs.drop (k+1))):=zfa rs k hlt L x y Hn.out
   by_cases h1:x<L
   ·go_wp2;go_ret;exact⟨bz (by rw[HS.out,HD.out,aC (by omega)]),bQ⟩
   by_cases h2:y<x
   ·go_wp2;go_ret;exact⟨bz (by rw[HS.out,HD.out,aC (by omega)]),bQ⟩
   by_cases h3:255<y
   ·go_wp2;go_ret;exact⟨bz (by rw[HS.out,HD.out,aC (by omega)]),bQ⟩
   go_wp2
   go_roundw
   case rel=>exact⟨k+1,by omega,by go_num,_,rfl,by omega,by omega,by show _=_;rw[HS.out,HD.out,ak (by omega)],bQ⟩
   case measure=>simp[intOf];omega
  ·go_wp2;go_ret;exact⟨bz (by rw[HS.out,sI (by omega)];rfl),hb⟩
def aY(n:aL):Bool:=
 if n.kind=1 then nz 0 n.set&&(n.min==0&&n.max==0)&&n.group==0
 else if n.kind=2\/n.kind=3 then ((n.set.length:Int)==0)&&(n.min==0&&n.max==0)&&n.group==0
 else if n.kind=4 then ((n.set.length:Int)==0)&&fj n.min n.max&&n.group==0
 else if n.kind=5 then ((n.set.length:Int)==0)&&(n.min==0&&n.max==0)
 else false
theorem zgu(k mn mx g:Int)(v:zg)(rs:List (Int×Int))(w:zf)(hs:dR lo w v rs):
  zh prog 156 #[ze #[za .i64 k,v,za .i64 mn,za .i64 mx,za .i64 g]] w λe w'=>e=.returned (.bool (aY ⟨k,rs,mn,mx,g⟩))/\zd w.heap.size w w':=by
 have ha:=(Below.refl w.heap.size w).alloc (aj _) (zc #[za .i64 k,v,za .i64 mn,za .i64 mx,za .i64 g] 149);have mW:=hs.below ha;obtain⟨ao,cap,rfl,hm,hc⟩:=hs
 by_cases h1:k=1
 ·subst h1;have H1:zb (aY ⟨1,rs,mn,mx,g⟩=(nz 0 rs&&(mn==0&&mx==0)&&g==0)):=by show _=_;simp[aY]
  by_cases pY:mn=0
  ·by_cases hmx:mx=0
   ·subst pY hmx
    go_enter func156,ntmps156
    go_wp2_with (go_at_call 176;refine(XV _ _ _ mW).mono ?_;rintro e w2 ⟨rfl,ae⟩)
    all_goals
     go_ret
     exact⟨bz (by rw[H1.out];clear ae ha mW hc H1;go_light;simp_all),aq ha (by simp) ae⟩
   ·subst pY;have e0:(mx==0)=false:=eB.2 hmx;clear hmx
    go_enter func156,ntmps156
    go_wp2_with (go_at_call 176;refine(XV _ _ _ mW).mono ?_;rintro e w2 ⟨rfl,ae⟩)
    all_goals
     go_ret
     exact⟨bz (by rw[H1.out];clear ae ha mW hc H1;go_light;simp_all),aq ha (by simp) ae⟩
  ·have e0:(mn==0)=false:=eB.2 pY;clear pY
   go_enter func156,ntmps156
   go_wp2_with (go_at_call 176;refine(XV _ _ _ mW).mono ?_;rintro e w2 ⟨rfl,ae⟩)
   all_goals
    go_ret
    exact⟨bz (by rw[H1.out];clear ae ha mW hc H1;go_light;simp_all),aq ha (by simp) ae⟩
 by_cases h2:k=2
 ·subst h2;clear mW
  go_enter func156,ntmps156
  go_wp2
  all_goals
   go_ret
   exact⟨bz (by clear ha hc;go_light;simp_all [aY]),aw⟩
 by_cases h3:k=3
 ·subst h3;clear mW
  go_enter func156,ntmps156
  go_wp2
  all_goals
   go_ret
   exact⟨bz (by clear ha hc;go_light;simp_all [aY]),aw⟩
 by_cases h4:k=4
 ·subst h4;clear mW
  go_enter func156,ntmps156
  go_wp2_with (go_at_call 177;refine(zkQ _ _ _).mono ?_;rintro e w2 ⟨rfl,rfl⟩)
  all_goals
   go_ret
   exact⟨bz (by clear ha hc;go_light;simp_all [aY]),aw⟩
 by_cases h5:k=5
 ·subst h5;clear mW
  go_enter func156,ntmps156
  go_wp2
  all_goals
   go_ret
   exact⟨bz (by clear ha hc;go_light;simp_all [aY]),aw⟩
 have e1:(k==1)=false:=eB.2 h1;have e2:(k==2)=false:=eB.2 h2;have e3:(k==3)=false:=eB.2 h3;have e4:(k==4)=false:=eB.2 h4;have e5:(k==5)=false:=eB.2 h5;have HN:zb (aY ⟨k,rs,mn,mx,g⟩=false):=by show _=_;simp[aY,h1,h2,h3,h4,h5]
 clear h1 h2 h3 h4 h5 mW
 go_enter func156,ntmps156
 go_wp2
 all_goals
  go_ret
  exact⟨bz HN.out.symm,aw⟩
end
theorem zhV{lo:Nat}(v:zg)(rs:List (Int×Int))(w:zf)(hs:dR lo w v rs):
  zh prog 110 #[ze #[za .i64 1,v,za .i64 0,za .i64 0,za .i64 0]] w λe w'=>e=.returned (.bool (nz 0 rs))/\zd w.heap.size w w':=by
 obtain⟨ao,cap,rfl,hm,hc⟩:=hs
 go_enter func110,ntmps110
 go_wp2
 go_loopw [59] (λi wr=>∃k:Nat,k<=rs.length/\i=za .i64 k/\∃L:Int,0<=L/\L<=257/\(k=0->L=0)/\(∀j,k=j+1->L=(rs.getD j (0,0)).2+2)/\zb (nz 0 rs=nz L (rs.drop k))/\zd w.heap.size w wr/\wr.cell? ⟨w.heap.size,1,none⟩=some (.slice ao rs.length cap)/\w.heap.size<wr.heap.size)
  (λi _=>rs.length-(intOf i).toNat)
 case atStart=>exact⟨0,aR _,rfl,0,by omega,by omega,λ_=>rfl,λj hj=>by omega,rfl,aw,by simp,by simp⟩
 case round=>
  obtain⟨k,hk,rfl,L,uE,mN,Zb,Zc,HS,hb,gY,hsz⟩:=hrel;have Hl0:zb (k=0->L=0):=Zb;have Hl1:zb (∀j,k=j+1->L=(rs.getD j (0,0)).2+2):=Zc;clear Zb Zc
  by_cases hlt:k<rs.length
  ·obtain⟨b,o,x,y,rfl,Hn,aZ,c0,c1⟩:=hc.elem hb hlt;have hz:=hb.size;have bQ:zd w.heap.size w (wr.alloc (zc #[za .i64 x,za .i64 y] 211)):=hb.alloc hz _;have Pu:(wr.alloc (zc #[za .i64 x,za .i64 y] 211)).cell? ⟨w.heap.size,1,none⟩=some (.slice (some ⟨b,o,none⟩) rs.length cap):=(World.cell?_of_block (Below.heap_alloc _ _ _ hsz)).trans gY;have HD:zb (nz L (rs.drop k)=if x<L\/y<x\/255<y then false else nz (y+2) (rs.drop (k+1))):=zfa rs k hlt L x y Hn.out
   by_cases h1:x<0
   ·go_wp2;go_ret;exact⟨bz (by rw[HS.out,HD.out,aC (by omega)]),bQ⟩
   by_cases h2:y<x
   ·go_wp2;go_ret;exact⟨bz (by rw[HS.out,HD.out,aC (by omega)]),bQ⟩
   by_cases h3:255<y
   ·go_wp2;go_ret;exact⟨bz (by rw[HS.out,HD.out,aC (by omega)]),bQ⟩
   by_cases gZ:k=0
   ·have hL:zb (L=0):=Hl0.out gZ;have hd:decide ((0:Int)<(k:Int))=false:=by simp;omega
    have pU:decide (0<k)=false:=by simp;omega
    have Lu:¬((0:Int)<(k:Int)):=by omega
    have Kh:zb (k=0):=gZ;clear gZ;go_wp2
    go_quiet (fail)
    go_wp2
    go_roundw
    case rel=>exact⟨k+1,by omega,by go_num,y+2,by omega,by omega,λh=>by omega,λj hj=>by rw[show j=k by omega,Hn.out],by show _=_;rw[HS.out,HD.out,ak (by have:=hL.out;omega)],below_drewN bQ _,Pu,by simp;omega⟩
    case measure=>simp[intOf];omega
   ·obtain⟨j,rfl⟩:∃j,k=j+1:=⟨k-1,by omega⟩;obtain⟨b',o',x',y',Im,Hn',zA7,d0,d1⟩:=hc.elem hb (show j<rs.length by omega);simp only[Option.some.injEq,Addr.mk.injEq,and_true]at Im;obtain⟨rfl,rfl⟩:=Im;have hL:=Hl1.out j rfl;rw[Hn'.out]at hL;have hL':zb (L=y'+2):=hL;have kY:y'<=255:=by simp only at hL;omega
    have qO:-2<=y':=by simp only at hL;omega
    clear hL;have hd:(0:Int)<(j:Int)+1:=by omega
    have uK:decide ((0:Int)<(j:Int)+1)=true:=by simp
    have hwj:IntKind.i64.wrap (j:Int)=(j:Int):=by rw[IntKind.wrap_i64];omega
    have hwy:IntKind.i64.wrap (y'+2)=y'+2:=by rw[IntKind.wrap_i64];omega
    have aD:b<wr.heap.size:=by omega
    have UC:(0:Int)<=(j:Int):=by omega
    have E7:(j:Int)<(rs.length:Int):=by omega
    by_cases h4:x<y'+2
    ·go_wp2
     go_quiet (fail)
     go_wp2;go_ret;exact⟨bz (by rw[HS.out,HD.out,aC (by have:=hL'.out;omega)]),below_drewN bQ _⟩
    ·go_wp2
     go_quiet (fail)
     go_wp2
     go_roundw
     case rel=>exact⟨j+1+1,by omega,by go_num,y+2,by omega,by omega,λh=>by omega,λi hi=>by rw[show i=j+1 by omega,Hn.out],by show _=_;rw[HS.out,HD.out,ak (by have:=hL'.out;omega)],below_drewN bQ _,Pu,by simp;omega⟩
     case measure=>simp[intOf];omega
  ·go_wp2;go_ret;exact⟨bz (by rw[HS.out,sI (by omega)];rfl),hb⟩
section
variable {lo:Nat}
def jh(v:zg)(w:zf)(k mn mx g:Int)(b:Bool):Prop:=
 zh prog 110 #[ze #[za .i64 k,v,za .i64 mn,za .i64 mx,za .i64 g]] w λe w'=>e=.returned (.bool b)/\zd w.heap.size w w'
theorem znO(v:zg)(rs:List (Int×Int))(w:zf)(hs:dR lo w v rs):
  (∀mn mx g:Int,(g==0)=false->jh v w 1 mn mx g false)/\
  (∀mn mx:Int,(mn==0)=false->jh v w 1 mn mx 0 false)/\
  (∀mx:Int,(mx==0)=false->jh v w 1 0 mx 0 false)/\
  (∀mn mx g:Int,((rs.length:Int)==0)=false->jh v w 2 mn mx g false)/\
  (∀mn mx g:Int,((rs.length:Int)==0)=true->(g==0)=false->jh v w 2 mn mx g false)/\
  (∀mn mx:Int,((rs.length:Int)==0)=true->(mn==0)=false->jh v w 2 mn mx 0 false)/\
  (∀mx:Int,((rs.length:Int)==0)=true->(mx==0)=false->jh v w 2 0 mx 0 false)/\
  (∀mn mx g:Int,((rs.length:Int)==0)=false->jh v w 3 mn mx g false)/\
  (∀mn mx g:Int,((rs.length:Int)==0)=true->(g==0)=false->jh v w 3 mn mx g false)/\
  (∀mn mx:Int,((rs.length:Int)==0)=true->(mn==0)=false->jh v w 3 mn mx 0 false)/\
  (∀mx:Int,((rs.length:Int)==0)=true->(mx==0)=false->jh v w 3 0 mx 0 false)/\
  (∀mn mx g:Int,((rs.length:Int)==0)=false->jh v w 4 mn mx g false)/\
  (∀mn mx g:Int,((rs.length:Int)==0)=true->(g==0)=false->jh v w 4 mn mx g false)/\
  (∀mn mx g:Int,((rs.length:Int)==0)=false->jh v w 5 mn mx g false)/\
  (∀mn mx g:Int,((rs.length:Int)==0)=true->(mn==0)=false->jh v w 5 mn mx g false)/\
  (∀mx g:Int,((rs.length:Int)==0)=true->(mx==0)=false->jh v w 5 0 mx g false)/\
  (∀mn mx:Int,((rs.length:Int)==0)=true->bF mn 0 255=false->jh v w 4 mn mx 0 false)/\
  (∀mn mx:Int,((rs.length:Int)==0)=true->bF mn 0 255=true->(mx != -1)=true->bF mx mn 255=false->jh v w 4 mn mx 0 false)/\
  (∀k mn mx g:Int,k<1->jh v w k mn mx g false)/\
  (∀k mn mx g:Int,5<k->jh v w k mn mx g false):=by
 obtain⟨ao,cap,rfl,hm,hc⟩:=hs;clear hc;refine⟨?_,?_,?_,?_,?_,?_,?_,?_,?_,?_,?_,?_,?_,?_,?_,?_,?_,?_,?_,?_⟩
 all_goals
  intros
  unfold jh
  go_enter func110,ntmps110
  go_wp2_with (go_at_call 47;refine(oz _ _ _ _).mono ?_;rintro e w' ⟨rfl,rfl⟩)
  all_goals
   go_ret
   exact⟨rfl,aw⟩
theorem znP(v:zg)(rs:List (Int×Int))(w:zf)(hs:dR lo w v rs)(hl:((rs.length:Int)==0)=true):
  (jh v w 2 0 0 0 true)/\
  (jh v w 3 0 0 0 true)/\
  (∀g:Int,jh v w 5 0 0 g true)/\
  (∀mn:Int,bF mn 0 255=true->jh v w 4 mn (-1) 0 true)/\
  (∀mn mx:Int,bF mn 0 255=true->(mx != -1)=true->bF mx mn 255=true->jh v w 4 mn mx 0 true):=by
 obtain⟨ao,cap,rfl,hm,hc⟩:=hs;clear hc;have kw:rs.length=0:=by have:=eq_of_beq hl;omega
 rw[kw];clear hl hm;refine⟨?_,?_,?_,?_,?_⟩
 all_goals
  intros
  unfold jh
  go_enter func110,ntmps110
  go_wp2_with (go_at_call 47;refine(oz _ _ _ _).mono ?_;rintro e w' ⟨rfl,rfl⟩)
  refine wp_loop_rounds 1 ?_;rw[rounds_succ];go_wp2;go_ret;exact⟨rfl,aw⟩
end
theorem zka{lo:Nat}(k mn mx g:Int)(v:zg)(rs:List (Int×Int))(w:zf)(hs:dR lo w v rs):
  zh prog 110 #[ze #[za .i64 k,v,za .i64 mn,za .i64 mx,za .i64 g]] w λe w'=>e=.returned (.bool (aY ⟨k,rs,mn,mx,g⟩))/\zd w.heap.size w w':=by
 have fin:∀{b:Bool},aY ⟨k,rs,mn,mx,g⟩=b->∀(e:Ending) (w':zf),(e=.returned (.bool b)/\zd w.heap.size w w')->(e=.returned (.bool (aY ⟨k,rs,mn,mx,g⟩))/\zd w.heap.size w w'):=by
  intro b hb e w' h;rw[hb];exact h
 obtain⟨zv4,zv7,zv5,zyS,zyN,zyZ,zyX,zyT,zyO,zy0,zyY,zyU,zyP,zyV,zv8,zv6,zyL,zv2,zyW,zyQ⟩:=znO v rs w hs
 by_cases pi:k<1
 ·exact(zyW k mn mx g pi).mono (fin (by unfold aY;rw[ak (by simp only;omega),ak (by simp only;omega),ak (by simp only;omega),ak (by simp only;omega)]))
 by_cases xG:5<k
 ·exact(zyQ k mn mx g xG).mono (fin (by unfold aY;rw[ak (by simp only;omega),ak (by simp only;omega),ak (by simp only;omega),ak (by simp only;omega)]))
 have hk:k=1\/k=2\/k=3\/k=4\/k=5:=by omega
 clear pi xG
 by_cases hl:((rs.length:Int)==0)=true
 ·obtain⟨zAL,zAM,zyc,zyb,Wq⟩:=znP v rs w hs hl
  by_cases hg:g=0
  ·subst hg
   by_cases hn:mn=0
   ·by_cases hx:mx=0
    ·subst hn hx;rcases hk with rfl|rfl|rfl|rfl|rfl
     ·exact(zhV v rs w hs).mono (fin (by simp[aY]))
     ·exact(zAL).mono (fin (by simp[aY];exact BZ (by have:=eq_of_beq hl;omega)))
     ·exact(zAM).mono (fin (by simp[aY];exact BZ (by have:=eq_of_beq hl;omega)))
     ·exact(Wq 0 0 (by decide) (by decide) (by decide)).mono (fin (by simp[aY,fj];exact BZ (by have:=eq_of_beq hl;omega)))
     ·exact(zyc 0).mono (fin (by simp[aY];exact BZ (by have:=eq_of_beq hl;omega)))
    ·subst hn;have tP:(mx==0)=false:=eB.2 hx;rcases hk with rfl|rfl|rfl|rfl|rfl
     ·exact(zv5 mx tP).mono (fin (by simp[aY,hx]))
     ·exact(zyX mx hl tP).mono (fin (by simp[aY,hx]))
     ·exact(zyY mx hl tP).mono (fin (by simp[aY,hx]))
     ·by_cases h1:mx=-1
      ·subst h1;exact(zyb 0 (by decide)).mono (fin (by simp[aY,fj];exact BZ (by have:=eq_of_beq hl;omega)))
      ·by_cases h2:bF mx 0 255=true
       ·exact(Wq 0 mx (by decide) (by simp[h1]) h2).mono (fin (by simp[aY,fj,h1]at *;simp[bF]at h2;exact⟨hl,h2⟩))
       ·exact(zv2 0 mx hl (by decide) (by simp[h1]) (by simpa using h2)).mono (fin (by simp[aY,fj,h1];intro _;simp[bF]at h2;omega))
     ·exact(zv6 mx 0 hl tP).mono (fin (by simp[aY,hx]))
   ·have jH:(mn==0)=false:=eB.2 hn;rcases hk with rfl|rfl|rfl|rfl|rfl
    ·exact(zv7 mn mx jH).mono (fin (by simp[aY,hn]))
    ·exact(zyZ mn mx hl jH).mono (fin (by simp[aY,hn]))
    ·exact(zy0 mn mx hl jH).mono (fin (by simp[aY,hn]))
    ·by_cases h0:bF mn 0 255=true
     ·by_cases h1:mx=-1
      ·subst h1;exact(zyb mn h0).mono (fin (by simp[aY,fj]at *;simp[bF]at h0;exact⟨hl,h0⟩))
      ·by_cases h2:bF mx mn 255=true
       ·exact(Wq mn mx h0 (by simp[h1]) h2).mono (fin (by simp[aY,fj,h1]at *;simp[bF]at h0 h2;exact⟨hl,h0,h2⟩))
       ·exact(zv2 mn mx hl h0 (by simp[h1]) (by simpa using h2)).mono (fin (by simp[aY,fj,h1];intro _ _ _;simp[bF]at h2;omega))
     ·exact(zyL mn mx hl (by simpa using h0)).mono (fin (by simp[aY,fj];simp[bF]at h0;intro _ _;omega))
    ·exact(zv8 mn mx 0 hl jH).mono (fin (by simp[aY,hn]))
  ·have cZ:(g==0)=false:=eB.2 hg;rcases hk with rfl|rfl|rfl|rfl|rfl
   ·exact(zv4 mn mx g cZ).mono (fin (by simp[aY,hg]))
   ·exact(zyN mn mx g hl cZ).mono (fin (by simp[aY,hg]))
   ·exact(zyO mn mx g hl cZ).mono (fin (by simp[aY,hg]))
   ·exact(zyP mn mx g hl cZ).mono (fin (by simp[aY,hg]))
   ·by_cases hn:mn=0
    ·subst hn
     by_cases hx:mx=0
     ·subst hx;exact(zyc g).mono (fin (by simp[aY];exact BZ (by have:=eq_of_beq hl;omega)))
     ·exact(zv6 mx g hl (eB.2 hx)).mono (fin (by simp[aY,hx]))
    ·exact(zv8 mn mx g hl (eB.2 hn)).mono (fin (by simp[aY,hn]))
 ·have uN:((rs.length:Int)==0)=false:=by simpa using hl
  rcases hk with rfl|rfl|rfl|rfl|rfl
  ·by_cases hg:g=0
   ·subst hg
    by_cases hn:mn=0
    ·subst hn
     by_cases hx:mx=0
     ·subst hx;exact(zhV v rs w hs).mono (fin (by simp[aY]))
     ·exact(zv5 mx (eB.2 hx)).mono (fin (by simp[aY,hx]))
    ·exact(zv7 mn mx (eB.2 hn)).mono (fin (by simp[aY,hn]))
   ·exact(zv4 mn mx g (eB.2 hg)).mono (fin (by simp[aY,hg]))
  ·exact(zyS mn mx g uN).mono (fin (by simp[aY,uN]))
  ·exact(zyT mn mx g uN).mono (fin (by simp[aY,uN]))
  ·exact(zyU mn mx g uN).mono (fin (by simp[aY,uN]))
  ·exact(zyV mn mx g uN).mono (fin (by simp[aY,uN]))
def dz(f:Nat->Bool):Array zg:=((List.range 256).map λc=>Value.bool (f c)).toArray
theorem mC(f:Nat->Bool):(dz f).size=256:=by simp[dz]
theorem Qt(f:Nat->Bool)(i:Nat)(h:i<256):(dz f)[i]?=some (.bool (f i)):=by simp[dz,h]
theorem WN{f g:Nat->Bool}(h:∀c,c<256->f c=g c):dz f=dz g:=by
 unfold dz;rw[BV λc hc=>by rw[h c (by simpa using hc)]]
theorem zj1(f:Nat->Bool)(i:Nat):(dz f).setIfInBounds i (.bool true)=dz (λc=>f c || c==i):=by
 apply Array.ext_getElem?
 intro j;rw[NN,mC]
 by_cases hj:j<256
 ·rw[Qt _ _ hj,Qt _ _ hj]
  by_cases e:i=j
  ·subst e;simp[hj]
  ·have e':(j==i)=false:=by simp;omega
   simp[e,e']
 ·have h1:∀g,(dz g)[j]?=none:=λg=>DZ (by rw[mC];omega)
  rw[h1,h1];split<;>simp_all
theorem Nc(f:Nat->Bool):(dz f).all (·.oneCell')=true:=by
 simp[dz,Value.oneCell']
def yp(f:Nat->Bool)(l k:Nat):Nat->Bool:=λc=>f c || decide (l<=c/\c<k)
theorem zlm(f:Nat->Bool)(l k:Nat)(hk:l<=k):dz (λc=>yp f l k c || c==k)=dz (yp f l (k+1)):=by
 apply WN
 intro c _;unfold yp;rw[Bool.or_assoc]
 congr 1
 by_cases e:c=k
 ·subst e;simp[hk]
 ·have e':(c==k)=false:=eB.2 e;rw[e',Bool.or_false,decide_eq_decide];omega
theorem zln(f:Nat->Bool)(l:Nat):dz (yp f l l)=dz f:=WN λc _=>by
 unfold yp;have:decide (l<=c/\c<l)=false:=by rw[decide_eq_false_iff_not];omega
 rw[this,Bool.or_false]
def Gp(f:Nat->Bool)(lo hi:Int):Nat->Bool:=λc=>f c || decide (lo<=c/\(c:Int)<=hi)
theorem zny(f:Nat->Bool)(l k:Nat)(hi:Int)(h:k=l\/(k:Int)<=hi+1)(h2:hi<k):dz (yp f l k)=dz (Gp f l hi):=WN λc _=>by
 unfold yp Gp
 congr 1
 rw[decide_eq_decide];omega
theorem Tryz.JE:(prog.info? 293).map (λi=>(i.zero,i.size))=some (some (ze (dz λ_=>false)),256):=by kernel_rfl
theorem ztG(f:Nat->Bool)(lo hi:Int)(w:zf)(h0:0<=lo)(h1:hi<=255):
  zh prog 199 #[ze (dz f),za .i64 lo,za .i64 hi] w λe w'=>e=.returned (ze (dz (Gp f lo hi)))/\zd w.heap.size w w':=by
 obtain⟨l,rfl⟩:=Int.eq_ofNat_of_zero_le h0;have VI:=(zero_of_info Tryz.JE).1;have qe:zb _:=(zero_of_info Tryz.JE).2
 go_enter func199,ntmps199
 go_wp2
 go_loopw [7] (λi wr=>∃k:Nat,l<=k/\(k=l\/(k:Int)<=hi+1)/\i=za .i64 k/\zd w.heap.size w wr/\wr.heap[w.heap.size]?=some (zc (dz (yp f l k)) 293 (0,0))/\wr.heap[w.heap.size+1]?=some (zc (dz λ_=>false) 293 (0,0))/\w.heap.size+1<wr.heap.size)
  (λi _=>(hi+1-intOf i).toNat)
 case atStart=>exact⟨l,aj _,.inl rfl,rfl,(aw).alloc (by simp) _,by rw[heap_alloc2_old,zln],heap_alloc2_new _ _ _,by simp⟩
 case round=>
  obtain⟨k,hk,mP,rfl,hb,dx,eT,hsz⟩:=hrel
  by_cases hlt:(k:Int)<=hi
  ·have rS:k<256:=by omega
   have c0:wr.cell? ⟨w.heap.size,k,none⟩=some (.bool (yp f l k k)):=by rw[aM _ _ _ _ _ _ dx,Qt _ _ rS]
   have f0:wr.frozen? ⟨w.heap.size,k,none⟩=false:=cT _ _ _ _ _ dx;generalize yp f l k k=old at c0;have H0:zb _:=dx;have H1:zb _:=eT;clear dx eT;go_wp2
   go_roundw
   case rel=>exact⟨k+1,by omega,by omega,by go_num,hb.setCell (by simp) _,by rw[dE _ _ _ _ _ _ H0.out,zj1,zlm _ _ _ hk],by rw[cH _ _ _ _ (by simp)];exact H1.out,by simpa [World.setCell]using hsz⟩
   case measure=>simp[intOf];omega
  ·have H0:zb _:=dx;have H1:zb _:=eT;clear dx eT
   go_wp2_with (first|(refine wpList_load_row rfl 293 (.tmp 3) rfl w.heap.size rfl 293 _ (0,0) _ H0.out underlying293 rfl (by rw[mC];exact qe.out) ?_)|(refine wpList_store_row rfl 293 (.tmp 6) _ rfl (w.heap.size+1) _ rfl rfl 293 _ H1.out (by rw[mC];exact qe.out) (by rw[mC,mC]) (Nc _) ?_))
   refine bh (v:=ze (dz (yp f l k))) (results_cell_row results199 _ _ (w.heap.size+1) 293 _ (0,0) _ rfl (setRow_heap _ _ _ _ _ _ H1.out) underlying293 rfl (by rw[mC];exact qe.out)) rfl ⟨?_,Below.setRow hb (by omega) _⟩;rw[zny f l k hi mP (by omega)]
def vq(rs:List (Int×Int)):Nat->Bool:=rs.foldl (λf r=>Gp f r.1 r.2) (λ_=>false)
theorem zlp(rs:List (Int×Int))(k:Nat)(hk:k<rs.length)(a b:Int)(h:rs.getD k (0,0)=(a,b)):vq (rs.take (k+1))=Gp (vq (rs.take k)) a b:=by
 unfold vq;rw[NP hk,List.foldl_append];have:rs[k]=(a,b):=by rw[<-h];simp[List.getD,hk]
 rw[this]
 rfl
theorem zgW:∀(rs:List (Int×Int)) (least:Int),0<=least->nz least rs=true->∀k,k<rs.length->0<=(rs.getD k (0,0)).1/\(rs.getD k (0,0)).2<=255
 |[],_,_,_,k,hk=>absurd hk (cR _)
 |(a,b)::r,least,hl,h,k,hk=>by
  unfold nz at h
  by_cases hc:a<least\/b<a\/255<b
  ·rw[aC hc]at h;cases h
  ·rw[ak hc]at h;cases k with
   |zero=>simp[List.getD];omega
   |succ k=>exact zgW r (b+2) (by omega) h k (by simpa using hk)
theorem znA{lo:Nat}(v:zg)(rs:List (Int×Int))(w:zf)(hs:dR lo w v rs)(fE:nz 0 rs=true):
  zh prog 179 #[v] w λe w'=>e=.returned (ze (dz (vq rs)))/\zd w.heap.size w w':=by
 obtain⟨ao,cap,rfl,hm,hc⟩:=hs;have Co:zb _:=fE;clear fE;have VI:=(zero_of_info Tryz.JE).1;have qe:zb _:=(zero_of_info Tryz.JE).2;have dV:=λw=>run_build (P:=prog) w 293 #[] (dz λ_=>false) (by kernel_rfl)
 go_enter func179,ntmps179
 go_wp2_with (refine wpList_store_row rfl 293 (.tmp 3) _ rfl (w.heap.size+1) _ rfl rfl 293 _ (heap_alloc2_new _ _ _) (by rw[mC];exact qe.out) (by rw[mC]) (Nc _) ?_)
 have hW:zd w.heap.size w (((w.alloc (zc (dz λ_=>false) 293)).alloc (zc (dz λ_=>false) 293)).setRow (w.heap.size+1) (dz λ_=>false)):=Below.setRow ((aw).alloc (by simp) _) (by omega) _;have hR0:zb ((((w.alloc (zc (dz λ_=>false) 293)).alloc (zc (dz λ_=>false) 293)).setRow (w.heap.size+1) (dz λ_=>false)).heap[w.heap.size]?=some (zc (dz λ_=>false) 293 (0,0))):=by show _=_;rw[setRow_other _ _ _ _ (by omega),heap_alloc2_old]
 have A9:zb ((((w.alloc (zc (dz λ_=>false) 293)).alloc (zc (dz λ_=>false) 293)).setRow (w.heap.size+1) (dz λ_=>false)).heap[w.heap.size+1]?=some (zc (dz λ_=>false) 293 (0,0))):=setRow_heap _ _ _ _ _ _ (heap_alloc2_new _ _ _)
 go_loopw [9] (λi wr=>∃k:Nat,k<=rs.length/\i=za .i64 k/\zd w.heap.size w wr/\zb (wr.heap[w.heap.size]?=some (zc (dz λ_=>false) 293 (0,0)))/\zb (wr.heap[w.heap.size+1]?=some (zc (dz (vq (rs.take k))) 293 (0,0)))/\w.heap.size+1<wr.heap.size)
  (λi _=>rs.length-(intOf i).toNat)
 case atStart=>exact⟨0,aR _,rfl,hW,hR0,A9,by simp⟩
 case round=>
  obtain⟨k,hk,rfl,hb,H0,H1,hsz⟩:=hrel
  by_cases hlt:k<rs.length
  ·obtain⟨b,o,x,y,rfl,Hn,aZ,c0,c1⟩:=hc.elem hb hlt;obtain⟨j9,kY⟩:=zgW rs 0 (by omega) Co.out k hlt;rw[Hn.out]at j9 kY;simp only at j9 kY;have bQ:zd w.heap.size w (wr.alloc (zc #[za .i64 x,za .i64 y] 211)):=hb.alloc hb.size _;have H0a:zb _:=cX (ob:=zc #[za .i64 x,za .i64 y] 211) H0.out;have RG:zb _:=cX (ob:=zc #[za .i64 x,za .i64 y] 211) H1.out;have HT:zb _:=zlp rs k hlt x y Hn.out;generalize vq (rs.take k)=F at RG HT
   go_wp2_with (first|(refine wpList_load_row rfl 293 (.tmp 3) rfl (w.heap.size+1) rfl 293 _ (0,0) _ RG.out underlying293 rfl (by rw[mC];exact qe.out) ?_)|(go_at_call 199;refine(ztG _ _ _ _ j9 kY).mono ?_;rintro e w2 ⟨rfl,ae⟩;have H0b:zb _:=(ae.block w.heap.size (by simp;omega)).trans H0a.out;have Y5:zb _:=(ae.block (w.heap.size+1) (by simp;omega)).trans RG.out;have cN:=aq bQ bQ.size ae;have Fp:=ae.size)|(refine wpList_store_row rfl 293 (.tmp 3) _ rfl (w.heap.size+1) _ rfl rfl 293 _ Y5.out (by rw[mC];exact qe.out) (by rw[mC,mC]) (Nc _) ?_))
   go_roundw
   case rel=>exact⟨k+1,by omega,by go_num,Below.setRow cN (by omega) _,by show _=_;rw[setRow_other _ _ _ _ (by omega)];exact H0b.out,by show _=_;rw[setRow_heap _ _ _ _ _ _ Y5.out,HT.out],by simp at Fp ⊢;omega⟩
   case measure=>simp[intOf];omega
  ·have bK:rs.take k=rs:=wZ (by omega);rw[bK]at H1
   go_wp2_with (first|(refine wpList_load_row rfl 293 (.tmp 3) rfl (w.heap.size+1) rfl 293 _ (0,0) _ H1.out underlying293 rfl (by rw[mC];exact qe.out) ?_)|(refine wpList_store_row rfl 293 (.tmp 2) _ rfl w.heap.size _ rfl rfl 293 _ H0.out (by rw[mC];exact qe.out) (by rw[mC,mC]) (Nc _) ?_))
   exact bh (v:=ze (dz (vq rs))) (results_cell_row results179 _ _ w.heap.size 293 _ (0,0) _ rfl (setRow_heap _ _ _ _ _ _ H0.out) underlying293 rfl (by rw[mC];exact qe.out)) rfl ⟨rfl,Below.setRow hb (by omega) _⟩
end Go.Proofs.YtdimhpfiieepiaaGreatDoor
