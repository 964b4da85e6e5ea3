import Derived.Test.YtdimhpfiieepiaaGreatDoorC33
namespace Go.Proofs.YtdimhpfiieepiaaGreatDoor
open Proofs.Tryz
open Option renaming some->za,none->zb
open Value renaming int->zc,slice->ze,pointer->zk
open Go renaming World->zd,Value->zg,TypeId->zl,Calls->zm
open Obj renaming cells->zf
open RowKit renaming Below->zh,Hid->zi
set_option maxHeartbeats 4000000
set_option maxRecDepth 100000
open Go.RowKit
section
attribute [local go_sem ↓] wp_at_zero wp_at_succ
section
theorem Tryz.zAH:(prog.info? 71).map (·.size)=za 2:=by kernel_rfl
def zoG(ats:Array zl)(ty:zl)(args:Array zg):Sem zg:=Builtin.copy_ ats ty args
theorem zjy(ty:zl)(args:Array zg):Builtin.copy_ #[33,33] ty args=zoG #[33,33] ty args:=rfl
attribute [local go_sem ↓] zjy
theorem zfP(x y:zg)(hx:x.oneCell'=true)(hy:y.oneCell'=true){n j c g dc sl sc:Nat}{a:Addr}{W:zd}(hR:W.heap[g]?=za (zf (ld x y (zc .i64 0) (zc .i64 0) n j).toArray 71 (0,0)))(hj:j<=n)(hc:c=min sl (n-j))(hs:∀i,i<c*2->W.cell? (a.add i)=za (if i%2=0 then x else y))(ty:zl)(dl:Nat)(zj:dl=n-j)(o:Nat)(ho:o=j*2):
  ∃W',(zoG #[33,33] ty #[ze (za ⟨g,o,zb⟩) dl dc,ze (za a) sl sc]).run prog W=.ok (zc .i64 (c:Int)) W'/\W'.heap[g]?=za (zf (ld x y (zc .i64 0) (zc .i64 0) n (j+c)).toArray 71 (0,0))/\W.grownBy W' (za g):=by
 subst ho;have h:=zfY (P:=prog) W 33 33 ty 71 g (j*2) dl dc a sl sc (ld x y (zc .i64 0) (zc .i64 0) n j).toArray 71 (qg x y c) c underlying33 Tryz.zAH hR (by rw[zj];exact hc) (BP x y c)
  (λi v hv=>by
   by_cases hi:i<c*2
   ·rw[Ys x y hi]at hv;cases hv;exact hs i hi
   ·rw[qw (by rw[BP];omega)]at hv;cases hv) (by rw[BP,yE,Nv];omega) (by
   intro v hv;obtain⟨k,-,rfl⟩:=rh.1 hv;split
   ·exact hx
   ·exact hy)
 refine⟨_,h,?_,⟨rfl,rfl,rfl,by simp[World.setRow],λk _ hk=>setRow_other W g k _ (λe=>hk (by rw[e]))⟩⟩;rw[setRow_heap W g _ _ _ _ hR];have e:=zh4 x y (zc .i64 0) (zc .i64 0) (n:=n) (j:=j) (c:=c) (by omega);unfold splice at e;rw[pG,e]
theorem zi0(x y:zg)(ox:x.oneCell'=true)(oy:y.oneCell'=true)(g0 n:Nat)(w:zd)(hx:w.cell? ⟨g0,0,zb⟩=za x)(hy:w.cell? ⟨g0,1,zb⟩=za y)(hn:n<=4000):
  zm prog 129 #[ze (za ⟨g0,0,zb⟩) 1 1,zc .i64 (n:Int)] w λe w'=>e=.returned (ze (za ⟨w.heap.size,0,zb⟩) n n)/\w'.ownsRow w.heap.size 71 2 (ze (za ⟨w.heap.size,0,zb⟩) n n) n (qg x y n)/\zh w.heap.size w w':=by
 obtain⟨i0,hi,bI,aO,aQ⟩:=info_parts Tryz.VN;have hm:=zpx n w hn;have Bh:g0<w.heap.size:=block_lt_of_cell hx;have uM:(n:Int)<=4000:=by omega
 obtain⟨c0,xE⟩:∃c,c=min 1 n:=⟨_,rfl⟩;have Fm:∀W,zh w.heap.size w W->∀i,i<c0*2->W.cell? ((⟨g0,0,zb⟩:Addr).add i)=za (if i%2=0 then x else y):=λW hb i hi=>by
  obtain rfl|rfl:i=0\/i=1:=by omega
  ·exact(hb.cell (p:=⟨g0,0,zb⟩) Bh).trans hx
  ·exact(hb.cell (p:=⟨g0,1,zb⟩) Bh).trans hy
 go_enter func129,ntmps129
 go_wp2_with (first|(go_at_call 149;refine hm.mono ?_;rintro e w' ⟨rfl,hw'⟩;subst w')|(refine wpList_make_full _ rfl _ _ 33 rfl w.heap.size 71 i0 _ 2 underlying33 hi bI aO _ _ _ _ n rfl rfl rfl rfl (by rw[aQ];omega) (by unfold maxLen;omega) (aj _) ?_;intro w1 Di Db;have ag:zh w.heap.size w w1:=(Below.refl _ _).grown Db (aj _) (by intro k h;cases h);have HR:zi (w1.heap[w.heap.size]?=za (zf (ld x y (zc .i64 0) (zc .i64 0) n 0).toArray 71 (0,0))):=(by have h:=wO Di;rw[show (Value.agg #[zc .i64 0,zc .i64 0]).cells=#[zc .i64 0,zc .i64 0] from rfl,zmq x y]at h;exact h);clear Di Db;obtain⟨w2,Bg,pR,bU⟩:=zfP x y ox oy (sc:=1) (a:=⟨g0,0,zb⟩) (dc:=n) HR.out (aR _) (c:=c0) (sl:=1) (by omega) (Fm _ ag) 3 n rfl 0 rfl;have J3:zi (w2.heap[w.heap.size]?=za (zf (ld x y (zc .i64 0) (zc .i64 0) n c0).toArray 71 (0,0))):=(by rw[jw]at pR;exact pR);have ku:zi (zh w.heap.size w w2):=ag.grown bU ag.size (λq e=>by cases e;exact aj _);clear pR bU))
 clear hx hy Bg ag hm HR Fm
 go_loopw [8] (λi wr=>∃(j:Nat),(1<=j\/n=0)/\j<=n/\i=zc .i64 j/\zi (wr.heap[w.heap.size]?=za (zf (ld x y (zc .i64 0) (zc .i64 0) n j).toArray 71 (0,0)))/\zi (zh w.heap.size w wr))
  (λi _=>n-(intOf i).toNat)
 case atStart=>exact⟨c0,by omega,by omega,by rw[xE],J3,ku⟩
 case round=>
  obtain⟨j,E7,hj,rfl,HR,HB⟩:=hrel
  by_cases zw:j<n
  ·have zzP:1<=j:=by omega
   have hi3:(j:Int)<(n:Int):=by omega
   have Uz:¬n=j:=by omega
   obtain⟨c,hc⟩:∃c,c=min j (n-j):=⟨_,rfl⟩;obtain⟨w5,Bg,Lc,vW⟩:=zfP x y ox oy (W:=wr.drew) (sc:=n) (a:=⟨w.heap.size,0,zb⟩) (dc:=n-j) HR.out hj (c:=c) (sl:=j) hc (λi hi=>by
    have e:(⟨w.heap.size,0,zb⟩:Addr).add i=⟨w.heap.size,i,zb⟩:=by unfold Addr.add;split<;>simp_all
    have hr:wr.drew.heap[w.heap.size]?=za (zf (ld x y (zc .i64 0) (zc .i64 0) n j).toArray 71 (0,0)):=HR.out;have e2:i<j*2:=by omega
    rw[e,aM _ _ _ _ _ _ hr,List.getElem?_toArray,DJ _ _ _ _ (by omega),aC e2]) 3 (n-j) rfl (j*2) rfl
   have R0:zi _:=Lc;have RL:zi (zh w.heap.size w w5):=by
    have rJ:zh w.heap.size w wr.drew:=HB.out.trans ⟨rfl,rfl,rfl,aj _,λ_ _=>rfl⟩;exact rJ.grown vW rJ.size (λq e=>by cases e;exact aj _)
   have uJ:1<=c:=by omega
   have eW:j+c<=n:=by omega
   have nU:(j:Int)+(c:Int)<=4000:=by omega
   clear Lc vW hc;go_wp2
   go_big_region
   go_wp2
   go_roundw
   case rel=>exact⟨j+c,by omega,eW,by simp,R0,RL⟩
   case measure=>simp[intOf];omega
  ·have LI:j=n:=by omega
   subst LI;go_wp2;refine bh (v:=ze (za ⟨w.heap.size,0,zb⟩) j j) (by simp[results,results129,go_sem]) rfl ⟨rfl,?_,HB.out⟩;have:=HR.out;rw[zmG]at this;exact zhY this (aj _) (BP _ _ _) (by unfold maxLen;omega)
end
theorem zgK(aX bm:Bool)(ao:Option Addr)(k c:Nat)(a:Nat)(w:zd):
  zm prog 128 #[.agg #[.bool aX,.bool bm,.slice ao k c],zc .i64 a] w λr w'=>r=.returned (.bool (a==0 || !aX))/\zh w.heap.size w w':=by
 have hb:zh w.heap.size w (w.alloc (zf #[.bool aX,.bool bm,.slice ao k c] 115)):=aw;have h0:((a:Int)==0)=(a==0):=by
  by_cases h:a=0
  ·subst h;rfl
  ·have:((a:Int)==0)=false:=by simp;omega
   rw[this];simp;omega
 cases hz:(a==0)<;>cases aX
 all_goals
  rw[hz]at h0
  go_enter func128,ntmps128
  go_wp2;go_ret;exact⟨rfl,hb⟩
theorem zj2(aX bm cl:Bool)(ao:Option Addr)(k c:Nat)(t:ByteArray)(e:Nat)(w:zd):
  zm prog 123 #[.agg #[.bool aX,.bool bm,.slice ao k c],.string t,zc .i64 e,.bool cl] w λr w'=>r=.returned (.bool ((cl&&e==t.size) || !bm))/\zh w.heap.size w w':=by
 have hb:zh w.heap.size w (w.alloc (zf #[.bool aX,.bool bm,.slice ao k c] 115)):=aw;have h1:((e:Int)==(t.size:Int))=(e==t.size):=by
  by_cases h:e=t.size
  ·subst h;simp
  ·have:((e:Int)==(t.size:Int))=false:=by simp;omega
   rw[this];simp;omega
 cases he:(e==t.size)<;>cases bm<;>cases cl
 all_goals
  rw[he]at h1
  go_enter func123,ntmps123
  go_wp2;go_ret;exact⟨rfl,hb⟩
theorem zh1(aX bm cl:Bool)(n a e:Nat):BO aX bm n a e cl=((a==0 || !aX)&&((cl&&e==n) || !bm)):=by
 unfold BO;cases (a==0)<;>cases aX<;>cases (e==n)<;>cases bm<;>cases cl<;>rfl
theorem zt5(n:Nat)(a b:Int):qg (zc .i64 a) (zc .i64 b) n=pv (List.replicate n (a,b)):=by
 induction n with
 |zero=>rfl
 |succ n ih=>
  rw[List.replicate_succ',zpZ,<-ih];unfold qg;rw[show (n+1)*2=n*2+1+1 from by omega,yD,yD];simp
theorem zhU(pl G:Nat)(x1 x2 x3:zg)(w:zd)(hx:w.heap[pl]?=za (zf #[zc .i64 (G:Int),x1,x2,x3] 189 (0,0)))(hG:G<=500):
  zm prog 103 #[zk (za ⟨pl,0,zb⟩)] w λe w'=>∃g,e=.returned (ze (za ⟨g,0,zb⟩) (G+1) (G+1))/\w.heap.size<=g/\w'.ownsRow w.heap.size 71 2 (ze (za ⟨g,0,zb⟩) (G+1) (G+1)) (G+1) (pv (List.replicate (G+1) (-1,-1)))/\zh w.heap.size w w':=by
 obtain⟨W1,cm⟩:∃W1,w.alloc (zf #[zc .i64 (-1),zc .i64 (-1)] 71)=W1:=⟨_,rfl⟩;have ag:zh w.heap.size w W1:=by rw[<-cm];exact aw
 have y1:W1.heap[w.heap.size]?=za (zf #[zc .i64 (-1),zc .i64 (-1)] 71 (0,0)):=by rw[<-cm];exact aI _ _
 have hc:=zi0 (zc .i64 (-1)) (zc .i64 (-1)) rfl rfl w.heap.size (G+1) W1 (jr y1).1 (jr y1).2 (by omega);have c0:W1.cell? ⟨pl,0,zb⟩=za (zc .i64 (G:Int)):=(ag.cell (p:=⟨pl,0,zb⟩) (ah.1 hx).1).trans (aM _ _ _ _ _ _ hx:w.cell? ⟨pl,0,zb⟩=_);rw[zt5]at hc;obtain⟨m,Hm⟩:∃m,zi (G+1=m):=⟨_,rfl⟩;have hGi:(G:Int)+1=(m:Int):=by have:=Hm.out;omega
 rw[Hm.out]at hc ⊢;clear hx y1
 go_enter func103,ntmps103
 go_wp2_with fail
 refine hc.mono ?_;rintro e W2 ⟨rfl,ff,ae⟩;have HO:=aA ff;clear hc ff c0;go_wp2;go_ret;exact⟨W1.heap.size,rfl,ag.size,ny HO.out ag.size,aq ag ag.size ae⟩
section
variable {w wr:zd}{pl:Nat}{x0 x1 vP:zg}{Q:Nat -> Option Pt}{ps:List (Nat×Pt)}
structure jB(w:zd)(pl:Nat)(x0 x1:zg)(wr:zd)(Q:Nat->Option Pt)(vP:zg)(ps:List (Nat×Pt)):Prop where
 kd:jA w pl wr Q (λk=>vP.ownBlock=za k\/k=pl) ps
 own:wr.ownsRow w.heap.size 198 1 vP ps.length (iY ps)
 xp:wr.heap[pl]?=za (zf #[x0,x1,vP,zc .i64 1048576] 189 (0,0))
 lo:w.heap.size<=pl
theorem jB.below(h:jB w pl x0 x1 wr Q vP ps){pB:zd}(hb:zh wr.heap.size wr pB):jB w pl x0 x1 pB Q vP ps:=
 ⟨h.kd.below hb,dQ h.own hb,(hb.block _ (ah.1 h.xp).1).trans h.xp,h.lo⟩
theorem jB.push{w7:zd}{a:Nat}{q:Pt}{g7 bG:Nat}(h:jA w pl wr Q (λk=>vP.ownBlock=za k\/k=pl) (ps++[(a,q)]))(Bs:wr.ownsRow w.heap.size 198 1 vP ps.length (iY ps))(xp:wr.heap[pl]?=za (zf #[x0,x1,vP,zc .i64 1048576] 189 (0,0)))(lo:w.heap.size<=pl)
  (aB:w7.ownsRow w.heap.size 198 1 (ze (za ⟨g7,0,zb⟩) (ps.length+1) bG) (ps.length+1) (iY ps++[zk (za ⟨a,0,zb⟩)])) (hg:wr.grownBy w7 vP.ownBlock) (dF:vP.ownBlock=za g7\/wr.heap.size<=g7):
  w7.heap[pl]?=za (zf #[x0,x1,vP,zc .i64 1048576] 189 (0,0))/\jB w pl x0 x1 (w7.setCell ⟨pl,2,zb⟩ (ze (za ⟨g7,0,zb⟩) (ps.length+1) bG)) Q (ze (za ⟨g7,0,zb⟩) (ps.length+1) bG) (ps++[(a,q)]):=by
 have ty:∀{k:Nat} {cs:Array zg} {t:zl},wr.heap[k]?=za (zf cs t (0,0))->t≠198->¬za k=vP.ownBlock:=λe1 e2 e3=>by
  obtain⟨_,ax,z⟩:=dy Bs e3.symm;rw[e1]at z;exact e2 (bL z)
 have WG:=(hg.block _ (ah.1 xp).1 (ty xp (by decide))).trans xp;refine⟨WG,?_⟩;have LY:=dE w7 pl 2 _ _ (ze (za ⟨g7,0,zb⟩) (ps.length+1) bG) WG;obtain⟨w8,Mp⟩:∃w8,w7.setCell ⟨pl,2,zb⟩ (ze (za ⟨g7,0,zb⟩) (ps.length+1) bG)=w8:=⟨_,rfl⟩;have g8:w7.grownBy w8 (za pl):=by rw[<-Mp];exact iZ w7 pl 2 _
 rw[Mp]at LY ⊢;have xp8:w8.heap[pl]?=za (zf #[x0,x1,ze (za ⟨g7,0,zb⟩) (ps.length+1) bG,zc .i64 1048576] 189 (0,0)):=by rw[LY];rfl
 have tc:ap (λk=>vP.ownBlock=za k\/k=pl) wr w8:=((ap.refl _ wr).grown hg (λk e=>.inl (.inl e))).grown g8 (λk e=>.inl (.inr (Option.some.inj e).symm));have MJ:∀{k:Nat} {cs:Array zg} {t:zl},w7.heap[k]?=za (zf cs t (0,0))->t≠189->w8.heap[k]?=za (zf cs t (0,0)):=λe1 e2=>(g8.block _ (ah.1 e1).1 (λe=>by
  injection e with e
  rw[e,WG]at e1;exact e2 (bL e1).symm)).trans e1
 have lN:w8.ownsRow w.heap.size 198 1 (ze (za ⟨g7,0,zb⟩) (ps.length+1) bG) (ps.length+1) (iY ps++[zk (za ⟨a,0,zb⟩)]):=gR aB (λb e=>by
  obtain⟨_,ax,z⟩:=dy aB e;exact(MJ z (by decide)).trans z.symm)
 refine⟨h.turn tc (λk e=>?_) (λk e=>?_),?_,xp8,lo⟩
 ·rcases e with e|e
  ·have e:g7=k:=by simpa [Value.ownBlock]using e
   subst e;rcases dF with h1|h1
   ·exact .inl (.inl h1)
   ·exact .inr h1
  ·exact .inl (.inr e)
 ·rcases e with e|e
  ·obtain⟨z1,ax,z2⟩:=dy lN e;exact⟨z1,ax,_,z2,by decide,by decide⟩
  ·subst e;exact⟨lo,_,_,xp8,by decide,by decide⟩
 ·have e:iY (ps++[(a,q)])=iY ps++[zk (za ⟨a,0,zb⟩)]:=by simp[iY]
  rw[e,nG];exact lN
def SI(w:zd)(x0 x1:zg)(n:Nat)(pq:Nat->Pt)(e:Ending)(w':zd):Prop:=
 ∃(pl:Nat) (Q:Nat->Option Pt) (vP:zg) (ps:List (Nat×Pt)),e=.returned (zk (za ⟨pl,0,zb⟩))/\jB w pl x0 x1 w' Q vP ps/\ps.length=n/\∀k,k<n->kG ps k=pq k
theorem znD(G:Int)(ao:Option Addr)(bn bc g sc n:Nat)(tt:Nat->zl)(xx:Nat->zg)(pq:Nat->Pt)(w:zd)(hr:∀k,k<n->w.cell? ⟨g,k,zb⟩=za (.iface (tt k) (xx k)))(hT:∀k,k<n->aU w (.iface (tt k) (xx k)) (pq k))(hw:∀k,k<n->aE (pq k)<=2000)(hn:n<=100000):
  zm prog 122 #[.agg #[.slice ao bn bc,zc .i64 G],ze (za ⟨g,0,zb⟩) n sc] w λe w'=>SI w (zc .i64 G) (.slice ao bn bc) n pq e w':=by
 obtain⟨i0,hi,bI,aO,aQ⟩:=info_parts Tryz.zxU;obtain⟨W0,ai⟩:∃W0,(w.alloc (zf #[.slice ao bn bc,zc .i64 G] 69)).alloc (zf #[zc .i64 G,.slice ao bn bc,ze zb 0 0,zc .i64 1048576] 189)=W0:=⟨_,rfl⟩;have af:zh w.heap.size w W0:=by rw[<-ai];exact(aw).alloc (by simp) _
 have x0:W0.heap[w.heap.size+1]?=za (zf #[zc .i64 G,.slice ao bn bc,ze zb 0 0,zc .i64 1048576] 189 (0,0)):=by rw[<-ai];exact DM _ _ _
 have Ze:zi (jB w (w.heap.size+1) (zc .i64 G) (.slice ao bn bc) W0 (λ_=>zb) (ze zb 0 0) []):=⟨jA.start w _ _ W0 af (λk e=>by
   rcases e with e|e
   ·simp[Value.ownBlock]at e
   ·subst e;exact⟨by omega,_,_,x0,by decide,by decide⟩),⟨rfl,.inl ⟨rfl,rfl⟩⟩,x0,by omega⟩
 have Hr:=aA hr;have HT:=aA hT;have Hw:=aA hw;have hp:=λk=>zrN (pq k)
 clear hr hT hw x0 af
 go_enter func122,ntmps122
 go_wp2;clear ai
 go_loopw [16] (λiv wr=>∃(k:Nat) (Q:Nat->Option Pt) (vP:zg) (ps:List (Nat×Pt)),iv=zc .i64 k/\k<=n/\ps.length=k/\zi (jB w (w.heap.size+1) (zc .i64 G) (.slice ao bn bc) wr Q vP ps)/\zi (∀j,j<k->kG ps j=pq j))
  (λiv _=>n-(intOf iv).toNat)
 case atStart=>exact⟨0,_,_,[],rfl,aR _,rfl,Ze,λj hj=>absurd hj (cR _)⟩
 case round=>
  clear Ze;obtain⟨k,Q,vP,ps,rfl,jY,rW,HN,HQ⟩:=hrel
  by_cases hlt:k<n
  ·have gZ:(0:Int)<=(k:Int):=by omega
   have db:(k:Int)<(n:Int):=by omega
   have dK:=HN.out.kd.bu;have cg:wr.cell? ⟨g,k,zb⟩=za (.iface (tt k) (xx k)):=(dK.cell (p:=⟨g,k,zb⟩) (block_lt_of_cell (Hr.out k hlt))).trans (Hr.out k hlt);have mM:=HN.out.below ((Below.refl wr.heap.size wr).drew);have hc:=hp k (w.heap.size+1) (.iface (tt k) (xx k)) wr.drew (aU.keep (ou mM.kd.bu) _ _ (HT.out k hlt)) (Hw.out k hlt);have cp:wr.cell? ⟨w.heap.size+1,2,zb⟩=za vP:=(wN HN.out.xp).1;have dC:=(ah.1 HN.out.xp).1;have rz:zi (∀(e:Ending) (w':zd),xk wr.drew (w.heap.size+1) (pq k) e w'->∃(a:Nat) (Q2:Nat->Option Pt),e=.returned (zk (za ⟨a,0,zb⟩))/\w'.ownsRow w.heap.size 198 1 vP ps.length (iY ps)/\w.heap.size<=w'.heap.size/\w.heap.size+1<w'.heap.size/\w'.cell? ⟨w.heap.size+1,2,zb⟩=za vP/\∀w7 g7 bG,w7.ownsRow w.heap.size 198 1 (ze (za ⟨g7,0,zb⟩) (ps.length+1) bG) (ps.length+1) (iY ps++[zk (za ⟨a,0,zb⟩)])->w'.grownBy w7 vP.ownBlock->(vP.ownBlock=za g7\/w'.heap.size<=g7)->w7.cell? ⟨w.heap.size+1,2,zb⟩=za vP/\w7.frozen? ⟨w.heap.size+1,2,zb⟩=false/\jB w (w.heap.size+1) (zc .i64 G) (.slice ao bn bc) (w7.setCell ⟨w.heap.size+1,2,zb⟩ (ze (za ⟨g7,0,zb⟩) (ps.length+1) bG)) Q2 (ze (za ⟨g7,0,zb⟩) (ps.length+1) bG) (ps++[(a,pq k)])):=λe w' hR=>by
    obtain⟨a,Q2,rfl,ae,pQ⟩:=mM.kd.add hR;have oZ:=mM.below ae;refine⟨a,Q2,rfl,oZ.own,pQ.bu.size,(ah.1 oZ.xp).1,(wN oZ.xp).1,λw7 g7 bG h1 h2 h3=>?_⟩;obtain⟨k1,k2⟩:=jB.push pQ oZ.own oZ.xp oZ.lo h1 h2 h3;exact⟨(wN k1).1,(wN k1).2,k2⟩
   have EX:zm prog 139 #[zk (za ⟨w.heap.size+1,0,zb⟩),.iface (tt k) (xx k)] wr.drew λe w'=>∃v,e=.returned v/\xk wr.drew (w.heap.size+1) (pq k) (.returned v) w':=hc.mono λe w' h=>by
    obtain⟨a,Q2,rfl,h2⟩:=h;exact⟨_,rfl,a,Q2,rfl,h2⟩
   have wm:ps.length<=100000:=by omega
   have GS:zi (∀a,∀j,j<k+1->kG (ps++[(a,pq k)]) j=pq j):=λa j hj=>by
    by_cases e:j=k
    ·subst e;unfold kG;rw[bP,sJ (by omega),rW,Aa]
     rfl
    ·have:=HQ.out j (by omega);unfold kG at this ⊢;rw[bP,pH (by omega),<-bP];exact this
   have Hpk:=aA rW;clear mM hc hp rW
   go_upto_region 5 with fail
   refine wp_mono (Q:=wT _) ?_ Jm
   go_region_law ((first|(refine BK (by rfl) 139 #[.tmp 25,.tmp 26] #[161,184] (by rfl) #[zk (za ⟨w.heap.size+1,0,zb⟩),.iface (tt k) (xx k)] (by first|(simp[Act.eval];done)|simp[Act.eval,Act.put]) _ (Xt _ _) EX ?_;intro v4 W4 tz;obtain⟨a4,Q4,Ft,lM,qc,Uf,OM,Cl⟩:=rz.out _ W4 tz;injection Ft with Ft;subst Ft;have co5:(W4.alloc (zf #[zk (za ⟨a4,0,zb⟩)] 198)).cell? ⟨w.heap.size+1,2,zb⟩=za vP:=(((Below.refl W4.heap.size W4).alloc (aj _) _).cell (p:=⟨w.heap.size+1,2,zb⟩) Uf).trans OM;have Cl:=aA Cl;clear tz)|(refine zeb (by rfl) (.tmp 24) (.tmp 28) 187 (by rfl) W4 #[zk (za ⟨a4,0,zb⟩)] 198 (by rfl) W4.heap.size (by rfl) w.heap.size i0 _ 1 8 underlying187 hi bI aO aQ (by rfl) (by omega) vP ps.length (iY ps) (by rfl) lM (by rfl) (by rfl) (by intro u hu;simp at hu;subst hu;rfl) (by omega) (by omega) qc ?_;intro g7 bG W7 fh er iI;obtain⟨co7,EG,CP⟩:=Cl.out W7 g7 bG fh er iI;have NS:=aA CP;clear fh er iI CP)|fail))
   all_goals
    rw[vl];clear EX lM OM co5 co7 EG Cl rz cg cp;go_wp2
    go_roundw
    case rel=>exact⟨k+1,Q4,_,ps++[(a4,pq k)],by go_num,by omega,by simp[Hpk.out],NS,GS.out a4⟩
    case measure=>simp[intOf];omega
  ·obtain rfl:k=n:=by omega
   have HF:zi (SI w (zc .i64 G) (.slice ao bn bc) k pq (.returned (zk (za ⟨w.heap.size+1,0,zb⟩))) wr):=⟨_,Q,vP,ps,rfl,HN.out,rW,HQ.out⟩;clear HN HQ;go_wp2;go_ret;exact HF.out
end
end
open Go
section
variable {P:Program} {ops:Array Oper} {md:Region.Mode} {C:zd->Prop} {Q:Exit->Act->zd->Prop}
theorem XB{l:Array Bool}{i t:Nat}(h:l.getD t true=true):(l.setIfInBounds i true).getD t true=true:=by
 by_cases e:i=t
 ·subst e;rcases ig i l.size with h'|h'
  ·simp[h']
  ·simp
 ·rw[Nb e];exact h
theorem zfj{t:Nat}:∀(fuel:Nat) (listed:Array Bool) (a:Act) (w:zd),listed.getD t true=true->wpAny P md ops Q fuel listed a w->wR P md ops C t Q fuel listed a w
 |0,_,_,_,_,h=>h
 |fuel+1,listed,a,w,ht,h=>⟨h.1,λi hi=>wpOp_mono (λa' w' k=>⟨λe=>by(rw[XB ht]at e;cases e),zfj fuel _ a' w' (XB ht) k⟩) (h.2 i hi)⟩
def QK(Q:Exit->Act->zd->Prop)(K:Act->zd->Prop):Exit->Act->zd->Prop
 |.normal,a,w=>K a w
 |e,a,w=>Q e a w
def wP(l:Array Bool):List Nat->Array Bool
 |[]=>l
 |i::is=>wP (l.setIfInBounds i true) is
def NC(md:Region.Mode)(ops:Array Oper):List Nat->Array Bool->Bool
 |[],_=>true
 |j::js,listed=>(Region.ready md ops listed == [j])&&NC md ops js (listed.setIfInBounds j true)
theorem zug{K' K:Act->zd->Prop}{o:Oper}{a:Act}{w:zd}(h:o.wp P a w K (QK Q K')):o.wp P a w K Q:=by
 unfold Oper.wp at *;generalize (execOp a.eval o).run P w=r at *;cases r with
 |ok n w'=>cases n<;>exact h
 |halt x w'=>cases x<;>exact h
theorem zfk{fr:Nat}(hL:∀a w,¬Q .outgrown a w):∀(js:List Nat) (l:List Oper) (listed:Array Bool) (a:Act) (w:zd),l.length=js.length->(∀k,k<js.length->∃j o,js[k]?=za j/\l[k]?=za o/\ops[j]?=za o)->NC md ops js listed=true->wpList P ops (QK Q (λa w=>wpAny P md ops Q fr (wP listed js) a w)) l a w->wpAny P md ops Q (js.length+fr) listed a w
 |[],[],listed,a,w,_,_,_,h=>by rw[oJ,jw];exact h
 |j::js,o::l,listed,a,w,hl,ho,hB,h=>by
  simp only[NC,de,beq_iff_eq]at hB;obtain⟨j',o',e1,e2,h0⟩:=ho 0 (by simp);simp at e1 e2;subst e1;subst e2;have ih:=λa w h=>zfk (fr:=fr) hL js l (listed.setIfInBounds j true) a w (by simpa using hl) (λk hk=>by have:=ho (k+1) (by simp;omega);simpa using this) hB.2 h
  rw[show (j::js).length+fr=(js.length+fr)+1 by simp;omega];refine⟨λe=>absurd e (by rw[hB.1];simp),λi hi=>?_⟩;rw[hB.1]at hi;have e:i=j:=by simpa using hi
  subst e;unfold wpOp;simp only[h0];unfold wpList at h
  by_cases hw:Region.wanted o (yielded ops a.tmps)=true
  ·rw[aC hw]at h ⊢;rcases h with h|h
   ·exact .inl (Oper.wp_mono (λa w h=>ih a w h) (zug h))
   ·obtain⟨_,a',w',h'⟩:=h;exact absurd h' (hL a' w')
  ·rw[ak hw]at h ⊢;exact ih _ _ h
 |[],_::_,_,_,_,h,_,_,_=>by simp at h
 |_::_,[],_,_,_,h,_,_,_=>by simp at h
def yu(o:Oper):Bool:=match o.op with
 |.move _=>true
 |.assign _=>true
 |.load _ _=>true
 |.fieldAddr _ _ _=>true
 |.indexAddr _ _ _=>true
 |.binOp _ _ _ _ _=>true
 |.nilCheck _=>true
 |.slice _ _ _ _ _=>true
 |_=>false
theorem zlG{o:Oper}(h:yu o=true){ρ:Operand->zg}{w w':zd}{n:Next}(hr:(execOp ρ o).run P w=.ok n w'):∃u,n=.value u:=by
 obtain⟨dst,op,type,pos,after,guard⟩:=o;cases op<;>simp only[yu,zZ]at h
 all_goals (simp only[execOp]at hr)
 case move x=>rw[Sem.run_pure]at hr;injection hr with h1;exact⟨_,h1.symm⟩
 case assign x=>rw[Sem.run_pure]at hr;injection hr with h1;exact⟨_,h1.symm⟩
 case nilCheck x=>
  split at hr
  case h_4=>
   split at hr
   case h_1=>simp[runtimePanic,go_sem]at hr
   case h_2=>
    simp only[Sem.run_bind]at hr;generalize Sem.run P program w=r1 at hr;cases r1 with
    |halt x w1=>simp[Result.andThen]at hr
    |ok a w1=>
     simp only[Result.andThen]at hr;generalize Sem.run P (nilAhead _ _ _ _) w1=r2 at hr;cases r2 with
     |halt x w2=>simp at hr
     |ok b w2=>
      simp only at hr;split at hr
      ·simp[unsupported,go_sem]at hr
      ·rw[Sem.run_pure]at hr;injection hr with h1;exact⟨_,h1.symm⟩
   case h_3=>rw[Sem.run_pure]at hr;injection hr with h1;exact⟨_,h1.symm⟩
  case h_5=>rw[Sem.run_pure]at hr;injection hr with h1;exact⟨_,h1.symm⟩
  all_goals (simp[runtimePanic,go_sem]at hr)
 all_goals exact zkj hr
theorem zex{o:Oper}{a:Act}{K:Act->Prop}(hb:yu o=true)(hw:Region.wanted o (yielded ops a.tmps)=true)(h:o.quiet P a C K):∃v,qk P ops C o v a/\K (a.put o.dst v):=by
 obtain⟨v,h1,h2⟩:=h;refine⟨v,.inl ⟨hw,λw hC=>?_⟩,h2⟩;have h3:=h1 w hC;unfold Oper.quietAt at h3;cases hr:(execOp a.eval o).run P w with
 |ok n w'=>
  obtain⟨u,rfl⟩:=zlG hb hr;rw[hr]at h3;obtain⟨e1,e2⟩:=h3;rw[e1,e2]
 |halt x w'=>rw[hr]at h3;exact h3.elim
def MD(md:Region.Mode)(ops:Array Oper)(js:List Nat):List Nat->Array Bool->Bool
 |[],listed=>NC md ops js listed
 |i::is,listed=>(Region.ready md ops listed).contains i&&Region.free md ops listed i&&MD md ops js is (listed.setIfInBounds i true)
theorem zh6{t:Nat}:∀(js:List Nat) (l:Array Bool),(t∈js\/l.getD t true=true)->(wP l js).getD t true=true
 |[],_,h=>by
  rcases h with h|h
  ·cases h
  ·exact h
 |j::js,l,h=>by
  refine zh6 js _ ?_;rcases h with h|h
  ·rcases pI.1 h with e|e
   ·subst e;refine .inr ?_;rcases ig t l.size with h'|h'
    ·simp[h']
    ·simp
   ·exact .inl e
  ·exact .inr (XB h)
theorem zhi{t fr:Nat}{js:List Nat}{lj:List Oper}(hs:Region.noSelect ops=true)(hL:∀a w,¬Q .outgrown a w)(De:lj.length=js.length)(qN:∀k,k<js.length->∃j o,js[k]?=za j/\lj[k]?=za o/\ops[j]?=za o)(hQ:∀c a a' w,Q (.panic c) a w->Q (.panic c) a' w)(UE:∃r,js=t::r):
  ∀(is:List Nat) (l:List Oper) (listed:Array Bool) (a:Act) (w:zd),mE md ops listed->l.length=is.length->(∀k,k<is.length->∃i o,is[k]?=za i/\l[k]?=za o/\ops[i]?=za o/\yu o=true/\oH md ops 8 t i=true/\t≠i)->
   MD md ops js is listed=true->C w->wpQuiet P ops C (λa'=>∀w',C w'->∀r,r=lj->wpList P ops (QK Q (λa w=>wpAny P md ops Q fr (wP listed (is++js)) a w)) r a' w') l a->wR P md ops C t Q (is.length+(js.length+fr)) listed a w
 |[],[],listed,a,w,iq,_,_,hB,hC,h=>by
  rw[oJ,jw];have h1:=zfk (fr:=fr) hL js lj listed a w De qN hB (h w hC _ rfl);obtain⟨r,hr⟩:=UE
  -- t is at the head: it is the one that is ready
  subst hr;simp only[MD,NC,de,beq_iff_eq]at hB;rw[show (t::r).length+fr=(r.length+fr)+1 by simp;omega]at h1 ⊢;refine⟨h1.1,λi hi=>?_⟩;have e:i=t:=by rw[hB.1]at hi;simpa using hi
  subst e;have ht:(listed.setIfInBounds i true).getD i true=true:=zh6 [i] listed (.inl (by simp));exact wpOp_mono (λa' w' k=>⟨λe=>by(rw[ht]at e;cases e),zfj _ _ a' w' ht k⟩) (h1.2 i hi)
 |i::is,o::l,listed,a,w,iq,IH,Dc,hB,hC,h=>by
  obtain⟨i',o',e1,e2,h0,kC,rX,Fq⟩:=Dc 0 (by simp);simp at e1 e2;subst e1;subst e2;simp only[MD,de]at hB;obtain⟨⟨hr,hf⟩,CQ⟩:=hB;have bV:i∈Region.ready md ops listed:=by simpa using hr
  have next:∀v,qk P ops C o v a->wpQuiet P ops C (λa'=>∀w',C w'->∀r,r=lj->wpList P ops (QK Q (λa w=>wpAny P md ops Q fr (wP listed ((i::is)++js)) a w)) r a' w') l (a.put o.dst v)->wR P md ops C t Q ((i::is).length+(js.length+fr)) listed a w:=λv hy hk=>by
   have ih:=zhi (fr:=fr) hs hL De qN hQ UE is l (listed.setIfInBounds i true) (a.put o.dst v) w (iq.set bV) (by simpa using IH) (λk hk=>by have:=Dc (k+1) (by simp;omega);simpa using this) CQ hC hk;rw[show (i::is).length+(js.length+fr)=(is.length+(js.length+fr))+1 by simp;omega];exact Xd h0 Fq (λL hc hl=>FN hc 8 t i hl rX) (Region.noSelect_spec hs) hQ _ listed a w iq (Region.free_spec h0 hf) bV hy hC ih
  unfold wpQuiet at h
  by_cases hw:Region.wanted o (yielded ops a.tmps)=true
  ·rw[aC hw]at h;obtain⟨v,hy,hk⟩:=zex kC hw h;exact next v hy hk
  ·rw[ak hw]at h;exact next undef (.inr ⟨by simpa using hw,rfl⟩) h
 |[],_::_,_,_,_,_,h,_,_,_,_=>by simp at h
 |_::_,[],_,_,_,_,h,_,_,_,_=>by simp at h
def YV(md:Region.Mode)(all:List Oper)(done:List Nat):Bool:=P5 md all.toArray done (Array.replicate all.length false)
 where P5 (md:Region.Mode) (ops:Array Oper):List Nat->Array Bool->Bool
 |[],_=>true
 |i::is,listed=>(Region.ready md ops listed).contains i&&P5 md ops is (listed.setIfInBounds i true)
theorem zhI:∀(is:List Nat) (l:Array Bool),YV.P5 md ops is l=true->mE md ops l->mE md ops (wP l is)
 |[],_,_,h=>h
 |i::is,l,hB,h=>by
  simp only[YV.P5,de]at hB;exact zhI is _ hB.2 (h.set (by simpa using hB.1))
def Wc(md:Region.Mode)(all:List Oper)(done is js:List Nat):Bool:=
 Region.noSelect all.toArray&&YV md all done&&(match js with | []=>false|t::_=>is.all (λi=>oH md all.toArray 8 t i&&decide (t≠i)&&(match all[i]? with|some o=>yu o|none=>false)))&&MD md all.toArray js is (wP (Array.replicate all.length false) done)&&js.all (λj=>decide (j<all.length))
theorem Jn(done is js:List Nat)(fr:Nat){a:Act}{w:zd}{all:List Oper}(C:zd->Prop)(hC:C w)(hB:Wc md all done is js=true)(hL:∀a w,¬Q .outgrown a w)(hQ:∀c a a' w,Q (.panic c) a w->Q (.panic c) a' w)
  (h:∀l,l=is.filterMap (λi=>all[i]?)->wpQuiet P all.toArray C (λa'=>∀w',C w'->∀r,r=js.filterMap (λj=>all[j]?)->wpList P all.toArray (QK Q (λa w=>wpAny P md all.toArray Q fr (wP (wP (Array.replicate all.length false) done) (is++js)) a w)) r a' w') l a) (n:Nat) (hn:n=is.length+(js.length+fr)):wpAny P md all.toArray Q n (wP (Array.replicate all.length false) done) a w:=by
 subst hn;cases js with
 |nil=>simp[Wc]at hB
 |cons t rs=>
  simp only[Wc,de,iQ,lx]at hB;obtain⟨⟨⟨⟨hs,iq⟩,hi⟩,Bm⟩,hj⟩:=hB;have key:∀(is:List Nat),(∀x∈is,(oH md all.toArray 8 t x=true/\t≠x)/\(match all[x]? with|some o=>yu o|none=>false)=true)->(is.filterMap (λi=>all[i]?)).length=is.length/\∀k,k<is.length->∃i o,is[k]?=za i/\(is.filterMap (λi=>all[i]?))[k]?=za o/\all.toArray[i]?=za o/\yu o=true/\oH md all.toArray 8 t i=true/\t≠i:=by
   intro is
   induction is with
   |nil=>intro _;exact⟨rfl,λk hk=>absurd hk (cR _)⟩
   |cons i is ih=>
    intro hx;obtain⟨⟨q1,q2⟩,q3⟩:=hx i (by simp);obtain⟨r1,r2⟩:=ih (λx kD=>hx x (by simp[kD]));cases ho:all[i]? with
    |none=>rw[ho]at q3;cases q3
    |some o=>
     rw[ho]at q3;have e:(i::is).filterMap (λi=>all[i]?)=o::is.filterMap (λi=>all[i]?):=by simp[ho]
     rw[e];refine⟨by simp[r1],λk hk=>?_⟩;cases k with
     |zero=>exact⟨i,o,rfl,rfl,by simpa using ho,q3,q1,q2⟩
     |succ k=>simpa using r2 k (by simpa using hk)
  have My:∀(js:List Nat),(∀j∈js,j<all.length)->(js.filterMap (λj=>all[j]?)).length=js.length/\∀k,k<js.length->∃j o,js[k]?=za j/\(js.filterMap (λj=>all[j]?))[k]?=za o/\all.toArray[j]?=za o:=by
   intro js
   induction js with
   |nil=>intro _;exact⟨rfl,λk hk=>absurd hk (cR _)⟩
   |cons j js ih=>
    intro hx;obtain⟨r1,r2⟩:=ih (λx kD=>hx x (by simp[kD]));have hl:=hx j (by simp);have e:(j::js).filterMap (λj=>all[j]?)=all[j]::js.filterMap (λj=>all[j]?):=by simp[hl]
    rw[e];refine⟨by simp[r1],λk hk=>?_⟩;cases k with
    |zero=>exact⟨j,all[j],rfl,rfl,by simp[hl]⟩
    |succ k=>simpa using r2 k (by simpa using hk)
  obtain⟨k1,k2⟩:=key is (λx hx=>by obtain⟨⟨a1,a2⟩,a3⟩:=hi x hx;exact⟨⟨a1,a2⟩,a3⟩);obtain⟨j1,j2⟩:=My (t::rs) hj;exact QG _ _ _ _ (zhi (P:=P) (C:=C) (Q:=Q) (md:=md) (fr:=fr) hs hL j1 j2 hQ ⟨rs,rfl⟩ is _ _ a w (zhI done _ iq (mE.start _ _)) k1 k2 Bm hC (h _ rfl))
theorem su{Q:Exit->Act->zd->Prop}{K:Act->zd->Prop}{a:Act}{w:zd}:QK Q K .normal a w=K a w:=rfl
theorem zhl{id:Nat}{a:Act}{w:zd}{all:List Oper}(hm:P.follows .mixedOrders=true)(h:wpAny P .any all.toArray (wT Q) all.length (wP (Array.replicate all.length false) []) a w.drew):(Code.region id all.toArray true).wp P Q a w:=by
 refine wp_mono (wp_region_any hm ?_) Jm
 simpa [wP]using h
def NM(md:Region.Mode)(ops:Array Oper)(js:List Nat):List Nat->Array Bool->Bool
 |[],listed=>JI md ops js listed&&(List.range ops.size).all (λk=>listed.getD k true || js.contains k)
 |i::is,listed=>(Region.ready md ops listed).contains i&&Region.free md ops listed i&&NM md ops js is (listed.setIfInBounds i true)
def Rr(md:Region.Mode)(all:List Oper)(is js:List Nat)(t:Nat):Bool:=
 Region.noSelect all.toArray&&is.all (λi=>oH md all.toArray 8 t i&&decide (t≠i)&&(match all[i]? with|some o=>yu o|none=>false))&&NM md all.toArray js is (Array.replicate all.length false)&&decide (is.length+js.length=all.length)&&js.all (λj=>decide (j<all.length))
theorem zf0{D:zd->Prop}{t:Nat}{js:List Nat}{lj:List (Nat×Oper)}(hs:Region.noSelect ops=true)(De:lj.map Prod.fst=js)(qN:∀x∈lj,ops[x.1]?=za x.2)(hQ:∀c a a' w,Q (.panic c) a w->Q (.panic c) a' w):
  ∀(is:List Nat) (l:List Oper) (listed:Array Bool) (a:Act) (w:zd),mE md ops listed->listed.size=ops.size->l.length=is.length->(∀k,k<is.length->∃i o,is[k]?=za i/\l[k]?=za o/\ops[i]?=za o/\yu o=true/\oH md ops 8 t i=true/\t≠i)->
   NM md ops js is listed=true->C w->D w->wpQuiet P ops C (λa'=>∀w',D w'->∀r,r=lj->nC P ops C t Q r a' w') l a->wR P md ops C t Q (is.length+lj.length) listed a w
 |[],[],listed,a,w,iq,hsz,_,_,hB,_,hD,h=>by
  simp only[NM,de,iQ,Ab,sK,List.contains_iff_mem]at hB;rw[oJ,jw];refine WT js lj listed a w De qN (λk hk=>?_) hB.1 (h w hD _ rfl);have hlt:k<ops.size:=by
   rcases ig k ops.size with h'|h'
   ·exact h'
   ·rw[<-hsz]at h';simp[Array.getElem?_eq_none h']at hk
  rcases hB.2 k hlt with h1|h1
  ·rw[hk]at h1;cases h1
  ·exact h1
 |i::is,o::l,listed,a,w,iq,hsz,IH,Dc,hB,hC,hD,h=>by
  obtain⟨i',o',e1,e2,h0,kC,rX,Fq⟩:=Dc 0 (by simp);simp at e1 e2;subst e1;subst e2;simp only[NM,de]at hB;obtain⟨⟨hr,hf⟩,CQ⟩:=hB;have bV:i∈Region.ready md ops listed:=by simpa using hr
  have next:∀v,qk P ops C o v a->wpQuiet P ops C (λa'=>∀w',D w'->∀r,r=lj->nC P ops C t Q r a' w') l (a.put o.dst v)->wR P md ops C t Q ((i::is).length+lj.length) listed a w:=λv hy hk=>by
   have ih:=zf0 hs De qN hQ is l (listed.setIfInBounds i true) (a.put o.dst v) w (iq.set bV) (by simpa using hsz) (by simpa using IH) (λk hk=>by have:=Dc (k+1) (by simp;omega);simpa using this) CQ hC hD hk;rw[show (i::is).length+lj.length=(is.length+lj.length)+1 by simp;omega];exact Xd h0 Fq (λL hc hl=>FN hc 8 t i hl rX) (Region.noSelect_spec hs) hQ _ listed a w iq (Region.free_spec h0 hf) bV hy hC ih
  unfold wpQuiet at h
  by_cases hw:Region.wanted o (yielded ops a.tmps)=true
  ·rw[aC hw]at h;obtain⟨v,hy,hk⟩:=zex kC hw h;exact next v hy hk
  ·rw[ak hw]at h;exact next undef (.inr ⟨by simpa using hw,rfl⟩) h
 |[],_::_,_,_,_,_,_,h,_,_,_,_,_=>by simp at h
 |_::_,[],_,_,_,_,_,h,_,_,_,_,_=>by simp at h
theorem zoh(is js:List Nat)(t:Nat){a:Act}{w:zd}{all:List Oper}(C D:zd->Prop)(hC:C w)(hD:D w)(hB:Rr .any all is js t=true)(hQ:∀c a a' w,Q (.panic c) a w->Q (.panic c) a' w)
  (h:∀l,l=is.filterMap (λi=>all[i]?)->wpQuiet P all.toArray C (λa'=>∀w',D w'->∀r,r=js.filterMap (λj=>(all[j]?).map λo=>(j,o))->nC P all.toArray C t Q r a' w') l a):wpAny P .any all.toArray Q all.toArray.size (Array.replicate all.toArray.size false) a w:=by
 simp only[Rr,de,iQ,lx]at hB;obtain⟨⟨⟨⟨hs,hi⟩,Bm⟩,hlen⟩,hj⟩:=hB;have key:∀(is:List Nat),(∀x∈is,(oH .any all.toArray 8 t x=true/\t≠x)/\(match all[x]? with|some o=>yu o|none=>false)=true)->(is.filterMap (λi=>all[i]?)).length=is.length/\∀k,k<is.length->∃i o,is[k]?=za i/\(is.filterMap (λi=>all[i]?))[k]?=za o/\all.toArray[i]?=za o/\yu o=true/\oH .any all.toArray 8 t i=true/\t≠i:=by
  intro is
  induction is with
  |nil=>intro _;exact⟨rfl,λk hk=>absurd hk (cR _)⟩
  |cons i is ih=>
   intro hx;obtain⟨⟨q1,q2⟩,q3⟩:=hx i (by simp);obtain⟨r1,r2⟩:=ih (λx kD=>hx x (by simp[kD]));cases ho:all[i]? with
   |none=>rw[ho]at q3;cases q3
   |some o=>
    rw[ho]at q3;have e:(i::is).filterMap (λi=>all[i]?)=o::is.filterMap (λi=>all[i]?):=by simp[ho]
    rw[e];refine⟨by simp[r1],λk hk=>?_⟩;cases k with
    |zero=>exact⟨i,o,rfl,rfl,by simpa using ho,q3,q1,q2⟩
    |succ k=>simpa using r2 k (by simpa using hk)
 have My:∀(js:List Nat),(∀j∈js,j<all.length)->(js.filterMap (λj=>(all[j]?).map λo=>(j,o))).map Prod.fst=js/\∀x∈js.filterMap (λj=>(all[j]?).map λo=>(j,o)),all.toArray[x.1]?=za x.2:=by
  intro js
  induction js with
  |nil=>intro _;exact⟨rfl,λx hx=>by cases hx⟩
  |cons j js ih=>
   intro hx;obtain⟨r1,r2⟩:=ih (λx kD=>hx x (by simp[kD]));have hl:=hx j (by simp);have e:(j::js).filterMap (λj=>(all[j]?).map λo=>(j,o))=(j,all[j])::js.filterMap (λj=>(all[j]?).map λo=>(j,o)):=by simp[hl]
   rw[e];refine⟨by simp[r1],λx kD=>?_⟩;rcases pI.1 kD with rfl|kD
   ·simp[hl]
   ·exact r2 x kD
 obtain⟨k1,k2⟩:=key is (λx hx=>by
  obtain⟨⟨a1,a2⟩,a3⟩:=hi x hx;exact⟨⟨a1,a2⟩,a3⟩)
 obtain⟨j1,j2⟩:=My js hj;have IE:(js.filterMap (λj=>(all[j]?).map λo=>(j,o))).length=js.length:=by rw[<-rf (f:=Prod.fst),j1]
 have h1:=zf0 (P:=P) (C:=C) (D:=D) (Q:=Q) (md:=.any) (t:=t) hs j1 j2 hQ is _ (Array.replicate all.toArray.size false) a w (mE.start _ _) (by simp) k1 k2 (by simpa using Bm) hC hD (h _ rfl);have h2:=QG _ _ _ _ h1;rw[IE,hlen]at h2
 simpa using h2
theorem zez(is js:List Nat)(t:Nat){id:Nat}{a:Act}{w:zd}{all:List Oper}(C D:zd->Prop)(hm:P.follows .mixedOrders=true)(hC:C w.drew)(hD:D w.drew)(hB:Rr .any all is js t=true)
  (h:∀l,l=is.filterMap (λi=>all[i]?)->wpQuiet P all.toArray C (λa'=>∀w',D w'->∀r,r=js.filterMap (λj=>(all[j]?).map λo=>(j,o))->nC P all.toArray C t (wT Q) r a' w') l a):(Code.region id all.toArray true).wp P Q a w:=by
 refine wp_mono (wp_region_any hm ?_) Jm;exact zoh (Q:=wT Q) is js t C D hC hD hB (λ_ _ _ _ h=>h.elim) h
theorem MZ(is js:List Nat)(t:Nat){id:Nat}{a:Act}{w:zd}{all:List Oper}(C:zd->Prop)(hm:P.follows .mixedOrders=true)(hC:C w.drew)(hB:Rr .any all is js t=true)
  (h:∀l,l=is.filterMap (λi=>all[i]?)->wpQuiet P all.toArray C (λa'=>∀w',C w'->∀r,r=js.filterMap (λj=>(all[j]?).map λo=>(j,o))->nC P all.toArray C t (wT Q) r a' w') l a):(Code.region id all.toArray true).wp P Q a w:=by
 exact zez is js t C C hm hC hC hB h
end
end Go.Proofs.YtdimhpfiieepiaaGreatDoor
