import Derived.Test.YtdimhpfiieepiaaGreatDoorC45
namespace Go.Proofs.YtdimhpfiieepiaaGreatDoor
open Proofs.Tryz
open Option renaming some->za,none->zb
open Value renaming int->zc,slice->ze,pointer->zj
open Go renaming World->zd,Value->zg,TypeId->zk,Calls->zl
open Obj renaming cells->zf
open RowKit renaming Below->aa,Hid->ab
set_option maxHeartbeats 4000000
set_option maxRecDepth 100000
section
open Go.RowKit
attribute [local go_sem ↓] wp_at_zero wp_at_succ
theorem Tryz.zzt:(prog.info? 71).map (·.size)=za 2:=by kernel_rfl
def zoz(ats:Array zk)(ty:zk)(args:Array zg):Sem zg:=Builtin.copy_ ats ty args
theorem zjz(ty:zk)(args:Array zg):Builtin.copy_ #[33,33] ty args=zoz #[33,33] ty args:=rfl
attribute [local go_sem ↓] zjz
theorem zfX(x y:zg)(hx:x.oneCell'=true)(hy:y.oneCell'=true){n j c g dc sl sc:Nat}{a:Addr}{W:zd}(hR:W.heap[g]?=za (zf (ld x y (zc .i64 0) (zc .i64 0) n j).toArray 71 (0,0)))(hj:j<=n)(hc:c=min sl (n-j))(hs:∀i,i<c*2->W.cell? (a.add i)=za (if i%2=0 then x else y))(ty:zk)(dl:Nat)(tf:dl=n-j)(o:Nat)(ho:o=j*2):
  ∃W',(zoz #[33,33] ty #[ze (za ⟨g,o,zb⟩) dl dc,ze (za a) sl sc]).run prog W=.ok (zc .i64 (c:Int)) W'/\W'.heap[g]?=za (zf (ld x y (zc .i64 0) (zc .i64 0) n (j+c)).toArray 71 (0,0))/\W.grownBy W' (za g):=by
 subst ho;have h:=zf8 (P:=prog) W 33 33 ty 71 g (j*2) dl dc a sl sc (ld x y (zc .i64 0) (zc .i64 0) n j).toArray 71 (pU x y c) c underlying33 Tryz.zzt hR (by rw[tf];exact hc) (Be x y c)
  (λi v hv=>by
   by_cases hi:i<c*2
   ·rw[WS x y hi]at hv;cases hv;exact hs i hi
   ·rw[qh (by rw[Be];omega)]at hv;cases hv) (by rw[Be,yh,Me];omega) (by
   intro v hv;obtain⟨k,-,rfl⟩:=sy.1 hv;split
   ·exact hx
   ·exact hy)
 refine⟨_,h,?_,⟨rfl,rfl,rfl,by simp[World.setRow],λk _ hk=>setRow_other W g k _ (λe=>hk (by rw[e]))⟩⟩;rw[setRow_heap W g _ _ _ _ hR];have e:=zib x y (zc .i64 0) (zc .i64 0) (n:=n) (j:=j) (c:=c) (by omega);unfold splice at e;rw[pA,e]
theorem zi4(x y:zg)(ox:x.oneCell'=true)(oy:y.oneCell'=true)(g0 n:Nat)(w:zd)(hx:w.cell? ⟨g0,0,zb⟩=za x)(hy:w.cell? ⟨g0,1,zb⟩=za y)(hn:n<=4000):
  zl prog 129 #[ze (za ⟨g0,0,zb⟩) 1 1,zc .i64 (n:Int)] w λe w'=>e=.returned (ze (za ⟨w.heap.size,0,zb⟩) n n)/\w'.ownsRow w.heap.size 71 2 (ze (za ⟨w.heap.size,0,zb⟩) n n) n (pU x y n)/\aa w.heap.size w w':=by
 obtain⟨i0,hi,bK,bh,bz⟩:=info_parts Tryz.Ud;have hm:=zpo n w hn;have Ee:g0<w.heap.size:=block_lt_of_cell hx;have th:(n:Int)<=4000:=by omega
 obtain⟨c0,xh⟩:∃c,c=min 1 n:=⟨_,rfl⟩;have Ev:∀W,aa w.heap.size w W->∀i,i<c0*2->W.cell? ((⟨g0,0,zb⟩:Addr).add i)=za (if i%2=0 then x else y):=λW hb i hi=>by
  obtain rfl|rfl:i=0\/i=1:=by omega
  ·exact(hb.cell (p:=⟨g0,0,zb⟩) Ee).trans hx
  ·exact(hb.cell (p:=⟨g0,1,zb⟩) Ee).trans hy
 go_enter func129,ntmps129
 go_wp2_with (first|(go_at_call 149;refine hm.mono ?_;rintro e w' ⟨rfl,hw'⟩;subst w')|(refine wpList_make_full _ rfl _ _ 33 rfl w.heap.size 71 i0 _ 2 underlying33 hi bK bh _ _ _ _ n rfl rfl rfl rfl (by rw[bz];omega) (by unfold maxLen;omega) (ai _) ?_;intro w1 CD Cu;have ak:aa w.heap.size w w1:=(Below.refl _ _).grown Cu (ai _) (by intro k h;cases h);have HR:ab (w1.heap[w.heap.size]?=za (zf (ld x y (zc .i64 0) (zc .i64 0) n 0).toArray 71 (0,0))):=(by have h:=wA CD;rw[show (Value.agg #[zc .i64 0,zc .i64 0]).cells=#[zc .i64 0,zc .i64 0] from rfl,zmk x y]at h;exact h);clear CD Cu;obtain⟨w2,Az,nO,bU⟩:=zfX x y ox oy (sc:=1) (a:=⟨g0,0,zb⟩) (dc:=n) HR.out (aZ _) (c:=c0) (sl:=1) (by omega) (Ev _ ak) 3 n rfl 0 rfl;have IY:ab (w2.heap[w.heap.size]?=za (zf (ld x y (zc .i64 0) (zc .i64 0) n c0).toArray 71 (0,0))):=(by rw[kn]at nO;exact nO);have mN:ab (aa w.heap.size w w2):=ak.grown bU ak.size (λq e=>by cases e;exact ai _);clear nO bU))
 clear hx hy Az ak hm HR Ev
 go_loopw [8] (λi wr=>∃(j:Nat),(1<=j\/n=0)/\j<=n/\i=zc .i64 j/\ab (wr.heap[w.heap.size]?=za (zf (ld x y (zc .i64 0) (zc .i64 0) n j).toArray 71 (0,0)))/\ab (aa w.heap.size w wr))
  (λi _=>n-(intOf i).toNat)
 case atStart=>exact⟨c0,by omega,by omega,by rw[xh],IY,mN⟩
 case round=>
  obtain⟨j,Eh,hj,rfl,HR,HB⟩:=hrel
  by_cases Cx:j<n
  ·have zyr:1<=j:=by omega
   have hi3:(j:Int)<(n:Int):=by omega
   have SR:¬n=j:=by omega
   obtain⟨c,hc⟩:∃c,c=min j (n-j):=⟨_,rfl⟩;obtain⟨w5,Az,JS,vK⟩:=zfX x y ox oy (W:=wr.drew) (sc:=n) (a:=⟨w.heap.size,0,zb⟩) (dc:=n-j) HR.out hj (c:=c) (sl:=j) hc (λi hi=>by
    have e:(⟨w.heap.size,0,zb⟩:Addr).add i=⟨w.heap.size,i,zb⟩:=by unfold Addr.add;split<;>simp_all
    have hr:wr.drew.heap[w.heap.size]?=za (zf (ld x y (zc .i64 0) (zc .i64 0) n j).toArray 71 (0,0)):=HR.out;have e2:i<j*2:=by omega
    rw[e,aO _ _ _ _ _ _ hr,List.getElem?_toArray,Da _ _ _ _ (by omega),aD e2]) 3 (n-j) rfl (j*2) rfl
   have Qn:ab _:=JS;have P9:ab (aa w.heap.size w w5):=by
    have rz:aa w.heap.size w wr.drew:=HB.out.trans ⟨rfl,rfl,rfl,ai _,λ_ _=>rfl⟩;exact rz.grown vK rz.size (λq e=>by cases e;exact ai _)
   have qq:1<=c:=by omega
   have dx:j+c<=n:=by omega
   have nQ:(j:Int)+(c:Int)<=4000:=by omega
   clear JS vK hc;go_wp2
   go_big_region
   go_wp2
   go_roundw
   case rel=>exact⟨j+c,by omega,dx,by simp,Qn,P9⟩
   case measure=>simp[intOf];omega
  ·have Kf:j=n:=by omega
   subst Kf;go_wp2;refine bD (v:=ze (za ⟨w.heap.size,0,zb⟩) j j) (by simp[results,results129,go_sem]) rfl ⟨rfl,?_,HB.out⟩;have:=HR.out;rw[zmA]at this;exact zh7 this (ai _) (Be _ _ _) (by unfold maxLen;omega)
end
section
open Go.RowKit
attribute [local go_sem ↓] wp_at_zero wp_at_succ
theorem zgU(aV bm:Bool)(ao:Option Addr)(k c:Nat)(a:Nat)(w:zd):
  zl prog 128 #[.agg #[.bool aV,.bool bm,.slice ao k c],zc .i64 a] w λr w'=>r=.returned (.bool (a==0 || !aV))/\aa w.heap.size w w':=by
 have hb:aa w.heap.size w (w.alloc (zf #[.bool aV,.bool bm,.slice ao k c] 115)):=au;have h0:((a:Int)==0)=(a==0):=by
  by_cases h:a=0
  ·subst h;rfl
  ·have:((a:Int)==0)=false:=by simp;omega
   rw[this];simp;omega
 cases hz:(a==0)<;>cases aV
 all_goals
  rw[hz]at h0
  go_enter func128,ntmps128
  go_wp2;go_ret;exact⟨rfl,hb⟩
theorem zj2(aV bm cl:Bool)(ao:Option Addr)(k c:Nat)(t:ByteArray)(e:Nat)(w:zd):
  zl prog 123 #[.agg #[.bool aV,.bool bm,.slice ao k c],.string t,zc .i64 e,.bool cl] w λr w'=>r=.returned (.bool ((cl&&e==t.size) || !bm))/\aa w.heap.size w w':=by
 have hb:aa w.heap.size w (w.alloc (zf #[.bool aV,.bool bm,.slice ao k c] 115)):=au;have h1:((e:Int)==(t.size:Int))=(e==t.size):=by
  by_cases h:e=t.size
  ·subst h;simp
  ·have:((e:Int)==(t.size:Int))=false:=by simp;omega
   rw[this];simp;omega
 cases he:(e==t.size)<;>cases bm<;>cases cl
 all_goals
  rw[he]at h1
  go_enter func123,ntmps123
  go_wp2;go_ret;exact⟨rfl,hb⟩
theorem zh8(aV bm cl:Bool)(n a e:Nat):Bd aV bm n a e cl=((a==0 || !aV)&&((cl&&e==n) || !bm)):=by
 unfold Bd;cases (a==0)<;>cases aV<;>cases (e==n)<;>cases bm<;>cases cl<;>rfl
theorem ztG(n:Nat)(a b:Int):pU (zc .i64 a) (zc .i64 b) n=pv (List.replicate n (a,b)):=by
 induction n with
 |zero=>rfl
 |succ n ih=>
  rw[List.replicate_succ',zpQ,<-ih];unfold pU;rw[show (n+1)*2=n*2+1+1 from by omega,yd,yd];simp
theorem zh3(pl G:Nat)(x1 x2 x3:zg)(w:zd)(hx:w.heap[pl]?=za (zf #[zc .i64 (G:Int),x1,x2,x3] 189 (0,0)))(hG:G<=500):
  zl prog 103 #[zj (za ⟨pl,0,zb⟩)] w λe w'=>∃g,e=.returned (ze (za ⟨g,0,zb⟩) (G+1) (G+1))/\w.heap.size<=g/\w'.ownsRow w.heap.size 71 2 (ze (za ⟨g,0,zb⟩) (G+1) (G+1)) (G+1) (pv (List.replicate (G+1) (-1,-1)))/\aa w.heap.size w w':=by
 obtain⟨W1,cC⟩:∃W1,w.alloc (zf #[zc .i64 (-1),zc .i64 (-1)] 71)=W1:=⟨_,rfl⟩;have ak:aa w.heap.size w W1:=by rw[<-cC];exact au
 have y1:W1.heap[w.heap.size]?=za (zf #[zc .i64 (-1),zc .i64 (-1)] 71 (0,0)):=by rw[<-cC];exact aL _ _
 have hc:=zi4 (zc .i64 (-1)) (zc .i64 (-1)) rfl rfl w.heap.size (G+1) W1 (jA y1).1 (jA y1).2 (by omega);have c0:W1.cell? ⟨pl,0,zb⟩=za (zc .i64 (G:Int)):=(ak.cell (p:=⟨pl,0,zb⟩) (ap.1 hx).1).trans (aO _ _ _ _ _ _ hx:w.cell? ⟨pl,0,zb⟩=_);rw[ztG]at hc;obtain⟨m,Hm⟩:∃m,ab (G+1=m):=⟨_,rfl⟩;have hGi:(G:Int)+1=(m:Int):=by have:=Hm.out;omega
 rw[Hm.out]at hc ⊢;clear hx y1
 go_enter func103,ntmps103
 go_wp2_with fail
 refine hc.mono ?_;rintro e W2 ⟨rfl,eJ,af⟩;have HO:=aC eJ;clear hc eJ c0;go_wp2;go_ret;exact⟨W1.heap.size,rfl,ak.size,qO HO.out ak.size,aj ak ak.size af⟩
end
section
variable {w wr:zd}{pl:Nat}{x0 x1 vP:zg}{Q:Nat -> Option Pt}{ps:List (Nat×Pt)}
open Go.RowKit
attribute [local go_sem ↓] wp_at_zero wp_at_succ
structure lu(w:zd)(pl:Nat)(x0 x1:zg)(wr:zd)(Q:Nat->Option Pt)(vP:zg)(ps:List (Nat×Pt)):Prop where
 kd:jF w pl wr Q (λk=>vP.ownBlock=za k\/k=pl) ps
 own:wr.ownsRow w.heap.size 198 1 vP ps.length (je ps)
 xp:wr.heap[pl]?=za (zf #[x0,x1,vP,zc .i64 1048576] 189 (0,0))
 lo:w.heap.size<=pl
theorem lu.below(h:lu w pl x0 x1 wr Q vP ps){pu:zd}(hb:aa wr.heap.size wr pu):lu w pl x0 x1 pu Q vP ps:=
 ⟨h.kd.below hb,cI h.own hb,(hb.block _ (ap.1 h.xp).1).trans h.xp,h.lo⟩
theorem lu.push{w7:zd}{a:Nat}{q:Pt}{g7 bS:Nat}(h:jF w pl wr Q (λk=>vP.ownBlock=za k\/k=pl) (ps++[(a,q)]))(AP:wr.ownsRow w.heap.size 198 1 vP ps.length (je ps))(xp:wr.heap[pl]?=za (zf #[x0,x1,vP,zc .i64 1048576] 189 (0,0)))(lo:w.heap.size<=pl)
  (az:w7.ownsRow w.heap.size 198 1 (ze (za ⟨g7,0,zb⟩) (ps.length+1) bS) (ps.length+1) (je ps++[zj (za ⟨a,0,zb⟩)])) (hg:wr.grownBy w7 vP.ownBlock) (dg:vP.ownBlock=za g7\/wr.heap.size<=g7):
  w7.heap[pl]?=za (zf #[x0,x1,vP,zc .i64 1048576] 189 (0,0))/\lu w pl x0 x1 (w7.setCell ⟨pl,2,zb⟩ (ze (za ⟨g7,0,zb⟩) (ps.length+1) bS)) Q (ze (za ⟨g7,0,zb⟩) (ps.length+1) bS) (ps++[(a,q)]):=by
 have ty:∀{k:Nat} {cs:Array zg} {t:zk},wr.heap[k]?=za (zf cs t (0,0))->t≠198->¬za k=vP.ownBlock:=λe1 e2 e3=>by
  obtain⟨_,aA,z⟩:=iD AP e3.symm;rw[e1]at z;exact e2 (bP z)
 have U0:=(hg.block _ (ap.1 xp).1 (ty xp (by decide))).trans xp;refine⟨U0,?_⟩;have Ku:=dF w7 pl 2 _ _ (ze (za ⟨g7,0,zb⟩) (ps.length+1) bS) U0;obtain⟨w8,KQ⟩:∃w8,w7.setCell ⟨pl,2,zb⟩ (ze (za ⟨g7,0,zb⟩) (ps.length+1) bS)=w8:=⟨_,rfl⟩;have g8:w7.grownBy w8 (za pl):=by rw[<-KQ];exact jf w7 pl 2 _
 rw[KQ]at Ku ⊢;have xp8:w8.heap[pl]?=za (zf #[x0,x1,ze (za ⟨g7,0,zb⟩) (ps.length+1) bS,zc .i64 1048576] 189 (0,0)):=by rw[Ku];rfl
 have tc:aE (λk=>vP.ownBlock=za k\/k=pl) wr w8:=((aE.refl _ wr).grown hg (λk e=>.inl (.inl e))).grown g8 (λk e=>.inl (.inr (Option.some.inj e).symm));have Lh:∀{k:Nat} {cs:Array zg} {t:zk},w7.heap[k]?=za (zf cs t (0,0))->t≠189->w8.heap[k]?=za (zf cs t (0,0)):=λe1 e2=>(g8.block _ (ap.1 e1).1 (λe=>by
  injection e with e
  rw[e,U0]at e1;exact e2 (bP e1).symm)).trans e1
 have kD:w8.ownsRow w.heap.size 198 1 (ze (za ⟨g7,0,zb⟩) (ps.length+1) bS) (ps.length+1) (je ps++[zj (za ⟨a,0,zb⟩)]):=kH az (λb e=>by
  obtain⟨_,aA,z⟩:=iD az e;exact(Lh z (by decide)).trans z.symm)
 refine⟨h.turn tc (λk e=>?_) (λk e=>?_),?_,xp8,lo⟩
 ·rcases e with e|e
  ·have e:g7=k:=by simpa [Value.ownBlock]using e
   subst e;rcases dg with h1|h1
   ·exact .inl (.inl h1)
   ·exact .inr h1
  ·exact .inl (.inr e)
 ·rcases e with e|e
  ·obtain⟨z1,aA,z2⟩:=iD kD e;exact⟨z1,aA,_,z2,by decide,by decide⟩
  ·subst e;exact⟨lo,_,_,xp8,by decide,by decide⟩
 ·have e:je (ps++[(a,q)])=je ps++[zj (za ⟨a,0,zb⟩)]:=by simp[je]
  rw[e,pz];exact kD
def QV(w:zd)(x0 x1:zg)(n:Nat)(pq:Nat->Pt)(e:Ending)(w':zd):Prop:=
 ∃(pl:Nat) (Q:Nat->Option Pt) (vP:zg) (ps:List (Nat×Pt)),e=.returned (zj (za ⟨pl,0,zb⟩))/\lu w pl x0 x1 w' Q vP ps/\ps.length=n/\∀k,k<n->kY ps k=pq k
theorem znu(G:Int)(ao:Option Addr)(bn bc g sc n:Nat)(tt:Nat->zk)(xx:Nat->zg)(pq:Nat->Pt)(w:zd)(hr:∀k,k<n->w.cell? ⟨g,k,zb⟩=za (.iface (tt k) (xx k)))(hT:∀k,k<n->aR w (.iface (tt k) (xx k)) (pq k))(hw:∀k,k<n->aF (pq k)<=2000)(hn:n<=100000):
  zl prog 122 #[.agg #[.slice ao bn bc,zc .i64 G],ze (za ⟨g,0,zb⟩) n sc] w λe w'=>QV w (zc .i64 G) (.slice ao bn bc) n pq e w':=by
 obtain⟨i0,hi,bK,bh,bz⟩:=info_parts Tryz.zwF;obtain⟨W0,ah⟩:∃W0,(w.alloc (zf #[.slice ao bn bc,zc .i64 G] 69)).alloc (zf #[zc .i64 G,.slice ao bn bc,ze zb 0 0,zc .i64 1048576] 189)=W0:=⟨_,rfl⟩;have ae:aa w.heap.size w W0:=by rw[<-ah];exact(au).alloc (by simp) _
 have x0:W0.heap[w.heap.size+1]?=za (zf #[zc .i64 G,.slice ao bn bc,ze zb 0 0,zc .i64 1048576] 189 (0,0)):=by rw[<-ah];exact Dc _ _ _
 have XI:ab (lu w (w.heap.size+1) (zc .i64 G) (.slice ao bn bc) W0 (λ_=>zb) (ze zb 0 0) []):=⟨jF.start w _ _ W0 ae (λk e=>by
   rcases e with e|e
   ·simp[Value.ownBlock]at e
   ·subst e;exact⟨by omega,_,_,x0,by decide,by decide⟩),⟨rfl,.inl ⟨rfl,rfl⟩⟩,x0,by omega⟩
 have Hr:=aC hr;have HT:=aC hT;have Hw:=aC hw;have hp:=λk=>zrx (pq k)
 clear hr hT hw x0 ae
 go_enter func122,ntmps122
 go_wp2;clear ah
 go_loopw [16] (λiv wr=>∃(k:Nat) (Q:Nat->Option Pt) (vP:zg) (ps:List (Nat×Pt)),iv=zc .i64 k/\k<=n/\ps.length=k/\ab (lu w (w.heap.size+1) (zc .i64 G) (.slice ao bn bc) wr Q vP ps)/\ab (∀j,j<k->kY ps j=pq j))
  (λiv _=>n-(intOf iv).toNat)
 case atStart=>exact⟨0,_,_,[],rfl,aZ _,rfl,XI,λj hj=>absurd hj (dk _)⟩
 case round=>
  clear XI;obtain⟨k,Q,vP,ps,rfl,ke,rP,HN,HQ⟩:=hrel
  by_cases hlt:k<n
  ·have il:(0:Int)<=(k:Int):=by omega
   have cM:(k:Int)<(n:Int):=by omega
   have fT:=HN.out.kd.bj;have cg:wr.cell? ⟨g,k,zb⟩=za (.iface (tt k) (xx k)):=(fT.cell (p:=⟨g,k,zb⟩) (block_lt_of_cell (Hr.out k hlt))).trans (Hr.out k hlt);have mM:=HN.out.below ((Below.refl wr.heap.size wr).drew);have hc:=hp k (w.heap.size+1) (.iface (tt k) (xx k)) wr.drew (aR.keep (od mM.kd.bj) _ _ (HT.out k hlt)) (Hw.out k hlt);have cp:wr.cell? ⟨w.heap.size+1,2,zb⟩=za vP:=(wz HN.out.xp).1;have du:=(ap.1 HN.out.xp).1;have rf:ab (∀(e:Ending) (w':zd),wV wr.drew (w.heap.size+1) (pq k) e w'->∃(a:Nat) (Q2:Nat->Option Pt),e=.returned (zj (za ⟨a,0,zb⟩))/\w'.ownsRow w.heap.size 198 1 vP ps.length (je ps)/\w.heap.size<=w'.heap.size/\w.heap.size+1<w'.heap.size/\w'.cell? ⟨w.heap.size+1,2,zb⟩=za vP/\∀w7 g7 bS,w7.ownsRow w.heap.size 198 1 (ze (za ⟨g7,0,zb⟩) (ps.length+1) bS) (ps.length+1) (je ps++[zj (za ⟨a,0,zb⟩)])->w'.grownBy w7 vP.ownBlock->(vP.ownBlock=za g7\/w'.heap.size<=g7)->w7.cell? ⟨w.heap.size+1,2,zb⟩=za vP/\w7.frozen? ⟨w.heap.size+1,2,zb⟩=false/\lu w (w.heap.size+1) (zc .i64 G) (.slice ao bn bc) (w7.setCell ⟨w.heap.size+1,2,zb⟩ (ze (za ⟨g7,0,zb⟩) (ps.length+1) bS)) Q2 (ze (za ⟨g7,0,zb⟩) (ps.length+1) bS) (ps++[(a,pq k)])):=λe w' hR=>by
    obtain⟨a,Q2,rfl,af,Aq⟩:=mM.kd.add hR;have oT:=mM.below af;refine⟨a,Q2,rfl,oT.own,Aq.bj.size,(ap.1 oT.xp).1,(wz oT.xp).1,λw7 g7 bS h1 h2 h3=>?_⟩;obtain⟨k1,k2⟩:=lu.push Aq oT.own oT.xp oT.lo h1 h2 h3;exact⟨(wz k1).1,(wz k1).2,k2⟩
   have D8:zl prog 139 #[zj (za ⟨w.heap.size+1,0,zb⟩),.iface (tt k) (xx k)] wr.drew λe w'=>∃v,e=.returned v/\wV wr.drew (w.heap.size+1) (pq k) (.returned v) w':=hc.mono λe w' h=>by
    obtain⟨a,Q2,rfl,h2⟩:=h;exact⟨_,rfl,a,Q2,rfl,h2⟩
   have vS:ps.length<=100000:=by omega
   have FV:ab (∀a,∀j,j<k+1->kY (ps++[(a,pq k)]) j=pq j):=λa j hj=>by
    by_cases e:j=k
    ·subst e;unfold kY;rw[cL,vo (by omega),rP,zz]
     rfl
    ·have:=HQ.out j (by omega);unfold kY at this ⊢;rw[cL,qR (by omega),<-cL];exact this
   have Hpk:=aC rP;clear mM hc hp rP
   go_upto_region 5 with fail
   refine wp_mono (Q:=vk _) ?_ E7
   go_region_law ((first|(refine A9 (by rfl) 139 #[.tmp 25,.tmp 26] #[161,184] (by rfl) #[zj (za ⟨w.heap.size+1,0,zb⟩),.iface (tt k) (xx k)] (by first|(simp[Act.eval];done)|simp[Act.eval,Act.put]) _ (Vs _ _) D8 ?_;intro v4 W4 sY;obtain⟨a4,Q4,Ey,jS,pP,Sq,Np,BG⟩:=rf.out _ W4 sY;injection Ey with Ey;subst Ey;have Zo:(W4.alloc (zf #[zj (za ⟨a4,0,zb⟩)] 198)).cell? ⟨w.heap.size+1,2,zb⟩=za vP:=(((Below.refl W4.heap.size W4).alloc (ai _) _).cell (p:=⟨w.heap.size+1,2,zb⟩) Sq).trans Np;have BG:=aC BG;clear sY)|(refine zea (by rfl) (.tmp 24) (.tmp 28) 187 (by rfl) W4 #[zj (za ⟨a4,0,zb⟩)] 198 (by rfl) W4.heap.size (by rfl) w.heap.size i0 _ 1 8 underlying187 hi bK bh bz (by rfl) (by omega) vP ps.length (je ps) (by rfl) jS (by rfl) (by rfl) (by intro u hu;simp at hu;subst hu;rfl) (by omega) (by omega) pP ?_;intro g7 bS W7 fu dW iH;obtain⟨Zp,DU,JK⟩:=BG.out W7 g7 bS fu dW iH;have My:=aC JK;clear fu dW iH JK)|fail))
   all_goals
    rw[wy];clear D8 jS Np Zo Zp DU BG rf cg cp;go_wp2
    go_roundw
    case rel=>exact⟨k+1,Q4,_,ps++[(a4,pq k)],by go_num,by omega,by simp[Hpk.out],My,FV.out a4⟩
    case measure=>simp[intOf];omega
  ·obtain rfl:k=n:=by omega
   have HF:ab (QV w (zc .i64 G) (.slice ao bn bc) k pq (.returned (zj (za ⟨w.heap.size+1,0,zb⟩))) wr):=⟨_,Q,vP,ps,rfl,HN.out,rP,HQ.out⟩;clear HN HQ;go_wp2;go_ret;exact HF.out
end
open Go
section
variable {P:Program} {ops:Array Oper} {md:Region.Mode} {C:zd->Prop} {Q:Exit->Act->zd->Prop}
theorem VO{l:Array Bool}{i t:Nat}(h:l.getD t true=true):(l.setIfInBounds i true).getD t true=true:=by
 by_cases e:i=t
 ·subst e;rcases gh i l.size with h'|h'
  ·simp[h']
  ·simp
 ·rw[LG e];exact h
theorem zfk{t:Nat}:∀(fuel:Nat) (listed:Array Bool) (a:Act) (w:zd),listed.getD t true=true->wpAny P md ops Q fuel listed a w->wE P md ops C t Q fuel listed a w
 |0,_,_,_,_,h=>h
 |fuel+1,listed,a,w,ht,h=>⟨h.1,λi hi=>wpOp_mono (λa' w' k=>⟨λe=>by(rw[VO ht]at e;cases e),zfk fuel _ a' w' (VO ht) k⟩) (h.2 i hi)⟩
def QK(Q:Exit->Act->zd->Prop)(K:Act->zd->Prop):Exit->Act->zd->Prop
 |.normal,a,w=>K a w
 |e,a,w=>Q e a w
def wC(l:Array Bool):List Nat->Array Bool
 |[]=>l
 |i::is=>wC (l.setIfInBounds i true) is
def Mb(md:Region.Mode)(ops:Array Oper):List Nat->Array Bool->Bool
 |[],_=>true
 |j::js,listed=>(Region.ready md ops listed == [j])&&Mb md ops js (listed.setIfInBounds j true)
theorem ztR{K' K:Act->zd->Prop}{o:Oper}{a:Act}{w:zd}(h:o.wp P a w K (QK Q K')):o.wp P a w K Q:=by
 unfold Oper.wp at *;generalize (execOp a.eval o).run P w=r at *;cases r with
 |ok n w'=>cases n<;>exact h
 |halt x w'=>cases x<;>exact h
theorem zfl{fr:Nat}(hL:∀a w,¬Q .outgrown a w):∀(js:List Nat) (l:List Oper) (listed:Array Bool) (a:Act) (w:zd),l.length=js.length->(∀k,k<js.length->∃j o,js[k]?=za j/\l[k]?=za o/\ops[j]?=za o)->Mb md ops js listed=true->wpList P ops (QK Q (λa w=>wpAny P md ops Q fr (wC listed js) a w)) l a w->wpAny P md ops Q (js.length+fr) listed a w
 |[],[],listed,a,w,_,_,_,h=>by rw[oA,kn];exact h
 |j::js,o::l,listed,a,w,hl,ho,hB,h=>by
  simp only[Mb,dE,beq_iff_eq]at hB;obtain⟨j',o',e1,e2,h0⟩:=ho 0 (by simp);simp at e1 e2;subst e1;subst e2;have ih:=λa w h=>zfl (fr:=fr) hL js l (listed.setIfInBounds j true) a w (by simpa using hl) (λk hk=>by have:=ho (k+1) (by simp;omega);simpa using this) hB.2 h
  rw[show (j::js).length+fr=(js.length+fr)+1 by simp;omega];refine⟨λe=>absurd e (by rw[hB.1];simp),λi hi=>?_⟩;rw[hB.1]at hi;have e:i=j:=by simpa using hi
  subst e;unfold wpOp;simp only[h0];unfold wpList at h
  by_cases hw:Region.wanted o (yielded ops a.tmps)=true
  ·rw[aD hw]at h ⊢;rcases h with h|h
   ·exact .inl (Oper.wp_mono (λa w h=>ih a w h) (ztR h))
   ·obtain⟨_,a',w',h'⟩:=h;exact absurd h' (hL a' w')
  ·rw[aq hw]at h ⊢;exact ih _ _ h
 |[],_::_,_,_,_,h,_,_,_=>by simp at h
 |_::_,[],_,_,_,h,_,_,_=>by simp at h
def xS(o:Oper):Bool:=match o.op with
 |.move _=>true
 |.assign _=>true
 |.load _ _=>true
 |.fieldAddr _ _ _=>true
 |.indexAddr _ _ _=>true
 |.binOp _ _ _ _ _=>true
 |.nilCheck _=>true
 |.slice _ _ _ _ _=>true
 |_=>false
theorem zlC{o:Oper}(h:xS o=true){ρ:Operand->zg}{w w':zd}{n:Next}(hr:(execOp ρ o).run P w=.ok n w'):∃u,n=.value u:=by
 obtain⟨dst,op,type,pos,after,guard⟩:=o;cases op<;>simp only[xS,Bool.false_eq_true]at h
 all_goals (simp only[execOp]at hr)
 case move x=>rw[Sem.run_pure]at hr;injection hr with h1;exact⟨_,h1.symm⟩
 case assign x=>rw[Sem.run_pure]at hr;injection hr with h1;exact⟨_,h1.symm⟩
 case nilCheck x=>
  split at hr
  case h_4=>
   split at hr
   case h_1=>simp[runtimePanic,go_sem]at hr
   case h_2=>
    simp only[Sem.run_bind]at hr;generalize Sem.run P program w=r1 at hr;cases r1 with
    |halt x w1=>simp[Result.andThen]at hr
    |ok a w1=>
     simp only[Result.andThen]at hr;generalize Sem.run P (nilAhead _ _ _ _) w1=r2 at hr;cases r2 with
     |halt x w2=>simp at hr
     |ok b w2=>
      simp only at hr;split at hr
      ·simp[unsupported,go_sem]at hr
      ·rw[Sem.run_pure]at hr;injection hr with h1;exact⟨_,h1.symm⟩
   case h_3=>rw[Sem.run_pure]at hr;injection hr with h1;exact⟨_,h1.symm⟩
  case h_5=>rw[Sem.run_pure]at hr;injection hr with h1;exact⟨_,h1.symm⟩
  all_goals (simp[runtimePanic,go_sem]at hr)
 all_goals exact zkj hr
theorem zex{o:Oper}{a:Act}{K:Act->Prop}(hb:xS o=true)(hw:Region.wanted o (yielded ops a.tmps)=true)(h:o.quiet P a C K):∃v,pY P ops C o v a/\K (a.put o.dst v):=by
 obtain⟨v,h1,h2⟩:=h;refine⟨v,.inl ⟨hw,λw hC=>?_⟩,h2⟩;have h3:=h1 w hC;unfold Oper.quietAt at h3;cases hr:(execOp a.eval o).run P w with
 |ok n w'=>
  obtain⟨u,rfl⟩:=zlC hb hr;rw[hr]at h3;obtain⟨e1,e2⟩:=h3;rw[e1,e2]
 |halt x w'=>rw[hr]at h3;exact h3.elim
def La(md:Region.Mode)(ops:Array Oper)(js:List Nat):List Nat->Array Bool->Bool
 |[],listed=>Mb md ops js listed
 |i::is,listed=>(Region.ready md ops listed).contains i&&Region.free md ops listed i&&La md ops js is (listed.setIfInBounds i true)
theorem zid{t:Nat}:∀(js:List Nat) (l:Array Bool),(t∈js\/l.getD t true=true)->(wC l js).getD t true=true
 |[],_,h=>by
  rcases h with h|h
  ·cases h
  ·exact h
 |j::js,l,h=>by
  refine zid js _ ?_;rcases h with h|h
  ·rcases oB.1 h with e|e
   ·subst e;refine .inr ?_;rcases gh t l.size with h'|h'
    ·simp[h']
    ·simp
   ·exact .inl e
  ·exact .inr (VO h)
theorem zht{t fr:Nat}{js:List Nat}{lj:List Oper}(hs:Region.noSelect ops=true)(hL:∀a w,¬Q .outgrown a w)(Cy:lj.length=js.length)(qz:∀k,k<js.length->∃j o,js[k]?=za j/\lj[k]?=za o/\ops[j]?=za o)(hQ:∀c a a' w,Q (.panic c) a w->Q (.panic c) a' w)(SW:∃r,js=t::r):
  ∀(is:List Nat) (l:List Oper) (listed:Array Bool) (a:Act) (w:zd),mF md ops listed->l.length=is.length->(∀k,k<is.length->∃i o,is[k]?=za i/\l[k]?=za o/\ops[i]?=za o/\xS o=true/\og md ops 8 t i=true/\t≠i)->
   La md ops js is listed=true->C w->wpQuiet P ops C (λa'=>∀w',C w'->∀r,r=lj->wpList P ops (QK Q (λa w=>wpAny P md ops Q fr (wC listed (is++js)) a w)) r a' w') l a->wE P md ops C t Q (is.length+(js.length+fr)) listed a w
 |[],[],listed,a,w,ik,_,_,hB,hC,h=>by
  rw[oA,kn];have h1:=zfl (fr:=fr) hL js lj listed a w Cy qz hB (h w hC _ rfl);obtain⟨r,hr⟩:=SW
  -- t is at the head: it is the one that is ready
  subst hr;simp only[La,Mb,dE,beq_iff_eq]at hB;rw[show (t::r).length+fr=(r.length+fr)+1 by simp;omega]at h1 ⊢;refine⟨h1.1,λi hi=>?_⟩;have e:i=t:=by rw[hB.1]at hi;simpa using hi
  subst e;have ht:(listed.setIfInBounds i true).getD i true=true:=zid [i] listed (.inl (by simp));exact wpOp_mono (λa' w' k=>⟨λe=>by(rw[ht]at e;cases e),zfk _ _ a' w' ht k⟩) (h1.2 i hi)
 |i::is,o::l,listed,a,w,ik,GP,Cv,hB,hC,h=>by
  obtain⟨i',o',e1,e2,h0,mW,rR,Ex⟩:=Cv 0 (by simp);simp at e1 e2;subst e1;subst e2;simp only[La,dE]at hB;obtain⟨⟨hr,hf⟩,Ca⟩:=hB;have bZ:i∈Region.ready md ops listed:=by simpa using hr
  have next:∀v,pY P ops C o v a->wpQuiet P ops C (λa'=>∀w',C w'->∀r,r=lj->wpList P ops (QK Q (λa w=>wpAny P md ops Q fr (wC listed ((i::is)++js)) a w)) r a' w') l (a.put o.dst v)->wE P md ops C t Q ((i::is).length+(js.length+fr)) listed a w:=λv hy hk=>by
   have ih:=zht (fr:=fr) hs hL Cy qz hQ SW is l (listed.setIfInBounds i true) (a.put o.dst v) w (ik.set bZ) (by simpa using GP) (λk hk=>by have:=Cv (k+1) (by simp;omega);simpa using this) Ca hC hk;rw[show (i::is).length+(js.length+fr)=(is.length+(js.length+fr))+1 by simp;omega];exact Vo h0 Ex (λL hc hl=>EO hc 8 t i hl rR) (Region.noSelect_spec hs) hQ _ listed a w ik (Region.free_spec h0 hf) bZ hy hC ih
  unfold wpQuiet at h
  by_cases hw:Region.wanted o (yielded ops a.tmps)=true
  ·rw[aD hw]at h;obtain⟨v,hy,hk⟩:=zex mW hw h;exact next v hy hk
  ·rw[aq hw]at h;exact next undef (.inr ⟨by simpa using hw,rfl⟩) h
 |[],_::_,_,_,_,_,h,_,_,_,_=>by simp at h
 |_::_,[],_,_,_,_,h,_,_,_,_=>by simp at h
def Xf(md:Region.Mode)(all:List Oper)(done:List Nat):Bool:=OC md all.toArray done (Array.replicate all.length false)
 where OC (md:Region.Mode) (ops:Array Oper):List Nat->Array Bool->Bool
 |[],_=>true
 |i::is,listed=>(Region.ready md ops listed).contains i&&OC md ops is (listed.setIfInBounds i true)
theorem zhQ:∀(is:List Nat) (l:Array Bool),Xf.OC md ops is l=true->mF md ops l->mF md ops (wC l is)
 |[],_,_,h=>h
 |i::is,l,hB,h=>by
  simp only[Xf.OC,dE]at hB;exact zhQ is _ hB.2 (h.set (by simpa using hB.1))
def Uv(md:Region.Mode)(all:List Oper)(done is js:List Nat):Bool:=
 Region.noSelect all.toArray&&Xf md all done&&(match js with | []=>false|t::_=>is.all (λi=>og md all.toArray 8 t i&&decide (t≠i)&&(match all[i]? with|some o=>xS o|none=>false)))&&La md all.toArray js is (wC (Array.replicate all.length false) done)&&js.all (λj=>decide (j<all.length))
theorem Ic(done is js:List Nat)(fr:Nat){a:Act}{w:zd}{all:List Oper}(C:zd->Prop)(hC:C w)(hB:Uv md all done is js=true)(hL:∀a w,¬Q .outgrown a w)(hQ:∀c a a' w,Q (.panic c) a w->Q (.panic c) a' w)
  (h:∀l,l=is.filterMap (λi=>all[i]?)->wpQuiet P all.toArray C (λa'=>∀w',C w'->∀r,r=js.filterMap (λj=>all[j]?)->wpList P all.toArray (QK Q (λa w=>wpAny P md all.toArray Q fr (wC (wC (Array.replicate all.length false) done) (is++js)) a w)) r a' w') l a) (n:Nat) (hn:n=is.length+(js.length+fr)):wpAny P md all.toArray Q n (wC (Array.replicate all.length false) done) a w:=by
 subst hn;cases js with
 |nil=>simp[Uv]at hB
 |cons t rs=>
  simp only[Uv,dE,jl,oD]at hB;obtain⟨⟨⟨⟨hs,ik⟩,hi⟩,AH⟩,hj⟩:=hB;have key:∀(is:List Nat),(∀x∈is,(og md all.toArray 8 t x=true/\t≠x)/\(match all[x]? with|some o=>xS o|none=>false)=true)->(is.filterMap (λi=>all[i]?)).length=is.length/\∀k,k<is.length->∃i o,is[k]?=za i/\(is.filterMap (λi=>all[i]?))[k]?=za o/\all.toArray[i]?=za o/\xS o=true/\og md all.toArray 8 t i=true/\t≠i:=by
   intro is
   induction is with
   |nil=>intro _;exact⟨rfl,λk hk=>absurd hk (dk _)⟩
   |cons i is ih=>
    intro hx;obtain⟨⟨q1,q2⟩,q3⟩:=hx i (by simp);obtain⟨r1,r2⟩:=ih (λx kA=>hx x (by simp[kA]));cases ho:all[i]? with
    |none=>rw[ho]at q3;cases q3
    |some o=>
     rw[ho]at q3;have e:(i::is).filterMap (λi=>all[i]?)=o::is.filterMap (λi=>all[i]?):=by simp[ho]
     rw[e];refine⟨by simp[r1],λk hk=>?_⟩;cases k with
     |zero=>exact⟨i,o,rfl,rfl,by simpa using ho,q3,q1,q2⟩
     |succ k=>simpa using r2 k (by simpa using hk)
  have K4:∀(js:List Nat),(∀j∈js,j<all.length)->(js.filterMap (λj=>all[j]?)).length=js.length/\∀k,k<js.length->∃j o,js[k]?=za j/\(js.filterMap (λj=>all[j]?))[k]?=za o/\all.toArray[j]?=za o:=by
   intro js
   induction js with
   |nil=>intro _;exact⟨rfl,λk hk=>absurd hk (dk _)⟩
   |cons j js ih=>
    intro hx;obtain⟨r1,r2⟩:=ih (λx kA=>hx x (by simp[kA]));have hl:=hx j (by simp);have e:(j::js).filterMap (λj=>all[j]?)=all[j]::js.filterMap (λj=>all[j]?):=by simp[hl]
    rw[e];refine⟨by simp[r1],λk hk=>?_⟩;cases k with
    |zero=>exact⟨j,all[j],rfl,rfl,by simp[hl]⟩
    |succ k=>simpa using r2 k (by simpa using hk)
  obtain⟨k1,k2⟩:=key is (λx hx=>by obtain⟨⟨a1,a2⟩,a3⟩:=hi x hx;exact⟨⟨a1,a2⟩,a3⟩);obtain⟨j1,j2⟩:=K4 (t::rs) hj;exact Pg _ _ _ _ (zht (P:=P) (C:=C) (Q:=Q) (md:=md) (fr:=fr) hs hL j1 j2 hQ ⟨rs,rfl⟩ is _ _ a w (zhQ done _ ik (mF.start _ _)) k1 k2 AH hC (h _ rfl))
theorem uU{Q:Exit->Act->zd->Prop}{K:Act->zd->Prop}{a:Act}{w:zd}:QK Q K .normal a w=K a w:=rfl
theorem zhw{id:Nat}{a:Act}{w:zd}{all:List Oper}(hm:P.follows .mixedOrders=true)(h:wpAny P .any all.toArray (vk Q) all.length (wC (Array.replicate all.length false) []) a w.drew):(Code.region id all.toArray true).wp P Q a w:=by
 refine wp_mono (wp_region_any hm ?_) E7
 simpa [wC]using h
def Mr(md:Region.Mode)(ops:Array Oper)(js:List Nat):List Nat->Array Bool->Bool
 |[],listed=>Iv md ops js listed&&(List.range ops.size).all (λk=>listed.getD k true || js.contains k)
 |i::is,listed=>(Region.ready md ops listed).contains i&&Region.free md ops listed i&&Mr md ops js is (listed.setIfInBounds i true)
def Xg(md:Region.Mode)(all:List Oper)(is js:List Nat)(t:Nat):Bool:=
 Region.noSelect all.toArray&&is.all (λi=>og md all.toArray 8 t i&&decide (t≠i)&&(match all[i]? with|some o=>xS o|none=>false))&&Mr md all.toArray js is (Array.replicate all.length false)&&decide (is.length+js.length=all.length)&&js.all (λj=>decide (j<all.length))
theorem zga{t:Nat}{js:List Nat}{lj:List (Nat×Oper)}(hs:Region.noSelect ops=true)(Cy:lj.map Prod.fst=js)(qz:∀x∈lj,ops[x.1]?=za x.2)(hQ:∀c a a' w,Q (.panic c) a w->Q (.panic c) a' w):
  ∀(is:List Nat) (l:List Oper) (listed:Array Bool) (a:Act) (w:zd),mF md ops listed->listed.size=ops.size->l.length=is.length->(∀k,k<is.length->∃i o,is[k]?=za i/\l[k]?=za o/\ops[i]?=za o/\xS o=true/\og md ops 8 t i=true/\t≠i)->
   Mr md ops js is listed=true->C w->wpQuiet P ops C (λa'=>∀w',C w'->∀r,r=lj->oq P ops C t Q r a' w') l a->wE P md ops C t Q (is.length+lj.length) listed a w
 |[],[],listed,a,w,ik,hsz,_,_,hB,hC,h=>by
  simp only[Mr,dE,jl,wI,sw,List.contains_iff_mem]at hB;rw[oA,kn];refine Vf js lj listed a w Cy qz (λk hk=>?_) hB.1 (h w hC _ rfl);have hlt:k<ops.size:=by
   rcases gh k ops.size with h'|h'
   ·exact h'
   ·rw[<-hsz]at h';simp[Array.getElem?_eq_none h']at hk
  rcases hB.2 k hlt with h1|h1
  ·rw[hk]at h1;cases h1
  ·exact h1
 |i::is,o::l,listed,a,w,ik,hsz,GP,Cv,hB,hC,h=>by
  obtain⟨i',o',e1,e2,h0,mW,rR,Ex⟩:=Cv 0 (by simp);simp at e1 e2;subst e1;subst e2;simp only[Mr,dE]at hB;obtain⟨⟨hr,hf⟩,Ca⟩:=hB;have bZ:i∈Region.ready md ops listed:=by simpa using hr
  have next:∀v,pY P ops C o v a->wpQuiet P ops C (λa'=>∀w',C w'->∀r,r=lj->oq P ops C t Q r a' w') l (a.put o.dst v)->wE P md ops C t Q ((i::is).length+lj.length) listed a w:=λv hy hk=>by
   have ih:=zga hs Cy qz hQ is l (listed.setIfInBounds i true) (a.put o.dst v) w (ik.set bZ) (by simpa using hsz) (by simpa using GP) (λk hk=>by have:=Cv (k+1) (by simp;omega);simpa using this) Ca hC hk;rw[show (i::is).length+lj.length=(is.length+lj.length)+1 by simp;omega];exact Vo h0 Ex (λL hc hl=>EO hc 8 t i hl rR) (Region.noSelect_spec hs) hQ _ listed a w ik (Region.free_spec h0 hf) bZ hy hC ih
  unfold wpQuiet at h
  by_cases hw:Region.wanted o (yielded ops a.tmps)=true
  ·rw[aD hw]at h;obtain⟨v,hy,hk⟩:=zex mW hw h;exact next v hy hk
  ·rw[aq hw]at h;exact next undef (.inr ⟨by simpa using hw,rfl⟩) h
 |[],_::_,_,_,_,_,_,h,_,_,_,_=>by simp at h
 |_::_,[],_,_,_,_,_,h,_,_,_,_=>by simp at h
theorem zn8(is js:List Nat)(t:Nat){a:Act}{w:zd}{all:List Oper}(C:zd->Prop)(hC:C w)(hB:Xg .any all is js t=true)(hQ:∀c a a' w,Q (.panic c) a w->Q (.panic c) a' w)
  (h:∀l,l=is.filterMap (λi=>all[i]?)->wpQuiet P all.toArray C (λa'=>∀w',C w'->∀r,r=js.filterMap (λj=>(all[j]?).map λo=>(j,o))->oq P all.toArray C t Q r a' w') l a):wpAny P .any all.toArray Q all.toArray.size (Array.replicate all.toArray.size false) a w:=by
 simp only[Xg,dE,jl,oD]at hB;obtain⟨⟨⟨⟨hs,hi⟩,AH⟩,hlen⟩,hj⟩:=hB;have key:∀(is:List Nat),(∀x∈is,(og .any all.toArray 8 t x=true/\t≠x)/\(match all[x]? with|some o=>xS o|none=>false)=true)->(is.filterMap (λi=>all[i]?)).length=is.length/\∀k,k<is.length->∃i o,is[k]?=za i/\(is.filterMap (λi=>all[i]?))[k]?=za o/\all.toArray[i]?=za o/\xS o=true/\og .any all.toArray 8 t i=true/\t≠i:=by
  intro is
  induction is with
  |nil=>intro _;exact⟨rfl,λk hk=>absurd hk (dk _)⟩
  |cons i is ih=>
   intro hx;obtain⟨⟨q1,q2⟩,q3⟩:=hx i (by simp);obtain⟨r1,r2⟩:=ih (λx kA=>hx x (by simp[kA]));cases ho:all[i]? with
   |none=>rw[ho]at q3;cases q3
   |some o=>
    rw[ho]at q3;have e:(i::is).filterMap (λi=>all[i]?)=o::is.filterMap (λi=>all[i]?):=by simp[ho]
    rw[e];refine⟨by simp[r1],λk hk=>?_⟩;cases k with
    |zero=>exact⟨i,o,rfl,rfl,by simpa using ho,q3,q1,q2⟩
    |succ k=>simpa using r2 k (by simpa using hk)
 have K4:∀(js:List Nat),(∀j∈js,j<all.length)->(js.filterMap (λj=>(all[j]?).map λo=>(j,o))).map Prod.fst=js/\∀x∈js.filterMap (λj=>(all[j]?).map λo=>(j,o)),all.toArray[x.1]?=za x.2:=by
  intro js
  induction js with
  |nil=>intro _;exact⟨rfl,λx hx=>by cases hx⟩
  |cons j js ih=>
   intro hx;obtain⟨r1,r2⟩:=ih (λx kA=>hx x (by simp[kA]));have hl:=hx j (by simp);have e:(j::js).filterMap (λj=>(all[j]?).map λo=>(j,o))=(j,all[j])::js.filterMap (λj=>(all[j]?).map λo=>(j,o)):=by simp[hl]
   rw[e];refine⟨by simp[r1],λx kA=>?_⟩;rcases oB.1 kA with rfl|kA
   ·simp[hl]
   ·exact r2 x kA
 obtain⟨k1,k2⟩:=key is (λx hx=>by
  obtain⟨⟨a1,a2⟩,a3⟩:=hi x hx;exact⟨⟨a1,a2⟩,a3⟩)
 obtain⟨j1,j2⟩:=K4 js hj;have GM:(js.filterMap (λj=>(all[j]?).map λo=>(j,o))).length=js.length:=by rw[<-tU (f:=Prod.fst),j1]
 have h1:=zga (P:=P) (C:=C) (Q:=Q) (md:=.any) (t:=t) hs j1 j2 hQ is _ (Array.replicate all.toArray.size false) a w (mF.start _ _) (by simp) k1 k2 (by simpa using AH) hC (h _ rfl);have h2:=Pg _ _ _ _ h1;rw[GM,hlen]at h2
 simpa using h2
theorem OY(is js:List Nat)(t:Nat){id:Nat}{a:Act}{w:zd}{all:List Oper}(C:zd->Prop)(hm:P.follows .mixedOrders=true)(hC:C w.drew)(hB:Xg .any all is js t=true)
  (h:∀l,l=is.filterMap (λi=>all[i]?)->wpQuiet P all.toArray C (λa'=>∀w',C w'->∀r,r=js.filterMap (λj=>(all[j]?).map λo=>(j,o))->oq P all.toArray C t (vk Q) r a' w') l a):(Code.region id all.toArray true).wp P Q a w:=by
 refine wp_mono (wp_region_any hm ?_) E7;exact zn8 (Q:=vk Q) is js t C hC hB (λ_ _ _ _ h=>h.elim) h
end
end Go.Proofs.YtdimhpfiieepiaaGreatDoor
