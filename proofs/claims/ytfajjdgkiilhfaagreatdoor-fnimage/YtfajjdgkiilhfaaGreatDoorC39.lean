import Derived.Test.YtfajjdgkiilhfaaGreatDoorC6
import Derived.Test.YtfajjdgkiilhfaaGreatDoorC22
import Derived.Test.YtfajjdgkiilhfaaGreatDoorC38
namespace Go.Proofs.YtfajjdgkiilhfaaGreatDoor
open Proofs.Tryz
open Option renaming some->za,none->zb
open Value renaming int->zc,slice->zd,pointer->zh
open Obj renaming cells->ze
open Go renaming Value->zf,World->zg
set_option maxHeartbeats 8000000
set_option maxRecDepth 100000
open Go.RowKit
attribute [local go_sem ↓] wp_at_zero wp_at_succ
structure Je where
 rs:List dL
 a:Nat
 r:Int
noncomputable def LB (c:List UInt8) (room:Int) (s:Je):Je:=
 if (ae c 8 s.a).1=7 then (if gG (qj c (ae c 8 s.a).2).1.branches<=12 then ⟨s.rs++[(qj c (ae c 8 s.a).2).1],(qj c (ae c 8 s.a).2).2,s.r⟩ else ⟨s.rs,(qj c (ae c 8 s.a).2).2,s.r⟩)
 else if 24<gG (yy c room (ae c 8 s.a).2).branches then ⟨s.rs++[(wB ⟨#[97,98,124,98,36]⟩).1],(jH c room (ae c 8 s.a).2).2.1,(jH c room (ae c 8 s.a).2).2.2⟩
 else ⟨s.rs++[yy c room (ae c 8 s.a).2],(jH c room (ae c 8 s.a).2).2.1,(jH c room (ae c 8 s.a).2).2.2⟩
noncomputable def rF (c:List UInt8) (room:Int) (a:Nat) (r:Int):Nat->Je
 |0=>⟨[],a,r⟩
 |k+1=>LB c room (rF c room a r k)
noncomputable def oe (c:List UInt8) (most room:Int) (a:Nat) (r:Int):Je:=rF c room (ae c most a).2 r (1+(ae c most a).1).toNat
def LC(rs:List dL):Prop:=∀r∈rs,qP r.branches/\Small r.branches
theorem zne{c:List UInt8}{room:Int}{s:Je}{k:Nat}(h:LC s.rs/\s.rs.length<=k):LC (LB c room s).rs/\(LB c room s).rs.length<=k+1:=by
 have key:∀r:dL,qP r.branches/\Small r.branches->LC (s.rs++[r])/\(s.rs++[r]).length<=k+1:=λr hr=>by
  refine⟨λx hx=>?_,by have:=h.2;simp;omega⟩;rcases gH.1 hx with hx|hx
  ·exact h.1 x hx
  ·simp at hx;subst hx;exact hr
 unfold LB;split
 ·split
  ·exact key _ (ziY _ _)
  ·exact⟨h.1,by have:=h.2;show s.rs.length<=_;omega⟩
 ·split
  ·obtain⟨x,hx⟩:=Lk ⟨#[97,98,124,98,36]⟩;exact key _ (Z9 hx)
  ·exact key _ (zjp _ _ _)
theorem zia(c:List UInt8)(room:Int)(a:Nat)(r:Int):∀k,LC (rF c room a r k).rs/\(rF c room a r k).rs.length<=k
 |0=>⟨λx hx=>(by cases hx),aq _⟩
 |k+1=>zne (zia c room a r k)
theorem zmJ{rs:List dL}(h:LC rs)(hl:rs.length<=1048576):Iy rs:=⟨hl,λk hk=>(h _ (by rw[bJ,bE hk];exact gA _)).2⟩
def Og(r:dL)(b:zf):List zf:=[b,zc .i64 r.jC]
def Kw(rs:List dL)(bv:Nat->zf):List zf:=(List.range rs.length).flatMap λk=>Og (rs.getD k .zero) (bv k)
theorem zuG(rs:List dL)(bv:Nat->zf){k j:Nat}(hk:k<rs.length)(hj:j<2):(Kw rs bv)[k*2+j]?=(Og (rs.getD k .zero) (bv k))[j]?:=TY (f:=λk=>Og (rs.getD k .zero) (bv k)) (sz:=2) (λ_=>rfl) _ _ _ hk hj
structure yS(p:Nat)(w:zg)(c:List UInt8)(W:zg)(rv:zf)(rs:List dL)(bv:Nat->zf)(a:Nat)(r:Int):Prop where
 own:W.ownsRow w.heap.size 101 2 rv rs.length (Kw rs bv)
 Y7:∀k,k<rs.length->∃lo Wk,p<lo/\iQ lo Wk (bv k) (rs.getD k .zero).branches/\Same lo Wk W/\∀b,rv.ownBlock=za b->b<lo\/Wk.heap.size<=b
 kept:aE p w W
 jc:aR W p c a r
 base:p<w.heap.size
section
variable {p:Nat} {w:zg} {c:List UInt8} {W W' Wk:zg} {rv:zf} {rs:List dL} {bv:Nat->zf} {a a':Nat} {r r':Int}
theorem yS.kp(h:yS p w c W rv rs bv a r)(hk:aE p W W')(hd:aR W' p c a' r'):yS p w c W' rv rs bv a' r':=by
 have hb:=h.base;refine⟨ub h.own λb e=>hk.block b (dU h.own e).2 (by have:=(dU h.own e).1;omega),λk bu=>?_,h.kept.trans hk,hd,hb⟩;obtain⟨lo,Wk,h1,h2,h3,h4⟩:=h.Y7 k bu;exact⟨lo,Wk,h1,h2,h3.trans (hk.same h1),h4⟩
theorem yS.push(h:yS p w c W rv rs bv a r){rd:dL}{u:zf}{lo g' cap':Nat}(nJ:p<lo)(hr:iQ lo Wk u rd.branches)(hsm:Same lo Wk W)(bL:∀b,rv.ownBlock=za b->b<lo)
  (ho:W'.ownsRow w.heap.size 101 2 (zd (za ⟨g',0,zb⟩) (rs.length+1) cap') (rs.length+1) (Kw rs bv++Og rd u)) (hg:W.grownBy W' rv.ownBlock) (fV:rv.ownBlock=za g'\/W.heap.size<=g'):
  ∃bv',yS p w c W' (zd (za ⟨g',0,zb⟩) (rs.length+1) cap') (rs++[rd]) bv' a r:=by
 have hb:=h.base;have pR:∀k,k<rs.length->(rs++[rd]).getD k .zero=rs.getD k .zero:=λk hk=>by simp[List.getD,List.getElem?_append_left hk]
 have dE:(rs++[rd]).getD rs.length .zero=rd:=by simp[List.getD]
 have key:∀lo (Wk:zg),Same lo Wk W->(∀b,rv.ownBlock=za b->b<lo\/Wk.heap.size<=b)->Same lo Wk W'/\∀b,(Value.slice (za ⟨g',0,zb⟩) (rs.length+1) cap').ownBlock=za b->b<lo\/Wk.heap.size<=b:=λlo Wk h3 h4=>by
  refine⟨⟨cY h3.size hg.size,λk hk hl=>(hg.block k (dR hl h3.size) (λe=>?_)).trans (h3.block k hk hl)⟩,λb e=>?_⟩
  ·rcases h4 k e.symm with q|q<;>omega
  ·have e2:g'=b:=by simpa [Value.ownBlock]using e
   subst e2;rcases fV with q|q
   ·exact h4 _ q
   ·exact .inr (cY h3.size q)
 refine⟨λk=>if k<rs.length then bv k else u,?_,λk hk=>?_,h.kept.grown hg λb e=>(dU h.own e).1,h.jc.grown hg λb e=>by have:=(dU h.own e).1;omega,hb⟩
 ·have:Kw (rs++[rd]) (λk=>if k<rs.length then bv k else u)=Kw rs bv++Og rd u:=by
   unfold Kw;rw[aQ,show [rd].length=1 from rfl,KU]
   congr 1
   ·exact Ov _ λk hk=>by rw[pR k hk];simp only[af hk]
   ·rw[dE];simp
  rw[this,aQ];exact ho
 ·by_cases e:k<rs.length
  ·rw[pR k e];simp only[af e];obtain⟨lo,Wk,h1,h2,h3,h4⟩:=h.Y7 k e;exact⟨lo,Wk,h1,h2,key lo Wk h3 h4⟩
  ·have e2:k=rs.length:=by simp at hk;omega
   subst e2;rw[dE];simp only[ab e];exact⟨lo,Wk,nJ,hr,key lo Wk hsm λb e=>.inl (bL b e)⟩
theorem yS.at(h:yS p w c W rv rs bv a r):qJ (p+1) W rv rs:=by
 have hb:=h.base;rcases h.own.2 with ⟨rfl,h0⟩|⟨g,cap,aZ,rfl,hg,hh,h1,h2,h3,h4⟩
 ·have:rs=[]:=qV h0;subst this;exact⟨zb,0,rfl,by simp,λh=>absurd h (by simp)⟩
 ·refine⟨_,cap,rfl,cY h1 (Ii h2),λ_=>⟨g,0,rfl,by omega,ay hh,λi hi=>?_⟩⟩;have hg:=λj (hj:j<2)=>(h.own.cellAt (i*2+j) (by omega)).trans (zuG rs bv hi hj)
  rw[iH];obtain⟨lo,Wk,k1,k2,k3,_⟩:=h.Y7 i hi;exact⟨⟨bv i,hg 0 (by omega),(k2.same k3).mono (by omega)⟩,hg 1 (by omega)⟩
end
theorem zul:(prog.info? 101).map (λi=>(i.zero,i.size,i.bytes))=za (za (.agg #[zd zb 0 0,zc .i64 0]),2,32):=by kernel_rfl
theorem zkQ(w:zg)(p:Nat)(c:List UInt8)(a:Nat)(r:Int)(h:aR w p c a r)(most room:Int)(oI:1<=most)(fZ:most<=1000)(iL:1<=room)(sq:room<=1000):
  Calls prog 42 #[zh (za ⟨p,0,zb⟩),zc .i64 most,zc .i64 room] w λe W=>∃rv,e=.returned rv/\qJ (p+1) W rv (oe c most room a r).rs/\aR W p c (oe c most room a r).a (oe c most room a r).r/\aE p w W:=by
 have du:=h.lt;obtain⟨iN,ru,rz,rA,rB⟩:=info_parts zul;obtain⟨W1,cZ⟩:∃W1,w.alloc (ze #[] 101)=W1:=⟨_,rfl⟩;have aO:Below w.heap.size w W1:=by rw[<-cZ];exact ax
 have bL:W1.ownsRow w.heap.size 101 2 (zd (za ⟨w.heap.size,0,zb⟩) 0 0) 0 []:=by rw[<-cZ];exact KR w _ 2 _ _ (aq _) rfl
 have hI:yS p w c W1 (zd (za ⟨w.heap.size,0,zb⟩) 0 0) [] (λ_=>zd zb 0 0) a r:=⟨bL,λk hk=>absurd hk (fw _),.of aO,h.below aO,du⟩;have hp:=rK W1 p c a r hI.jc most (by omega);have hl:=ue (c:=c) (a:=a) (n:=most) oI;have HF:Hid (oe c most room a r=rF c room (ae c most a).2 r (1+(ae c most a).1).toNat):=rfl;obtain⟨x1,y1,kC⟩:∃x y,ae c most a=(x,y):=⟨_,_,rfl⟩;rw[kC]at hp hl HF;obtain⟨N,hN⟩:∃N:Nat,1+x1=(N:Int):=⟨(1+x1).toNat,by have:=hl.1;simp only at this;omega⟩;have Eg:N<=1001:=by have:=hl.2;simp only at this;omega
 replace HF:Hid (oe c most room a r=rF c room y1 r N):=by rw[hN]at HF;exact HF.out
 have zD7:0<=x1:=hl.1;have zD8:x1<=1000:=by have:=hl.2;simp only at this;omega
 have HI:=ah hI;have HP:=ah λW a r hW (n:Int) (hn:n<=65536)=>rK W p c a r hW n hn
 clear hl kC hI bL aO h oI fZ
 go_enter func42,ntmps42
 go_wp2_with fail
 refine hp.mono ?_;rintro e w2 ⟨rfl,eQ,bu⟩;have nz:=ah (HI.out.kp bu eQ);clear HI eQ bu hp cZ;go_wp2
 go_loopw [7,9] (λrv i wr=>∃k:Nat,k<=N/\i=zc .i64 k/\∃ra rc bv,rv=.slice ra (rF c room y1 r k).rs.length rc/\yS p w c wr (.slice ra (rF c room y1 r k).rs.length rc) (rF c room y1 r k).rs bv (rF c room y1 r k).a (rF c room y1 r k).r) (λ_ i _=>N-(intOf i).toNat)
 case atStart=>exact⟨0,by omega,rfl,_,_,_,rfl,nz.out⟩
 case round=>
  clear nz;obtain⟨k,hk,rfl,ra,rc,bv,rfl,hS⟩:=hrel;have HS:=ah hS;have HO:=ah (zia c room y1 r k);have Sd:p<wr.heap.size:=by have h1:=HS.out.base;have h2:=HS.out.kept.size;omega
  clear hS
  by_cases hlt:k<N
  ·have Cm:(k:Int)<(N:Int):=by omega
   have mG:Hid (rF c room y1 r (k+1)=LB c room (rF c room y1 r k)):=rfl;generalize rF c room y1 r k=st at *;obtain⟨rs,ak,rk⟩:=st;replace HS:Hid (yS p w c wr (.slice ra rs.length rc) rs bv ak rk):=HS.out;have hlen:rs.length<=1001:=by have h2:rs.length<=k:=HO.out.2;omega
   have Cu:=HP.out wr ak rk HS.out.jc 8 (by omega);obtain⟨x8,y8,wo⟩:∃x y,ae c 8 ak=(x,y):=⟨_,_,rfl⟩;have P8:Hid (rF c room y1 r (k+1)=if x8=7 then (if gG (qj c y8).1.branches<=12 then ⟨rs++[(qj c y8).1],(qj c y8).2,rk⟩ else ⟨rs,(qj c y8).2,rk⟩)
     else if 24<gG (yy c room y8).branches then ⟨rs++[(wB ⟨#[97,98,124,98,36]⟩).1],(jH c room y8).2.1,(jH c room y8).2.2⟩
     else ⟨rs++[yy c room y8],(jH c room y8).2.1,(jH c room y8).2.2⟩):=by
    have:=mG.out;unfold LB at this;simp only[wo]at this;exact this
   rw[wo]at Cu;have zzk:∀b,(Value.slice ra rs.length rc).ownBlock=za b->b<wr.heap.size:=λb e=>(dU HS.out.own e).2
   have Az:=ah zzk;clear mG HO wo zzk
   by_cases Wt:x8=7
   ·subst Wt;have HY:=ah (P8.out.trans (af rfl));have pQ:=ziY c y8;have Nk:=λW hW=>zmP W p c y8 rk hW
    generalize qj c y8=hf at *;obtain⟨rd,yh⟩:=hf;clear P8
    go_wp2_with fail
    refine Cu.mono ?_;rintro e w3 ⟨rfl,eU,bQ⟩
    go_wp2_with fail
    refine(Nk w3 eU).mono ?_;rintro e w4 ⟨u,rfl,dJ,pd,jf⟩;obtain⟨ua,uc,rfl,YJ,NZ⟩:=dJ;have Mk:=ah (show iQ w3.heap.size w4 (.slice ua rd.branches.length uc) rd.branches from⟨ua,uc,rfl,YJ,NZ⟩);have RN:=bQ.trans jf;have G6:=bQ.size;have EM:w4.heap.size=w4.heap.size:=rfl;obtain⟨W5,oC⟩:∃W5,w4.alloc (ze #[.slice ua rd.branches.length uc,zc .i64 rd.jC] 101)=W5:=⟨_,rfl⟩;have cQ:Below w4.heap.size w4 W5:=by rw[<-oC];exact ax
    have z5:W5.heap[w4.heap.size]?=za (ze #[.slice ua rd.branches.length uc,zc .i64 rd.jC] 101 (0,0)):=by rw[<-oC];exact aJ _ _
    have qE:=Oq rd.jC (.slice ua rd.branches.length uc) rd.branches W5 (Mk.out.below cQ) pQ.2 pQ.1;obtain⟨q0,q1,-,-⟩:=jK z5;obtain⟨wt,fG⟩:∃wt,gG rd.branches=wt:=⟨_,rfl⟩;rw[fG]at qE;have BK:Hid (rF c room y1 r (k+1)=if wt<=12 then ⟨rs++[rd],yh,rk⟩ else ⟨rs,yh,rk⟩):=by rw[<-fG];exact HY.out
    clear NZ eU bQ jf Cu Nk pQ HY fG EM
    go_wp2_with fail
    refine qE.mono ?_;rintro e w6 ⟨rfl,iu⟩;have zj:=aH cQ cQ.size iu;have z6:=aT z5 iu;obtain⟨t0,t1,-,-⟩:=jK z6;have HX:=ah (HS.out.kp (RN.trans (.of zj)) (pd.below zj));have uu:=ah (Same.k8 (lo:=w3.heap.size) zj);clear qE cQ iu zj z5 z6 q0 q1 oC pd HS
    by_cases Eb:wt<=12
    ·have HE:=ah (BK.out.trans (af Eb));clear BK
     go_wp2_with (at_builtin;refine wE rfl (.tmp 30) (.tmp 32) 76 rfl _ _ 101 rfl _ rfl w.heap.size iN _ 2 32 underlying76 ru rz rA rB rfl (by omega) (.slice ra rs.length rc) rs.length _ rfl HX.out.own rfl rfl (by intro u hu;simp at hu;rcases hu with rfl|rfl<;>rfl) (by omega) (by omega) (cY (aq _) HX.out.kept.size) ?_;intro g2 tB w9 nP kx jb;obtain⟨xu,HR⟩:=HX.out.push (rd:=rd) (lo:=w3.heap.size) (by have:=Sd;omega) Mk.out uu.out (λb e=>by have:=Az.out b e;omega) nP kx jb;have yO:=ah HR;clear nP kx jb HR)
     go_roundw
     case rel=>
      refine⟨k+1,by omega,by go_num,za ⟨g2,0,zb⟩,tB,xu,?_,?_⟩
      ·rw[HE.out];simp
      ·rw[HE.out];simp only[aQ,lW,qU];exact yO.out
     case measure=>simp[intOf];omega
    ·have HE:=ah (BK.out.trans (ab Eb));clear BK;go_wp2
     go_roundw
     case rel=>exact⟨k+1,by omega,by go_num,ra,rc,bv,by rw[HE.out],by rw[HE.out];exact HX.out⟩
     case measure=>simp[intOf];omega
   ·have HY:=ah (P8.out.trans (ab Wt));have m7:(x8==7)=false:=by simp[Wt]
    have pQ:=zjp c room y8;have Nk:=λW hW=>zmH W p c y8 rk hW room iL sq
    obtain⟨px,Kh⟩:=Lk ⟨#[97,98,124,98,36]⟩;have Sg:=λW=>ZE ⟨#[97,98,124,98,36]⟩ W Kh
    generalize yy c room y8=rd at *;generalize (jH c room y8).2=sy at *;obtain⟨yh,rh⟩:=sy;generalize wB ⟨#[97,98,124,98,36]⟩=pr at *;obtain⟨rp,cp⟩:=pr;clear P8
    go_wp2_with fail
    refine Cu.mono ?_;rintro e w3 ⟨rfl,eU,bQ⟩
    go_wp2_with fail
    refine(Nk w3 eU).mono ?_;rintro e w4 ⟨u,rfl,dJ,pd,jf⟩;obtain⟨ua,uc,rfl,YJ,NZ⟩:=dJ;have Mk:=ah (show iQ w3.heap.size w4 (.slice ua rd.branches.length uc) rd.branches from⟨ua,uc,rfl,YJ,NZ⟩);have RN:=bQ.trans jf;have G6:=bQ.size;obtain⟨W5,oC⟩:∃W5,w4.alloc (ze #[.slice ua rd.branches.length uc,zc .i64 rd.jC] 101)=W5:=⟨_,rfl⟩;have cQ:Below w4.heap.size w4 W5:=by rw[<-oC];exact ax
    have z5:W5.heap[w4.heap.size]?=za (ze #[.slice ua rd.branches.length uc,zc .i64 rd.jC] 101 (0,0)):=by rw[<-oC];exact aJ _ _
    have qE:=Oq rd.jC (.slice ua rd.branches.length uc) rd.branches W5 (Mk.out.below cQ) pQ.2 pQ.1;obtain⟨q0,q1,-,-⟩:=jK z5;obtain⟨wt,fG⟩:∃wt,gG rd.branches=wt:=⟨_,rfl⟩;rw[fG]at qE;have BK:Hid (rF c room y1 r (k+1)=if 24<wt then ⟨rs++[rp],yh,rh⟩ else ⟨rs++[rd],yh,rh⟩):=by rw[<-fG];exact HY.out
    clear NZ eU bQ jf Cu Nk pQ HY fG
    go_wp2_with fail
    refine qE.mono ?_;rintro e w6 ⟨rfl,iu⟩;have zj:=aH cQ cQ.size iu;have z6:=aT z5 iu;have Sw:=ay z6;obtain⟨t0,t1,f0,f1⟩:=jK z6;have Hk6:=ah (RN.trans (.of zj));have Hd6:=ah (pd.below zj);clear qE cQ iu z5 q0 q1 oC pd
    by_cases h24:24<wt
    ·have HE:=ah (BK.out.trans (af h24));clear BK t0 t1 f0 f1
     go_wp2_with fail
     refine(Sg w6).mono ?_;rintro e w7 ⟨ij,v7,rfl,Kj⟩;obtain⟨va,vc,rfl,YL,N4⟩:=Kj;have Qn:=ah (show iQ w6.heap.size w7 (.slice va rp.branches.length vc) rp.branches from⟨va,vc,rfl,YL,N4⟩);have z7:=aT z6 ij;obtain⟨t0,t1,f0,f1⟩:=jK z7;have hsw:=RN.size;have HX:=ah (HS.out.kp (((Hk6.out.trans (.of ij)).ww (b:=w4.heap.size) hsw 0 (.slice va rp.branches.length vc)).ww (b:=w4.heap.size) hsw 1 (zc .i64 rp.jC)) (((Hd6.out.below ij).set (by have:=HS.out.base;have:=HS.out.kept.size;omega) 0 (.slice va rp.branches.length vc)).set (by have:=HS.out.base;have:=HS.out.kept.size;omega) 1 (zc .i64 rp.jC)));have uu:=ah ((Same.setCell (lo:=w6.heap.size) w7 (a:=⟨w4.heap.size,0,zb⟩) Sw (.slice va rp.branches.length vc)).trans (Same.setCell _ (a:=⟨w4.heap.size,1,zb⟩) Sw (zc .i64 rp.jC)));have zDJ:wr.heap.size<=w6.heap.size:=by have:=zj.size;omega
     have DL:=ah z7;clear N4 Sg z6 ij z7 HS zj
     go_upto_region 13 with fail
     generalize hU:(w7.setCell ⟨w4.heap.size,0,zb⟩ (.slice va rp.branches.length vc)).setCell ⟨w4.heap.size,1,zb⟩ (zc .i64 rp.jC)=U at *;have zU:U.heap[w4.heap.size]?=za (ze #[.slice va rp.branches.length vc,zc .i64 rp.jC] 101 (0,0)):=by rw[<-hU];exact cJ _ _ _ _ _ _ (cJ _ _ _ _ _ _ DL.out)
     obtain⟨b0,b1,-,-⟩:=jK zU;clear t0 t1 f0 f1 zU DL hU
     go_wp2_with (at_builtin;refine wE rfl (.tmp 45) (.tmp 47) 76 rfl _ _ 101 rfl _ rfl w.heap.size iN _ 2 32 underlying76 ru rz rA rB rfl (by omega) (.slice ra rs.length rc) rs.length _ rfl HX.out.own rfl rfl (by intro u hu;simp at hu;rcases hu with rfl|rfl<;>rfl) (by omega) (by omega) (cY (aq _) HX.out.kept.size) ?_;intro g2 tB w9 nP kx jb;obtain⟨xu,HR⟩:=HX.out.push (rd:=rp) (lo:=w6.heap.size) (by have:=Sd;omega) Qn.out uu.out (λb e=>by have:=Az.out b e;omega) nP kx jb;have yO:=ah HR;clear nP kx jb HR)
     go_roundw
     case rel=>
      refine⟨k+1,by omega,by go_num,za ⟨g2,0,zb⟩,tB,xu,?_,?_⟩
      ·rw[HE.out];simp
      ·rw[HE.out];simp only[aQ,lW,qU];exact yO.out
     case measure=>simp[intOf];omega
    ·have HE:=ah (BK.out.trans (ab h24));have HX:=ah (HS.out.kp Hk6.out Hd6.out);have uu:=ah (Same.k8 (lo:=w3.heap.size) zj);clear BK HS z6 zj
     go_wp2_with (at_builtin;refine wE rfl (.tmp 45) (.tmp 47) 76 rfl _ _ 101 rfl _ rfl w.heap.size iN _ 2 32 underlying76 ru rz rA rB rfl (by omega) (.slice ra rs.length rc) rs.length _ rfl HX.out.own rfl rfl (by intro u hu;simp at hu;rcases hu with rfl|rfl<;>rfl) (by omega) (by omega) (cY (aq _) HX.out.kept.size) ?_;intro g2 tB w9 nP kx jb;obtain⟨xu,HR⟩:=HX.out.push (rd:=rd) (lo:=w3.heap.size) (by have:=Sd;omega) Mk.out uu.out (λb e=>by have:=Az.out b e;omega) nP kx jb;have yO:=ah HR;clear nP kx jb HR)
     go_roundw
     case rel=>
      refine⟨k+1,by omega,by go_num,za ⟨g2,0,zb⟩,tB,xu,?_,?_⟩
      ·rw[HE.out];simp
      ·rw[HE.out];simp only[aQ,lW,qU];exact yO.out
     case measure=>simp[intOf];omega
  ·have GN:k=N:=by omega
   subst GN;rw[<-HF.out]at HS ⊢;go_wp2;go_ret;exact⟨_,rfl,HS.out.at,HS.out.jc,HS.out.kept⟩
variable {p a B R g:Nat}{w W:zg}{c:List UInt8}{r wd:Int}{v:Nat -> zf}{ls:Nat -> List Int}
theorem SZ{lo:Nat}(w:zg)(v:zf)(xs:List Int)(h:dD lo w v xs)(h0:0<xs.length)(hl:xs.length<=1048576):
  Calls prog 39 #[v] w λe w'=>∃g cap,e=.returned (zd (za ⟨g,0,zb⟩) xs.length cap)/\bX w.heap.size w' (zd (za ⟨g,0,zb⟩) xs.length cap) xs/\Below w.heap.size w w':=by
 obtain⟨ao,c0,rfl,_,hc⟩:=h;obtain⟨b,o,rfl,fX,hlt,hk⟩:=hc h0;obtain⟨i0,eC,da,dt,cR⟩:=info_parts Tryz.pX;have aO:Below w.heap.size w (w.alloc (ze #[] 3)):=ax;have own:(w.alloc (ze #[] 3)).ownsRow w.heap.size 3 1 (zd (za ⟨w.heap.size,0,zb⟩) 0 0) 0 []:=KP w 3;have hcell:∀j u,(xs.map eu)[j]?=za u->(w.alloc (ze #[] 3)).cell? ((⟨b,o,zb⟩:Addr).add j)=za u:=by
  intro j u hu;rw[wV,Option.map_eq_some_iff]at hu;obtain⟨x,hx,rfl⟩:=hu;have hj:=(mA.1 hx).1;have:=aO.cell (p:=⟨b,o+j,zb⟩) hlt;rw[show (⟨b,o,zb⟩:Addr).add j=⟨b,o+j,zb⟩ by simp[Addr.add],this,hk j hj,bJ,hx]
  rfl
 obtain⟨n,hn⟩:∃n,xs.length=n:=⟨_,rfl⟩;have HO:=ar own;have HC:=ar hcell;have HN:=ar hn;rw[hn]at hl h0 ⊢;clear hk hc hcell own hn
 go_enter func39,ntmps39
 go_wp2_with (at_builtin;refine wpList_append_lies _ rfl (.tmp 3) (.tmp 4) 23 rfl w.heap.size 3 i0 _ 1 8 underlying23 eC da dt cR rfl (by omega) (zd (za ⟨w.heap.size,0,zb⟩) 0 0) 0 [] rfl HO.out ⟨b,o,zb⟩ n c0 (xs.map eu) rfl (by rw[lX,HN.out];omega) HC.out (by intro u hu;simp at hu;obtain⟨y,_,rfl⟩:=hu;rfl) (by omega) (by unfold maxLen;omega) (by omega) (by simp) (w.heap.size+1) (by simp) ?_;intro g cap w' jG jD at' _)
 go_ret
 have aB:Below w.heap.size w w':=aO.grown jD aO.size (λk hk=>by cases hk;exact aq _);refine⟨g,cap,by simp,?_,aB⟩;rw[iH,List.nil_append]at jG;unfold bX;rw[HN.out];exact jG
def vA(a b c d:zf):Nat->zf
 |0=>a
 |1=>b
 |2=>c
 |_=>d
def Y8(c:List UInt8)(d:aL)(x:Int)(a:Nat):aL×Nat:=
 if x=0 then (⟨d.ai.set (ae c 256 a).1.toNat (d.width-(ae c 2 (ae c 256 a).2).1),d.width,d.next,d.tag,d.fin⟩,(ae c 2 (ae c 256 a).2).2)
 else if x=1 then (⟨d.ai.take 255,d.width,d.next,d.tag,d.fin⟩,a)
 else if x=2 then (⟨d.ai,d.width+((ae c 3 a).1-1),d.next,d.tag,d.fin⟩,(ae c 3 a).2)
 else if x=3 then (⟨d.ai,d.width,d.next.set (ae c d.next.length a).1.toNat ((d.tag.length:Int)-(ae c 2 (ae c d.next.length a).2).1),d.tag,d.fin⟩,(ae c 2 (ae c d.next.length a).2).2)
 else if x=4 then (⟨d.ai,d.width,d.next,d.tag.set (ae c d.tag.length a).1.toNat (100-(ae c 2 (ae c d.tag.length a).2).1),d.fin⟩,(ae c 2 (ae c d.tag.length a).2).2)
 else if x=5 then (⟨d.ai,d.width,d.next,d.tag,d.fin.set (ae c d.tag.length a).1.toNat (-1-(ae c 2 (ae c d.tag.length a).2).1)⟩,(ae c 2 (ae c d.tag.length a).2).2)
 else if x=6 then (⟨d.ai,d.width,d.next,d.tag,d.fin++[-1]⟩,a)
 else if x=7 then (⟨d.ai,d.width,d.next.take (d.next.length-1),d.tag,d.fin⟩,a)
 else (⟨d.ai,d.width,d.next.set (ae c d.next.length a).1.toNat (-1),d.tag,d.fin⟩,(ae c d.next.length a).2)
def qf(c:List UInt8)(d:aL)(a:Nat):aL×Nat:=Y8 c d (ae c 9 a).1 (ae c 9 a).2
structure Jg(p:Nat)(w:zg)(c:List UInt8)(a:Nat)(r:Int)(W:zg)(wd:Int)(v:Nat->zf)(ls:Nat->List Int)(k:Nat):Prop where
 box:W.heap[w.heap.size]?=za (ze (iF wd v) 25 (0,0))
 bw:W.heap[w.heap.size+1]?=za (ze bI 25 (0,0))
 own:∀i,i<k->bX (w.heap.size+2) W (v i) (ls i)
 ap:∀i j,i<k->j<k->i≠j->∀b,(v i).ownBlock=za b->(v j).ownBlock≠za b
 int:∀i,k<=i->i<4->dD (p+1) w (v i) (ls i)
 kept:aE p w W
 jc:aR W p c a r
 base:p<w.heap.size
theorem Jg.step{W':zg}{k:Nat}(h:Jg p w c a r W wd v ls k)(hk:k<4){u:zf}(hu:bX W.heap.size W' u (ls k))(hb:Below W.heap.size W W')(off:Nat)(ho:tU k=off):Jg p w c a r (W'.setCell ⟨w.heap.size,off,zb⟩ u) wd (upd v k u) ls (k+1):=by
 subst ho;have hR:=ay h.bw;have dk:=aT h.box hb;have nG:=hb.size;have hold:∀i,i<k->upd v k u i=v i:=λi hi=>eF _ _ (by omega)
 refine⟨?_,(bh _ _ _ _ (show w.heap.size+1≠w.heap.size by omega)).trans (aT h.bw hb),λi hi=>?_,λi j hi hj hne b bW=>?_,λi dg pg=>?_,(h.kept.trans (.of hb)).ww (aq _) _ _,(h.jc.keep (w':=W') λb kT=>hb.block b (by have:=h.jc.lt;omega)).put (by have:=h.base;omega) _ _,h.base⟩
 ·have:=cJ W' w.heap.size (tU k) _ _ u dk;rw[OQ _ _ _ hk]at this;exact this
 ·by_cases e:i=k
  ·subst e;rw[kI];have h1:=nY (W':=W'.setCell ⟨w.heap.size,tU i,zb⟩ u) hu λb bW=>bh _ _ _ _ (show b≠w.heap.size by have:=(dG hu bW).1;omega)
   exact⟨h1.1,h1.2.elim .inl λ⟨g,cap,aZ,hv,hg,q⟩=>.inr ⟨g,cap,aZ,hv,by omega,q⟩⟩
  ·rw[hold i (by omega)];exact nY (h.own i (by omega)) λb bW=>(bh _ _ _ _ (show b≠w.heap.size by have:=(dG (h.own i (by omega)) bW).1;omega)).trans (hb.block b (dG (h.own i (by omega)) bW).2)
 ·by_cases e:i=k<;>by_cases e2:j=k
  ·omega
  ·subst e;rw[kI]at bW;rw[hold j (by omega)];intro hc;have:=(dG hu bW).1;have:=(dG (h.own j (by omega)) hc).2;omega
  ·subst e2;rw[hold i (by omega)]at bW;rw[kI];intro hc;have:=(dG hu hc).1;have:=(dG (h.own i (by omega)) bW).2;omega
  ·rw[hold i (by omega)]at bW;rw[hold j (by omega)];exact h.ap i j (by omega) (by omega) hne b bW
 ·rw[eF _ _ (by omega)];exact h.int i (by omega) pg
theorem Jg.done(h:Jg p w c a r W wd v ls 4):eZ p w (w.heap.size+1) (w.heap.size+1) w.heap.size W wd v ls:=
 ⟨⟨h.own,h.ap⟩,h.box,h.bw,h.kept,by have:=h.base;omega⟩
theorem zx8{v:zf}{xs:List Int}(h:bX B W v xs){g n cap:Nat}(hv:v=zd (za ⟨g,0,zb⟩) n cap):n<=cap:=by
 subst hv;rcases h.2 with ⟨h0,_⟩|⟨g',cap',aZ,e,_,_,h1,_⟩
 ·cases h0
 ·cases e
  exact h1
theorem eZ.width(h:eZ p w B R g W wd v ls)(n:Int):eZ p w B R g (W.setCell ⟨g,1,zb⟩ (zc .i64 n)) n v ls:=by
 have hb:=h.base;refine⟨h.au.AX λi hi b bW=>bh _ _ _ _ λe=>?_,cJ W g 1 _ _ (zc .i64 n) h.box,(bh _ _ _ _ (show R≠g by omega)).trans h.bw,h.kept.ww (by omega) _ _,hb⟩;obtain⟨aZ,hc⟩:=wG (h.au.own i hi) bW;have e:b=g:=e;rw[e,h.box]at hc;exact absurd (zR hc) (by decide)
theorem eZ.shrink(h:eZ p w B R g W wd v ls){i:Nat}(hi:i<4){b m cap n:Nat}(hv:v i=zd (za ⟨b,0,zb⟩) m cap)(hm:(ls i).length=m)(hn:n<=m)(off:Nat)(ho:tU i=off):eZ p w B R g (W.setCell ⟨g,off,zb⟩ (zd (za ⟨b,0,zb⟩) n cap)) wd (upd v i (zd (za ⟨b,0,zb⟩) n cap)) (bG ls i ((ls i).take n)):=by
 subst ho;have hb:=h.base;have hF:aI B 4 W (upd v i (zd (za ⟨b,0,zb⟩) n cap)) (bG ls i ((ls i).take n)):=h.au.shrink hi hv hm hn;refine⟨hF.AX λj hj b' bW=>bh _ _ _ _ λe=>?_,?_,(bh _ _ _ _ (show R≠g by omega)).trans h.bw,h.kept.ww (by omega) _ _,hb⟩
 ·obtain⟨aZ,hc⟩:=wG (hF.own j hj) bW;have e:b'=g:=e;rw[e,h.box]at hc;exact absurd (zR hc) (by decide)
 ·have:=cJ W g (tU i) _ _ (zd (za ⟨b,0,zb⟩) n cap) h.box;rw[OQ _ _ _ hi]at this;exact this
theorem znl(w:zg)(p:Nat)(c:List UInt8)(a:Nat)(r:Int)(h:aR w p c a r)(cv nv tv ev:zf)(d:aL)(hs:dP (p+1) w cv nv tv ev d)(hf:eI d)(hn:d.next.length<=65536):
  Calls prog 15 #[zh (za ⟨p,0,zb⟩),.agg #[cv,zc .i64 d.width,nv,tv,ev]] w (Ae p w c (qf c d a).1 (qf c d a).2 r):=by
 have fF:prog.follows .mixedOrders=true:=by kernel_rfl
 have du:=h.lt;have hwd:=hf.wd;have jp:=hf.N9;have j7:=hf.n1;have kA:=hf.n2;have aV:=hf.cl;have rq:=hf.fl;have zBZ:0<d.next.length:=by rw[jp];exact Nat.mul_pos (by omega) (by omega)
 obtain⟨W0,aw⟩:∃W0,(w.alloc (ze #[cv,zc .i64 d.width,nv,tv,ev] 25)).alloc (ze bI 25)=W0:=⟨_,rfl⟩;have aD:Below w.heap.size w W0:=by rw[<-aw];exact(ax).alloc (by simp) _
 have x0:W0.heap[w.heap.size]?=za (ze #[cv,zc .i64 d.width,nv,tv,ev] 25 (0,0)):=by
  rw[<-aw];exact(Below.heap_alloc _ _ _ (by simp)).trans (aJ w _)
 have z0:W0.heap[w.heap.size+1]?=za (ze bI 25 (0,0)):=by
  rw[<-aw];have:=aJ (w.alloc (ze #[cv,zc .i64 d.width,nv,tv,ev] 25)) (ze bI 25)
  simpa using this
 have hI:Jg p w c a r W0 d.width (vA cv nv tv ev) (L4 d.ai d.next d.tag d.fin) 0:=by
  refine⟨x0,z0,λi hi=>absurd hi (fw _),λi j hi=>absurd hi (fw _),λi _ hi=>?_,.of aD,h.keep λk hk=>aD.block k (by omega),du⟩
  match i,hi with
  |0,_=>exact hs.ai
  |1,_=>exact hs.next
  |2,_=>exact hs.tag
  |3,_=>exact hs.fin
 have um:=ar hI;have uo:Hid (0<d.ai.length/\d.ai.length<=1048576):=by constructor<;>omega
 have l6:Hid (0<d.next.length/\d.next.length<=1048576):=by constructor<;>omega
 have l7:Hid (0<d.tag.length/\d.tag.length<=1048576):=by constructor<;>omega
 have oW:Hid (0<d.fin.length/\d.fin.length<=1048576):=by constructor<;>omega
 have HF:=ar hf;have Hn:=ar hn;obtain⟨n0,EE⟩:∃n,d.ai.length=n:=⟨_,rfl⟩;obtain⟨n1,NA⟩:∃n,d.next.length=n:=⟨_,rfl⟩;obtain⟨n2,Yc⟩:∃n,d.tag.length=n:=⟨_,rfl⟩;obtain⟨n3,NB⟩:∃n,d.fin.length=n:=⟨_,rfl⟩;have Mq:=ar EE;have xj:=ar NA;have pH:=ar Yc;have I7:=ar NB;clear EE NA Yc NB;have HP:=ar λW a hW (n:Int) (hn:n<=65536)=>rK W p c a r hW n hn
 obtain⟨q0,q1,q2,q3,q4⟩:=dM x0;unfold bI at aw;clear hs hI x0 z0 aD hwd jp j7 kA aV rq zBZ hf hn
 go_enter func15,ntmps15
 go_wp2_with fail
 refine(SZ W0 cv d.ai (dD.same (show dD (p+1) w cv d.ai from um.out.int 0 (by omega) (by omega)) (um.out.kept.SJ (FG _))) uo.out.1 uo.out.2).mono ?_;rintro e w0 ⟨g0,c0,rfl,ho,hb⟩;have z:=aT um.out.box hb;have f:=aM _ _ 0 _ _ z;obtain⟨q0,q1,q2,q3,q4⟩:=dM (show w0.heap[w.heap.size]?=za (ze #[cv,zc .i64 d.width,nv,tv,ev] _ (0,0)) from z);have l5:=ar (um.out.step (by omega) ho hb 0 rfl);rw[Mq.out]at l5 ⊢;clear z ho hb um
 go_wp2_with fail
 generalize hU:w0.setCell ⟨w.heap.size,0,zb⟩ (zd (za ⟨g0,0,zb⟩) n0 c0)=W1 at *;clear q0 q1 q2 q3 q4 f hU;refine(SZ W1 nv d.next (dD.same (show dD (p+1) w nv d.next from l5.out.int 1 (by omega) (by omega)) (l5.out.kept.SJ (FG _))) l6.out.1 l6.out.2).mono ?_;rintro e w1 ⟨g1,c1,rfl,ho,hb⟩;have z:=aT l5.out.box hb;have f:=aM _ _ 2 _ _ z;obtain⟨q0,q1,q2,q3,q4⟩:=dM (show w1.heap[w.heap.size]?=za (ze #[zd (za ⟨g0,0,zb⟩) n0 c0,zc .i64 d.width,nv,tv,ev] _ (0,0)) from z);have nz:=ar (l5.out.step (by omega) ho hb 2 rfl);rw[xj.out]at nz ⊢;clear z ho hb l5
 go_wp2_with fail
 generalize hU:w1.setCell ⟨w.heap.size,2,zb⟩ (zd (za ⟨g1,0,zb⟩) n1 c1)=W2 at *;clear q0 q1 q2 q3 q4 f hU;refine(SZ W2 tv d.tag (dD.same (show dD (p+1) w tv d.tag from nz.out.int 2 (by omega) (by omega)) (nz.out.kept.SJ (FG _))) l7.out.1 l7.out.2).mono ?_;rintro e w2 ⟨g2,c2,rfl,ho,hb⟩;have z:=aT nz.out.box hb;have f:=aM _ _ 3 _ _ z;obtain⟨q0,q1,q2,q3,q4⟩:=dM (show w2.heap[w.heap.size]?=za (ze #[zd (za ⟨g0,0,zb⟩) n0 c0,zc .i64 d.width,zd (za ⟨g1,0,zb⟩) n1 c1,tv,ev] _ (0,0)) from z);have jS:=ar (nz.out.step (by omega) ho hb 3 rfl);rw[pH.out]at jS ⊢;clear z ho hb nz
 go_wp2_with fail
 generalize hU:w2.setCell ⟨w.heap.size,3,zb⟩ (zd (za ⟨g2,0,zb⟩) n2 c2)=W3 at *;clear q0 q1 q2 q3 q4 f hU;refine(SZ W3 ev d.fin (dD.same (show dD (p+1) w ev d.fin from jS.out.int 3 (by omega) (by omega)) (jS.out.kept.SJ (FG _))) oW.out.1 oW.out.2).mono ?_;rintro e w3 ⟨g3,c3,rfl,ho,hb⟩;have z:=aT jS.out.box hb;have f:=aM _ _ 4 _ _ z;obtain⟨q0,q1,q2,q3,q4⟩:=dM (show w3.heap[w.heap.size]?=za (ze #[zd (za ⟨g0,0,zb⟩) n0 c0,zc .i64 d.width,zd (za ⟨g1,0,zb⟩) n1 c1,zd (za ⟨g2,0,zb⟩) n2 c2,ev] _ (0,0)) from z);have eT:=ar (jS.out.step (by omega) ho hb 4 rfl);rw[I7.out]at eT ⊢;clear z ho hb jS;have HS:=ar eT.out.done;have HC:=ar eT.out.jc;clear eT
 go_upto_region 5 with fail
 generalize hU:w3.setCell ⟨w.heap.size,4,zb⟩ (zd (za ⟨g3,0,zb⟩) n3 c3)=W at *;obtain⟨v,Hv⟩:∃v,Hid (v=upd (upd (upd (upd (vA cv nv tv ev) 0 (zd (za ⟨g0,0,zb⟩) n0 c0)) 1 (zd (za ⟨g1,0,zb⟩) n1 c1)) 2 (zd (za ⟨g2,0,zb⟩) n2 c2)) 3 (zd (za ⟨g3,0,zb⟩) n3 c3)):=⟨_,rfl⟩;rw[<-Hv.out]at HS;have BI:Hid (v 0=zd (za ⟨g0,0,zb⟩) n0 c0):=by rw[Hv.out];exact rfl
 have rT:Hid (v 1=zd (za ⟨g1,0,zb⟩) n1 c1):=by rw[Hv.out];exact rfl
 have nA:Hid (v 2=zd (za ⟨g2,0,zb⟩) n2 c2):=by rw[Hv.out];exact rfl
 have uv:Hid (v 3=zd (za ⟨g3,0,zb⟩) n3 c3):=by rw[Hv.out];exact rfl
 clear q0 q1 q2 q3 q4 f hU Hv;have zDE:=dG (HS.out.au.own 0 (by omega)) (b:=g0) (by rw[BI.out];rfl);have zDF:=dG (HS.out.au.own 1 (by omega)) (b:=g1) (by rw[rT.out];rfl);have zDG:=dG (HS.out.au.own 2 (by omega)) (b:=g2) (by rw[nA.out];rfl);have zDH:=dG (HS.out.au.own 3 (by omega)) (b:=g3) (by rw[uv.out];rfl);have b3:W.cell? ⟨w.heap.size,3,zb⟩=za (zd (za ⟨g2,0,zb⟩) n2 c2):=by rw[<-nA.out];exact(cE HS.out.box).2.2.2.1
 have Np:=jL HC.out.le 9;have Yj:=HP.out W a HC.out 9 (by omega);have HG:Hid (qf c d a=Y8 c d (ae c 9 a).1 (ae c 9 a).2):=rfl;obtain⟨x,y,hx⟩:∃x y,ae c 9 a=(x,y):=⟨_,_,rfl⟩;rw[hx]at Np Yj HG;have hxc:x=0\/x=1\/x=2\/x=3\/x=4\/x=5\/x=6\/x=7\/x=8:=by have h1:=Np.2.1;have h2:=Np.2.2;simp only at h1 h2;omega
 have Hy:=ar Np.1;clear Np hx
 go_upto_region 6 with fail
 go_cut [30] from 29 to 29 (λv30 wx=>v30=zc .i64 x/\eZ p w (w.heap.size+1) (w.heap.size+1) w.heap.size wx d.width v (L4 d.ai d.next d.tag d.fin)/\aR wx p c y r)
 case first=>
  go_wp2_with fail
  refine Yj.mono ?_;rintro e w9 ⟨rfl,Rz,fE⟩;have er:=ar (HS.out.kp fE);go_wp2
  go_meet
  exact⟨rfl,er.out,Rz⟩
 obtain⟨rfl,hS9,Rz⟩:=hcut;have er:=ar hS9;have mD:=ar Rz;clear HS HC Yj b3 Rz hS9
 rename_i K hK
 refine hK _ _ ?_;clear hK K;obtain⟨wr,AW⟩:∃wr,wr=wc:=⟨_,rfl⟩;subst AW
 go_cut [6,7,8,9] from 30 to 124 (λ_ _ _ _ wx=>∃Zr v' uS a',eZ p w (w.heap.size+1) (w.heap.size+1) w.heap.size wx Zr v' uS/\aR wx p c a' r/\qf c d a=(⟨uS 0,Zr,uS 1,uS 2,uS 3⟩,a')/\∀i,i<4->(uS i).length<=1048576)
 case first=>
  have Sr:=HF.out.w1;have xU:=HF.out.w2;have zDQ:1<=n2:=by have h1:=HF.out.n1;have h2:=pH.out;omega
  have zDR:n2<=4000:=by have h1:=HF.out.n2;have h2:=pH.out;omega
  have zzb:n0=256:=by have h1:=HF.out.cl;have h2:=Mq.out;omega
  have zzc:n3=n2:=by have h1:=HF.out.fl;have h2:=pH.out;have h3:=I7.out;omega
  have zDO:1<=n1:=by have h1:=l6.out.1;have h2:=xj.out;omega
  have zDP:n1<=65536:=by have h1:=Hn.out;have h2:=xj.out;omega
  have iZ:=ar zzb;have nw:=ar zzc;clear zzb zzc;rcases hxc with rfl|rfl|rfl|rfl|rfl|rfl|rfl|rfl|rfl
  ·have eR:=ar (show qf c d a=(⟨d.ai.set (ae c 256 y).1.toNat (d.width-(ae c 2 (ae c 256 y).2).1),d.width,d.next,d.tag,d.fin⟩,(ae c 2 (ae c 256 y).2).2) from HG.out);have mU:=jL Hy.out 256;have qC:=HP.out wr y mD.out 256 (by omega);have fY:=jL mU.1 2;obtain⟨m,ym,hm⟩:∃m ym,ae c 256 y=(m,ym):=⟨_,_,rfl⟩;simp only[hm]at mU qC fY eR;obtain⟨m,rfl⟩:∃n:Nat,m=(n:Int):=⟨m.toNat,by have:=mU.2.1;omega⟩;rw[s7]at eR;obtain⟨z,yz,hz⟩:∃z yz,ae c 2 ym=(z,yz):=⟨_,_,rfl⟩;simp only[hz]at fY eR;have i0:(0:Int)<=(m:Int):=by omega
   have nK:m<n0:=by have h1:=mU.2.2;have h2:=iZ.out;omega
   have i1:(m:Int)<(n0:Int):=by omega
   have z0:0<=z:=fY.2.1;have z1:z<2:=by have:=fY.2.2;omega
   go_upto_region 9 with (go_at_call 17;refine qC.mono ?_;rintro e wa ⟨rfl,zo,zB⟩)
   have l8:=ar (er.out.kp zB);have fx:=ar (HP.out wa.drew ym (zo.keep λ_ _=>rfl) 2 (by omega));rw[hz]at fx;have x0:∀s:fJ p wa,s.W.cell? ⟨w.heap.size,0,zb⟩=za (zd (za ⟨g0,0,zb⟩) n0 c0):=λs=>by rw[<-BI.out];exact(cE (l8.out.kp s.h).box).1
   have x1:∀s:fJ p wa,s.W.cell? ⟨w.heap.size,1,zb⟩=za (zc .i64 d.width):=λs=>(cE (l8.out.kp s.h).box).2.1
   clear qC mU fY hm hz zo zB er mD
   go_upto_region 9 with fail
   refine tY [0,1,2,3,4,5] [6,7,8,9] 8 (λw'=>∃s:fJ p wa,w'=s.W) (λw'=>w'=World.drew wa) fF ⟨⟨World.drew wa,(aE.refl _ _).drew⟩,rfl⟩ rfl (by kernel_rfl) ?_;intro os bN;simp only[jw,jx,jA,jy]at bN;subst bN
   change wpQuiet _ _ _ _ [_,_,_,_,_,_] _
   repeat (go_big_quiet_step (fail))
   refine wpQuiet_nil ?_;rintro w' rfl r' dC;simp only[jw,jx,jA,jy,rQ]at dC;subst dC;clear x0 x1;refine mj rfl (λK5 bM=>?_);refine yk 17 #[.tmp 40,.const (zc .i64 2)] #[39,3] (by rfl) #[zh (za ⟨p,0,zb⟩),zc .i64 2] (by simp[Act.eval]) (λv w'=>v=zc .i64 z/\aR w' p c yz r/\aE p (World.drew wa) w') (ye _ _) (fx.out.mono (by
    rintro e w1 ⟨rfl,h1⟩;exact⟨_,rfl,rfl,h1⟩)) ?_
   rintro v8 W8 ⟨rfl,mQ,kW⟩;have fE:aE p wa W8:=(aE.refl _ _).drew.trans kW;refine bM _ _ (λ_=>⟨⟨_,fE⟩,rfl⟩) ?_;clear bM K5 fx;have dm:=ar (l8.out.kp fE);obtain⟨gR,kU⟩:=dm.out.at (i:=0) (by omega) BI.out;rw[show L4 d.ai d.next d.tag d.fin 0=d.ai from rfl,Mq.out]at gR;have u8:=gR m nK;have f8:=kU m;have td:=ar ((dm.out.put (i:=0) (by omega) BI.out Mq.out m (d.width-z)).to (a:=(d.ai.set m (d.width-z))) (b:=d.next) (c:=d.tag) (d:=d.fin) rfl rfl rfl rfl);have s9:=ar (mQ.put (b:=g0) (by omega) m (zc .i64 (d.width-z)));clear gR kU l8 dm;simp only[Act.put,vl,yF,yB];refine mj rfl (λK5 bM=>?_)
   first|go_big_move|go_big_op
   refine bM _ _ (λ_=>⟨⟨_,fE⟩,rfl⟩) ?_;clear bM K5;refine tZ (by simp) (λ_ _ h=>h) ?_
   change wpList _ _ _ [_,_] _ _
   go_wp2;rw[qc];go_wp2
   go_meet
   refine⟨d.width,v,_,_,td.out,s9.out,eR.out.trans rfl,?_⟩;intro i hi
   match i,hi with
   |0,_=>show (d.ai.set m (d.width-z)).length<=_;have:=uo.out.2;rw[jQ];omega
   |1,_=>show (d.next).length<=_;have:=l6.out.2;omega
   |2,_=>show (d.tag).length<=_;have:=l7.out.2;omega
   |3,_=>show (d.fin).length<=_;have:=oW.out.2;omega
  ·have eR:=ar (show qf c d a=(⟨d.ai.take 255,d.width,d.next,d.tag,d.fin⟩,y) from HG.out);have b0:wr.cell? ⟨w.heap.size,0,zb⟩=za (zd (za ⟨g0,0,zb⟩) n0 c0):=by rw[<-BI.out];exact(cE er.out.box).1
   have f0:=aM _ _ 0 _ _ er.out.box;have td:=ar ((er.out.shrink (i:=0) (by omega) (n:=255) BI.out Mq.out (by have:=iZ.out;omega) 0 rfl).to (a:=d.ai.take 255) (b:=d.next) (c:=d.tag) (d:=d.fin) rfl rfl rfl rfl);have s9:=ar (mD.out.put (b:=w.heap.size) (by omega) 0 (zd (za ⟨g0,0,zb⟩) 255 c0));have iz:=zx8 (er.out.au.own 0 (by omega)) BI.out;have zDa:(255:Int)<=(c0:Int):=by have:=iZ.out;omega
   clear er mD iz;go_wp2
   go_meet
   refine⟨d.width,_,_,_,td.out,s9.out,eR.out.trans rfl,?_⟩;intro i hi
   match i,hi with
   |0,_=>show (d.ai.take 255).length<=_;have:=uo.out.2;rw[rP];omega
   |1,_=>show (d.next).length<=_;have:=l6.out.2;omega
   |2,_=>show (d.tag).length<=_;have:=l7.out.2;omega
   |3,_=>show (d.fin).length<=_;have:=oW.out.2;omega
  ·have eR:=ar (show qf c d a=(⟨d.ai,d.width+((ae c 3 y).1-1),d.next,d.tag,d.fin⟩,(ae c 3 y).2) from HG.out);have fY:=jL Hy.out 3;have fx:=ar (HP.out wr.drew y (mD.out.keep λ_ _=>rfl) 3 (by omega));obtain⟨z,yz,hz⟩:∃z yz,ae c 3 y=(z,yz):=⟨_,_,rfl⟩;simp only[hz]at fY fx eR;have z0:0<=z:=fY.2.1;have z1:z<3:=by have:=fY.2.2;omega
   have x1:∀s:fJ p wr,s.W.cell? ⟨w.heap.size,1,zb⟩=za (zc .i64 d.width):=λs=>(cE (er.out.kp s.h).box).2.1
   clear fY hz
   go_upto_region 13 with fail
   refine tY [0,1,2] [3,4,5,6,7] 5 (λw'=>∃s:fJ p wr,w'=s.W) (λw'=>w'=World.drew wr) fF ⟨⟨World.drew wr,(aE.refl _ _).drew⟩,rfl⟩ rfl (by kernel_rfl) ?_;intro os bN;simp only[jw,jx,jA,jy]at bN;subst bN
   change wpQuiet _ _ _ _ [_,_,_] _
   repeat (go_big_quiet_step (fail))
   refine wpQuiet_nil ?_;rintro w' rfl r' dC;simp only[jw,jx,jA,jy,rQ]at dC;subst dC;clear x1;refine mj rfl (λK5 bM=>?_);refine yk 17 #[.tmp 54,.const (zc .i64 3)] #[39,3] (by rfl) #[zh (za ⟨p,0,zb⟩),zc .i64 3] (by simp[Act.eval]) (λv w'=>v=zc .i64 z/\aR w' p c yz r/\aE p (World.drew wr) w') (ye _ _) (fx.out.mono (by
    rintro e w1 ⟨rfl,h1⟩;exact⟨_,rfl,rfl,h1⟩)) ?_
   rintro v8 W8 ⟨rfl,mQ,kW⟩;have fE:aE p wr W8:=(aE.refl _ _).drew.trans kW;refine bM _ _ (λ_=>⟨⟨_,fE⟩,rfl⟩) ?_;clear bM K5 fx;have dm:=ar (er.out.kp fE);have u8:=(cE dm.out.box).2.1;have f8:=aM _ _ 1 _ _ dm.out.box;have td:=ar (dm.out.width (d.width+(z-1)));have s9:=ar (mQ.put (b:=w.heap.size) (by omega) 1 (zc .i64 (d.width+(z-1))));clear dm er mD;simp only[Act.put,vl,yF,yB];refine mj rfl (λK5 bM=>?_)
   first|go_big_move|go_big_op
   refine bM _ _ (λ_=>⟨⟨_,fE⟩,rfl⟩) ?_;clear bM K5;refine tZ (by simp) (λ_ _ h=>h) ?_
   change wpList _ _ _ [_,_,_] _ _
   go_wp2;rw[qc];go_wp2
   go_meet
   refine⟨_,v,_,_,td.out,s9.out,eR.out.trans rfl,?_⟩;intro i hi
   match i,hi with
   |0,_=>show (d.ai).length<=_;have:=uo.out.2;omega
   |1,_=>show (d.next).length<=_;have:=l6.out.2;omega
   |2,_=>show (d.tag).length<=_;have:=l7.out.2;omega
   |3,_=>show (d.fin).length<=_;have:=oW.out.2;omega
  ·have eR:=ar (show qf c d a=(⟨d.ai,d.width,d.next.set (ae c d.next.length y).1.toNat ((d.tag.length:Int)-(ae c 2 (ae c d.next.length y).2).1),d.tag,d.fin⟩,(ae c 2 (ae c d.next.length y).2).2) from HG.out);have mU:=jL Hy.out d.next.length;have qC:=HP.out wr y mD.out d.next.length (by have:=Hn.out;omega);have fY:=jL mU.1 2;obtain⟨m,ym,hm⟩:∃m ym,ae c d.next.length y=(m,ym):=⟨_,_,rfl⟩;simp only[hm]at mU qC fY eR;obtain⟨m,rfl⟩:∃n:Nat,m=(n:Int):=⟨m.toNat,by have:=mU.2.1;omega⟩;rw[s7]at eR;obtain⟨z,yz,hz⟩:∃z yz,ae c 2 ym=(z,yz):=⟨_,_,rfl⟩;simp only[hz]at fY eR;have i0:(0:Int)<=(m:Int):=by omega
   have nK:m<n1:=by have h1:=mU.2.2;have h2:=xj.out;omega
   have i1:(m:Int)<(n1:Int):=by omega
   have z0:0<=z:=fY.2.1;have z1:z<2:=by have:=fY.2.2;omega
   have b2:wr.cell? ⟨w.heap.size,2,zb⟩=za (zd (za ⟨g1,0,zb⟩) n1 c1):=by rw[<-rT.out];exact(cE er.out.box).2.2.1
   rw[xj.out]at qC;replace eR:Hid (qf c d a=(⟨d.ai,d.width,d.next.set m ((n2:Int)-z),d.tag,d.fin⟩,yz)):=by rw[<-pH.out];exact eR.out
   go_upto_region 16 with (go_at_call 17;refine qC.mono ?_;rintro e wa ⟨rfl,zo,zB⟩)
   have l8:=ar (er.out.kp zB);have fx:=ar (HP.out wa.drew ym (zo.keep λ_ _=>rfl) 2 (by omega));rw[hz]at fx;have x0:∀s:fJ p wa,s.W.cell? ⟨w.heap.size,2,zb⟩=za (zd (za ⟨g1,0,zb⟩) n1 c1):=λs=>by rw[<-rT.out];exact(cE (l8.out.kp s.h).box).2.2.1
   have x1:∀s:fJ p wa,s.W.cell? ⟨w.heap.size,1,zb⟩=za (zc .i64 d.width):=λs=>(cE (l8.out.kp s.h).box).2.1
   clear qC mU fY hm hz zo zB er mD
   go_upto_region 16 with fail
   refine tY [0,1,2,3,4] [5,6,7,8] 7 (λw'=>∃s:fJ p wa,w'=s.W) (λw'=>w'=World.drew wa) fF ⟨⟨World.drew wa,(aE.refl _ _).drew⟩,rfl⟩ rfl (by kernel_rfl) ?_;intro os bN;simp only[jw,jx,jA,jy]at bN;subst bN
   change wpQuiet _ _ _ _ [_,_,_,_,_] _
   repeat (go_big_quiet_step (fail))
   refine wpQuiet_nil ?_;rintro w' rfl r' dC;simp only[jw,jx,jA,jy,rQ]at dC;subst dC;clear x0 x1;refine mj rfl (λK5 bM=>?_);refine yk 17 #[.tmp 70,.const (zc .i64 2)] #[39,3] (by rfl) #[zh (za ⟨p,0,zb⟩),zc .i64 2] (by simp[Act.eval]) (λv w'=>v=zc .i64 z/\aR w' p c yz r/\aE p (World.drew wa) w') (ye _ _) (fx.out.mono (by
    rintro e w1 ⟨rfl,h1⟩;exact⟨_,rfl,rfl,h1⟩)) ?_
   rintro v8 W8 ⟨rfl,mQ,kW⟩;have fE:aE p wa W8:=(aE.refl _ _).drew.trans kW;refine bM _ _ (λ_=>⟨⟨_,fE⟩,rfl⟩) ?_;clear bM K5 fx;have dm:=ar (l8.out.kp fE);obtain⟨gR,kU⟩:=dm.out.at (i:=1) (by omega) rT.out;rw[show L4 d.ai d.next d.tag d.fin 1=d.next from rfl,xj.out]at gR;have u8:=gR m nK;have f8:=kU m;have td:=ar ((dm.out.put (i:=1) (by omega) rT.out xj.out m ((n2:Int)-z)).to (a:=d.ai) (b:=(d.next.set m ((n2:Int)-z))) (c:=d.tag) (d:=d.fin) rfl rfl rfl rfl);have s9:=ar (mQ.put (b:=g1) (by omega) m (zc .i64 ((n2:Int)-z)));clear gR kU l8 dm;simp only[Act.put,vl,yF,yB];refine mj rfl (λK5 bM=>?_)
   first|go_big_move|go_big_op
   refine bM _ _ (λ_=>⟨⟨_,fE⟩,rfl⟩) ?_;clear bM K5;refine tZ (by simp) (λ_ _ h=>h) ?_
   change wpList _ _ _ [_,_] _ _
   go_wp2;rw[qc];go_wp2
   go_meet
   refine⟨d.width,v,_,_,td.out,s9.out,eR.out.trans rfl,?_⟩;intro i hi
   match i,hi with
   |0,_=>show (d.ai).length<=_;have:=uo.out.2;omega
   |1,_=>show (d.next.set m ((n2:Int)-z)).length<=_;have:=l6.out.2;rw[jQ];omega
   |2,_=>show (d.tag).length<=_;have:=l7.out.2;omega
   |3,_=>show (d.fin).length<=_;have:=oW.out.2;omega
  ·have eR:=ar (show qf c d a=(⟨d.ai,d.width,d.next,d.tag.set (ae c d.tag.length y).1.toNat (100-(ae c 2 (ae c d.tag.length y).2).1),d.fin⟩,(ae c 2 (ae c d.tag.length y).2).2) from HG.out);have mU:=jL Hy.out d.tag.length;have qC:=HP.out wr y mD.out d.tag.length (by have:=pH.out;omega);have fY:=jL mU.1 2;obtain⟨m,ym,hm⟩:∃m ym,ae c d.tag.length y=(m,ym):=⟨_,_,rfl⟩;simp only[hm]at mU qC fY eR;obtain⟨m,rfl⟩:∃n:Nat,m=(n:Int):=⟨m.toNat,by have:=mU.2.1;omega⟩;rw[s7]at eR;obtain⟨z,yz,hz⟩:∃z yz,ae c 2 ym=(z,yz):=⟨_,_,rfl⟩;simp only[hz]at fY eR;have i0:(0:Int)<=(m:Int):=by omega
   have nK:m<n2:=by have h1:=mU.2.2;have h2:=pH.out;have h3:=nw.out;omega
   have i1:(m:Int)<(n2:Int):=by omega
   have z0:0<=z:=fY.2.1;have z1:z<2:=by have:=fY.2.2;omega
   rw[pH.out]at qC
   go_upto_region 19 with (go_at_call 17;refine qC.mono ?_;rintro e wa ⟨rfl,zo,zB⟩)
   have l8:=ar (er.out.kp zB);have fx:=ar (HP.out wa.drew ym (zo.keep λ_ _=>rfl) 2 (by omega));rw[hz]at fx;have x0:∀s:fJ p wa,s.W.cell? ⟨w.heap.size,3,zb⟩=za (zd (za ⟨g2,0,zb⟩) n2 c2):=λs=>by rw[<-nA.out];exact(cE (l8.out.kp s.h).box).2.2.2.1
   have x1:∀s:fJ p wa,s.W.cell? ⟨w.heap.size,1,zb⟩=za (zc .i64 d.width):=λs=>(cE (l8.out.kp s.h).box).2.1
   clear qC mU fY hm hz zo zB er mD
   go_upto_region 19 with fail
   refine tY [0,1,2,3] [4,5,6,7] 6 (λw'=>∃s:fJ p wa,w'=s.W) (λw'=>w'=World.drew wa) fF ⟨⟨World.drew wa,(aE.refl _ _).drew⟩,rfl⟩ rfl (by kernel_rfl) ?_;intro os bN;simp only[jw,jx,jA,jy]at bN;subst bN
   change wpQuiet _ _ _ _ [_,_,_,_] _
   repeat (go_big_quiet_step (fail))
   refine wpQuiet_nil ?_;rintro w' rfl r' dC;simp only[jw,jx,jA,jy,rQ]at dC;subst dC;clear x0 x1;refine mj rfl (λK5 bM=>?_);refine yk 17 #[.tmp 82,.const (zc .i64 2)] #[39,3] (by rfl) #[zh (za ⟨p,0,zb⟩),zc .i64 2] (by simp[Act.eval]) (λv w'=>v=zc .i64 z/\aR w' p c yz r/\aE p (World.drew wa) w') (ye _ _) (fx.out.mono (by
    rintro e w1 ⟨rfl,h1⟩;exact⟨_,rfl,rfl,h1⟩)) ?_
   rintro v8 W8 ⟨rfl,mQ,kW⟩;have fE:aE p wa W8:=(aE.refl _ _).drew.trans kW;refine bM _ _ (λ_=>⟨⟨_,fE⟩,rfl⟩) ?_;clear bM K5 fx;have dm:=ar (l8.out.kp fE);obtain⟨gR,kU⟩:=dm.out.at (i:=2) (by omega) nA.out;rw[show L4 d.ai d.next d.tag d.fin 2=d.tag from rfl,pH.out]at gR;have u8:=gR m nK;have f8:=kU m;have td:=ar ((dm.out.put (i:=2) (by omega) nA.out pH.out m (100-z)).to (a:=d.ai) (b:=d.next) (c:=(d.tag.set m (100-z))) (d:=d.fin) rfl rfl rfl rfl);have s9:=ar (mQ.put (b:=g2) (by omega) m (zc .i64 (100-z)));clear gR kU l8 dm;simp only[Act.put,vl,yF,yB];refine mj rfl (λK5 bM=>?_)
   first|go_big_move|go_big_op
   refine bM _ _ (λ_=>⟨⟨_,fE⟩,rfl⟩) ?_;clear bM K5;refine tZ (by simp) (λ_ _ h=>h) ?_
   change wpList _ _ _ [_,_] _ _
   go_wp2;rw[qc];go_wp2
   go_meet
   refine⟨d.width,v,_,_,td.out,s9.out,eR.out.trans rfl,?_⟩;intro i hi
   match i,hi with
   |0,_=>show (d.ai).length<=_;have:=uo.out.2;omega
   |1,_=>show (d.next).length<=_;have:=l6.out.2;omega
   |2,_=>show (d.tag.set m (100-z)).length<=_;have:=l7.out.2;rw[jQ];omega
   |3,_=>show (d.fin).length<=_;have:=oW.out.2;omega
  ·have eR:=ar (show qf c d a=(⟨d.ai,d.width,d.next,d.tag,d.fin.set (ae c d.tag.length y).1.toNat (-1-(ae c 2 (ae c d.tag.length y).2).1)⟩,(ae c 2 (ae c d.tag.length y).2).2) from HG.out);have mU:=jL Hy.out d.tag.length;have qC:=HP.out wr y mD.out d.tag.length (by have:=pH.out;omega);have fY:=jL mU.1 2;obtain⟨m,ym,hm⟩:∃m ym,ae c d.tag.length y=(m,ym):=⟨_,_,rfl⟩;simp only[hm]at mU qC fY eR;obtain⟨m,rfl⟩:∃n:Nat,m=(n:Int):=⟨m.toNat,by have:=mU.2.1;omega⟩;rw[s7]at eR;obtain⟨z,yz,hz⟩:∃z yz,ae c 2 ym=(z,yz):=⟨_,_,rfl⟩;simp only[hz]at fY eR;have i0:(0:Int)<=(m:Int):=by omega
   have nK:m<n3:=by have h1:=mU.2.2;have h2:=pH.out;have h3:=nw.out;omega
   have i1:(m:Int)<(n3:Int):=by omega
   have z0:0<=z:=fY.2.1;have z1:z<2:=by have:=fY.2.2;omega
   rw[pH.out]at qC
   go_upto_region 22 with (go_at_call 17;refine qC.mono ?_;rintro e wa ⟨rfl,zo,zB⟩)
   have l8:=ar (er.out.kp zB);have fx:=ar (HP.out wa.drew ym (zo.keep λ_ _=>rfl) 2 (by omega));rw[hz]at fx;have x0:∀s:fJ p wa,s.W.cell? ⟨w.heap.size,4,zb⟩=za (zd (za ⟨g3,0,zb⟩) n3 c3):=λs=>by rw[<-uv.out];exact(cE (l8.out.kp s.h).box).2.2.2.2
   have x1:∀s:fJ p wa,s.W.cell? ⟨w.heap.size,1,zb⟩=za (zc .i64 d.width):=λs=>(cE (l8.out.kp s.h).box).2.1
   clear qC mU fY hm hz zo zB er mD
   go_upto_region 22 with fail
   refine tY [0,1,2,3] [4,5,6,7] 6 (λw'=>∃s:fJ p wa,w'=s.W) (λw'=>w'=World.drew wa) fF ⟨⟨World.drew wa,(aE.refl _ _).drew⟩,rfl⟩ rfl (by kernel_rfl) ?_;intro os bN;simp only[jw,jx,jA,jy]at bN;subst bN
   change wpQuiet _ _ _ _ [_,_,_,_] _
   repeat (go_big_quiet_step (fail))
   refine wpQuiet_nil ?_;rintro w' rfl r' dC;simp only[jw,jx,jA,jy,rQ]at dC;subst dC;clear x0 x1;refine mj rfl (λK5 bM=>?_);refine yk 17 #[.tmp 94,.const (zc .i64 2)] #[39,3] (by rfl) #[zh (za ⟨p,0,zb⟩),zc .i64 2] (by simp[Act.eval]) (λv w'=>v=zc .i64 z/\aR w' p c yz r/\aE p (World.drew wa) w') (ye _ _) (fx.out.mono (by
    rintro e w1 ⟨rfl,h1⟩;exact⟨_,rfl,rfl,h1⟩)) ?_
   rintro v8 W8 ⟨rfl,mQ,kW⟩;have fE:aE p wa W8:=(aE.refl _ _).drew.trans kW;refine bM _ _ (λ_=>⟨⟨_,fE⟩,rfl⟩) ?_;clear bM K5 fx;have dm:=ar (l8.out.kp fE);obtain⟨gR,kU⟩:=dm.out.at (i:=3) (by omega) uv.out;rw[show L4 d.ai d.next d.tag d.fin 3=d.fin from rfl,I7.out]at gR;have u8:=gR m nK;have f8:=kU m;have td:=ar ((dm.out.put (i:=3) (by omega) uv.out I7.out m (-1-z)).to (a:=d.ai) (b:=d.next) (c:=d.tag) (d:=(d.fin.set m (-1-z))) rfl rfl rfl rfl);have s9:=ar (mQ.put (b:=g3) (by omega) m (zc .i64 (-1-z)));clear gR kU l8 dm;simp only[Act.put,vl,yF,yB];refine mj rfl (λK5 bM=>?_)
   first|go_big_move|go_big_op
   refine bM _ _ (λ_=>⟨⟨_,fE⟩,rfl⟩) ?_;clear bM K5;refine tZ (by simp) (λ_ _ h=>h) ?_
   change wpList _ _ _ [_,_] _ _
   go_wp2;rw[qc];go_wp2
   go_meet
   refine⟨d.width,v,_,_,td.out,s9.out,eR.out.trans rfl,?_⟩;intro i hi
   match i,hi with
   |0,_=>show (d.ai).length<=_;have:=uo.out.2;omega
   |1,_=>show (d.next).length<=_;have:=l6.out.2;omega
   |2,_=>show (d.tag).length<=_;have:=l7.out.2;omega
   |3,_=>show (d.fin.set m (-1-z)).length<=_;have:=oW.out.2;rw[jQ];omega
  ·have eR:=ar (show qf c d a=(⟨d.ai,d.width,d.next,d.tag,d.fin++[-1]⟩,y) from HG.out);have b4:wr.cell? ⟨w.heap.size,4,zb⟩=za (zd (za ⟨g3,0,zb⟩) n3 c3):=by rw[<-uv.out];exact(cE er.out.box).2.2.2.2
   have hsz:=ay er.out.bw;have zDS:n3<=4000:=by have:=nw.out;omega
   go_wp2_with (at_builtin;refine kJ er.out.au _ rfl rfl (.tmp 101) (.tmp 102) rfl 3 (by omega) d.fin rfl n3 I7.out (by exact uv.out.symm) _ rfl (by omega) hsz ?_;intro g2 d2 V2 hF2 dE;obtain⟨dr,J2⟩:=er.out.field (i:=3) (by omega) 4 rfl hF2 dE;have pG:=ar (er.out.rY mD.out (i:=3) (by omega) dE 4 (zd (za ⟨g2,0,zb⟩) (n3+1) d2));have qb:=(cE dr).2.2.2.2;rw[uv.out]at qb;have oA:=aM _ _ 4 _ _ dr;have kg:=ar J2;clear hF2 dE dr J2)
   go_meet
   refine⟨d.width,_,_,_,kg.out.to (a:=d.ai) (b:=d.next) (c:=d.tag) (d:=d.fin++[-1]) rfl rfl rfl rfl,pG.out,eR.out.trans rfl,?_⟩;intro i hi
   match i,hi with
   |0,_=>show (d.ai).length<=_;have:=uo.out.2;omega
   |1,_=>show (d.next).length<=_;have:=l6.out.2;omega
   |2,_=>show (d.tag).length<=_;have:=l7.out.2;omega
   |3,_=>show (d.fin++[-1]).length<=_;have:=I7.out;rw[aQ];show _+1<=_;omega
  ·have eR:=ar (show qf c d a=(⟨d.ai,d.width,d.next.take (d.next.length-1),d.tag,d.fin⟩,y) from HG.out);have b2:wr.cell? ⟨w.heap.size,2,zb⟩=za (zd (za ⟨g1,0,zb⟩) n1 c1):=by rw[<-rT.out];exact(cE er.out.box).2.2.1
   have f2:=aM _ _ 2 _ _ er.out.box;obtain⟨k,hk⟩:∃k,n1=k+1:=⟨n1-1,by omega⟩;have HK:=ar hk;have td:=ar ((er.out.shrink (i:=1) (by omega) (n:=k) rT.out xj.out (by omega) 2 rfl).to (a:=d.ai) (b:=d.next.take k) (c:=d.tag) (d:=d.fin) rfl rfl rfl rfl);have s9:=ar (mD.out.put (b:=w.heap.size) (by omega) 2 (zd (za ⟨g1,0,zb⟩) k c1));have iz:=zx8 (er.out.au.own 1 (by omega)) rT.out;have e1:(n1:Int)-1=(k:Int):=by omega
   have i0:(0:Int)<=(k:Int):=by omega
   have hck:(k:Int)<=(c1:Int):=by omega
   replace eR:Hid (qf c d a=(⟨d.ai,d.width,d.next.take k,d.tag,d.fin⟩,y)):=by have:=eR.out;rw[xj.out,hk,II]at this;exact this
   clear er mD iz hk;go_wp2
   go_meet
   refine⟨d.width,_,_,_,td.out,s9.out,eR.out.trans rfl,?_⟩;intro i hi
   match i,hi with
   |0,_=>show (d.ai).length<=_;have:=uo.out.2;omega
   |1,_=>show (d.next.take k).length<=_;have:=l6.out.2;rw[rP];omega
   |2,_=>show (d.tag).length<=_;have:=l7.out.2;omega
   |3,_=>show (d.fin).length<=_;have:=oW.out.2;omega
  ·have eR:=ar (show qf c d a=(⟨d.ai,d.width,d.next.set (ae c d.next.length y).1.toNat (-1),d.tag,d.fin⟩,(ae c d.next.length y).2) from HG.out);have fY:=jL Hy.out d.next.length;rw[xj.out]at fY eR;have fx:=ar (HP.out wr.drew y (mD.out.keep λ_ _=>rfl) n1 (by omega));obtain⟨m,yz,hz⟩:∃z yz,ae c n1 y=(z,yz):=⟨_,_,rfl⟩;simp only[hz]at fY fx eR;obtain⟨m,rfl⟩:∃n:Nat,m=(n:Int):=⟨m.toNat,by have:=fY.2.1;omega⟩;rw[s7]at eR;have i0:(0:Int)<=(m:Int):=by omega
   have nK:m<n1:=by have:=fY.2.2;omega
   have i1:(m:Int)<(n1:Int):=by omega
   have x0:∀s:fJ p wr,s.W.cell? ⟨w.heap.size,2,zb⟩=za (zd (za ⟨g1,0,zb⟩) n1 c1):=λs=>by rw[<-rT.out];exact(cE (er.out.kp s.h).box).2.2.1
   clear fY hz
   go_upto_region 28 with fail
   refine tY [0,1,2,3,4] [5,6,7,8] 7 (λw'=>∃s:fJ p wr,w'=s.W) (λw'=>w'=World.drew wr) fF ⟨⟨World.drew wr,(aE.refl _ _).drew⟩,rfl⟩ rfl (by kernel_rfl) ?_;intro os bN;simp only[jw,jx,jA,jy]at bN;subst bN
   change wpQuiet _ _ _ _ [_,_,_,_,_] _
   repeat (go_big_quiet_step (fail))
   refine wpQuiet_nil ?_;rintro w' rfl r' dC;simp only[jw,jx,jA,jy,rQ]at dC;subst dC;clear x0;refine mj rfl (λK5 bM=>?_)
   first|go_big_move|go_big_op
   refine bM _ _ (λ_=>⟨⟨World.drew wr,(aE.refl _ _).drew⟩,rfl⟩) ?_;clear bM K5;refine mj rfl (λK5 bM=>?_);refine yk 17 #[.tmp 119,.tmp 122] #[39,3] (by rfl) #[zh (za ⟨p,0,zb⟩),zc .i64 (n1:Int)] (by simp[Act.eval]) (λv w'=>v=zc .i64 (m:Int)/\aR w' p c yz r/\aE p (World.drew wr) w') (ye _ _) (fx.out.mono (by
    rintro e w1 ⟨rfl,h1⟩;exact⟨_,rfl,rfl,h1⟩)) ?_
   rintro v8 W8 ⟨rfl,mQ,kW⟩;have fE:aE p wr W8:=(aE.refl _ _).drew.trans kW;refine bM _ _ (λ_=>⟨⟨_,fE⟩,rfl⟩) ?_;clear bM K5 fx;have dm:=ar (er.out.kp fE);obtain⟨gR,kU⟩:=dm.out.at (i:=1) (by omega) rT.out;rw[show L4 d.ai d.next d.tag d.fin 1=d.next from rfl,xj.out]at gR;have u8:=gR m nK;have f8:=kU m;have td:=ar ((dm.out.put (i:=1) (by omega) rT.out xj.out m (-1)).to (a:=d.ai) (b:=d.next.set m (-1)) (c:=d.tag) (d:=d.fin) rfl rfl rfl rfl);have s9:=ar (mQ.put (b:=g1) (by omega) m (zc .i64 (-1)));clear gR kU er dm mD;refine tZ (by simp) (λ_ _ h=>h) ?_
   change wpList _ _ _ [_,_] _ _
   go_wp2;rw[qc];go_wp2
   go_meet
   refine⟨d.width,v,_,_,td.out,s9.out,eR.out.trans rfl,?_⟩;intro i hi
   match i,hi with
   |0,_=>show (d.ai).length<=_;have:=uo.out.2;omega
   |1,_=>show (d.next.set m (-1)).length<=_;have:=l6.out.2;rw[jQ];omega
   |2,_=>show (d.tag).length<=_;have:=l7.out.2;omega
   |3,_=>show (d.fin).length<=_;have:=oW.out.2;omega
 case rest=>
  obtain⟨Zr,v',uS,a',hSz,hCz,hGz,hLz⟩:=hcut;have FX:=ar hSz;have HCz:=ar hCz;have HGz:=ar hGz;have PO:=ar hLz;clear hSz hCz hGz hLz er mD HG;obtain⟨⟨a0,c0⟩,iI⟩:=dQ (FX.out.au.own 0 (by omega));obtain⟨⟨a1,c1⟩,jY⟩:=dQ (FX.out.au.own 1 (by omega));obtain⟨⟨a2,c2⟩,eP⟩:=dQ (FX.out.au.own 2 (by omega));obtain⟨⟨a3,c3⟩,fi⟩:=dQ (FX.out.au.own 3 (by omega));have HE:=ar (FX.out.done HCz.out (by
   intro i hi
   match i,hi with
   |0,_=>exact PO.out 0 (by omega)
   |1,_=>exact PO.out 1 (by omega)
   |2,_=>exact PO.out 2 (by omega)
   |3,_=>exact PO.out 3 (by omega)))
  obtain⟨b0,b1,b2,b3,b4⟩:=cE FX.out.box;have dK:=FX.out.bw;have r0:=aM _ _ 0 _ _ dK;have r1:=aM _ _ 1 _ _ dK;have r2:=aM _ _ 2 _ _ dK;have r3:=aM _ _ 3 _ _ dK;have r4:=aM _ _ 4 _ _ dK;unfold bI at dK;obtain⟨z0,z1,z2,z3,z4⟩:=dM dK;simp only at iI jY eP fi;rw[iI,jY,eP,fi]at HE;rw[iI]at b0;rw[jY]at b2;rw[eP]at b3;rw[fi]at b4;clear dK iI jY eP fi
  skip
  go_wp2;refine aW (v:=_) (by simp[results,results15,go_sem,z0,z1,z2,z3,z4];rfl) rfl ?_;rw[HGz.out];exact⟨_,_,_,_,rfl,HE.out⟩
end Go.Proofs.YtfajjdgkiilhfaaGreatDoor
