import Derived.Test.YtfajjdgkiilhfaaC47
namespace Go.Proofs.Ytfajjdgkiilhfaa
open Proofs.Try
open Option renaming some->za,none->zh
open Value renaming int->zi,slice->zn,pointer->zy
open Obj renaming cells->zp
open Go renaming Value->zw,World->zx
set_option maxHeartbeats 8000000
set_option maxRecDepth 100000
open Go.RowKit
attribute [local go_sem ↓] wp_at_zero wp_at_succ
structure Kn where
 rs:List dC
 a:Nat
 r:Int
noncomputable def Mv (c:List UInt8) (room:Int) (s:Kn):Kn:=
 if (af c 8 s.a).1=7 then (if gE (qe c (af c 8 s.a).2).1.branches<=12 then ⟨s.rs++[(qe c (af c 8 s.a).2).1],(qe c (af c 8 s.a).2).2,s.r⟩ else ⟨s.rs,(qe c (af c 8 s.a).2).2,s.r⟩)
 else if 24<gE (zo c room (af c 8 s.a).2).branches then ⟨s.rs++[(wU ⟨#[97,98,124,98,36]⟩).1],(jW c room (af c 8 s.a).2).2.1,(jW c room (af c 8 s.a).2).2.2⟩
 else ⟨s.rs++[zo c room (af c 8 s.a).2],(jW c room (af c 8 s.a).2).2.1,(jW c room (af c 8 s.a).2).2.2⟩
noncomputable def rK (c:List UInt8) (room:Int) (a:Nat) (r:Int):Nat->Kn
 |0=>⟨[],a,r⟩
 |k+1=>Mv c room (rK c room a r k)
noncomputable def nZ (c:List UInt8) (most room:Int) (a:Nat) (r:Int):Kn:=rK c room (af c most a).2 r (1+(af c most a).1).toNat
def MF(rs:List dC):Prop:=∀r∈rs,qM r.branches/\Small r.branches
theorem zlX{c:List UInt8}{room:Int}{s:Kn}{k:Nat}(h:MF s.rs/\s.rs.length<=k):MF (Mv c room s).rs/\(Mv c room s).rs.length<=k+1:=by
 have key:∀r:dC,qM r.branches/\Small r.branches->MF (s.rs++[r])/\(s.rs++[r]).length<=k+1:=λr hr=>by
  refine⟨λx hx=>?_,by have:=h.2;simp;omega⟩;rcases gH.1 hx with hx|hx
  ·exact h.1 x hx
  ·simp at hx;subst hx;exact hr
 unfold Mv;split
 ·split
  ·exact key _ (zid _ _)
  ·exact⟨h.1,by have:=h.2;show s.rs.length<=_;omega⟩
 ·split
  ·obtain⟨x,hx⟩:=Mn ⟨#[97,98,124,98,36]⟩;exact key _ (zhi hx)
  ·exact key _ (ziI _ _ _)
theorem zhq(c:List UInt8)(room:Int)(a:Nat)(r:Int):∀k,MF (rK c room a r k).rs/\(rK c room a r k).rs.length<=k
 |0=>⟨λx hx=>(by cases hx),ax _⟩
 |k+1=>zlX (zhq c room a r k)
theorem zly{rs:List dC}(h:MF rs)(hl:rs.length<=1048576):JG rs:=⟨hl,λk hk=>(h _ (by rw[bI,bE hk];exact gy _)).2⟩
def Pm(r:dC)(b:zw):List zw:=[b,zi .i64 r.jT]
def LN(rs:List dC)(bv:Nat->zw):List zw:=(List.range rs.length).flatMap λk=>Pm (rs.getD k .zero) (bv k)
theorem zsK(rs:List dC)(bv:Nat->zw){k j:Nat}(hk:k<rs.length)(hj:j<2):(LN rs bv)[k*2+j]?=(Pm (rs.getD k .zero) (bv k))[j]?:=Ud (f:=λk=>Pm (rs.getD k .zero) (bv k)) (sz:=2) (λ_=>rfl) _ _ _ hk hj
structure zS(p:Nat)(w:zx)(c:List UInt8)(W:zx)(rv:zw)(rs:List dC)(bv:Nat->zw)(a:Nat)(r:Int):Prop where
 own:W.ownsRow w.heap.size 89 2 rv rs.length (LN rs bv)
 Z9:∀k,k<rs.length->∃lo Wk,p<lo/\jd lo Wk (bv k) (rs.getD k .zero).branches/\Same lo Wk W/\∀b,rv.ownBlock=za b->b<lo\/Wk.heap.size<=b
 kept:aJ p w W
 jn:a7 W p c a r
 base:p<w.heap.size
section
variable {p:Nat} {w:zx} {c:List UInt8} {W W' Wk:zx} {rv:zw} {rs:List dC} {bv:Nat->zw} {a a':Nat} {r r':Int}
theorem zS.kp(h:zS p w c W rv rs bv a r)(hk:aJ p W W')(hd:a7 W' p c a' r'):zS p w c W' rv rs bv a' r':=by
 have hb:=h.base;refine⟨uo h.own λb e=>hk.block b (dL h.own e).2 (by have:=(dL h.own e).1;omega),λk bJ=>?_,h.kept.trans hk,hd,hb⟩;obtain⟨lo,Wk,h1,h2,h3,h4⟩:=h.Z9 k bJ;exact⟨lo,Wk,h1,h2,h3.trans (hk.same h1),h4⟩
theorem zS.push(h:zS p w c W rv rs bv a r){rd:dC}{u:zw}{lo g' cap':Nat}(oC:p<lo)(hr:jd lo Wk u rd.branches)(hsm:Same lo Wk W)(bV:∀b,rv.ownBlock=za b->b<lo)
  (ho:W'.ownsRow w.heap.size 89 2 (zn (za ⟨g',0,zh⟩) (rs.length+1) cap') (rs.length+1) (LN rs bv++Pm rd u)) (hg:W.grownBy W' rv.ownBlock) (eY:rv.ownBlock=za g'\/W.heap.size<=g'):
  ∃bv',zS p w c W' (zn (za ⟨g',0,zh⟩) (rs.length+1) cap') (rs++[rd]) bv' a r:=by
 have hb:=h.base;have ot:∀k,k<rs.length->(rs++[rd]).getD k .zero=rs.getD k .zero:=λk hk=>by simp[List.getD,List.getElem?_append_left hk]
 have dH:(rs++[rd]).getD rs.length .zero=rd:=by simp[List.getD]
 have key:∀lo (Wk:zx),Same lo Wk W->(∀b,rv.ownBlock=za b->b<lo\/Wk.heap.size<=b)->Same lo Wk W'/\∀b,(Value.slice (za ⟨g',0,zh⟩) (rs.length+1) cap').ownBlock=za b->b<lo\/Wk.heap.size<=b:=λlo Wk h3 h4=>by
  refine⟨⟨cM h3.size hg.size,λk hk hl=>(hg.block k (fR hl h3.size) (λe=>?_)).trans (h3.block k hk hl)⟩,λb e=>?_⟩
  ·rcases h4 k e.symm with q|q<;>omega
  ·have e2:g'=b:=by simpa [Value.ownBlock]using e
   subst e2;rcases eY with q|q
   ·exact h4 _ q
   ·exact .inr (cM h3.size q)
 refine⟨λk=>if k<rs.length then bv k else u,?_,λk hk=>?_,h.kept.grown hg λb e=>(dL h.own e).1,h.jn.grown hg λb e=>by have:=(dL h.own e).1;omega,hb⟩
 ·have:LN (rs++[rd]) (λk=>if k<rs.length then bv k else u)=LN rs bv++Pm rd u:=by
   unfold LN;rw[a6,show [rd].length=1 from rfl,LY]
   congr 1
   ·exact PM _ λk hk=>by rw[ot k hk];simp only[ae hk]
   ·rw[dH];simp
  rw[this,a6];exact ho
 ·by_cases e:k<rs.length
  ·rw[ot k e];simp only[ae e];obtain⟨lo,Wk,h1,h2,h3,h4⟩:=h.Z9 k e;exact⟨lo,Wk,h1,h2,key lo Wk h3 h4⟩
  ·have e2:k=rs.length:=by simp at hk;omega
   subst e2;rw[dH];simp only[ab e];exact⟨lo,Wk,oC,hr,key lo Wk hsm λb e=>.inl (bV b e)⟩
theorem zS.at(h:zS p w c W rv rs bv a r):qJ (p+1) W rv rs:=by
 have hb:=h.base;rcases h.own.2 with ⟨rfl,h0⟩|⟨g,cap,a9,rfl,hg,hh,h1,h2,h3,h4⟩
 ·have:rs=[]:=qj h0;subst this;exact⟨zh,0,rfl,by simp,λh=>absurd h (by simp)⟩
 ·refine⟨_,cap,rfl,cM h1 (Jr h2),λ_=>⟨g,0,rfl,by omega,az hh,λi hi=>?_⟩⟩;have hg:=λj (hj:j<2)=>(h.own.cellAt (i*2+j) (by omega)).trans (zsK rs bv hi hj)
  rw[jB];obtain⟨lo,Wk,k1,k2,k3,_⟩:=h.Z9 i hi;exact⟨⟨bv i,hg 0 (by omega),(k2.same k3).mono (by omega)⟩,hg 1 (by omega)⟩
end
theorem zsx:(prog.info? 89).map (λi=>(i.zero,i.size,i.bytes))=za (za (.agg #[zn zh 0 0,zi .i64 0]),2,32):=by kernel_rfl
theorem zjX(w:zx)(p:Nat)(c:List UInt8)(a:Nat)(r:Int)(h:a7 w p c a r)(most room:Int)(jV:1<=most)(fY:most<=1000)(iX:1<=room)(sF:room<=1000):
  Calls prog 31 #[zy (za ⟨p,0,zh⟩),zi .i64 most,zi .i64 room] w λe W=>∃rv,e=.returned rv/\qJ (p+1) W rv (nZ c most room a r).rs/\a7 W p c (nZ c most room a r).a (nZ c most room a r).r/\aJ p w W:=by
 have dz:=h.lt;obtain⟨iN,rn,rD,rE,rF⟩:=info_parts zsx;obtain⟨W1,bk⟩:∃W1,w.alloc (zp #[] 89)=W1:=⟨_,rfl⟩;have aP:Below w.heap.size w W1:=by rw[<-bk];exact aC
 have bV:W1.ownsRow w.heap.size 89 2 (zn (za ⟨w.heap.size,0,zh⟩) 0 0) 0 []:=by rw[<-bk];exact LX w _ 2 _ _ (ax _) rfl
 have hI:zS p w c W1 (zn (za ⟨w.heap.size,0,zh⟩) 0 0) [] (λ_=>zn zh 0 0) a r:=⟨bV,λk hk=>absurd hk (dP _),.of aP,h.below aP,dz⟩;have hp:=uq W1 p c a r hI.jn most (by omega);have hl:=uv (c:=c) (a:=a) (n:=most) jV;have HF:Hid (nZ c most room a r=rK c room (af c most a).2 r (1+(af c most a).1).toNat):=rfl;obtain⟨x1,y1,pZ⟩:∃x y,af c most a=(x,y):=⟨_,_,rfl⟩;rw[pZ]at hp hl HF;obtain⟨N,hN⟩:∃N:Nat,1+x1=(N:Int):=⟨(1+x1).toNat,by have:=hl.1;simp only at this;omega⟩;have Da:N<=1001:=by have:=hl.2;simp only at this;omega
 replace HF:Hid (nZ c most room a r=rK c room y1 r N):=by rw[hN]at HF;exact HF.out
 have zDb:0<=x1:=hl.1;have zDc:x1<=1000:=by have:=hl.2;simp only at this;omega
 have HI:=ah hI;have HP:=ah λW a r hW (n:Int) (hn:n<=65536)=>uq W p c a r hW n hn
 clear hl pZ hI bV aP h jV fY
 go_enter func31,ntmps31
 go_wp2_with fail
 refine hp.mono ?_;rintro e w2 ⟨rfl,fF,bJ⟩;have nz:=ah (HI.out.kp bJ fF);clear HI fF bJ hp bk;go_wp2
 go_loopw [7,9] (λrv i wr=>∃k:Nat,k<=N/\i=zi .i64 k/\∃ra rc bv,rv=.slice ra (rK c room y1 r k).rs.length rc/\zS p w c wr (.slice ra (rK c room y1 r k).rs.length rc) (rK c room y1 r k).rs bv (rK c room y1 r k).a (rK c room y1 r k).r) (λ_ i _=>N-(intOf i).toNat)
 case atStart=>exact⟨0,by omega,rfl,_,_,_,rfl,nz.out⟩
 case round=>
  clear nz;obtain⟨k,hk,rfl,ra,rc,bv,rfl,hS⟩:=hrel;have HS:=ah hS;have HO:=ah (zhq c room y1 r k);have S3:p<wr.heap.size:=by have h1:=HS.out.base;have h2:=HS.out.kept.size;omega
  clear hS
  by_cases hlt:k<N
  ·have Dt:(k:Int)<(N:Int):=by omega
   have kS:Hid (rK c room y1 r (k+1)=Mv c room (rK c room y1 r k)):=rfl;generalize rK c room y1 r k=st at *;obtain⟨rs,ak,rk⟩:=st;replace HS:Hid (zS p w c wr (.slice ra rs.length rc) rs bv ak rk):=HS.out;have hlen:rs.length<=1001:=by have h2:rs.length<=k:=HO.out.2;omega
   have Dx:=HP.out wr ak rk HS.out.jn 8 (by omega);obtain⟨x8,y8,wL⟩:∃x y,af c 8 ak=(x,y):=⟨_,_,rfl⟩;have CL:Hid (rK c room y1 r (k+1)=if x8=7 then (if gE (qe c y8).1.branches<=12 then ⟨rs++[(qe c y8).1],(qe c y8).2,rk⟩ else ⟨rs,(qe c y8).2,rk⟩)
     else if 24<gE (zo c room y8).branches then ⟨rs++[(wU ⟨#[97,98,124,98,36]⟩).1],(jW c room y8).2.1,(jW c room y8).2.2⟩
     else ⟨rs++[zo c room y8],(jW c room y8).2.1,(jW c room y8).2.2⟩):=by
    have:=kS.out;unfold Mv at this;simp only[wL]at this;exact this
   rw[wL]at Dx;have zxH:∀b,(Value.slice ra rs.length rc).ownBlock=za b->b<wr.heap.size:=λb e=>(dL HS.out.own e).2
   have Bw:=ah zxH;clear kS HO wL zxH
   by_cases Xi:x8=7
   ·subst Xi;have HY:=ah (CL.out.trans (ae rfl));have lK:=zid c y8;have OE:=λW hW=>zlC W p c y8 rk hW
    generalize qe c y8=hf at *;obtain⟨rd,yh⟩:=hf;clear CL
    go_wp2_with fail
    refine Dx.mono ?_;rintro e w3 ⟨rfl,eM,cP⟩
    go_wp2_with fail
    refine(OE w3 eM).mono ?_;rintro e w4 ⟨u,rfl,dB,pk,mf⟩;obtain⟨ua,uc,rfl,Zy,O8⟩:=dB;have Nj:=ah (show jd w3.heap.size w4 (.slice ua rd.branches.length uc) rd.branches from⟨ua,uc,rfl,Zy,O8⟩);have SJ:=cP.trans mf;have I1:=cP.size;have FN:w4.heap.size=w4.heap.size:=rfl;obtain⟨W5,gL⟩:∃W5,w4.alloc (zp #[.slice ua rd.branches.length uc,zi .i64 rd.jT] 89)=W5:=⟨_,rfl⟩;have cO:Below w4.heap.size w4 W5:=by rw[<-gL];exact aC
    have z5:W5.heap[w4.heap.size]?=za (zp #[.slice ua rd.branches.length uc,zi .i64 rd.jT] 89 (0,0)):=by rw[<-gL];exact aU _ _
    have qC:=PH rd.jT (.slice ua rd.branches.length uc) rd.branches W5 (Nj.out.below cO) lK.2 lK.1;obtain⟨q0,q1,-,-⟩:=jZ z5;obtain⟨wt,fg⟩:∃wt,gE rd.branches=wt:=⟨_,rfl⟩;rw[fg]at qC;have CM:Hid (rK c room y1 r (k+1)=if wt<=12 then ⟨rs++[rd],yh,rk⟩ else ⟨rs,yh,rk⟩):=by rw[<-fg];exact HY.out
    clear O8 eM cP mf Dx OE lK HY fg FN
    go_wp2_with fail
    refine qC.mono ?_;rintro e w6 ⟨rfl,gM⟩;have Ai:=bi cO cO.size gM;have z6:=aY z5 gM;obtain⟨t0,t1,-,-⟩:=jZ z6;have HX:=ah (HS.out.kp (SJ.trans (.of Ai)) (pk.below Ai));have G0:=ah (Same.wT (lo:=w3.heap.size) Ai);clear qC cO gM Ai z5 z6 q0 q1 gL pk HS
    by_cases E1:wt<=12
    ·have HE:=ah (CM.out.trans (ae E1));clear CM
     go_wp2_with (at_builtin;refine wZ rfl (.tmp 30) (.tmp 32) 57 rfl _ _ 89 rfl _ rfl w.heap.size iN _ 2 32 underlying57 rn rD rE rF rfl (by omega) (.slice ra rs.length rc) rs.length _ rfl HX.out.own rfl rfl (by intro u hu;simp at hu;rcases hu with rfl|rfl<;>rfl) (by omega) (by omega) (cM (ax _) HX.out.kept.size) ?_;intro g2 uS w9 pz kD kC;obtain⟨NA,HR⟩:=HX.out.push (rd:=rd) (lo:=w3.heap.size) (by have:=S3;omega) Nj.out G0.out (λb e=>by have:=Bw.out b e;omega) pz kD kC;have vO:=ah HR;clear pz kD kC HR)
     go_roundw
     case rel=>
      refine⟨k+1,by omega,by go_num,za ⟨g2,0,zh⟩,uS,NA,?_,?_⟩
      ·rw[HE.out];simp
      ·rw[HE.out];simp only[a6,iG,n4];exact vO.out
     case measure=>simp[intOf];omega
    ·have HE:=ah (CM.out.trans (ab E1));clear CM;go_wp2
     go_roundw
     case rel=>exact⟨k+1,by omega,by go_num,ra,rc,bv,by rw[HE.out],by rw[HE.out];exact HX.out⟩
     case measure=>simp[intOf];omega
   ·have HY:=ah (CL.out.trans (ab Xi));have m7:(x8==7)=false:=by simp[Xi]
    have lK:=ziI c room y8;have OE:=λW hW=>zlw W p c y8 rk hW room iX sF
    obtain⟨px,LB⟩:=Mn ⟨#[97,98,124,98,36]⟩;have hpp:=λW=>zek ⟨#[97,98,124,98,36]⟩ W LB
    generalize zo c room y8=rd at *;generalize (jW c room y8).2=sy at *;obtain⟨yh,rh⟩:=sy;generalize wU ⟨#[97,98,124,98,36]⟩=pr at *;obtain⟨rp,cp⟩:=pr;clear CL
    go_wp2_with fail
    refine Dx.mono ?_;rintro e w3 ⟨rfl,eM,cP⟩
    go_wp2_with fail
    refine(OE w3 eM).mono ?_;rintro e w4 ⟨u,rfl,dB,pk,mf⟩;obtain⟨ua,uc,rfl,Zy,O8⟩:=dB;have Nj:=ah (show jd w3.heap.size w4 (.slice ua rd.branches.length uc) rd.branches from⟨ua,uc,rfl,Zy,O8⟩);have SJ:=cP.trans mf;have I1:=cP.size;obtain⟨W5,gL⟩:∃W5,w4.alloc (zp #[.slice ua rd.branches.length uc,zi .i64 rd.jT] 89)=W5:=⟨_,rfl⟩;have cO:Below w4.heap.size w4 W5:=by rw[<-gL];exact aC
    have z5:W5.heap[w4.heap.size]?=za (zp #[.slice ua rd.branches.length uc,zi .i64 rd.jT] 89 (0,0)):=by rw[<-gL];exact aU _ _
    have qC:=PH rd.jT (.slice ua rd.branches.length uc) rd.branches W5 (Nj.out.below cO) lK.2 lK.1;obtain⟨q0,q1,-,-⟩:=jZ z5;obtain⟨wt,fg⟩:∃wt,gE rd.branches=wt:=⟨_,rfl⟩;rw[fg]at qC;have CM:Hid (rK c room y1 r (k+1)=if 24<wt then ⟨rs++[rp],yh,rh⟩ else ⟨rs++[rd],yh,rh⟩):=by rw[<-fg];exact HY.out
    clear O8 eM cP mf Dx OE lK HY fg
    go_wp2_with fail
    refine qC.mono ?_;rintro e w6 ⟨rfl,gM⟩;have Ai:=bi cO cO.size gM;have z6:=aY z5 gM;have Td:=az z6;obtain⟨t0,t1,f0,f1⟩:=jZ z6;have Hk6:=ah (SJ.trans (.of Ai));have Hd6:=ah (pk.below Ai);clear qC cO gM z5 q0 q1 gL pk
    by_cases h24:24<wt
    ·have HE:=ah (CM.out.trans (ae h24));clear CM t0 t1 f0 f1
     go_wp2_with fail
     refine(hpp w6).mono ?_;rintro e w7 ⟨iC,v7,rfl,ZA⟩;obtain⟨va,vc,rfl,ZB,O9⟩:=ZA;have Hv7:=ah (show jd w6.heap.size w7 (.slice va rp.branches.length vc) rp.branches from⟨va,vc,rfl,ZB,O9⟩);have z7:=aY z6 iC;obtain⟨t0,t1,f0,f1⟩:=jZ z7;have hsw:=SJ.size;have HX:=ah (HS.out.kp (((Hk6.out.trans (.of iC)).wS (b:=w4.heap.size) hsw 0 (.slice va rp.branches.length vc)).wS (b:=w4.heap.size) hsw 1 (zi .i64 rp.jT)) (((Hd6.out.below iC).set (by have:=HS.out.base;have:=HS.out.kept.size;omega) 0 (.slice va rp.branches.length vc)).set (by have:=HS.out.base;have:=HS.out.kept.size;omega) 1 (zi .i64 rp.jT)));have G0:=ah ((Same.setCell (lo:=w6.heap.size) w7 (a:=⟨w4.heap.size,0,zh⟩) Td (.slice va rp.branches.length vc)).trans (Same.setCell _ (a:=⟨w4.heap.size,1,zh⟩) Td (zi .i64 rp.jT)));have zCG:wr.heap.size<=w6.heap.size:=by have:=Ai.size;omega
     have Hz7:=ah z7;clear O9 hpp z6 iC z7 HS Ai
     go_upto_region 13 with fail
     generalize hU:(w7.setCell ⟨w4.heap.size,0,zh⟩ (.slice va rp.branches.length vc)).setCell ⟨w4.heap.size,1,zh⟩ (zi .i64 rp.jT)=U at *;have zU:U.heap[w4.heap.size]?=za (zp #[.slice va rp.branches.length vc,zi .i64 rp.jT] 89 (0,0)):=by rw[<-hU];exact dx _ _ _ _ _ _ (dx _ _ _ _ _ _ Hz7.out)
     obtain⟨b0,b1,-,-⟩:=jZ zU;clear t0 t1 f0 f1 zU Hz7 hU
     go_wp2_with (at_builtin;refine wZ rfl (.tmp 45) (.tmp 47) 57 rfl _ _ 89 rfl _ rfl w.heap.size iN _ 2 32 underlying57 rn rD rE rF rfl (by omega) (.slice ra rs.length rc) rs.length _ rfl HX.out.own rfl rfl (by intro u hu;simp at hu;rcases hu with rfl|rfl<;>rfl) (by omega) (by omega) (cM (ax _) HX.out.kept.size) ?_;intro g2 uS w9 pz kD kC;obtain⟨NA,HR⟩:=HX.out.push (rd:=rp) (lo:=w6.heap.size) (by have:=S3;omega) Hv7.out G0.out (λb e=>by have:=Bw.out b e;omega) pz kD kC;have vO:=ah HR;clear pz kD kC HR)
     go_roundw
     case rel=>
      refine⟨k+1,by omega,by go_num,za ⟨g2,0,zh⟩,uS,NA,?_,?_⟩
      ·rw[HE.out];simp
      ·rw[HE.out];simp only[a6,iG,n4];exact vO.out
     case measure=>simp[intOf];omega
    ·have HE:=ah (CM.out.trans (ab h24));have HX:=ah (HS.out.kp Hk6.out Hd6.out);have G0:=ah (Same.wT (lo:=w3.heap.size) Ai);clear CM HS z6 Ai
     go_wp2_with (at_builtin;refine wZ rfl (.tmp 45) (.tmp 47) 57 rfl _ _ 89 rfl _ rfl w.heap.size iN _ 2 32 underlying57 rn rD rE rF rfl (by omega) (.slice ra rs.length rc) rs.length _ rfl HX.out.own rfl rfl (by intro u hu;simp at hu;rcases hu with rfl|rfl<;>rfl) (by omega) (by omega) (cM (ax _) HX.out.kept.size) ?_;intro g2 uS w9 pz kD kC;obtain⟨NA,HR⟩:=HX.out.push (rd:=rd) (lo:=w3.heap.size) (by have:=S3;omega) Nj.out G0.out (λb e=>by have:=Bw.out b e;omega) pz kD kC;have vO:=ah HR;clear pz kD kC HR)
     go_roundw
     case rel=>
      refine⟨k+1,by omega,by go_num,za ⟨g2,0,zh⟩,uS,NA,?_,?_⟩
      ·rw[HE.out];simp
      ·rw[HE.out];simp only[a6,iG,n4];exact vO.out
     case measure=>simp[intOf];omega
  ·have II:k=N:=by omega
   subst II;rw[<-HF.out]at HS ⊢;go_wp2;go_ret;exact⟨_,rfl,HS.out.at,HS.out.jn,HS.out.kept⟩
variable {p a B R g:Nat}{w W:zx}{c:List UInt8}{r wd:Int}{v:Nat -> zw}{ls:Nat -> List Int}
theorem Tw{lo:Nat}(w:zx)(v:zw)(xs:List Int)(h:dW lo w v xs)(h0:0<xs.length)(hl:xs.length<=1048576):
  Calls prog 28 #[v] w λe w'=>∃g cap,e=.returned (zn (za ⟨g,0,zh⟩) xs.length cap)/\dQ w.heap.size w' (zn (za ⟨g,0,zh⟩) xs.length cap) xs/\Below w.heap.size w w':=by
 obtain⟨ao,c0,rfl,_,hc⟩:=h;obtain⟨b,o,rfl,eK,hlt,hk⟩:=hc h0;obtain⟨i0,fk,eQ,eR,dR⟩:=info_parts Try.wP;have aP:Below w.heap.size w (w.alloc (zp #[] 3)):=aC;have own:(w.alloc (zp #[] 3)).ownsRow w.heap.size 3 1 (zn (za ⟨w.heap.size,0,zh⟩) 0 0) 0 []:=Js w 3;have hcell:∀j u,(xs.map mU)[j]?=za u->(w.alloc (zp #[] 3)).cell? ((⟨b,o,zh⟩:Addr).add j)=za u:=by
  intro j u hu;rw[vE,Option.map_eq_some_iff]at hu;obtain⟨x,hx,rfl⟩:=hu;have hj:=(n5.1 hx).1;have:=aP.cell (p:=⟨b,o+j,zh⟩) hlt;rw[show (⟨b,o,zh⟩:Addr).add j=⟨b,o+j,zh⟩ by simp[Addr.add],this,hk j hj,bI,hx]
  rfl
 obtain⟨n,hn⟩:∃n,xs.length=n:=⟨_,rfl⟩;have HO:=aB own;have HC:=aB hcell;have HN:=aB hn;rw[hn]at hl h0 ⊢;clear hk hc hcell own hn
 go_enter func28,ntmps28
 go_wp2_with (at_builtin;refine wpList_append_lies _ rfl (.tmp 3) (.tmp 4) 23 rfl w.heap.size 3 i0 _ 1 8 underlying23 fk eQ eR dR rfl (by omega) (zn (za ⟨w.heap.size,0,zh⟩) 0 0) 0 [] rfl HO.out ⟨b,o,zh⟩ n c0 (xs.map mU) rfl (by rw[jK,HN.out];omega) HC.out (by intro u hu;simp at hu;obtain⟨y,_,rfl⟩:=hu;rfl) (by omega) (by unfold maxLen;omega) (by omega) (by simp) (w.heap.size+1) (by simp) ?_;intro g cap w' yV iy at' _)
 go_ret
 have aL:Below w.heap.size w w':=aP.grown iy aP.size (λk hk=>by cases hk;exact ax _);refine⟨g,cap,by simp,?_,aL⟩;rw[jB,List.nil_append]at yV;unfold dQ;rw[HN.out];exact yV
def vA(a b c d:zw):Nat->zw
 |0=>a
 |1=>b
 |2=>c
 |_=>d
def spG(c:List UInt8)(d:aE)(x:Int)(a:Nat):aE×Nat:=
 if x=0 then (⟨d.aD.set (af c 256 a).1.toNat (d.width-(af c 2 (af c 256 a).2).1),d.width,d.next,d.tag,d.fin⟩,(af c 2 (af c 256 a).2).2)
 else if x=1 then (⟨d.aD.take 255,d.width,d.next,d.tag,d.fin⟩,a)
 else if x=2 then (⟨d.aD,d.width+((af c 3 a).1-1),d.next,d.tag,d.fin⟩,(af c 3 a).2)
 else if x=3 then (⟨d.aD,d.width,d.next.set (af c d.next.length a).1.toNat ((d.tag.length:Int)-(af c 2 (af c d.next.length a).2).1),d.tag,d.fin⟩,(af c 2 (af c d.next.length a).2).2)
 else if x=4 then (⟨d.aD,d.width,d.next,d.tag.set (af c d.tag.length a).1.toNat (100-(af c 2 (af c d.tag.length a).2).1),d.fin⟩,(af c 2 (af c d.tag.length a).2).2)
 else if x=5 then (⟨d.aD,d.width,d.next,d.tag,d.fin.set (af c d.tag.length a).1.toNat (-1-(af c 2 (af c d.tag.length a).2).1)⟩,(af c 2 (af c d.tag.length a).2).2)
 else if x=6 then (⟨d.aD,d.width,d.next,d.tag,d.fin++[-1]⟩,a)
 else if x=7 then (⟨d.aD,d.width,d.next.take (d.next.length-1),d.tag,d.fin⟩,a)
 else (⟨d.aD,d.width,d.next.set (af c d.next.length a).1.toNat (-1),d.tag,d.fin⟩,(af c d.next.length a).2)
def qc(c:List UInt8)(d:aE)(a:Nat):aE×Nat:=spG c d (af c 9 a).1 (af c 9 a).2
structure Ko(p:Nat)(w:zx)(c:List UInt8)(a:Nat)(r:Int)(W:zx)(wd:Int)(v:Nat->zw)(ls:Nat->List Int)(k:Nat):Prop where
 box:W.heap[w.heap.size]?=za (zp (fH wd v) 25 (0,0))
 dv:W.heap[w.heap.size+1]?=za (zp bm 25 (0,0))
 own:∀i,i<k->dQ (w.heap.size+2) W (v i) (ls i)
 ap:∀i j,i<k->j<k->i≠j->∀b,(v i).ownBlock=za b->(v j).ownBlock≠za b
 int:∀i,k<=i->i<4->dW (p+1) w (v i) (ls i)
 kept:aJ p w W
 jn:a7 W p c a r
 base:p<w.heap.size
theorem Ko.step{W':zx}{k:Nat}(h:Ko p w c a r W wd v ls k)(hk:k<4){u:zw}(hu:dQ W.heap.size W' u (ls k))(hb:Below W.heap.size W W')(off:Nat)(ho:sK k=off):Ko p w c a r (W'.setCell ⟨w.heap.size,off,zh⟩ u) wd (upd v k u) ls (k+1):=by
 subst ho;have hR:=az h.dv;have bN:=aY h.box hb;have qx:=hb.size;have hold:∀i,i<k->upd v k u i=v i:=λi hi=>bW _ _ (by omega)
 refine⟨?_,(cS _ _ _ _ (show w.heap.size+1≠w.heap.size by omega)).trans (aY h.dv hb),λi hi=>?_,λi j hi hj hne b eB=>?_,λi cG fA=>?_,(h.kept.trans (.of hb)).wS (ax _) _ _,(h.jn.keep (w':=W') λb iQ=>hb.block b (by have:=h.jn.lt;omega)).put (by have:=h.base;omega) _ _,h.base⟩
 ·have:=dx W' w.heap.size (sK k) _ _ u bN;rw[PX _ _ _ hk]at this;exact this
 ·by_cases e:i=k
  ·subst e;rw[fN];have h1:=Cg (W':=W'.setCell ⟨w.heap.size,sK i,zh⟩ u) hu λb eB=>cS _ _ _ _ (show b≠w.heap.size by have:=(eN hu eB).1;omega)
   exact⟨h1.1,h1.2.elim .inl λ⟨g,cap,a9,hv,hg,q⟩=>.inr ⟨g,cap,a9,hv,by omega,q⟩⟩
  ·rw[hold i (by omega)];exact Cg (h.own i (by omega)) λb eB=>(cS _ _ _ _ (show b≠w.heap.size by have:=(eN (h.own i (by omega)) eB).1;omega)).trans (hb.block b (eN (h.own i (by omega)) eB).2)
 ·by_cases e:i=k<;>by_cases e2:j=k
  ·omega
  ·subst e;rw[fN]at eB;rw[hold j (by omega)];intro hc;have:=(eN hu eB).1;have:=(eN (h.own j (by omega)) hc).2;omega
  ·subst e2;rw[hold i (by omega)]at eB;rw[fN];intro hc;have:=(eN hu hc).1;have:=(eN (h.own i (by omega)) eB).2;omega
  ·rw[hold i (by omega)]at eB;rw[hold j (by omega)];exact h.ap i j (by omega) (by omega) hne b eB
 ·rw[bW _ _ (by omega)];exact h.int i (by omega) fA
theorem Ko.done(h:Ko p w c a r W wd v ls 4):fJ p w (w.heap.size+1) (w.heap.size+1) w.heap.size W wd v ls:=
 ⟨⟨h.own,h.ap⟩,h.box,h.dv,h.kept,by have:=h.base;omega⟩
theorem zwk{v:zw}{xs:List Int}(h:dQ B W v xs){g n cap:Nat}(hv:v=zn (za ⟨g,0,zh⟩) n cap):n<=cap:=by
 subst hv;rcases h.2 with ⟨h0,_⟩|⟨g',cap',a9,e,_,_,h1,_⟩
 ·cases h0
 ·cases e
  exact h1
theorem fJ.width(h:fJ p w B R g W wd v ls)(n:Int):fJ p w B R g (W.setCell ⟨g,1,zh⟩ (zi .i64 n)) n v ls:=by
 have hb:=h.base;refine⟨h.aq.sI λi hi b eB=>cS _ _ _ _ λe=>?_,dx W g 1 _ _ (zi .i64 n) h.box,(cS _ _ _ _ (show R≠g by omega)).trans h.dv,h.kept.wS (by omega) _ _,hb⟩;obtain⟨a9,hc⟩:=jx (h.aq.own i hi) eB;have e:b=g:=e;rw[e,h.box]at hc;exact absurd (er hc) (by decide)
theorem fJ.shrink(h:fJ p w B R g W wd v ls){i:Nat}(hi:i<4){b m cap n:Nat}(hv:v i=zn (za ⟨b,0,zh⟩) m cap)(hm:(ls i).length=m)(hn:n<=m)(off:Nat)(ho:sK i=off):fJ p w B R g (W.setCell ⟨g,off,zh⟩ (zn (za ⟨b,0,zh⟩) n cap)) wd (upd v i (zn (za ⟨b,0,zh⟩) n cap)) (bq ls i ((ls i).take n)):=by
 subst ho;have hb:=h.base;have hF:aS B 4 W (upd v i (zn (za ⟨b,0,zh⟩) n cap)) (bq ls i ((ls i).take n)):=h.aq.shrink hi hv hm hn;refine⟨hF.sI λj hj b' eB=>cS _ _ _ _ λe=>?_,?_,(cS _ _ _ _ (show R≠g by omega)).trans h.dv,h.kept.wS (by omega) _ _,hb⟩
 ·obtain⟨a9,hc⟩:=jx (hF.own j hj) eB;have e:b'=g:=e;rw[e,h.box]at hc;exact absurd (er hc) (by decide)
 ·have:=dx W g (sK i) _ _ (zn (za ⟨b,0,zh⟩) n cap) h.box;rw[PX _ _ _ hi]at this;exact this
theorem zl5(w:zx)(p:Nat)(c:List UInt8)(a:Nat)(r:Int)(h:a7 w p c a r)(cv nv tv ev:zw)(d:aE)(hs:dk (p+1) w cv nv tv ev d)(hf:cL d)(hn:d.next.length<=65536):
  Calls prog 16 #[zy (za ⟨p,0,zh⟩),.agg #[cv,zi .i64 d.width,nv,tv,ev]] w (xA p w c (qc c d a).1 (qc c d a).2 r):=by
 have du:prog.follows .mixedOrders=true:=by kernel_rfl
 have dz:=h.lt;have hwd:=hf.wd;have il:=hf.FY;have jG:=hf.n1;have fc:=hf.n2;have bn:=hf.cl;have tU:=hf.fl;have zAM:0<d.next.length:=by rw[il];exact Nat.mul_pos (by omega) (by omega)
 obtain⟨W0,ay⟩:∃W0,(w.alloc (zp #[cv,zi .i64 d.width,nv,tv,ev] 25)).alloc (zp bm 25)=W0:=⟨_,rfl⟩;have aG:Below w.heap.size w W0:=by rw[<-ay];exact(aC).alloc (by simp) _
 have x0:W0.heap[w.heap.size]?=za (zp #[cv,zi .i64 d.width,nv,tv,ev] 25 (0,0)):=by
  rw[<-ay];exact(Below.heap_alloc _ _ _ (by simp)).trans (aU w _)
 have z0:W0.heap[w.heap.size+1]?=za (zp bm 25 (0,0)):=by
  rw[<-ay];have:=aU (w.alloc (zp #[cv,zi .i64 d.width,nv,tv,ev] 25)) (zp bm 25)
  simpa using this
 have hI:Ko p w c a r W0 d.width (vA cv nv tv ev) (L4 d.aD d.next d.tag d.fin) 0:=by
  refine⟨x0,z0,λi hi=>absurd hi (dP _),λi j hi=>absurd hi (dP _),λi _ hi=>?_,.of aG,h.keep λk hk=>aG.block k (by omega),dz⟩
  match i,hi with
  |0,_=>exact hs.aD
  |1,_=>exact hs.next
  |2,_=>exact hs.tag
  |3,_=>exact hs.fin
 have oa:=aB hI;have oQ:Hid (0<d.aD.length/\d.aD.length<=1048576):=by constructor<;>omega
 have jQ:Hid (0<d.next.length/\d.next.length<=1048576):=by constructor<;>omega
 have jD:Hid (0<d.tag.length/\d.tag.length<=1048576):=by constructor<;>omega
 have lF:Hid (0<d.fin.length/\d.fin.length<=1048576):=by constructor<;>omega
 have HF:=aB hf;have Hn:=aB hn;obtain⟨n0,Dv⟩:∃n,d.aD.length=n:=⟨_,rfl⟩;obtain⟨n1,zxz⟩:∃n,d.next.length=n:=⟨_,rfl⟩;obtain⟨n2,zxA⟩:∃n,d.tag.length=n:=⟨_,rfl⟩;obtain⟨n3,FF⟩:∃n,d.fin.length=n:=⟨_,rfl⟩;have Nq:=aB Dv;have xT:=aB zxz;have qV:=aB zxA;have Kh:=aB FF;clear Dv zxz zxA FF;have HP:=aB λW a hW (n:Int) (hn:n<=65536)=>uq W p c a r hW n hn
 obtain⟨q0,q1,q2,q3,q4⟩:=bL x0;unfold bm at ay;clear hs hI x0 z0 aG hwd il jG fc bn tU zAM hf hn
 go_enter func16,ntmps16
 go_wp2_with fail
 refine(Tw W0 cv d.aD (dW.same (show dW (p+1) w cv d.aD from oa.out.int 0 (by omega) (by omega)) (oa.out.kept.Tp (GB _))) oQ.out.1 oQ.out.2).mono ?_;rintro e w0 ⟨g0,c0,rfl,ho,hb⟩;have z:=aY oa.out.box hb;have f:=aR _ _ 0 _ _ z;obtain⟨q0,q1,q2,q3,q4⟩:=bL (show w0.heap[w.heap.size]?=za (zp #[cv,zi .i64 d.width,nv,tv,ev] _ (0,0)) from z);have lY:=aB (oa.out.step (by omega) ho hb 0 rfl);rw[Nq.out]at lY ⊢;clear z ho hb oa
 go_wp2_with fail
 generalize hU:w0.setCell ⟨w.heap.size,0,zh⟩ (zn (za ⟨g0,0,zh⟩) n0 c0)=W1 at *;clear q0 q1 q2 q3 q4 f hU;refine(Tw W1 nv d.next (dW.same (show dW (p+1) w nv d.next from lY.out.int 1 (by omega) (by omega)) (lY.out.kept.Tp (GB _))) jQ.out.1 jQ.out.2).mono ?_;rintro e w1 ⟨g1,c1,rfl,ho,hb⟩;have z:=aY lY.out.box hb;have f:=aR _ _ 2 _ _ z;obtain⟨q0,q1,q2,q3,q4⟩:=bL (show w1.heap[w.heap.size]?=za (zp #[zn (za ⟨g0,0,zh⟩) n0 c0,zi .i64 d.width,nv,tv,ev] _ (0,0)) from z);have nz:=aB (lY.out.step (by omega) ho hb 2 rfl);rw[xT.out]at nz ⊢;clear z ho hb lY
 go_wp2_with fail
 generalize hU:w1.setCell ⟨w.heap.size,2,zh⟩ (zn (za ⟨g1,0,zh⟩) n1 c1)=W2 at *;clear q0 q1 q2 q3 q4 f hU;refine(Tw W2 tv d.tag (dW.same (show dW (p+1) w tv d.tag from nz.out.int 2 (by omega) (by omega)) (nz.out.kept.Tp (GB _))) jD.out.1 jD.out.2).mono ?_;rintro e w2 ⟨g2,c2,rfl,ho,hb⟩;have z:=aY nz.out.box hb;have f:=aR _ _ 3 _ _ z;obtain⟨q0,q1,q2,q3,q4⟩:=bL (show w2.heap[w.heap.size]?=za (zp #[zn (za ⟨g0,0,zh⟩) n0 c0,zi .i64 d.width,zn (za ⟨g1,0,zh⟩) n1 c1,tv,ev] _ (0,0)) from z);have j7:=aB (nz.out.step (by omega) ho hb 3 rfl);rw[qV.out]at j7 ⊢;clear z ho hb nz
 go_wp2_with fail
 generalize hU:w2.setCell ⟨w.heap.size,3,zh⟩ (zn (za ⟨g2,0,zh⟩) n2 c2)=W3 at *;clear q0 q1 q2 q3 q4 f hU;refine(Tw W3 ev d.fin (dW.same (show dW (p+1) w ev d.fin from j7.out.int 3 (by omega) (by omega)) (j7.out.kept.Tp (GB _))) lF.out.1 lF.out.2).mono ?_;rintro e w3 ⟨g3,c3,rfl,ho,hb⟩;have z:=aY j7.out.box hb;have f:=aR _ _ 4 _ _ z;obtain⟨q0,q1,q2,q3,q4⟩:=bL (show w3.heap[w.heap.size]?=za (zp #[zn (za ⟨g0,0,zh⟩) n0 c0,zi .i64 d.width,zn (za ⟨g1,0,zh⟩) n1 c1,zn (za ⟨g2,0,zh⟩) n2 c2,ev] _ (0,0)) from z);have eP:=aB (j7.out.step (by omega) ho hb 4 rfl);rw[Kh.out]at eP ⊢;clear z ho hb j7;have HS:=aB eP.out.done;have HC:=aB eP.out.jn;clear eP
 go_upto_region 5 with fail
 generalize hU:w3.setCell ⟨w.heap.size,4,zh⟩ (zn (za ⟨g3,0,zh⟩) n3 c3)=W at *;obtain⟨v,Hv⟩:∃v,Hid (v=upd (upd (upd (upd (vA cv nv tv ev) 0 (zn (za ⟨g0,0,zh⟩) n0 c0)) 1 (zn (za ⟨g1,0,zh⟩) n1 c1)) 2 (zn (za ⟨g2,0,zh⟩) n2 c2)) 3 (zn (za ⟨g3,0,zh⟩) n3 c3)):=⟨_,rfl⟩;rw[<-Hv.out]at HS;have CJ:Hid (v 0=zn (za ⟨g0,0,zh⟩) n0 c0):=by rw[Hv.out];exact rfl
 have rZ:Hid (v 1=zn (za ⟨g1,0,zh⟩) n1 c1):=by rw[Hv.out];exact rfl
 have qm:Hid (v 2=zn (za ⟨g2,0,zh⟩) n2 c2):=by rw[Hv.out];exact rfl
 have xP:Hid (v 3=zn (za ⟨g3,0,zh⟩) n3 c3):=by rw[Hv.out];exact rfl
 clear q0 q1 q2 q3 q4 f hU Hv;have zCA:=eN (HS.out.aq.own 0 (by omega)) (b:=g0) (by rw[CJ.out];rfl);have zCB:=eN (HS.out.aq.own 1 (by omega)) (b:=g1) (by rw[rZ.out];rfl);have zCC:=eN (HS.out.aq.own 2 (by omega)) (b:=g2) (by rw[qm.out];rfl);have zCD:=eN (HS.out.aq.own 3 (by omega)) (b:=g3) (by rw[xP.out];rfl);have b3:W.cell? ⟨w.heap.size,3,zh⟩=za (zn (za ⟨g2,0,zh⟩) n2 c2):=by rw[<-qm.out];exact(cE HS.out.box).2.2.2.1
 have OK:=ku HC.out.le 9;have Y0:=HP.out W a HC.out 9 (by omega);have HG:Hid (qc c d a=spG c d (af c 9 a).1 (af c 9 a).2):=rfl;obtain⟨x,y,hx⟩:∃x y,af c 9 a=(x,y):=⟨_,_,rfl⟩;rw[hx]at OK Y0 HG;have hxc:x=0\/x=1\/x=2\/x=3\/x=4\/x=5\/x=6\/x=7\/x=8:=by have h1:=OK.2.1;have h2:=OK.2.2;simp only at h1 h2;omega
 have Hy:=aB OK.1;clear OK hx
 go_upto_region 6 with fail
 go_cut [30] from 29 to 29 (λv30 wx=>v30=zi .i64 x/\fJ p w (w.heap.size+1) (w.heap.size+1) w.heap.size wx d.width v (L4 d.aD d.next d.tag d.fin)/\a7 wx p c y r)
 case first=>
  go_wp2_with fail
  refine Y0.mono ?_;rintro e w9 ⟨rfl,Sw,fB⟩;have eL:=aB (HS.out.kp fB);go_wp2
  go_meet
  exact⟨rfl,eL.out,Sw⟩
 obtain⟨rfl,hS9,Sw⟩:=hcut;have eL:=aB hS9;have mE:=aB Sw;clear HS HC Y0 b3 Sw hS9
 rename_i K hK
 refine hK _ _ ?_;clear hK K;obtain⟨wr,BZ⟩:∃wr,wr=wc:=⟨_,rfl⟩;subst BZ
 go_cut [6,7,8,9] from 30 to 124 (λ_ _ _ _ wx=>∃wd' v' dp a',fJ p w (w.heap.size+1) (w.heap.size+1) w.heap.size wx wd' v' dp/\a7 wx p c a' r/\qc c d a=(⟨dp 0,wd',dp 1,dp 2,dp 3⟩,a')/\∀i,i<4->(dp i).length<=1048576)
 case first=>
  have yP:=HF.out.w1;have qD:=HF.out.w2;have zCS:1<=n2:=by have h1:=HF.out.n1;have h2:=qV.out;omega
  have zCT:n2<=4000:=by have h1:=HF.out.n2;have h2:=qV.out;omega
  have zxy:n0=256:=by have h1:=HF.out.cl;have h2:=Nq.out;omega
  have zxB:n3=n2:=by have h1:=HF.out.fl;have h2:=qV.out;have h3:=Kh.out;omega
  have zCQ:1<=n1:=by have h1:=jQ.out.1;have h2:=xT.out;omega
  have zCR:n1<=65536:=by have h1:=Hn.out;have h2:=xT.out;omega
  have jg:=aB zxy;have ny:=aB zxB;clear zxy zxB;rcases hxc with rfl|rfl|rfl|rfl|rfl|rfl|rfl|rfl|rfl
  ·have eO:=aB (show qc c d a=(⟨d.aD.set (af c 256 y).1.toNat (d.width-(af c 2 (af c 256 y).2).1),d.width,d.next,d.tag,d.fin⟩,(af c 2 (af c 256 y).2).2) from HG.out);have mO:=ku Hy.out 256;have qB:=HP.out wr y mE.out 256 (by omega);have fV:=ku mO.1 2;obtain⟨m,ym,hm⟩:∃m ym,af c 256 y=(m,ym):=⟨_,_,rfl⟩;simp only[hm]at mO qB fV eO;obtain⟨m,rfl⟩:∃n:Nat,m=(n:Int):=⟨m.toNat,by have:=mO.2.1;omega⟩;rw[uA]at eO;obtain⟨z,yz,hz⟩:∃z yz,af c 2 ym=(z,yz):=⟨_,_,rfl⟩;simp only[hz]at fV eO;have i0:(0:Int)<=(m:Int):=by omega
   have k8:m<n0:=by have h1:=mO.2.2;have h2:=jg.out;omega
   have i1:(m:Int)<(n0:Int):=by omega
   have z0:0<=z:=fV.2.1;have z1:z<2:=by have:=fV.2.2;omega
   go_upto_region 9 with (go_at_call 27;refine qB.mono ?_;rintro e wa ⟨rfl,Ap,Ay⟩)
   have lZ:=aB (eL.out.kp Ay);have fo:=aB (HP.out wa.drew ym (Ap.keep λ_ _=>rfl) 2 (by omega));rw[hz]at fo;have x0:∀s:fD p wa,s.W.cell? ⟨w.heap.size,0,zh⟩=za (zn (za ⟨g0,0,zh⟩) n0 c0):=λs=>by rw[<-CJ.out];exact(cE (lZ.out.kp s.h).box).1
   have x1:∀s:fD p wa,s.W.cell? ⟨w.heap.size,1,zh⟩=za (zi .i64 d.width):=λs=>(cE (lZ.out.kp s.h).box).2.1
   clear qB mO fV hm hz Ap Ay eL mE
   go_upto_region 9 with fail
   refine ul [0,1,2,3,4,5] [6,7,8,9] 8 (λw'=>∃s:fD p wa,w'=s.W) (λw'=>w'=World.drew wa) du ⟨⟨World.drew wa,(aJ.refl _ _).drew⟩,rfl⟩ rfl (by kernel_rfl) ?_;intro os aX;simp only[jL,jM,jO,jN]at aX;subst aX
   change wpQuiet _ _ _ _ [_,_,_,_,_,_] _
   repeat (go_big_quiet_step (fail))
   refine wpQuiet_nil ?_;rintro w' rfl r' di;simp only[jL,jM,jO,jN,qS]at di;subst di;clear x0 x1;refine lV rfl (λK5 bh=>?_);refine xo 27 #[.tmp 40,.const (zi .i64 2)] #[32,3] (by rfl) #[zy (za ⟨p,0,zh⟩),zi .i64 2] (by simp[Act.eval]) (λv w'=>v=zi .i64 z/\a7 w' p c yz r/\aJ p (World.drew wa) w') (yY _ _) (fo.out.mono (by
    rintro e w1 ⟨rfl,h1⟩;exact⟨_,rfl,rfl,h1⟩)) ?_
   rintro v8 W8 ⟨rfl,mN,k6⟩;have fB:aJ p wa W8:=(aJ.refl _ _).drew.trans k6;refine bh _ _ (λ_=>⟨⟨_,fB⟩,rfl⟩) ?_;clear bh K5 fo;have dg:=aB (lZ.out.kp fB);obtain⟨gQ,kY⟩:=dg.out.at (i:=0) (by omega) CJ.out;rw[show L4 d.aD d.next d.tag d.fin 0=d.aD from rfl,Nq.out]at gQ;have u8:=gQ m k8;have f8:=kY m;have tE:=aB ((dg.out.put (i:=0) (by omega) CJ.out Nq.out m (d.width-z)).to (a:=(d.aD.set m (d.width-z))) (b:=d.next) (c:=d.tag) (d:=d.fin) rfl rfl rfl rfl);have tA:=aB (mN.put (b:=g0) (by omega) m (zi .i64 (d.width-z)));clear gQ kY lZ dg;simp only[Act.put,zv,zz,zt];refine lV rfl (λK5 bh=>?_)
   first|go_big_move|go_big_op
   refine bh _ _ (λ_=>⟨⟨_,fB⟩,rfl⟩) ?_;clear bh K5;refine um (by simp) (λ_ _ h=>h) ?_
   change wpList _ _ _ [_,_] _ _
   go_wp2;rw[oJ];go_wp2
   go_meet
   refine⟨d.width,v,_,_,tE.out,tA.out,eO.out.trans rfl,?_⟩;intro i hi
   match i,hi with
   |0,_=>show (d.aD.set m (d.width-z)).length<=_;have:=oQ.out.2;rw[qP];omega
   |1,_=>show (d.next).length<=_;have:=jQ.out.2;omega
   |2,_=>show (d.tag).length<=_;have:=jD.out.2;omega
   |3,_=>show (d.fin).length<=_;have:=lF.out.2;omega
  ·have eO:=aB (show qc c d a=(⟨d.aD.take 255,d.width,d.next,d.tag,d.fin⟩,y) from HG.out);have b0:wr.cell? ⟨w.heap.size,0,zh⟩=za (zn (za ⟨g0,0,zh⟩) n0 c0):=by rw[<-CJ.out];exact(cE eL.out.box).1
   have f0:=aR _ _ 0 _ _ eL.out.box;have tE:=aB ((eL.out.shrink (i:=0) (by omega) (n:=255) CJ.out Nq.out (by have:=jg.out;omega) 0 rfl).to (a:=d.aD.take 255) (b:=d.next) (c:=d.tag) (d:=d.fin) rfl rfl rfl rfl);have tA:=aB (mE.out.put (b:=w.heap.size) (by omega) 0 (zn (za ⟨g0,0,zh⟩) 255 c0));have kf:=zwk (eL.out.aq.own 0 (by omega)) CJ.out;have zCa:(255:Int)<=(c0:Int):=by have:=jg.out;omega
   clear eL mE kf;go_wp2
   go_meet
   refine⟨d.width,_,_,_,tE.out,tA.out,eO.out.trans rfl,?_⟩;intro i hi
   match i,hi with
   |0,_=>show (d.aD.take 255).length<=_;have:=oQ.out.2;rw[nr];omega
   |1,_=>show (d.next).length<=_;have:=jQ.out.2;omega
   |2,_=>show (d.tag).length<=_;have:=jD.out.2;omega
   |3,_=>show (d.fin).length<=_;have:=lF.out.2;omega
  ·have eO:=aB (show qc c d a=(⟨d.aD,d.width+((af c 3 y).1-1),d.next,d.tag,d.fin⟩,(af c 3 y).2) from HG.out);have fV:=ku Hy.out 3;have fo:=aB (HP.out wr.drew y (mE.out.keep λ_ _=>rfl) 3 (by omega));obtain⟨z,yz,hz⟩:∃z yz,af c 3 y=(z,yz):=⟨_,_,rfl⟩;simp only[hz]at fV fo eO;have z0:0<=z:=fV.2.1;have z1:z<3:=by have:=fV.2.2;omega
   have x1:∀s:fD p wr,s.W.cell? ⟨w.heap.size,1,zh⟩=za (zi .i64 d.width):=λs=>(cE (eL.out.kp s.h).box).2.1
   clear fV hz
   go_upto_region 13 with fail
   refine ul [0,1,2] [3,4,5,6,7] 5 (λw'=>∃s:fD p wr,w'=s.W) (λw'=>w'=World.drew wr) du ⟨⟨World.drew wr,(aJ.refl _ _).drew⟩,rfl⟩ rfl (by kernel_rfl) ?_;intro os aX;simp only[jL,jM,jO,jN]at aX;subst aX
   change wpQuiet _ _ _ _ [_,_,_] _
   repeat (go_big_quiet_step (fail))
   refine wpQuiet_nil ?_;rintro w' rfl r' di;simp only[jL,jM,jO,jN,qS]at di;subst di;clear x1;refine lV rfl (λK5 bh=>?_);refine xo 27 #[.tmp 54,.const (zi .i64 3)] #[32,3] (by rfl) #[zy (za ⟨p,0,zh⟩),zi .i64 3] (by simp[Act.eval]) (λv w'=>v=zi .i64 z/\a7 w' p c yz r/\aJ p (World.drew wr) w') (yY _ _) (fo.out.mono (by
    rintro e w1 ⟨rfl,h1⟩;exact⟨_,rfl,rfl,h1⟩)) ?_
   rintro v8 W8 ⟨rfl,mN,k6⟩;have fB:aJ p wr W8:=(aJ.refl _ _).drew.trans k6;refine bh _ _ (λ_=>⟨⟨_,fB⟩,rfl⟩) ?_;clear bh K5 fo;have dg:=aB (eL.out.kp fB);have u8:=(cE dg.out.box).2.1;have f8:=aR _ _ 1 _ _ dg.out.box;have tE:=aB (dg.out.width (d.width+(z-1)));have tA:=aB (mN.put (b:=w.heap.size) (by omega) 1 (zi .i64 (d.width+(z-1))));clear dg eL mE;simp only[Act.put,zv,zz,zt];refine lV rfl (λK5 bh=>?_)
   first|go_big_move|go_big_op
   refine bh _ _ (λ_=>⟨⟨_,fB⟩,rfl⟩) ?_;clear bh K5;refine um (by simp) (λ_ _ h=>h) ?_
   change wpList _ _ _ [_,_,_] _ _
   go_wp2;rw[oJ];go_wp2
   go_meet
   refine⟨_,v,_,_,tE.out,tA.out,eO.out.trans rfl,?_⟩;intro i hi
   match i,hi with
   |0,_=>show (d.aD).length<=_;have:=oQ.out.2;omega
   |1,_=>show (d.next).length<=_;have:=jQ.out.2;omega
   |2,_=>show (d.tag).length<=_;have:=jD.out.2;omega
   |3,_=>show (d.fin).length<=_;have:=lF.out.2;omega
  ·have eO:=aB (show qc c d a=(⟨d.aD,d.width,d.next.set (af c d.next.length y).1.toNat ((d.tag.length:Int)-(af c 2 (af c d.next.length y).2).1),d.tag,d.fin⟩,(af c 2 (af c d.next.length y).2).2) from HG.out);have mO:=ku Hy.out d.next.length;have qB:=HP.out wr y mE.out d.next.length (by have:=Hn.out;omega);have fV:=ku mO.1 2;obtain⟨m,ym,hm⟩:∃m ym,af c d.next.length y=(m,ym):=⟨_,_,rfl⟩;simp only[hm]at mO qB fV eO;obtain⟨m,rfl⟩:∃n:Nat,m=(n:Int):=⟨m.toNat,by have:=mO.2.1;omega⟩;rw[uA]at eO;obtain⟨z,yz,hz⟩:∃z yz,af c 2 ym=(z,yz):=⟨_,_,rfl⟩;simp only[hz]at fV eO;have i0:(0:Int)<=(m:Int):=by omega
   have k8:m<n1:=by have h1:=mO.2.2;have h2:=xT.out;omega
   have i1:(m:Int)<(n1:Int):=by omega
   have z0:0<=z:=fV.2.1;have z1:z<2:=by have:=fV.2.2;omega
   have b2:wr.cell? ⟨w.heap.size,2,zh⟩=za (zn (za ⟨g1,0,zh⟩) n1 c1):=by rw[<-rZ.out];exact(cE eL.out.box).2.2.1
   rw[xT.out]at qB;replace eO:Hid (qc c d a=(⟨d.aD,d.width,d.next.set m ((n2:Int)-z),d.tag,d.fin⟩,yz)):=by rw[<-qV.out];exact eO.out
   go_upto_region 16 with (go_at_call 27;refine qB.mono ?_;rintro e wa ⟨rfl,Ap,Ay⟩)
   have lZ:=aB (eL.out.kp Ay);have fo:=aB (HP.out wa.drew ym (Ap.keep λ_ _=>rfl) 2 (by omega));rw[hz]at fo;have x0:∀s:fD p wa,s.W.cell? ⟨w.heap.size,2,zh⟩=za (zn (za ⟨g1,0,zh⟩) n1 c1):=λs=>by rw[<-rZ.out];exact(cE (lZ.out.kp s.h).box).2.2.1
   have x1:∀s:fD p wa,s.W.cell? ⟨w.heap.size,1,zh⟩=za (zi .i64 d.width):=λs=>(cE (lZ.out.kp s.h).box).2.1
   clear qB mO fV hm hz Ap Ay eL mE
   go_upto_region 16 with fail
   refine ul [0,1,2,3,4] [5,6,7,8] 7 (λw'=>∃s:fD p wa,w'=s.W) (λw'=>w'=World.drew wa) du ⟨⟨World.drew wa,(aJ.refl _ _).drew⟩,rfl⟩ rfl (by kernel_rfl) ?_;intro os aX;simp only[jL,jM,jO,jN]at aX;subst aX
   change wpQuiet _ _ _ _ [_,_,_,_,_] _
   repeat (go_big_quiet_step (fail))
   refine wpQuiet_nil ?_;rintro w' rfl r' di;simp only[jL,jM,jO,jN,qS]at di;subst di;clear x0 x1;refine lV rfl (λK5 bh=>?_);refine xo 27 #[.tmp 70,.const (zi .i64 2)] #[32,3] (by rfl) #[zy (za ⟨p,0,zh⟩),zi .i64 2] (by simp[Act.eval]) (λv w'=>v=zi .i64 z/\a7 w' p c yz r/\aJ p (World.drew wa) w') (yY _ _) (fo.out.mono (by
    rintro e w1 ⟨rfl,h1⟩;exact⟨_,rfl,rfl,h1⟩)) ?_
   rintro v8 W8 ⟨rfl,mN,k6⟩;have fB:aJ p wa W8:=(aJ.refl _ _).drew.trans k6;refine bh _ _ (λ_=>⟨⟨_,fB⟩,rfl⟩) ?_;clear bh K5 fo;have dg:=aB (lZ.out.kp fB);obtain⟨gQ,kY⟩:=dg.out.at (i:=1) (by omega) rZ.out;rw[show L4 d.aD d.next d.tag d.fin 1=d.next from rfl,xT.out]at gQ;have u8:=gQ m k8;have f8:=kY m;have tE:=aB ((dg.out.put (i:=1) (by omega) rZ.out xT.out m ((n2:Int)-z)).to (a:=d.aD) (b:=(d.next.set m ((n2:Int)-z))) (c:=d.tag) (d:=d.fin) rfl rfl rfl rfl);have tA:=aB (mN.put (b:=g1) (by omega) m (zi .i64 ((n2:Int)-z)));clear gQ kY lZ dg;simp only[Act.put,zv,zz,zt];refine lV rfl (λK5 bh=>?_)
   first|go_big_move|go_big_op
   refine bh _ _ (λ_=>⟨⟨_,fB⟩,rfl⟩) ?_;clear bh K5;refine um (by simp) (λ_ _ h=>h) ?_
   change wpList _ _ _ [_,_] _ _
   go_wp2;rw[oJ];go_wp2
   go_meet
   refine⟨d.width,v,_,_,tE.out,tA.out,eO.out.trans rfl,?_⟩;intro i hi
   match i,hi with
   |0,_=>show (d.aD).length<=_;have:=oQ.out.2;omega
   |1,_=>show (d.next.set m ((n2:Int)-z)).length<=_;have:=jQ.out.2;rw[qP];omega
   |2,_=>show (d.tag).length<=_;have:=jD.out.2;omega
   |3,_=>show (d.fin).length<=_;have:=lF.out.2;omega
  ·have eO:=aB (show qc c d a=(⟨d.aD,d.width,d.next,d.tag.set (af c d.tag.length y).1.toNat (100-(af c 2 (af c d.tag.length y).2).1),d.fin⟩,(af c 2 (af c d.tag.length y).2).2) from HG.out);have mO:=ku Hy.out d.tag.length;have qB:=HP.out wr y mE.out d.tag.length (by have:=qV.out;omega);have fV:=ku mO.1 2;obtain⟨m,ym,hm⟩:∃m ym,af c d.tag.length y=(m,ym):=⟨_,_,rfl⟩;simp only[hm]at mO qB fV eO;obtain⟨m,rfl⟩:∃n:Nat,m=(n:Int):=⟨m.toNat,by have:=mO.2.1;omega⟩;rw[uA]at eO;obtain⟨z,yz,hz⟩:∃z yz,af c 2 ym=(z,yz):=⟨_,_,rfl⟩;simp only[hz]at fV eO;have i0:(0:Int)<=(m:Int):=by omega
   have k8:m<n2:=by have h1:=mO.2.2;have h2:=qV.out;have h3:=ny.out;omega
   have i1:(m:Int)<(n2:Int):=by omega
   have z0:0<=z:=fV.2.1;have z1:z<2:=by have:=fV.2.2;omega
   rw[qV.out]at qB
   go_upto_region 19 with (go_at_call 27;refine qB.mono ?_;rintro e wa ⟨rfl,Ap,Ay⟩)
   have lZ:=aB (eL.out.kp Ay);have fo:=aB (HP.out wa.drew ym (Ap.keep λ_ _=>rfl) 2 (by omega));rw[hz]at fo;have x0:∀s:fD p wa,s.W.cell? ⟨w.heap.size,3,zh⟩=za (zn (za ⟨g2,0,zh⟩) n2 c2):=λs=>by rw[<-qm.out];exact(cE (lZ.out.kp s.h).box).2.2.2.1
   have x1:∀s:fD p wa,s.W.cell? ⟨w.heap.size,1,zh⟩=za (zi .i64 d.width):=λs=>(cE (lZ.out.kp s.h).box).2.1
   clear qB mO fV hm hz Ap Ay eL mE
   go_upto_region 19 with fail
   refine ul [0,1,2,3] [4,5,6,7] 6 (λw'=>∃s:fD p wa,w'=s.W) (λw'=>w'=World.drew wa) du ⟨⟨World.drew wa,(aJ.refl _ _).drew⟩,rfl⟩ rfl (by kernel_rfl) ?_;intro os aX;simp only[jL,jM,jO,jN]at aX;subst aX
   change wpQuiet _ _ _ _ [_,_,_,_] _
   repeat (go_big_quiet_step (fail))
   refine wpQuiet_nil ?_;rintro w' rfl r' di;simp only[jL,jM,jO,jN,qS]at di;subst di;clear x0 x1;refine lV rfl (λK5 bh=>?_);refine xo 27 #[.tmp 82,.const (zi .i64 2)] #[32,3] (by rfl) #[zy (za ⟨p,0,zh⟩),zi .i64 2] (by simp[Act.eval]) (λv w'=>v=zi .i64 z/\a7 w' p c yz r/\aJ p (World.drew wa) w') (yY _ _) (fo.out.mono (by
    rintro e w1 ⟨rfl,h1⟩;exact⟨_,rfl,rfl,h1⟩)) ?_
   rintro v8 W8 ⟨rfl,mN,k6⟩;have fB:aJ p wa W8:=(aJ.refl _ _).drew.trans k6;refine bh _ _ (λ_=>⟨⟨_,fB⟩,rfl⟩) ?_;clear bh K5 fo;have dg:=aB (lZ.out.kp fB);obtain⟨gQ,kY⟩:=dg.out.at (i:=2) (by omega) qm.out;rw[show L4 d.aD d.next d.tag d.fin 2=d.tag from rfl,qV.out]at gQ;have u8:=gQ m k8;have f8:=kY m;have tE:=aB ((dg.out.put (i:=2) (by omega) qm.out qV.out m (100-z)).to (a:=d.aD) (b:=d.next) (c:=(d.tag.set m (100-z))) (d:=d.fin) rfl rfl rfl rfl);have tA:=aB (mN.put (b:=g2) (by omega) m (zi .i64 (100-z)));clear gQ kY lZ dg;simp only[Act.put,zv,zz,zt];refine lV rfl (λK5 bh=>?_)
   first|go_big_move|go_big_op
   refine bh _ _ (λ_=>⟨⟨_,fB⟩,rfl⟩) ?_;clear bh K5;refine um (by simp) (λ_ _ h=>h) ?_
   change wpList _ _ _ [_,_] _ _
   go_wp2;rw[oJ];go_wp2
   go_meet
   refine⟨d.width,v,_,_,tE.out,tA.out,eO.out.trans rfl,?_⟩;intro i hi
   match i,hi with
   |0,_=>show (d.aD).length<=_;have:=oQ.out.2;omega
   |1,_=>show (d.next).length<=_;have:=jQ.out.2;omega
   |2,_=>show (d.tag.set m (100-z)).length<=_;have:=jD.out.2;rw[qP];omega
   |3,_=>show (d.fin).length<=_;have:=lF.out.2;omega
  ·have eO:=aB (show qc c d a=(⟨d.aD,d.width,d.next,d.tag,d.fin.set (af c d.tag.length y).1.toNat (-1-(af c 2 (af c d.tag.length y).2).1)⟩,(af c 2 (af c d.tag.length y).2).2) from HG.out);have mO:=ku Hy.out d.tag.length;have qB:=HP.out wr y mE.out d.tag.length (by have:=qV.out;omega);have fV:=ku mO.1 2;obtain⟨m,ym,hm⟩:∃m ym,af c d.tag.length y=(m,ym):=⟨_,_,rfl⟩;simp only[hm]at mO qB fV eO;obtain⟨m,rfl⟩:∃n:Nat,m=(n:Int):=⟨m.toNat,by have:=mO.2.1;omega⟩;rw[uA]at eO;obtain⟨z,yz,hz⟩:∃z yz,af c 2 ym=(z,yz):=⟨_,_,rfl⟩;simp only[hz]at fV eO;have i0:(0:Int)<=(m:Int):=by omega
   have k8:m<n3:=by have h1:=mO.2.2;have h2:=qV.out;have h3:=ny.out;omega
   have i1:(m:Int)<(n3:Int):=by omega
   have z0:0<=z:=fV.2.1;have z1:z<2:=by have:=fV.2.2;omega
   rw[qV.out]at qB
   go_upto_region 22 with (go_at_call 27;refine qB.mono ?_;rintro e wa ⟨rfl,Ap,Ay⟩)
   have lZ:=aB (eL.out.kp Ay);have fo:=aB (HP.out wa.drew ym (Ap.keep λ_ _=>rfl) 2 (by omega));rw[hz]at fo;have x0:∀s:fD p wa,s.W.cell? ⟨w.heap.size,4,zh⟩=za (zn (za ⟨g3,0,zh⟩) n3 c3):=λs=>by rw[<-xP.out];exact(cE (lZ.out.kp s.h).box).2.2.2.2
   have x1:∀s:fD p wa,s.W.cell? ⟨w.heap.size,1,zh⟩=za (zi .i64 d.width):=λs=>(cE (lZ.out.kp s.h).box).2.1
   clear qB mO fV hm hz Ap Ay eL mE
   go_upto_region 22 with fail
   refine ul [0,1,2,3] [4,5,6,7] 6 (λw'=>∃s:fD p wa,w'=s.W) (λw'=>w'=World.drew wa) du ⟨⟨World.drew wa,(aJ.refl _ _).drew⟩,rfl⟩ rfl (by kernel_rfl) ?_;intro os aX;simp only[jL,jM,jO,jN]at aX;subst aX
   change wpQuiet _ _ _ _ [_,_,_,_] _
   repeat (go_big_quiet_step (fail))
   refine wpQuiet_nil ?_;rintro w' rfl r' di;simp only[jL,jM,jO,jN,qS]at di;subst di;clear x0 x1;refine lV rfl (λK5 bh=>?_);refine xo 27 #[.tmp 94,.const (zi .i64 2)] #[32,3] (by rfl) #[zy (za ⟨p,0,zh⟩),zi .i64 2] (by simp[Act.eval]) (λv w'=>v=zi .i64 z/\a7 w' p c yz r/\aJ p (World.drew wa) w') (yY _ _) (fo.out.mono (by
    rintro e w1 ⟨rfl,h1⟩;exact⟨_,rfl,rfl,h1⟩)) ?_
   rintro v8 W8 ⟨rfl,mN,k6⟩;have fB:aJ p wa W8:=(aJ.refl _ _).drew.trans k6;refine bh _ _ (λ_=>⟨⟨_,fB⟩,rfl⟩) ?_;clear bh K5 fo;have dg:=aB (lZ.out.kp fB);obtain⟨gQ,kY⟩:=dg.out.at (i:=3) (by omega) xP.out;rw[show L4 d.aD d.next d.tag d.fin 3=d.fin from rfl,Kh.out]at gQ;have u8:=gQ m k8;have f8:=kY m;have tE:=aB ((dg.out.put (i:=3) (by omega) xP.out Kh.out m (-1-z)).to (a:=d.aD) (b:=d.next) (c:=d.tag) (d:=(d.fin.set m (-1-z))) rfl rfl rfl rfl);have tA:=aB (mN.put (b:=g3) (by omega) m (zi .i64 (-1-z)));clear gQ kY lZ dg;simp only[Act.put,zv,zz,zt];refine lV rfl (λK5 bh=>?_)
   first|go_big_move|go_big_op
   refine bh _ _ (λ_=>⟨⟨_,fB⟩,rfl⟩) ?_;clear bh K5;refine um (by simp) (λ_ _ h=>h) ?_
   change wpList _ _ _ [_,_] _ _
   go_wp2;rw[oJ];go_wp2
   go_meet
   refine⟨d.width,v,_,_,tE.out,tA.out,eO.out.trans rfl,?_⟩;intro i hi
   match i,hi with
   |0,_=>show (d.aD).length<=_;have:=oQ.out.2;omega
   |1,_=>show (d.next).length<=_;have:=jQ.out.2;omega
   |2,_=>show (d.tag).length<=_;have:=jD.out.2;omega
   |3,_=>show (d.fin.set m (-1-z)).length<=_;have:=lF.out.2;rw[qP];omega
  ·have eO:=aB (show qc c d a=(⟨d.aD,d.width,d.next,d.tag,d.fin++[-1]⟩,y) from HG.out);have b4:wr.cell? ⟨w.heap.size,4,zh⟩=za (zn (za ⟨g3,0,zh⟩) n3 c3):=by rw[<-xP.out];exact(cE eL.out.box).2.2.2.2
   have hsz:=az eL.out.dv;have zCU:n3<=4000:=by have:=ny.out;omega
   go_wp2_with (at_builtin;refine jw eL.out.aq _ rfl rfl (.tmp 101) (.tmp 102) rfl 3 (by omega) d.fin rfl n3 Kh.out (by exact xP.out.symm) _ rfl (by omega) hsz ?_;intro g2 d2 V2 hF2 dH;obtain⟨eG,J2⟩:=eL.out.field (i:=3) (by omega) 4 rfl hF2 dH;have vP:=aB (eL.out.yn mE.out (i:=3) (by omega) dH 4 (zn (za ⟨g2,0,zh⟩) (n3+1) d2));have yW:=(cE eG).2.2.2.2;rw[xP.out]at yW;have q9:=aR _ _ 4 _ _ eG;have oP:=aB J2;clear hF2 dH eG J2)
   go_meet
   refine⟨d.width,_,_,_,oP.out.to (a:=d.aD) (b:=d.next) (c:=d.tag) (d:=d.fin++[-1]) rfl rfl rfl rfl,vP.out,eO.out.trans rfl,?_⟩;intro i hi
   match i,hi with
   |0,_=>show (d.aD).length<=_;have:=oQ.out.2;omega
   |1,_=>show (d.next).length<=_;have:=jQ.out.2;omega
   |2,_=>show (d.tag).length<=_;have:=jD.out.2;omega
   |3,_=>show (d.fin++[-1]).length<=_;have:=Kh.out;rw[a6];show _+1<=_;omega
  ·have eO:=aB (show qc c d a=(⟨d.aD,d.width,d.next.take (d.next.length-1),d.tag,d.fin⟩,y) from HG.out);have b2:wr.cell? ⟨w.heap.size,2,zh⟩=za (zn (za ⟨g1,0,zh⟩) n1 c1):=by rw[<-rZ.out];exact(cE eL.out.box).2.2.1
   have f2:=aR _ _ 2 _ _ eL.out.box;obtain⟨k,hk⟩:∃k,n1=k+1:=⟨n1-1,by omega⟩;have HK:=aB hk;have tE:=aB ((eL.out.shrink (i:=1) (by omega) (n:=k) rZ.out xT.out (by omega) 2 rfl).to (a:=d.aD) (b:=d.next.take k) (c:=d.tag) (d:=d.fin) rfl rfl rfl rfl);have tA:=aB (mE.out.put (b:=w.heap.size) (by omega) 2 (zn (za ⟨g1,0,zh⟩) k c1));have kf:=zwk (eL.out.aq.own 1 (by omega)) rZ.out;have e1:(n1:Int)-1=(k:Int):=by omega
   have i0:(0:Int)<=(k:Int):=by omega
   have Yn:(k:Int)<=(c1:Int):=by omega
   replace eO:Hid (qc c d a=(⟨d.aD,d.width,d.next.take k,d.tag,d.fin⟩,y)):=by have:=eO.out;rw[xT.out,hk,Ek]at this;exact this
   clear eL mE kf hk;go_wp2
   go_meet
   refine⟨d.width,_,_,_,tE.out,tA.out,eO.out.trans rfl,?_⟩;intro i hi
   match i,hi with
   |0,_=>show (d.aD).length<=_;have:=oQ.out.2;omega
   |1,_=>show (d.next.take k).length<=_;have:=jQ.out.2;rw[nr];omega
   |2,_=>show (d.tag).length<=_;have:=jD.out.2;omega
   |3,_=>show (d.fin).length<=_;have:=lF.out.2;omega
  ·have eO:=aB (show qc c d a=(⟨d.aD,d.width,d.next.set (af c d.next.length y).1.toNat (-1),d.tag,d.fin⟩,(af c d.next.length y).2) from HG.out);have fV:=ku Hy.out d.next.length;rw[xT.out]at fV eO;have fo:=aB (HP.out wr.drew y (mE.out.keep λ_ _=>rfl) n1 (by omega));obtain⟨m,yz,hz⟩:∃z yz,af c n1 y=(z,yz):=⟨_,_,rfl⟩;simp only[hz]at fV fo eO;obtain⟨m,rfl⟩:∃n:Nat,m=(n:Int):=⟨m.toNat,by have:=fV.2.1;omega⟩;rw[uA]at eO;have i0:(0:Int)<=(m:Int):=by omega
   have k8:m<n1:=by have:=fV.2.2;omega
   have i1:(m:Int)<(n1:Int):=by omega
   have x0:∀s:fD p wr,s.W.cell? ⟨w.heap.size,2,zh⟩=za (zn (za ⟨g1,0,zh⟩) n1 c1):=λs=>by rw[<-rZ.out];exact(cE (eL.out.kp s.h).box).2.2.1
   clear fV hz
   go_upto_region 28 with fail
   refine ul [0,1,2,3,4] [5,6,7,8] 7 (λw'=>∃s:fD p wr,w'=s.W) (λw'=>w'=World.drew wr) du ⟨⟨World.drew wr,(aJ.refl _ _).drew⟩,rfl⟩ rfl (by kernel_rfl) ?_;intro os aX;simp only[jL,jM,jO,jN]at aX;subst aX
   change wpQuiet _ _ _ _ [_,_,_,_,_] _
   repeat (go_big_quiet_step (fail))
   refine wpQuiet_nil ?_;rintro w' rfl r' di;simp only[jL,jM,jO,jN,qS]at di;subst di;clear x0;refine lV rfl (λK5 bh=>?_)
   first|go_big_move|go_big_op
   refine bh _ _ (λ_=>⟨⟨World.drew wr,(aJ.refl _ _).drew⟩,rfl⟩) ?_;clear bh K5;refine lV rfl (λK5 bh=>?_);refine xo 27 #[.tmp 119,.tmp 122] #[32,3] (by rfl) #[zy (za ⟨p,0,zh⟩),zi .i64 (n1:Int)] (by simp[Act.eval]) (λv w'=>v=zi .i64 (m:Int)/\a7 w' p c yz r/\aJ p (World.drew wr) w') (yY _ _) (fo.out.mono (by
    rintro e w1 ⟨rfl,h1⟩;exact⟨_,rfl,rfl,h1⟩)) ?_
   rintro v8 W8 ⟨rfl,mN,k6⟩;have fB:aJ p wr W8:=(aJ.refl _ _).drew.trans k6;refine bh _ _ (λ_=>⟨⟨_,fB⟩,rfl⟩) ?_;clear bh K5 fo;have dg:=aB (eL.out.kp fB);obtain⟨gQ,kY⟩:=dg.out.at (i:=1) (by omega) rZ.out;rw[show L4 d.aD d.next d.tag d.fin 1=d.next from rfl,xT.out]at gQ;have u8:=gQ m k8;have f8:=kY m;have tE:=aB ((dg.out.put (i:=1) (by omega) rZ.out xT.out m (-1)).to (a:=d.aD) (b:=d.next.set m (-1)) (c:=d.tag) (d:=d.fin) rfl rfl rfl rfl);have tA:=aB (mN.put (b:=g1) (by omega) m (zi .i64 (-1)));clear gQ kY eL dg mE;refine um (by simp) (λ_ _ h=>h) ?_
   change wpList _ _ _ [_,_] _ _
   go_wp2;rw[oJ];go_wp2
   go_meet
   refine⟨d.width,v,_,_,tE.out,tA.out,eO.out.trans rfl,?_⟩;intro i hi
   match i,hi with
   |0,_=>show (d.aD).length<=_;have:=oQ.out.2;omega
   |1,_=>show (d.next.set m (-1)).length<=_;have:=jQ.out.2;rw[qP];omega
   |2,_=>show (d.tag).length<=_;have:=jD.out.2;omega
   |3,_=>show (d.fin).length<=_;have:=lF.out.2;omega
 case rest=>
  obtain⟨wd',v',dp,a',hSz,hCz,hGz,hLz⟩:=hcut;have G2:=aB hSz;have HCz:=aB hCz;have HGz:=aB hGz;have QK:=aB hLz;clear hSz hCz hGz hLz eL mE HG;obtain⟨⟨a0,c0⟩,mK⟩:=cJ (G2.out.aq.own 0 (by omega));obtain⟨⟨a1,c1⟩,pK⟩:=cJ (G2.out.aq.own 1 (by omega));obtain⟨⟨a2,c2⟩,jo⟩:=cJ (G2.out.aq.own 2 (by omega));obtain⟨⟨a3,c3⟩,ig⟩:=cJ (G2.out.aq.own 3 (by omega));have HE:=aB (G2.out.done HCz.out (by
   intro i hi
   match i,hi with
   |0,_=>exact QK.out 0 (by omega)
   |1,_=>exact QK.out 1 (by omega)
   |2,_=>exact QK.out 2 (by omega)
   |3,_=>exact QK.out 3 (by omega)))
  obtain⟨b0,b1,b2,b3,b4⟩:=cE G2.out.box;have io:=G2.out.dv;have r0:=aR _ _ 0 _ _ io;have r1:=aR _ _ 1 _ _ io;have r2:=aR _ _ 2 _ _ io;have r3:=aR _ _ 3 _ _ io;have r4:=aR _ _ 4 _ _ io;unfold bm at io;obtain⟨z0,z1,z2,z3,z4⟩:=bL io;simp only at mK pK jo ig;rw[mK,pK,jo,ig]at HE;rw[mK]at b0;rw[pK]at b2;rw[jo]at b3;rw[ig]at b4;clear io mK pK jo ig
  skip
  go_wp2;refine bw (v:=_) (by simp[results,results16,go_sem,z0,z1,z2,z3,z4];rfl) rfl ?_;rw[HGz.out];exact⟨_,_,_,_,rfl,HE.out⟩
end Go.Proofs.Ytfajjdgkiilhfaa
