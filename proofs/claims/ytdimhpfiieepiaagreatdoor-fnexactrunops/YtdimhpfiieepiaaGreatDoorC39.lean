import Derived.Test.YtdimhpfiieepiaaGreatDoorC38
namespace Go.Proofs.YtdimhpfiieepiaaGreatDoor
open Proofs.Tryz
open Value renaming int->za,slice->zh,agg->zj
open Option renaming none->zb,some->ze
open Go renaming Value->zc,World->zg,Calls->zi
open RowKit renaming Hid->zd,Below->zf
set_option maxHeartbeats 4000000
set_option maxRecDepth 100000
open Go.RowKit
section
attribute [local go_sem ↓] wp_at_zero wp_at_succ
section
variable {lo T b:Nat}{w W:zg}{cs:Array zc}
theorem eD.slot{t:TypeId}(M:eD lo T w W)(h3:w.heap[b]?=ze (.cells cs t (0,0))){i:Nat}(hi:i<cs.size)(hn:pz cs[i]?=false)(h1:lo<=b)(h2:b<T):
  (∃u,W.cell? ⟨b,i,zb⟩=ze u)/\W.frozen? ⟨b,i,zb⟩=false/\∀u,pz (ze u)=false->eD lo T w (W.setCell ⟨b,i,zb⟩ u):=by
 obtain⟨fN,e,s,p,q⟩:=M.row b cs _ h3;exact⟨Rc e (by omega),cT _ _ _ _ _ e,λu hu=>M.trans (eD.put e h1 h2 (q i hn) u hu)⟩
theorem eD.stay{t:TypeId}(M:eD lo T w W)(h3:w.heap[b]?=ze (.cells cs t (0,0))){i:Nat}{v:zc}(hi:cs[i]?=ze v)(hn:pz (ze v)=true):W.cell? ⟨b,i,zb⟩=ze v:=by
 obtain⟨fN,e,s,p,q⟩:=M.row b cs _ h3;rw[aM _ _ _ _ _ _ e,p i (by rw[hi];exact hn),hi]
def yZ(n:aL):Nat:=4+2*n.set.length
def ux(ns:List aL):Nat:=(ns.map yZ).sum
def yY(b:aV):Nat:=2+ux b.nodes
def uw(bs:List aV):Nat:=(bs.map yY).sum
def y9(r:bi):Nat:=uw r.branches+1
def tp(rs:List bi):Nat:=(rs.map y9).sum
theorem Yh{α:Type}(f:α->Nat)(d:α)(l:List α){i:Nat}(h:i<l.length):((l.take (i+1)).map f).sum=((l.take i).map f).sum+f (l.getD i d):=by
 rw[List.take_add_one,dh h,Option.toList_some,zX,List.sum_append];simp[List.getD,h]
theorem Xb{α:Type}(f:α->Nat)(l:List α):∀i,((l.take i).map f).sum<=(l.map f).sum:=by
 induction l with
 |nil=>intro i;simp
 |cons a l ih=>
  intro i;cases i with
  |zero=>simp
  |succ i=>have:=ih i;simp only[nH,wU,List.sum_cons];omega
theorem QZ{α:Type}(f:α->Nat)(h:∀a,1<=f a):∀l:List α,l.length<=(l.map f).sum
 |[]=>by simp
 |a::l=>by have:=QZ f h l;have:=h a;simp only[qu,wU,List.sum_cons];omega
theorem zjX(v:zc)(ns:List aL)(k:Nat)(w:zg)(h:Aw lo T w v ns)(hk:k+ux ns<=90000000):
  zi prog 107 #[v,za .i64 (k:Int)] w λe W=>e=.returned (za .i64 ((k+ux ns:Nat):Int))/\eD lo T w W:=by
 obtain⟨ao,cap,rfl,h⟩:=h;have H:zd _:=h;have hlen:(ns.length:Int)<=90000000:=by have:=QZ yZ (λa=>by unfold yZ;omega) ns;unfold ux at hk;omega
 have HK:zd (∀i,k+((ns.take i).map yZ).sum<=90000000):=λi=>by have:=Xb yZ ns i;unfold ux at hk;omega
 clear h
 go_enter func107,ntmps107
 go_wp2
 go_loopw [1,5] (λkv iv wr=>∃i K:Nat,i<=ns.length/\iv=za .i64 i/\kv=za .i64 (K:Int)/\zd (K=k+((ns.take i).map yZ).sum)/\zd (eD lo T w wr)) (λ_ iv _=>ns.length-(intOf iv).toNat)
 case atStart=>exact⟨0,k,aR _,rfl,rfl,by show _=_;simp,eD.refl _ _ _⟩
 case round=>
  obtain⟨i,K,hi,rfl,rfl,uh,HM⟩:=hrel
  by_cases hlt:i<ns.length
  ·obtain⟨b,o,cs,rfl,h1,h2,h3,h4,h5⟩:=H.out (by omega);obtain⟨g1,sv,g2,g3⟩:=h5 i hlt;obtain⟨a,c,rfl,g4⟩:=id g3;have hs:=Yh yZ .zero ns hlt;have fA:zd (k+((ns.take (i+1)).map yZ).sum=K+(4+2*(ns.getD i .zero).set.length)):=by show _=_;rw[hs,uh.out];unfold yZ;omega
   have pP:=HK.out (i+1);rw[fA.out]at pP;obtain⟨sn,hsn⟩:∃sn,(ns.getD i .zero).set.length=sn:=⟨_,rfl⟩;rw[hsn]at g3 g2 fA pP;have bI:o+i*5<cs.size:=by omega
   have aO:o+i*5+4<cs.size:=by omega
   obtain⟨⟨u0,c0⟩,f0,M1⟩:=HM.out.slot h3 bI (g1 0 (by omega) (by omega)) h1 h2;have y1:wr.cell? ⟨b,o+i*5+1,zb⟩=ze (.slice a sn c):=HM.out.stay h3 g2 rfl;have RT:zd _:=M1 (za .i64 (K:Int)) rfl;have hC:=ziM (.slice a sn c) sn ((K:Int)+1) (wr.setCell ⟨b,o+i*5,zb⟩ (za .i64 (K:Int))) (g3.mk RT.out) (by omega);have da:(0:Int)<=(i:Int):=by omega
   have cO:(i:Int)<(ns.length:Int):=by omega
   have hKi:(K:Int)<=90000000:=by omega
   have hKn:(K:Int)+1+2*(sn:Int)<=90000000:=by omega
   have hsi:(0:Int)<=(sn:Int):=by omega
   have H3:zd _:=h3;have G1:zd _:=g1;clear h3 h5 g1 g2 g3 g4 M1 hs hsn HM pP
   go_wp2_with fail
   refine hC.mono ?_;rintro e w5 ⟨rfl,m5⟩;have M5:=RT.out.trans m5;obtain⟨⟨u2,c2⟩,f2,M6⟩:=M5.slot H3.out (show o+i*5+2<cs.size by omega) (G1.out 2 (by omega) (by omega)) h1 h2;obtain⟨⟨u3,c3⟩,f3,-⟩:=M5.slot H3.out (show o+i*5+3<cs.size by omega) (G1.out 3 (by omega) (by omega)) h1 h2;obtain⟨⟨u4,c4⟩,f4,-⟩:=M5.slot H3.out (show o+i*5+4<cs.size by omega) (G1.out 4 (by omega) (by omega)) h1 h2;have HM8:zd (∀x y z:Int,eD lo T w (((w5.setCell ⟨b,o+i*5+2,zb⟩ (za .i64 x)).setCell ⟨b,o+i*5+3,zb⟩ (za .i64 y)).setCell ⟨b,o+i*5+4,zb⟩ (za .i64 z))):=λx y z=>
    (((M6 (za .i64 x) rfl).slot H3.out (show o+i*5+3<cs.size by omega) (G1.out 3 (by omega) (by omega)) h1 h2).2.2 (za .i64 y) rfl).slot H3.out (show o+i*5+4<cs.size by omega) (G1.out 4 (by omega) (by omega)) h1 h2 |>.2.2 (za .i64 z) rfl
   obtain⟨q,hq⟩:∃q:Int,(K:Int)+1+2*(sn:Int)=q:=⟨_,rfl⟩;have Hq:zd _:=hq;have uS:q<=90000000:=by omega
   have tJ:0<=q:=by omega
   rw[hq];clear hC m5 M5 M6 c0 f0 y1 hq hKn RT H3 G1;go_wp2
   go_roundw
   case rel=>exact⟨i+1,K+(4+2*sn),by omega,by go_num,by rw[show ((K+(4+2*sn):Nat):Int)=q+1+1+1 by have:=Hq.out;omega],fA.out.symm,HM8.out _ _ _⟩
   case measure=>simp[intOf];omega
  ·have zv:i=ns.length:=by omega
   have e1:K=k+ux ns:=by have:=uh.out;rw[zv,wY]at this;exact this
   rw[e1]at *;clear zv e1 uh;go_wp2;go_ret;exact⟨rfl,HM.out⟩
theorem zhu(v:zc)(bs:List aV)(k:Nat)(w:zg)(h:Ac lo T w v bs)(hk:k+uw bs<=90000000):
  zi prog 80 #[v,za .i64 (k:Int)] w λe W=>e=.returned (za .i64 ((k+uw bs:Nat):Int))/\eD lo T w W:=by
 obtain⟨ao,cap,rfl,h⟩:=h;have H:zd _:=h;have hlen:(bs.length:Int)<=90000000:=by have:=QZ yY (λa=>by unfold yY;omega) bs;unfold uw at hk;omega
 have HK:zd (∀i,k+((bs.take i).map yY).sum<=90000000):=λi=>by have:=Xb yY bs i;unfold uw at hk;omega
 clear h
 go_enter func80,ntmps80
 go_wp2
 go_loopw [1,5] (λkv iv wr=>∃i K:Nat,i<=bs.length/\iv=za .i64 i/\kv=za .i64 (K:Int)/\zd (K=k+((bs.take i).map yY).sum)/\zd (eD lo T w wr)) (λ_ iv _=>bs.length-(intOf iv).toNat)
 case atStart=>exact⟨0,k,aR _,rfl,rfl,by show _=_;simp,eD.refl _ _ _⟩
 case round=>
  obtain⟨i,K,hi,rfl,rfl,uh,HM⟩:=hrel
  by_cases hlt:i<bs.length
  ·obtain⟨b,o,cs,rfl,h1,h2,h3,h4,h5⟩:=H.out (by omega);obtain⟨g1,sv,g2,g3⟩:=h5 i hlt;have hs:=Yh yY .zero bs hlt;obtain⟨nd,wi⟩:∃nd,(bs.getD i .zero).nodes=nd:=⟨_,rfl⟩;have fA:zd (k+((bs.take (i+1)).map yY).sum=K+2+ux nd):=by show _=_;rw[hs,uh.out,<-wi];unfold yY;omega
   have pP:=HK.out (i+1);rw[fA.out]at pP;rw[wi]at g3;obtain⟨a,c,rfl,g4⟩:=id g3;have y2:wr.cell? ⟨b,o+i*3+2,zb⟩=ze (.slice a nd.length c):=HM.out.stay h3 g2 rfl;obtain⟨⟨u0,c0⟩,f0,M1⟩:=HM.out.slot h3 (show o+i*3<cs.size by omega) (g1 0 (by omega)) h1 h2;obtain⟨⟨u1,c1⟩,f1,-⟩:=HM.out.slot h3 (show o+i*3+1<cs.size by omega) (g1 1 (by omega)) h1 h2;have yJ:zd (∀x y:Bool,eD lo T w ((wr.setCell ⟨b,o+i*3,zb⟩ (.bool x)).setCell ⟨b,o+i*3+1,zb⟩ (.bool y))):=λx y=>((M1 (.bool x) rfl).slot h3 (show o+i*3+1<cs.size by omega) (g1 1 (by omega)) h1 h2).2.2 (.bool y) rfl
   have HC:zd (∀W,eD lo T w W->zi prog 107 #[.slice a nd.length c,za .i64 ((K+2:Nat):Int)] W λe W'=>e=.returned (za .i64 ((K+2+ux nd:Nat):Int))/\eD lo T w W'):=λW hW=>(zjX _ nd (K+2) W (g3.mk hW) (by omega)).mono λe W' hh=>⟨hh.1,hW.trans hh.2⟩
   have da:(0:Int)<=(i:Int):=by omega
   have cO:(i:Int)<(bs.length:Int):=by omega
   have hKi:(K:Int)<=90000000:=by omega
   obtain⟨n3,Fa⟩:∃n3,nd.length=n3:=⟨_,rfl⟩;rw[Fa]at y2 HC;obtain⟨q,hq⟩:∃q:Nat,K+2+ux nd=q:=⟨_,rfl⟩;rw[hq]at HC fA;clear h3 h5 g1 g2 g3 g4 M1 hs wi HM pP Fa hq
   go_wp2_with fail
   have e2:(K:Int)+1+1=((K+2:Nat):Int):=by omega
   rw[e2];refine(HC.out _ (yJ.out _ _)).mono ?_;rintro e w5 ⟨rfl,m5⟩;have N2:zd _:=m5;clear m5 c0 c1 f0 f1 y2 yJ HC e2;go_wp2
   go_roundw
   case rel=>exact⟨i+1,q,by omega,by go_num,rfl,fA.out.symm,N2⟩
   case measure=>simp[intOf];omega
  ·have zv:i=bs.length:=by omega
   have e1:K=k+uw bs:=by have:=uh.out;rw[zv,wY]at this;exact this
   rw[e1]at *;clear zv e1 uh;go_wp2;go_ret;exact⟨rfl,HM.out⟩
theorem zjZ(v:zc)(rs:List bi)(k:Nat)(w:zg)(h:Cx lo T w v rs)(hk:k+tp rs<=90000000):
  zi prog 42 #[v,za .i64 (k:Int)] w λe W=>e=.returned (za .i64 ((k+tp rs:Nat):Int))/\eD lo T w W:=by
 obtain⟨ao,cap,rfl,h⟩:=h;have H:zd _:=h;have hlen:(rs.length:Int)<=90000000:=by have:=QZ y9 (λa=>by unfold y9;omega) rs;unfold tp at hk;omega
 have HK:zd (∀i,k+((rs.take i).map y9).sum<=90000000):=λi=>by have:=Xb y9 rs i;unfold tp at hk;omega
 clear h
 go_enter func42,ntmps42
 go_wp2
 go_loopw [1,5] (λkv iv wr=>∃i K:Nat,i<=rs.length/\iv=za .i64 i/\kv=za .i64 (K:Int)/\zd (K=k+((rs.take i).map y9).sum)/\zd (eD lo T w wr)) (λ_ iv _=>rs.length-(intOf iv).toNat)
 case atStart=>exact⟨0,k,aR _,rfl,rfl,by show _=_;simp,eD.refl _ _ _⟩
 case round=>
  obtain⟨i,K,hi,rfl,rfl,uh,HM⟩:=hrel
  by_cases hlt:i<rs.length
  ·obtain⟨b,o,cs,rfl,h1,h2,h3,h4,h5⟩:=H.out (by omega);obtain⟨g1,sv,g2,g3⟩:=h5 i hlt;have hs:=Yh y9 .zero rs hlt;obtain⟨bd,dV⟩:∃bd,(rs.getD i .zero).branches=bd:=⟨_,rfl⟩;have fA:zd (k+((rs.take (i+1)).map y9).sum=K+uw bd+1):=by show _=_;rw[hs,uh.out,<-dV];unfold y9;omega
   have pP:=HK.out (i+1);rw[fA.out]at pP;rw[dV]at g3;obtain⟨a,c,rfl,g4⟩:=id g3;have y2:wr.cell? ⟨b,o+i*2,zb⟩=ze (.slice a bd.length c):=HM.out.stay h3 g2 rfl;have hC:=zhu _ bd K wr (g3.mk HM.out) (by omega);have da:(0:Int)<=(i:Int):=by omega
   have cO:(i:Int)<(rs.length:Int):=by omega
   obtain⟨n3,Fa⟩:∃n3,bd.length=n3:=⟨_,rfl⟩;rw[Fa]at y2 hC;obtain⟨q,hq⟩:∃q:Nat,K+uw bd=q:=⟨_,rfl⟩;rw[hq]at hC fA pP;have hqi:(q:Int)<=90000000:=by omega
   have H3:zd _:=h3;have G1:zd _:=g1;clear h3 h5 g1 g2 g3 g4 hs dV Fa hq pP
   go_wp2_with fail
   refine hC.mono ?_;rintro e w5 ⟨rfl,m5⟩;have M5:=HM.out.trans m5;obtain⟨⟨u2,c2⟩,f2,M6⟩:=M5.slot H3.out (show o+i*2+1<cs.size by omega) G1.out h1 h2;have HM6:zd _:=M6 (za .i64 (q:Int)) rfl;clear hC m5 M5 M6 y2 H3 G1 HM;go_wp2
   go_roundw
   case rel=>exact⟨i+1,q+1,by omega,by go_num,by go_num,fA.out.symm,HM6⟩
   case measure=>simp[intOf];omega
  ·have zv:i=rs.length:=by omega
   have e1:K=k+tp rs:=by have:=uh.out;rw[zv,wY]at this;exact this
   rw[e1]at *;clear zv e1 uh;go_wp2;go_ret;exact⟨rfl,HM.out⟩
end
end
section
variable {lo T T' cE:Nat}{w W w':zg}{v:zc}{rs:List (Int×Int)}
theorem AA.keep{n:Nat}(h:AA lo T w v n)(hl:cE<=lo)(hT:T<=T')(hk:∀(b:Nat) (o:Obj),lo<=b->b<T->w.heap[b]?=ze o->W.heap[b]?=ze o):AA cE T' W v n:=by
 obtain⟨ao,cap,rfl,h⟩:=h;refine⟨ao,cap,rfl,λh0=>?_⟩;obtain⟨b,o,cs,rfl,h1,h2,h3,h4,h5⟩:=h h0;exact⟨b,o,cs,rfl,by omega,by omega,hk b _ h1 h2 h3,h4,h5⟩
theorem Aw.keep{ns:List aL}(h:Aw lo T w v ns)(hl:cE<=lo)(hT:T<=T')(hk:∀(b:Nat) (o:Obj),lo<=b->b<T->w.heap[b]?=ze o->W.heap[b]?=ze o):Aw cE T' W v ns:=by
 obtain⟨ao,cap,rfl,h⟩:=h;refine⟨ao,cap,rfl,λh0=>?_⟩;obtain⟨b,o,cs,rfl,h1,h2,h3,h4,h5⟩:=h h0;refine⟨b,o,cs,rfl,by omega,by omega,hk b _ h1 h2 h3,h4,λi hi=>?_⟩;obtain⟨g1,sv,g2,g3⟩:=h5 i hi;exact⟨g1,sv,g2,g3.keep hl hT hk⟩
theorem Ac.keep{bs:List aV}(h:Ac lo T w v bs)(hl:cE<=lo)(hT:T<=T')(hk:∀(b:Nat) (o:Obj),lo<=b->b<T->w.heap[b]?=ze o->W.heap[b]?=ze o):Ac cE T' W v bs:=by
 obtain⟨ao,cap,rfl,h⟩:=h;refine⟨ao,cap,rfl,λh0=>?_⟩;obtain⟨b,o,cs,rfl,h1,h2,h3,h4,h5⟩:=h h0;refine⟨b,o,cs,rfl,by omega,by omega,hk b _ h1 h2 h3,h4,λi hi=>?_⟩;obtain⟨g1,sv,g2,g3⟩:=h5 i hi;exact⟨g1,sv,g2,g3.keep hl hT hk⟩
def oX(lo:Nat)(w:zg)(v:zc)(rs:List (Int×Int)):Prop:=dR lo w v rs/\AA lo w.heap.size w v rs.length
theorem oX.below(h:oX lo w v rs)(hb:zf w.heap.size w w'):oX lo w' v rs:=⟨h.1.below hb,h.2.keep (aj _) hb.size λb _ _ hl e=>(hb.block b hl).trans e⟩
theorem oX.mono(h:oX lo w v rs)(hl:cE<=lo):oX cE w v rs:=⟨h.1.mono hl,h.2.keep hl (aj _) λ_ _ _ _ e=>e⟩
theorem oX.setCell(h:oX lo w v rs){a:Addr}(ha:a.block<lo)(u:zc):oX lo (w.setCell a u) v rs:=⟨h.1.setCell ha u,h.2.keep (aj _) (by simp[World.setCell]) λ_ _ hb _ e=>(cH _ _ _ _ (by omega)).trans e⟩
def oR(lo:Nat)(w:zg)(v:zc)(rs:List aL):Prop:=dZ lo w v rs/\Aw lo w.heap.size w v rs
theorem oR.below{rs:List aL}(h:oR lo w v rs)(hb:zf w.heap.size w w'):oR lo w' v rs:=⟨h.1.below hb,h.2.keep (aj _) hb.size λb _ _ hl e=>(hb.block b hl).trans e⟩
theorem oR.mono{rs:List aL}(h:oR lo w v rs)(hl:cE<=lo):oR cE w v rs:=⟨h.1.mono hl,h.2.keep hl (aj _) λ_ _ _ _ e=>e⟩
theorem oR.setCell{rs:List aL}(h:oR lo w v rs){a:Addr}(ha:a.block<lo)(u:zc):oR lo (w.setCell a u) v rs:=⟨h.1.setCell ha u,h.2.keep (aj _) (by simp[World.setCell]) λ_ _ hb _ e=>(cH _ _ _ _ (by omega)).trans e⟩
def oM(lo:Nat)(w:zg)(v:zc)(rs:List aV):Prop:=eh lo w v rs/\Ac lo w.heap.size w v rs
theorem oM.below{rs:List aV}(h:oM lo w v rs)(hb:zf w.heap.size w w'):oM lo w' v rs:=⟨h.1.below hb,h.2.keep (aj _) hb.size λb _ _ hl e=>(hb.block b hl).trans e⟩
theorem oM.mono{rs:List aV}(h:oM lo w v rs)(hl:cE<=lo):oM cE w v rs:=⟨h.1.mono hl,h.2.keep hl (aj _) λ_ _ _ _ e=>e⟩
theorem oM.setCell{rs:List aV}(h:oM lo w v rs){a:Addr}(ha:a.block<lo)(u:zc):oM lo (w.setCell a u) v rs:=⟨h.1.setCell ha u,h.2.keep (aj _) (by simp[World.setCell]) λ_ _ hb _ e=>(cH _ _ _ _ (by omega)).trans e⟩
theorem zlY(v:zc)(rs:List (Int×Int))(w:zg)(hs:dR lo w v rs)(hn:rs.length<=1048576):
  zi prog 175 #[v] w λe w'=>∃v',e=.returned v'/\oX w.heap.size w' v' rs/\zf w.heap.size w w':=by
 obtain⟨ao,cap,rfl,hm,hc⟩:=hs;obtain⟨i0,hi,bI,aO,aQ⟩:=info_parts Tryz.zAs
 go_enter func175,ntmps175
 go_wp2_with (refine wpList_make_full _ rfl _ _ 147 rfl w.heap.size 211 i0 _ 2 underlying147 hi bI aO _ _ _ _ rs.length rfl rfl rfl rfl (by rw[aQ];omega) (by unfold maxLen;omega) (aj _) ?_;intro w1 aB ez)
 have fO:zf w.heap.size w w1:=(Below.refl _ _).grown ez (aj _) (by intro k h;cases h);clear ez
 go_loopw [4] (λi wr=>∃k:Nat,k<=rs.length/\i=za .i64 k/\zf w.heap.size w wr/\∃xs:List zc,wr.ownsRow w.heap.size 211 2 (zh (ze ⟨w.heap.size,0,zb⟩) rs.length rs.length) rs.length xs/\
   mD xs 2 k (λj=>[za .i64 (rs.getD j (0,0)).1,za .i64 (rs.getD j (0,0)).2]))
  (λi _=>rs.length-(intOf i).toNat)
 case atStart=>exact⟨0,aR _,rfl,fO,_,aB,λj hj=>absurd hj (cR _)⟩
 case round=>
  obtain⟨k,hk,rfl,hb,xs,aB,eH⟩:=hrel
  by_cases hlt:k<rs.length
  ·obtain⟨b,o,lo,hi,rfl,Hn,aZ,c0,c1⟩:=hc.elem hb hlt
   go_wp2_with (go_at_call 197;refine(zoc _ _ _).mono ?_;rintro e w2 ⟨rfl,ae⟩;have j7:=dQ aB ae;obtain⟨u0,u1,d0,d1,f0,f1⟩:=DG j7 hlt)
   go_roundw
   case rel=>exact⟨k+1,by omega,by go_num,((aq hb hb.size ae).setCell (aj _) _).setCell (aj _) _,_,((j7.stored _ _).1.stored _ _).1,Xu eH (by have:=j7.1;omega) (by rw[Hn.out])⟩
   case measure=>simp[intOf];omega
  ·go_wp2;have bK:k=rs.length:=by omega
   refine bh (v:=zh (ze ⟨w.heap.size,0,zb⟩) rs.length rs.length) (by simp[results,results175,go_sem]) rfl ⟨_,rfl,⟨⟨_,_,rfl,hm,λ_=>⟨w.heap.size,0,rfl,aj _,pE aB,λi hi=>?_⟩⟩,?_⟩,hb⟩
   all_goals rw[bK]at eH
   rotate_left
   ·refine⟨_,_,rfl,λ_=>⟨w.heap.size,0,xs.toArray,rfl,aj _,pE aB,wO aB,by have:=aB.1;simp;omega,λi hi=>?_⟩⟩;have hr:=aM _ _ i _ _ _ (wO aB);have e:=kL aB eH (i:=i/2) (c:=i%2) (by omega) (by omega);rw[show i/2*2+i%2=i by omega]at e;rw[jw,<-hr];rcases(show i%2=0\/i%2=1 by omega) with h2|h2<;>simp only[h2]at e<;>simp[e,pz]
   have e0:=kL aB eH (c:=0) hi (by omega);have e1:=kL aB eH (c:=1) hi (by omega);simp only[uf,jw]at e0 e1 ⊢;exact⟨e0,e1⟩
theorem zob(k mn mx g:Int)(sv:zc)(rs:List (Int×Int))(w:zg)(hs:dR lo w sv rs)(hn:rs.length<=1048576):
  zi prog 154 #[zj #[za .i64 k,sv,za .i64 mn,za .i64 mx,za .i64 g]] w λe w'=>∃sj,e=.returned (zj #[za .i64 k,sj,za .i64 mn,za .i64 mx,za .i64 g])/\oX w.heap.size w' sj rs/\zf w.heap.size w w':=by
 go_enter func154,ntmps154
 go_wp2_with fail
 refine(zlY (lo:=lo) _ rs _ (hs.below ?_) hn).mono ?_
 ·exact((aw).alloc (by simp) _).alloc (by simp;omega) _
 rintro e w2 ⟨sj,rfl,hr,hb⟩;have hw:=hr.2;obtain⟨jD,cap',rfl,uP,hc'⟩:=hr.1;obtain⟨hcc,EZ⟩:=uc hb;have hz:=hb.size;simp only[World.size_alloc]at hc' hz hw;have hr:oX (w.heap.size+1+1+1) w2 (.slice jD rs.length cap') rs:=⟨⟨_,_,rfl,uP,hc'⟩,hw⟩;have cN:=(((((Below.refl w.heap.size w).alloc (aj _) _).alloc (by simp) _).alloc (by simp;omega) _).trans (hb.mono (by simp;omega)));clear hb;go_wp2;refine bh (v:=zj #[za .i64 k,.slice jD rs.length cap',za .i64 mn,za .i64 mx,za .i64 g]) (by simp[results,results154,go_sem,hcc]) rfl ⟨_,rfl,?_,?_⟩
 ·refine oX.mono (lo:=w.heap.size+1+1+1) ?_ (by omega)
  iterate 9 refine oX.setCell ?_ (by simp) _
  exact hr
 ·iterate 9 refine Below.setCell ?_ (by simp<;>omega) _
  exact cN
theorem zlX(v:zc)(ns:List aL)(w:zg)(hs:dZ lo w v ns)(hn:ns.length<=1048576)(lH:∀i,i<ns.length->(ns.getD i .zero).set.length<=1048576):
  zi prog 137 #[v] w λe w'=>∃v',e=.returned v'/\oR w.heap.size w' v' ns/\zf w.heap.size w w':=by
 obtain⟨ao,cap,rfl,hm,hc⟩:=hs;obtain⟨i0,hi,bI,aO,aQ⟩:=info_parts Tryz.zAn
 go_enter func137,ntmps137
 go_wp2_with (refine wpList_make_full _ rfl _ _ 113 rfl w.heap.size 149 i0 _ 5 underlying113 hi bI aO _ _ _ _ ns.length rfl rfl rfl rfl (by rw[aQ];omega) (by unfold maxLen;omega) (aj _) ?_;intro w1 aB ez)
 have fO:zf w.heap.size w w1:=(Below.refl _ _).grown ez (aj _) (by intro k h;cases h);clear ez
 go_loopw [4] (λi wr=>∃k:Nat,k<=ns.length/\i=za .i64 k/\zf w.heap.size w wr/\∃(xs:List zc) (S:Nat->zc),wr.ownsRow w.heap.size 149 5 (zh (ze ⟨w.heap.size,0,zb⟩) ns.length ns.length) ns.length xs/\
   mD xs 5 k (Q5 ns S)/\∀j,j<k->oX (w.heap.size+1) wr (S j) (ns.getD j .zero).set)
  (λi _=>ns.length-(intOf i).toNat)
 case atStart=>exact⟨0,aR _,rfl,fO,_,λ_=>.nilIface,aB,λj hj=>absurd hj (cR _),λj hj=>absurd hj (cR _)⟩
 case round=>
  obtain⟨k,hk,rfl,hb,xs,S,aB,eH,rr⟩:=hrel;have HS:zd (∀j,j<k->oX (w.heap.size+1) wr (S j) (ns.getD j .zero).set):=rr;clear rr;have fD:=pE aB
  by_cases hlt:k<ns.length
  ·obtain⟨b,o,sv,nd,rfl,Hn,aZ,c0,c1,c2,c3,c4,dr⟩:=hc.elem hb hlt;have wi:nd.set.length<=1048576:=by have:=lH k hlt;rw[Hn.out]at this;exact this
   have GV:zd (∀i,i<ns.length->(ns.getD i .zero).set.length<=1048576):=lH;clear lH
   go_wp2_with (go_at_call 154;refine(zob _ _ _ _ _ _ _ dr wi).mono ?_;rintro e w2 ⟨sj,rfl,hr,ae⟩;have pu:=hr.2;obtain⟨jD,cap',rfl,uP,hc'⟩:=hr.1;have j7:=dQ aB ae;obtain⟨u0,u1,u2,u3,u4,d0,d1,d2,d3,d4,f0,f1,f2,f3,f4⟩:=zrM j7 hlt)
   go_roundw
   case rel=>
    refine⟨k+1,by omega,by go_num,?_,_,upd S k (.slice jD nd.set.length cap'),(((((j7.stored _ _).1.stored _ _).1.stored _ _).1.stored _ _).1.stored _ _).1,zk6 (eH.congr λj hj=>by simp only[Q5,JO _ _ hj]) (by have:=j7.1;omega) (by rw[Q5,Hn.out,JD]),λj hj=>?_⟩
    ·iterate 5 refine Below.setCell ?_ (by simp) _
     exact aq hb hb.size ae
    ·iterate 5 refine oX.setCell ?_ (by simp<;>omega) _
     by_cases e:j=k
     ·subst e;rw[JD,Hn.out];exact oX.mono ⟨⟨_,_,rfl,uP,hc'⟩,pu⟩ (by omega)
     ·rw[JO _ _ (by omega)];exact(HS.out j (by omega)).below ae
   case measure=>simp[intOf];omega
  ·go_wp2;have bK:k=ns.length:=by omega
   rw[bK]at eH HS;refine bh (v:=zh (ze ⟨w.heap.size,0,zb⟩) ns.length ns.length) (by simp[results,results137,go_sem]) rfl ⟨_,rfl,⟨⟨_,_,rfl,hm,λ_=>⟨w.heap.size,0,rfl,aj _,fD,λi hi=>?_⟩⟩,?_⟩,hb⟩
   rotate_left
   ·refine⟨_,_,rfl,λ_=>⟨w.heap.size,0,xs.toArray,rfl,aj _,fD,wO aB,by have:=aB.1;simp;omega,λi hi=>?_⟩⟩;have hr:=λk=>aM _ _ k _ _ _ (wO aB)
    refine⟨λj hj hne=>?_,S i,?_,(HS.out i hi).2.keep (by omega) (aj _) λ_ _ _ _ e=>e⟩
    ·have e:=kL aB eH (c:=j) hi hj;rw[jw,<-hr];rcases(show j=0\/j=2\/j=3\/j=4 by omega) with h2|h2|h2|h2<;>subst h2<;>simp[Q5]at e<;>simp[e,pz]
    ·have e:=kL aB eH (c:=1) hi (by omega);rw[jw,<-hr,e]
     rfl
   have e0:=kL aB eH (c:=0) hi (by omega);have e1:=kL aB eH (c:=1) hi (by omega);have e2:=kL aB eH (c:=2) hi (by omega);have e3:=kL aB eH (c:=3) hi (by omega);have e4:=kL aB eH (c:=4) hi (by omega);simp only[uf,jw]at e0 e1 e2 e3 e4 ⊢;exact⟨e0,⟨_,e1,(HS.out i hi).1.mono (by omega)⟩,e2,e3,e4⟩
theorem zkz(aX bm:Bool)(nv:zc)(ns:List aL)(w:zg)(hs:dZ lo w nv ns)(hn:ns.length<=1048576)(lH:∀i,i<ns.length->(ns.getD i .zero).set.length<=1048576):
  zi prog 117 #[zj #[.bool aX,.bool bm,nv]] w λe w'=>∃qT,e=.returned (zj #[.bool aX,.bool bm,qT])/\oR w.heap.size w' qT ns/\zf w.heap.size w w':=by
 have GV:zd (∀i,i<ns.length->(ns.getD i .zero).set.length<=1048576):=lH;clear lH
 go_enter func117,ntmps117
 go_wp2_with fail
 refine(zlX (lo:=lo) _ ns _ (hs.below ?_) hn GV.out).mono ?_
 ·exact((aw).alloc (by simp) _).alloc (by simp;omega) _
 rintro e w2 ⟨sj,rfl,hr,hb⟩;have hw:=hr.2;obtain⟨jD,cap',rfl,uP,hc'⟩:=hr.1;obtain⟨hcc,EZ⟩:=uc hb;have hz:=hb.size;simp only[World.size_alloc]at hc' hz hw;have hr:oR (w.heap.size+1+1+1) w2 (.slice jD ns.length cap') ns:=⟨⟨_,_,rfl,uP,hc'⟩,hw⟩;have cN:=(((((Below.refl w.heap.size w).alloc (aj _) _).alloc (by simp) _).alloc (by simp;omega) _).trans (hb.mono (by simp;omega)));clear hb;go_wp2;refine bh (v:=zj #[.bool aX,.bool bm,.slice jD ns.length cap']) (by simp[results,results117,go_sem,hcc]) rfl ⟨_,rfl,?_,?_⟩
 ·refine oR.mono (lo:=w.heap.size+1+1+1) ?_ (by omega)
  iterate 4 refine oR.setCell ?_ (by simp) _
  exact hr
 ·iterate 4 refine Below.setCell ?_ (by simp<;>omega) _
  exact cN
theorem zjh(v:zc)(ns:List aV)(w:zg)(hs:eh lo w v ns)(hsm:Small ns):
  zi prog 95 #[v] w λe w'=>∃v',e=.returned v'/\oM w.heap.size w' v' ns/\zf w.heap.size w w':=by
 obtain⟨ao,cap,rfl,hm,hc⟩:=hs;have hn:=hsm.1;obtain⟨i0,hi,bI,aO,aQ⟩:=info_parts Tryz.zAl
 go_enter func95,ntmps95
 go_wp2_with (refine wpList_make_full _ rfl _ _ 67 rfl w.heap.size 115 i0 _ 3 underlying67 hi bI aO _ _ _ _ ns.length rfl rfl rfl rfl (by rw[aQ];omega) (by unfold maxLen;omega) (aj _) ?_;intro w1 aB ez)
 have fO:zf w.heap.size w w1:=(Below.refl _ _).grown ez (aj _) (by intro k h;cases h);clear ez
 go_loopw [4] (λi wr=>∃k:Nat,k<=ns.length/\i=za .i64 k/\zf w.heap.size w wr/\∃(xs:List zc) (S:Nat->zc),wr.ownsRow w.heap.size 115 3 (zh (ze ⟨w.heap.size,0,zb⟩) ns.length ns.length) ns.length xs/\
   mD xs 3 k (QD ns S)/\∀j,j<k->oR (w.heap.size+1) wr (S j) (ns.getD j .zero).nodes)
  (λi _=>ns.length-(intOf i).toNat)
 case atStart=>exact⟨0,aR _,rfl,fO,_,λ_=>.nilIface,aB,λj hj=>absurd hj (cR _),λj hj=>absurd hj (cR _)⟩
 case round=>
  obtain⟨k,hk,rfl,hb,xs,S,aB,eH,rr⟩:=hrel;have HS:zd (∀j,j<k->oR (w.heap.size+1) wr (S j) (ns.getD j .zero).nodes):=rr;clear rr;have fD:=pE aB
  by_cases hlt:k<ns.length
  ·obtain⟨b,o,nv,nd,rfl,Hn,aZ,c0,c1,c2,dr⟩:=hc.elem hb hlt;have wi:nd.nodes.length<=1048576:=by have:=(hsm.2 k hlt).1;rw[Hn.out]at this;exact this
   have GV:zd (∀j,j<nd.nodes.length->(nd.nodes.getD j .zero).set.length<=1048576):=by have:=(hsm.2 k hlt).2;rw[Hn.out]at this;exact this
   go_wp2_with (go_at_call 117;refine(zkz _ _ _ _ _ dr wi GV.out).mono ?_;rintro e w2 ⟨sj,rfl,hr,ae⟩;have pu:=hr.2;obtain⟨jD,cap',rfl,uP,hc'⟩:=hr.1;have j7:=dQ aB ae;obtain⟨u0,u1,u2,d0,d1,d2,f0,f1,f2⟩:=zpL j7 hlt)
   go_roundw
   case rel=>
    refine⟨k+1,by omega,by go_num,?_,_,upd S k (.slice jD nd.nodes.length cap'),(((j7.stored _ _).1.stored _ _).1.stored _ _).1,zjD (eH.congr λj hj=>by simp only[QD,JO _ _ hj]) (by have:=j7.1;omega) (by rw[QD,Hn.out,JD]),λj hj=>?_⟩
    ·iterate 3 refine Below.setCell ?_ (by simp) _
     exact aq hb hb.size ae
    ·iterate 3 refine oR.setCell ?_ (by simp<;>omega) _
     by_cases e:j=k
     ·subst e;rw[JD,Hn.out];exact oR.mono ⟨⟨_,_,rfl,uP,hc'⟩,pu⟩ (by omega)
     ·rw[JO _ _ (by omega)];exact(HS.out j (by omega)).below ae
   case measure=>simp[intOf];omega
  ·go_wp2;have bK:k=ns.length:=by omega
   rw[bK]at eH HS;refine bh (v:=zh (ze ⟨w.heap.size,0,zb⟩) ns.length ns.length) (by simp[results,results95,go_sem]) rfl ⟨_,rfl,⟨⟨_,_,rfl,hm,λ_=>⟨w.heap.size,0,rfl,aj _,fD,λi hi=>?_⟩⟩,?_⟩,hb⟩
   rotate_left
   ·refine⟨_,_,rfl,λ_=>⟨w.heap.size,0,xs.toArray,rfl,aj _,fD,wO aB,by have:=aB.1;simp;omega,λi hi=>?_⟩⟩;have hr:=λk=>aM _ _ k _ _ _ (wO aB)
    refine⟨λj hj=>?_,S i,?_,(HS.out i hi).2.keep (by omega) (aj _) λ_ _ _ _ e=>e⟩
    ·have e:=kL aB eH (c:=j) hi (by omega);rw[jw,<-hr];rcases(show j=0\/j=1 by omega) with h2|h2<;>subst h2<;>simp[QD]at e<;>simp[e,pz]
    ·have e:=kL aB eH (c:=2) hi (by omega);rw[jw,<-hr,e]
     rfl
   have e0:=kL aB eH (c:=0) hi (by omega);have e1:=kL aB eH (c:=1) hi (by omega);have e2:=kL aB eH (c:=2) hi (by omega);simp only[uf,jw]at e0 e1 e2 ⊢;exact⟨e0,e1,⟨_,e2,(HS.out i hi).1.mono (by omega)⟩⟩
theorem zod(g:Int)(bv:zc)(bs:List aV)(w:zg)(hs:eh lo w bv bs)(hsm:Small bs):
  zi prog 68 #[zj #[bv,za .i64 g]] w λe w'=>∃qD,e=.returned (zj #[qD,za .i64 g])/\oM w.heap.size w' qD bs/\zf w.heap.size w w':=by
 go_enter func68,ntmps68
 go_wp2_with fail
 refine(zjh (lo:=lo) _ bs _ (hs.below ?_) hsm).mono ?_
 ·exact((aw).alloc (by simp) _).alloc (by simp;omega) _
 rintro e w2 ⟨sj,rfl,hr,hb⟩;have hw:=hr.2;obtain⟨jD,cap',rfl,uP,hc'⟩:=hr.1;obtain⟨hcc,EZ⟩:=uc hb;have hz:=hb.size;simp only[World.size_alloc]at hc' hz hw;have hr:oM (w.heap.size+1+1+1) w2 (.slice jD bs.length cap') bs:=⟨⟨_,_,rfl,uP,hc'⟩,hw⟩;have cN:=(((((Below.refl w.heap.size w).alloc (aj _) _).alloc (by simp) _).alloc (by simp;omega) _).trans (hb.mono (by simp;omega)));clear hb;go_wp2;refine bh (v:=zj #[.slice jD bs.length cap',za .i64 g]) (by simp[results,results68,go_sem,hcc]) rfl ⟨_,rfl,?_,?_⟩
 ·refine oM.mono (lo:=w.heap.size+1+1+1) ?_ (by omega)
  iterate 4 refine oM.setCell ?_ (by simp) _
  exact hr
 ·iterate 4 refine Below.setCell ?_ (by simp<;>omega) _
  exact cN
end
section
attribute [local go_sem ↓] wp_at_zero wp_at_succ
section
variable {ns:List aL}{l:Int}{rs:List bi}{lo:Nat}
def nB:List bi->Int->Int
 |[],l=>l
 |r::rs,l=>if jd r.branches l<0 then -1 else nB rs (jd r.branches l)
def tY(rs:List bi)(left:Int):Int:=if left-rs.length<0 then -1 else nB rs (left-rs.length)
theorem zlW(ns:List bi):∀l:Int,0<=l->-1<=nB ns l/\nB ns l<=l:=by
 induction ns with
 |nil=>intro l h;simp[nB];omega
 |cons n ns ih=>
  intro l h;have:=MY n.branches l h;unfold nB;split
  ·omega
  ·have:=ih (jd n.branches l) (by omega);omega
theorem zlV(ns:List bi)(l:Int)(h:0<=l):-1<=tY ns l/\tY ns l<=l:=by
 unfold tY;split
 ·omega
 ·have:=zlW ns (l-ns.length) (by omega);omega
theorem zjf(ns:List bi)(i:Nat)(hi:i<ns.length)(l:Int):
  nB (ns.drop i) l=if jd (ns.getD i .zero).branches l<0 then -1 else nB (ns.drop (i+1)) (jd (ns.getD i .zero).branches l):=by
 rw[oK hi];simp[nB,List.getD,hi]
theorem zqm{n:aL}:∀(ns:List aL) (l:Int),0<=l->0<=nA ns l->n∈ns->(n.set.length:Int)<=l
 |[],_,_,_,h=>by cases h
 |m::ns,l,hl,h,hm=>by
  unfold nA at h;have hq:=M9 m.set l hl
  by_cases hc:lO m.set l<0
  ·rw[aC hc]at h;omega
  ·rw[ak hc]at h;rcases pI.1 hm with e|e
   ·subst e;unfold lO at hc;split at hc<;>omega
   ·have:=zqm ns _ (by omega) h e;omega
theorem ztB(h:0<=jc ns l):(ns.length:Int)<=l/\∀n,n∈ns->(n.set.length:Int)<=l:=by
 unfold jc at h
 by_cases hc:l-ns.length<0
 ·rw[aC hc]at h;omega
 ·rw[ak hc]at h;exact⟨by omega,λn hn=>by have:=zqm ns _ (by omega) h hn;omega⟩
theorem zql{b:aV}:∀(bs:List aV) (l:Int),0<=l->0<=nr bs l->b∈bs->((b.nodes.length:Int)<=l/\∀n,n∈b.nodes->(n.set.length:Int)<=l)
 |[],_,_,_,h=>by cases h
 |m::ns,l,hl,h,hm=>by
  unfold nr at h;have hq:=M0 m.nodes l hl
  by_cases hc:jc m.nodes l<0
  ·rw[aC hc]at h;omega
  ·rw[ak hc]at h;rcases pI.1 hm with e|e
   ·subst e;exact ztB (by omega)
   ·have:=zql ns _ (by omega) h e;exact⟨by omega,λn hn=>by have:=this.2 n hn;omega⟩
theorem XA{α:Type}{d:α}{l:List α}{i:Nat}(h:i<l.length):l.getD i d∈l:=by
 simp[List.getD,h]
theorem ztA{bs:List aV}(eZ:l<=1048576)(h:0<=jd bs l):Small bs:=by
 unfold jd at h
 by_cases hc:l-bs.length<0
 ·rw[aC hc]at h;omega
 ·rw[ak hc]at h;refine⟨by omega,λi hi=>?_⟩;have:=zql bs _ (by omega) h (XA (d:=.zero) hi);exact⟨by omega,λj hj=>by have:=this.2 _ (XA (d:=.zero) hj);omega⟩
theorem zkv{r:bi}:∀(rs:List bi) (l:Int),0<=l->l<=1048576->0<=nB rs l->r∈rs->Small r.branches
 |[],_,_,_,_,h=>by cases h
 |m::ns,l,hl,eZ,h,hm=>by
  unfold nB at h;have hq:=MY m.branches l hl
  by_cases hc:jd m.branches l<0
  ·rw[aC hc]at h;omega
  ·rw[ak hc]at h;rcases pI.1 hm with e|e
   ·subst e;exact ztA eZ (by omega)
   ·exact zkv ns _ (by omega) (by omega) h e
theorem zn8(h:0<=tY rs 1048576):pC rs:=by
 unfold tY at h
 by_cases hc:(1048576:Int)-rs.length<0
 ·rw[aC hc]at h;omega
 ·rw[ak hc]at h;exact⟨by omega,λk hk=>zkv rs _ (by omega) (by omega) h (XA hk)⟩
theorem zsx:∀(ns:List aL) (l:Int),0<=l->0<=nA ns l->(ux ns:Int)<=4*ns.length+2*(l-nA ns l)
 |[],l,_,h=>by simp[ux,nA]
 |m::ns,l,hl,h=>by
  have hq:=M9 m.set l hl;have e:nA (m::ns) l=if lO m.set l<0 then -1 else nA ns (lO m.set l):=rfl
  rw[e]at h ⊢
  by_cases hc:lO m.set l<0
  ·rw[aC hc]at h;omega
  ·rw[ak hc]at h ⊢;have:=zsx ns _ (by omega) h;have hs:lO m.set l=l-m.set.length:=by unfold lO at hc ⊢;split at hc<;>omega
   simp only[ux,wU,List.sum_cons,yZ,qu]at this ⊢;omega
theorem zsU(h:0<=jc ns l):(ux ns:Int)<=4*(l-jc ns l):=by
 unfold jc at h ⊢
 by_cases hc:l-ns.length<0
 ·rw[aC hc]at h;omega
 ·rw[ak hc]at h ⊢;have:=zsx ns _ (by omega) h;have:=zhb ns (l-ns.length) (by omega);omega
theorem zsw:∀(ns:List aV) (l:Int),0<=l->0<=nr ns l->(uw ns:Int)<=2*ns.length+4*(l-nr ns l)
 |[],l,_,h=>by simp[uw,nr]
 |m::ns,l,hl,h=>by
  have hq:=M0 m.nodes l hl;have e:nr (m::ns) l=if jc m.nodes l<0 then -1 else nr ns (jc m.nodes l):=rfl
  rw[e]at h ⊢
  by_cases hc:jc m.nodes l<0
  ·rw[aC hc]at h;omega
  ·rw[ak hc]at h ⊢;have:=zsw ns _ (by omega) h;have:=zsU (by omega:0<=jc m.nodes l);simp only[uw,wU,List.sum_cons,yY,qu]at this ⊢;simp only[uw]at *;omega
theorem zsT{ns:List aV}(h:0<=jd ns l):(uw ns:Int)<=4*(l-jd ns l):=by
 unfold jd at h ⊢
 by_cases hc:l-ns.length<0
 ·rw[aC hc]at h;omega
 ·rw[ak hc]at h ⊢;have:=zsw ns _ (by omega) h;have:=zey ns (l-ns.length) (by omega);omega
theorem zsy:∀(ns:List bi) (l:Int),0<=l->0<=nB ns l->(tp ns:Int)<=ns.length+4*(l-nB ns l)
 |[],l,_,h=>by simp[tp,nB]
 |m::ns,l,hl,h=>by
  have hq:=MY m.branches l hl;have e:nB (m::ns) l=if jd m.branches l<0 then -1 else nB ns (jd m.branches l):=rfl
  rw[e]at h ⊢
  by_cases hc:jd m.branches l<0
  ·rw[aC hc]at h;omega
  ·rw[ak hc]at h ⊢;have:=zsy ns _ (by omega) h;have:=zsT (by omega:0<=jd m.branches l);simp only[tp,wU,List.sum_cons,y9,qu]at this ⊢;simp only[tp]at *;omega
theorem zsV(h:0<=tY rs 1048576):tp rs<=4194304:=by
 unfold tY at h
 by_cases hc:(1048576:Int)-rs.length<0
 ·rw[aC hc]at h;omega
 ·rw[ak hc]at h;have:=zsy rs _ (by omega) h;omega
theorem zn9(v:zc)(ns:List bi)(left:Int)(w:zg)(hs:fU lo w v ns)(h0:0<=left)(h1:left<=1048576):
  zi prog 26 #[v,za .i64 left] w λe w'=>e=.returned (za .i64 (tY ns left))/\zf w.heap.size w w':=by
 obtain⟨ao,cap,rfl,hm,hc⟩:=hs
 by_cases hle:left-ns.length<0
 ·go_enter func26,ntmps26
  go_wp2;go_ret;exact⟨gh (by unfold tY;split<;>omega),Below.refl _ _⟩
 ·have HS:zd (tY ns left=nB (ns.drop 0) (left-ns.length)):=by show _=_;rw[tY,ak hle];rfl
  go_enter func26,ntmps26
  go_wp2
  go_loopw [1,5] (λl i wr=>∃k:Nat,k<=ns.length/\i=za .i64 k/\∃L:Int,l=za .i64 L/\0<=L/\L<=1048576/\zd (tY ns left=nB (ns.drop k) L)/\zf w.heap.size w wr)
   (λ_ i _=>ns.length-(intOf i).toNat)
  case atStart=>exact⟨0,aR _,rfl,_,rfl,by omega,by omega,HS,Below.refl _ _⟩
  case round=>
   obtain⟨k,hk,rfl,L,rfl,uE,mN,HS,hb⟩:=hrel
   by_cases hlt:k<ns.length
   ·obtain⟨b,o,nv,nd,rfl,Hn,aZ,c0,c1,zxi⟩:=hc.elem hb hlt;have ir:=zxi.below hb;clear zxi;have hz:=hb.size;have hq:=MY nd.branches L uE;have HD:zd (nB (ns.drop k) L=if jd nd.branches L<0 then -1 else nB (ns.drop (k+1)) (jd nd.branches L)):=by have:=zjf ns k hlt L;rw[Hn.out]at this;exact this
    by_cases ky:jd nd.branches L<0
    ·go_wp2_with (go_at_call 59;refine(zkw _ _ _ _ _ ir uE mN).mono ?_;rintro e w1 ⟨rfl,ag⟩)
     go_ret
     exact⟨gh (by rw[HS.out,HD.out,aC ky]),aq hb hz ag⟩
    ·go_wp2_with (go_at_call 59;refine(zkw _ _ _ _ _ ir uE mN).mono ?_;rintro e w1 ⟨rfl,ag⟩)
     go_roundw
     case rel=>exact⟨k+1,by omega,by go_num,_,rfl,by omega,by omega,by show _=_;rw[HS.out,HD.out,ak (by omega)],aq hb hz ag⟩
     case measure=>simp[intOf];omega
   ·go_wp2;go_ret;exact⟨gh (by rw[HS.out,sI (by omega)];rfl),hb⟩
def Yw(ns:List bi)(S:Nat->zc)(j:Nat):List zc:=[S j,za .i64 (ns.getD j .zero).di]
theorem zpe:(prog.info? 69).map (λi=>(i.zero,i.size,i.bytes))=ze (ze (zj #[zh zb 0 0,za .i64 0]),2,32):=by kernel_rfl
theorem zoe(v:zc)(ns:List bi)(w:zg)(hs:fU lo w v ns)(hsm:pC ns):
  zi prog 34 #[v] w λe w'=>∃v',e=.returned v'/\fU w.heap.size w' v' ns/\Cx w.heap.size w'.heap.size w' v' ns/\zf w.heap.size w w':=by
 obtain⟨ao,cap,rfl,hm,hc⟩:=hs;have hn:=hsm.1;obtain⟨i0,hi,bI,aO,aQ⟩:=info_parts zpe
 go_enter func34,ntmps34
 go_wp2_with (refine wpList_make_full _ rfl _ _ 38 rfl w.heap.size 69 i0 _ 2 underlying38 hi bI aO _ _ _ _ ns.length rfl rfl rfl rfl (by rw[aQ];omega) (by unfold maxLen;omega) (aj _) ?_;intro w1 aB ez)
 have fO:zf w.heap.size w w1:=(Below.refl _ _).grown ez (aj _) (by intro k h;cases h);clear ez
 go_loopw [4] (λi wr=>∃k:Nat,k<=ns.length/\i=za .i64 k/\zf w.heap.size w wr/\∃(xs:List zc) (S:Nat->zc),wr.ownsRow w.heap.size 69 2 (zh (ze ⟨w.heap.size,0,zb⟩) ns.length ns.length) ns.length xs/\
   mD xs 2 k (Yw ns S)/\∀j,j<k->oM (w.heap.size+1) wr (S j) (ns.getD j .zero).branches)
  (λi _=>ns.length-(intOf i).toNat)
 case atStart=>exact⟨0,aR _,rfl,fO,_,λ_=>.nilIface,aB,λj hj=>absurd hj (cR _),λj hj=>absurd hj (cR _)⟩
 case round=>
  obtain⟨k,hk,rfl,hb,xs,S,aB,eH,rr⟩:=hrel;have HS:zd (∀j,j<k->oM (w.heap.size+1) wr (S j) (ns.getD j .zero).branches):=rr;clear rr;have fD:=pE aB
  by_cases hlt:k<ns.length
  ·obtain⟨b,o,nv,nd,rfl,Hn,aZ,c0,c1,Mi⟩:=hc.elem hb hlt;have dr:=Mi.below hb;clear Mi;have GV:zd (Small nd.branches):=by have:=hsm.2 k hlt;rw[Hn.out]at this;exact this
   go_wp2_with (go_at_call 68;refine(zod _ _ _ _ dr GV.out).mono ?_;rintro e w2 ⟨sj,rfl,hr,ae⟩;have pu:=hr.2;obtain⟨jD,cap',rfl,uP,hc'⟩:=hr.1;have j7:=dQ aB ae;obtain⟨u0,u1,d0,d1,f0,f1⟩:=DG j7 hlt)
   go_roundw
   case rel=>
    refine⟨k+1,by omega,by go_num,?_,_,upd S k (.slice jD nd.branches.length cap'),((j7.stored _ _).1.stored _ _).1,Xu (eH.congr λj hj=>by simp only[Yw,JO _ _ hj]) (by have:=j7.1;omega) (by rw[Yw,Hn.out,JD]),λj hj=>?_⟩
    ·iterate 2 refine Below.setCell ?_ (by simp) _
     exact aq hb hb.size ae
    ·iterate 2 refine oM.setCell ?_ (by simp<;>omega) _
     by_cases e:j=k
     ·subst e;rw[JD,Hn.out];exact oM.mono ⟨⟨_,_,rfl,uP,hc'⟩,pu⟩ (by omega)
     ·rw[JO _ _ (by omega)];exact(HS.out j (by omega)).below ae
   case measure=>simp[intOf];omega
  ·go_wp2;have bK:k=ns.length:=by omega
   rw[bK]at eH HS;refine bh (v:=zh (ze ⟨w.heap.size,0,zb⟩) ns.length ns.length) (by simp[results,results34,go_sem]) rfl ⟨_,rfl,⟨_,_,rfl,hm,λ_=>⟨w.heap.size,0,rfl,aj _,fD,λi hi=>?_⟩⟩,?_,hb⟩
   rotate_left
   ·refine⟨_,_,rfl,λ_=>⟨w.heap.size,0,xs.toArray,rfl,aj _,fD,wO aB,by have:=aB.1;simp;omega,λi hi=>?_⟩⟩;have hr:=λk=>aM _ _ k _ _ _ (wO aB)
    refine⟨?_,S i,?_,(HS.out i hi).2.keep (by omega) (aj _) λ_ _ _ _ e=>e⟩
    ·have e:=kL aB eH (c:=1) hi (by omega);rw[jw,<-hr,e]
     rfl
    ·have e:=kL aB eH (c:=0) hi (by omega);rw[uf]at e;rw[jw,<-hr,e]
     rfl
   have e0:=kL aB eH (c:=0) hi (by omega);have e1:=kL aB eH (c:=1) hi (by omega);simp only[uf,jw]at e0 e1 ⊢;exact⟨⟨_,e0,(HS.out i hi).1.mono (by omega)⟩,e1⟩
theorem zni{l1 l2:Nat}(v v2:zc)(rs:List bi)(w:zg)(hs:fU l1 w v rs)(cV:fU l2 w v2 rs):
  zi prog 40 #[v,v2] w λe w'=>e=.returned (.bool true)/\zf w.heap.size w w':=by
 obtain⟨ao,cap,rfl,hm,hc⟩:=hs;obtain⟨iD,fB,rfl,_,eW⟩:=cV
 go_enter func40,ntmps40
 go_wp2
 go_loopw [5] (λi wr=>∃k:Nat,k<=rs.length/\i=za .i64 k/\zf w.heap.size w wr)
  (λi _=>rs.length-(intOf i).toNat)
 case atStart=>exact⟨0,aR _,rfl,Below.refl _ _⟩
 case round=>
  obtain⟨k,hk,rfl,hb⟩:=hrel
  by_cases hlt:k<rs.length
  ·obtain⟨b,o,nv,nd,rfl,Hn,aZ,c0,c1,dr⟩:=hc.elem hb hlt;obtain⟨b2,o2,py,MI,rfl,fJ,jl,d0,d1,IY⟩:=eW.elem hb hlt;have qI:nd=MI:=Hn.out.symm.trans fJ.out;subst qI;have aD:b<wr.heap.size:=bA aZ hb.size;have iE:b2<wr.heap.size:=bA jl hb.size;have da:(0:Int)<=(k:Int):=by omega
   have cO:(k:Int)<(rs.length:Int):=by omega
   have uS:eh l1 wr.drew nv nd.branches:=dr.below hb.drew;have mS:eh l2 wr.drew py nd.branches:=IY.below hb.drew;clear dr IY;go_wp2
   go_region_held3 (λw'=>w'.cell? ⟨b,o+k*2,zb⟩=ze nv/\w'.cell? ⟨b,o+k*2+1,zb⟩=ze (za .i64 nd.di)/\w'.cell? ⟨b2,o2+k*2,zb⟩=ze py/\w'.cell? ⟨b2,o2+k*2+1,zb⟩=ze (za .i64 nd.di)) ((first|go_keep|exact⟨(hcc _ _ aD).trans c0,(hcc _ _ aD).trans c1,(hcc _ _ iE).trans d0,(hcc _ _ iE).trans d1⟩)) ((go_at_call 78;refine(zoW _ _ _ _ _ uS mS).mono ?_;rintro e w2 ⟨rfl,ae⟩;obtain⟨hcc,_⟩:=uc ae))
   go_wp2
   go_roundw
   case rel=>exact⟨k+1,by omega,by go_num,aq hb.drew hb.size ae⟩
   case measure=>simp[intOf];omega
  ·go_wp2;go_ret;exact⟨rfl,hb⟩
end
section
variable {lo T n cE:Nat}{w W:zg}{v:zc}{rs:List Int}
def rB(lo T:Nat)(w:zg)(v:zc)(n:Nat):Prop:=∃ao cap,v=.slice ao n cap/\(0<n->∃(b o:Nat) (cs:Array zc),ao=ze ⟨b,o,zb⟩/\lo<=b/\b<T/\w.heap[b]?=ze (.cells cs 3 (0,0))/\o+n<=cs.size/\∀i,i<n->pz cs[o+i]?=false)
theorem rB.mk(h:rB lo T w v n)(k:eD lo T w W):rB lo T W v n:=by
 obtain⟨ao,cap,rfl,h⟩:=h;refine⟨ao,cap,rfl,λh0=>?_⟩;obtain⟨b,o,cs,rfl,h1,h2,h3,h4,h5⟩:=h h0;obtain⟨fN,e,s,p,q⟩:=k.row b cs _ h3;exact⟨b,o,fN,rfl,h1,h2,e,by omega,λi hi=>q _ (h5 i hi)⟩
theorem rB.keep{T':Nat}(h:rB lo T w v n)(hl:cE<=lo)(hT:T<=T')(hk:∀(b:Nat) (o:Obj),lo<=b->b<T->w.heap[b]?=ze o->W.heap[b]?=ze o):rB cE T' W v n:=by
 obtain⟨ao,cap,rfl,h⟩:=h;refine⟨ao,cap,rfl,λh0=>?_⟩;obtain⟨b,o,cs,rfl,h1,h2,h3,h4,h5⟩:=h h0;exact⟨b,o,cs,rfl,by omega,by omega,hk b _ h1 h2 h3,h4,h5⟩
def fL(lo:Nat)(w:zg)(v:zc)(rs:List Int):Prop:=iO lo w v rs/\rB lo w.heap.size w v rs.length
theorem fL.below{w':zg}(h:fL lo w v rs)(hb:zf w.heap.size w w'):fL lo w' v rs:=⟨h.1.below hb,h.2.keep (aj _) hb.size λb _ _ hl e=>(hb.block b hl).trans e⟩
theorem fL.mono(h:fL lo w v rs)(hl:cE<=lo):fL cE w v rs:=⟨h.1.mono hl,h.2.keep hl (aj _) λ_ _ _ _ e=>e⟩
theorem fL.setCell(h:fL lo w v rs){a:Addr}(ha:a.block<lo)(u:zc):fL lo (w.setCell a u) v rs:=⟨h.1.setCell ha u,h.2.keep (aj _) (by simp[World.setCell]) λ_ _ hb _ e=>(cH _ _ _ _ (by omega)).trans e⟩
theorem FW(v:zc)(xs:List Int)(w:zg)(hs:iO lo w v xs)(hn:xs.length<=1048576):
  zi prog 69 #[v] w λe w'=>∃v',e=.returned v'/\fL w.heap.size w' v' xs/\zf w.heap.size w w':=by
 obtain⟨ao,cap,rfl,hm,hc⟩:=hs;obtain⟨i0,hi,bI,aO,aQ⟩:=info_parts Tryz.P0
 go_enter func69,ntmps69
 go_wp2_with (refine wpList_make_full _ rfl _ _ 23 rfl w.heap.size 3 i0 _ 1 underlying23 hi bI aO _ _ _ _ xs.length rfl rfl rfl rfl (by rw[aQ];omega) (by unfold maxLen;omega) (aj _) ?_;intro w1 aB ez)
 have fO:zf w.heap.size w w1:=(Below.refl _ _).grown ez (aj _) (by intro k h;cases h);clear ez
 go_loopw [4] (λi wr=>∃k:Nat,k<=xs.length/\i=za .i64 k/\zf w.heap.size w wr/\∃zs:List zc,wr.ownsRow w.heap.size 3 1 (zh (ze ⟨w.heap.size,0,zb⟩) xs.length xs.length) xs.length zs/\
   mD zs 1 k (λj=>[za .i64 (xs.getD j 0)]))
  (λi _=>xs.length-(intOf i).toNat)
 case atStart=>exact⟨0,aR _,rfl,fO,_,aB,λj hj=>absurd hj (cR _)⟩
 case round=>
  obtain⟨k,hk,rfl,hb,zs,aB,eH⟩:=hrel
  by_cases hlt:k<xs.length
  ·obtain⟨b,o,x,rfl,Hn,aZ,c0⟩:=hc.elem hb hlt;obtain⟨u0,d0⟩:=sw aB (j:=k) (by omega);have f0:=aB.frozenAt k;go_wp2
   go_roundw
   case rel=>exact⟨k+1,by omega,by go_num,hb.setCell (by simp) _,_,(aB.stored _ _).1,znn eH (by have:=aB.1;omega) (by rw[Hn.out])⟩
   case measure=>simp[intOf];omega
  ·go_wp2;have bK:k=xs.length:=by omega
   refine bh (v:=zh (ze ⟨w.heap.size,0,zb⟩) xs.length xs.length) (by simp[results,results69,go_sem]) rfl ⟨_,rfl,⟨⟨_,_,rfl,hm,λ_=>⟨w.heap.size,0,rfl,aj _,pE aB,λi hi=>?_⟩⟩,?_⟩,hb⟩
   all_goals rw[bK]at eH
   rotate_left
   ·refine⟨_,_,rfl,λ_=>⟨w.heap.size,0,zs.toArray,rfl,aj _,pE aB,wO aB,by have:=aB.1;simp;omega,λi hi=>?_⟩⟩;have hr:=aM _ _ i _ _ _ (wO aB);have e:=kL aB eH (i:=i) (c:=0) (by omega) (by omega);rw[show i*1+0=i by omega]at e;rw[jw,<-hr,e]
    rfl
   have e0:=kL aB eH (c:=0) hi (by omega)
   simpa using e0
theorem FO(v:zc)(n:Nat)(k:Int)(w:zg)(h:rB lo T w v n)(hk:0<=k/\k+(n:Int)<=100000000):
  zi prog 81 #[v,za .i64 k] w λe W=>e=.returned (za .i64 (k+(n:Int)))/\eD lo T w W:=by
 obtain⟨ao,cap,rfl,h⟩:=h;have gZ:=hk.1;have db:=hk.2;have H:zd _:=h;clear h hk
 go_enter func81,ntmps81
 go_wp2
 go_loopw [1,5] (λkv iv wr=>∃i:Nat,i<=n/\iv=za .i64 i/\kv=za .i64 (k+(i:Int))/\zd (eD lo T w wr)) (λ_ iv _=>n-(intOf iv).toNat)
 case atStart=>exact⟨0,aR _,rfl,by simp,eD.refl _ _ _⟩
 case round=>
  obtain⟨i,hi,rfl,rfl,HM⟩:=hrel
  by_cases hlt:i<n
  ·obtain⟨b,o,cs,rfl,h1,h2,h3,h4,h5⟩:=H.out (by omega);obtain⟨cs1,e1,s1,p1,q1⟩:=HM.out.row b cs _ h3;obtain⟨u0,c0⟩:=Rc e1 (i:=o+i) (by omega);have f0:=cT _ _ (o+i) _ _ e1;have m1:=eD.put e1 h1 h2 (q1 _ (h5 i (by omega))) (za .i64 (k+(i:Int))) rfl;have yJ:zd _:=HM.out.trans m1;have da:(0:Int)<=(i:Int):=by omega
   have cO:(i:Int)<(n:Int):=by omega
   obtain⟨kk,bK⟩:∃kk:Int,k+(i:Int)=kk:=⟨_,rfl⟩;have zzQ:0<=kk:=by omega
   have zzR:kk<=100000000:=by omega
   rw[bK]at yJ ⊢;have Ck:zd _:=bK;clear m1 e1 p1 q1 s1 h3 h4 h5 bK HM;go_wp2
   go_roundw
   case rel=>exact⟨i+1,by omega,by go_num,by rw[<-Ck.out];go_num,yJ⟩
   case measure=>simp[intOf];omega
  ·obtain rfl:i=n:=by omega
   have HF:zd (eD lo T w wr):=HM.out;clear HM;go_wp2;go_ret;exact⟨rfl,HF.out⟩
end
section
variable {lo:Nat}
structure wS(lo:Nat)(w:zg)(cv bv fv tv ev nv kv:zc)(d:bj):Prop where
 cG:fL lo w cv d.cG
 base:fL lo w bv d.base
 cA:fL lo w fv d.cA
 tag:fL lo w tv d.tag
 fin:fL lo w ev d.fin
 next:fL lo w nv d.next
 bH:fL lo w kv d.bH
theorem wS.jK{w:zg}{cv bv fv tv ev nv kv:zc}{d:bj}(h:wS lo w cv bv fv tv ev nv kv d):fV lo w cv bv fv tv ev nv kv d:=
 ⟨h.cG.1,h.base.1,h.cA.1,h.tag.1,h.fin.1,h.next.1,h.bH.1⟩
theorem zlZ(cv bv fv tv ev nv kv:zc)(d:bj)(w:zg)(hs:fV lo w cv bv fv tv ev nv kv d)(hsm:zP d):
  zi prog 35 #[zj #[cv,za .i64 d.width,bv,fv,tv,ev,nv,kv]] w λe w'=>∃uA qD mL vi uC qT uY,e=.returned (zj #[uA,za .i64 d.width,qD,mL,vi,uC,qT,uY])/\wS w.heap.size w' uA qD mL vi uC qT uY d/\zf w.heap.size w w':=by
 have eQ:d.cG.length<=1048576:=hsm _ (by simp[bj.lists]);have dw:d.base.length<=1048576:=hsm _ (by simp[bj.lists]);have dG:d.cA.length<=1048576:=hsm _ (by simp[bj.lists]);have we:d.tag.length<=1048576:=hsm _ (by simp[bj.lists]);have hm4:d.fin.length<=1048576:=hsm _ (by simp[bj.lists]);have Bn:d.next.length<=1048576:=hsm _ (by simp[bj.lists]);have zy:d.bH.length<=1048576:=hsm _ (by simp[bj.lists]);have T:=vJ.new w 25 39 39 #[cv,za .i64 d.width,bv,fv,tv,ev,nv,kv] #[zh zb 0 0,za .i64 0,zh zb 0 0,zh zb 0 0,zh zb 0 0,zh zb 0 0,zh zb 0 0,zh zb 0 0] #[zh zb 0 0,za .i64 0,zh zb 0 0,zh zb 0 0,zh zb 0 0,zh zb 0 0,zh zb 0 0,zh zb 0 0]
 go_enter func35,ntmps35
 go_wp2_with fail
 refine(FW _ d.cG _ (hs.below T.below).cG eQ).mono ?_;rintro e w1 ⟨v0,rfl,dx,hb⟩;replace dx:=fL.mono dx T.size;replace T:=T.call hb;clear hb;obtain⟨⟨uq,xq,rfl,wh,hc⟩,hx⟩:=dx;replace dx:fL (w.heap.size+1+1+1) w1 (.slice uq d.cG.length xq) d.cG:=⟨⟨_,_,rfl,wh,hc⟩,hx⟩;clear hc hx;obtain⟨c0,c1,c2,f1,f2⟩:=T.cells
 go_wp2_with fail
 clear c0 c1 c2 f1 f2;replace T:=T.set 0 (.slice uq d.cG.length xq);replace dx:=dx.setCell (a:=⟨w.heap.size+1+1,0,zb⟩) (by simp) (.slice uq d.cG.length xq);replace T:=T.set 1 (za .i64 d.width);replace dx:=dx.setCell (a:=⟨w.heap.size+1+1,1,zb⟩) (by simp) (za .i64 d.width);refine(FW _ d.base _ (hs.below T.below).base dw).mono ?_;rintro e w2 ⟨v1,rfl,eT,hb⟩;replace eT:=fL.mono eT T.size;replace dx:=dx.below hb;replace T:=T.call hb;clear hb;obtain⟨⟨vM,tq,rfl,rT,hc⟩,hx⟩:=eT;replace eT:fL (w.heap.size+1+1+1) w2 (.slice vM d.base.length tq) d.base:=⟨⟨_,_,rfl,rT,hc⟩,hx⟩;clear hc hx;obtain⟨c0,c1,c2,f1,f2⟩:=T.cells
 go_wp2_with fail
 clear c0 c1 c2 f1 f2;replace T:=T.set 2 (.slice vM d.base.length tq);replace dx:=dx.setCell (a:=⟨w.heap.size+1+1,2,zb⟩) (by simp) (.slice vM d.base.length tq);replace eT:=eT.setCell (a:=⟨w.heap.size+1+1,2,zb⟩) (by simp) (.slice vM d.base.length tq);refine(FW _ d.cA _ (hs.below T.below).cA dG).mono ?_;rintro e w3 ⟨v2,rfl,gI,hb⟩;replace gI:=fL.mono gI T.size;replace dx:=dx.below hb;replace eT:=eT.below hb;replace T:=T.call hb;clear hb;obtain⟨⟨iD,fB,rfl,n8,hc⟩,hx⟩:=gI;replace gI:fL (w.heap.size+1+1+1) w3 (.slice iD d.cA.length fB) d.cA:=⟨⟨_,_,rfl,n8,hc⟩,hx⟩;clear hc hx;obtain⟨c0,c1,c2,f1,f2⟩:=T.cells
 go_wp2_with fail
 clear c0 c1 c2 f1 f2;replace T:=T.set 3 (.slice iD d.cA.length fB);replace dx:=dx.setCell (a:=⟨w.heap.size+1+1,3,zb⟩) (by simp) (.slice iD d.cA.length fB);replace eT:=eT.setCell (a:=⟨w.heap.size+1+1,3,zb⟩) (by simp) (.slice iD d.cA.length fB);replace gI:=gI.setCell (a:=⟨w.heap.size+1+1,3,zb⟩) (by simp) (.slice iD d.cA.length fB);refine(FW _ d.tag _ (hs.below T.below).tag we).mono ?_;rintro e w4 ⟨v3,rfl,mU,hb⟩;replace mU:=fL.mono mU T.size;replace dx:=dx.below hb;replace eT:=eT.below hb;replace gI:=gI.below hb;replace T:=T.call hb;clear hb;obtain⟨⟨Ey,EC,rfl,Fa,hc⟩,hx⟩:=mU;replace mU:fL (w.heap.size+1+1+1) w4 (.slice Ey d.tag.length EC) d.tag:=⟨⟨_,_,rfl,Fa,hc⟩,hx⟩;clear hc hx;obtain⟨c0,c1,c2,f1,f2⟩:=T.cells
 go_wp2_with fail
 clear c0 c1 c2 f1 f2;replace T:=T.set 4 (.slice Ey d.tag.length EC);replace dx:=dx.setCell (a:=⟨w.heap.size+1+1,4,zb⟩) (by simp) (.slice Ey d.tag.length EC);replace eT:=eT.setCell (a:=⟨w.heap.size+1+1,4,zb⟩) (by simp) (.slice Ey d.tag.length EC);replace gI:=gI.setCell (a:=⟨w.heap.size+1+1,4,zb⟩) (by simp) (.slice Ey d.tag.length EC);replace mU:=mU.setCell (a:=⟨w.heap.size+1+1,4,zb⟩) (by simp) (.slice Ey d.tag.length EC);refine(FW _ d.fin _ (hs.below T.below).fin hm4).mono ?_;rintro e w5 ⟨v4,rfl,n9,hb⟩;replace n9:=fL.mono n9 T.size;replace dx:=dx.below hb;replace eT:=eT.below hb;replace gI:=gI.below hb;replace mU:=mU.below hb;replace T:=T.call hb;clear hb;obtain⟨⟨Cz,CE,rfl,hn4,hc⟩,hx⟩:=n9;replace n9:fL (w.heap.size+1+1+1) w5 (.slice Cz d.fin.length CE) d.fin:=⟨⟨_,_,rfl,hn4,hc⟩,hx⟩;clear hc hx;obtain⟨c0,c1,c2,f1,f2⟩:=T.cells
 go_wp2_with fail
 clear c0 c1 c2 f1 f2;replace T:=T.set 5 (.slice Cz d.fin.length CE);replace dx:=dx.setCell (a:=⟨w.heap.size+1+1,5,zb⟩) (by simp) (.slice Cz d.fin.length CE);replace eT:=eT.setCell (a:=⟨w.heap.size+1+1,5,zb⟩) (by simp) (.slice Cz d.fin.length CE);replace gI:=gI.setCell (a:=⟨w.heap.size+1+1,5,zb⟩) (by simp) (.slice Cz d.fin.length CE);replace mU:=mU.setCell (a:=⟨w.heap.size+1+1,5,zb⟩) (by simp) (.slice Cz d.fin.length CE);replace n9:=n9.setCell (a:=⟨w.heap.size+1+1,5,zb⟩) (by simp) (.slice Cz d.fin.length CE);refine(FW _ d.next _ (hs.below T.below).next Bn).mono ?_;rintro e w6 ⟨v5,rfl,xL,hb⟩;replace xL:=fL.mono xL T.size;replace dx:=dx.below hb;replace eT:=eT.below hb;replace gI:=gI.below hb;replace mU:=mU.below hb;replace n9:=n9.below hb;replace T:=T.call hb;clear hb;obtain⟨⟨AK,gF,rfl,UY,hc⟩,hx⟩:=xL;replace xL:fL (w.heap.size+1+1+1) w6 (.slice AK d.next.length gF) d.next:=⟨⟨_,_,rfl,UY,hc⟩,hx⟩;clear hc hx;obtain⟨c0,c1,c2,f1,f2⟩:=T.cells
 go_wp2_with fail
 clear c0 c1 c2 f1 f2;replace T:=T.set 6 (.slice AK d.next.length gF);replace dx:=dx.setCell (a:=⟨w.heap.size+1+1,6,zb⟩) (by simp) (.slice AK d.next.length gF);replace eT:=eT.setCell (a:=⟨w.heap.size+1+1,6,zb⟩) (by simp) (.slice AK d.next.length gF);replace gI:=gI.setCell (a:=⟨w.heap.size+1+1,6,zb⟩) (by simp) (.slice AK d.next.length gF);replace mU:=mU.setCell (a:=⟨w.heap.size+1+1,6,zb⟩) (by simp) (.slice AK d.next.length gF);replace n9:=n9.setCell (a:=⟨w.heap.size+1+1,6,zb⟩) (by simp) (.slice AK d.next.length gF);replace xL:=xL.setCell (a:=⟨w.heap.size+1+1,6,zb⟩) (by simp) (.slice AK d.next.length gF);refine(FW _ d.bH _ (hs.below T.below).bH zy).mono ?_;rintro e w7 ⟨v6,rfl,Bu,hb⟩;replace Bu:=fL.mono Bu T.size;replace dx:=dx.below hb;replace eT:=eT.below hb;replace gI:=gI.below hb;replace mU:=mU.below hb;replace n9:=n9.below hb;replace xL:=xL.below hb;replace T:=T.call hb;clear hb;obtain⟨⟨ao6,AR,rfl,Fb,hc⟩,hx⟩:=Bu;replace Bu:fL (w.heap.size+1+1+1) w7 (.slice ao6 d.bH.length AR) d.bH:=⟨⟨_,_,rfl,Fb,hc⟩,hx⟩;clear hc hx;obtain⟨c0,c1,c2,f1,f2⟩:=T.cells;go_wp2;refine bh (v:=zj #[.slice uq d.cG.length xq,za .i64 d.width,.slice vM d.base.length tq,.slice iD d.cA.length fB,.slice Ey d.tag.length EC,.slice Cz d.fin.length CE,.slice AK d.next.length gF,.slice ao6 d.bH.length AR]) (by simp[results,results35,go_sem,c1]) rfl ⟨_,_,_,_,_,_,_,rfl,?_,?_⟩
 ·constructor
  all_goals
   refine fL.mono (lo:=w.heap.size+1+1+1) ?_ (by omega)
   iterate 9 refine fL.setCell ?_ (by simp) _
  ·exact dx
  ·exact eT
  ·exact gI
  ·exact mU
  ·exact n9
  ·exact xL
  ·exact Bu
 ·iterate 9 refine Below.setCell ?_ (by simp<;>omega) _
  exact T.below
end
end
end Go.Proofs.YtdimhpfiieepiaaGreatDoor
