import Derived.Test.YtdimhpfiieepiaaGreatDoorC50
import Derived.WalkMore
namespace Go.Proofs.YtdimhpfiieepiaaGreatDoor
open Proofs.Tryz
open Option renaming none->za,some->ze
open Value renaming int->zb,slice->zd,agg->aa
open Go renaming Value->zc,World->zf,Calls->zj
open RowKit renaming Below->zg,Hid->ab
set_option maxHeartbeats 4000000
set_option maxRecDepth 100000
open Go.RowKit
section
variable {lo T T' cU:Nat}{w W w':zf}{v:zc}{rs:List (Int×Int)}
theorem zQ.keep{n:Nat}(h:zQ lo T w v n)(hl:cU<=lo)(hT:T<=T')(hk:∀(b:Nat) (o:Obj),lo<=b->b<T->w.heap[b]?=ze o->W.heap[b]?=ze o):zQ cU T' W v n:=by
 obtain⟨ao,cap,rfl,h⟩:=h;refine⟨ao,cap,rfl,λh0=>?_⟩;obtain⟨b,o,cs,rfl,h1,h2,h3,h4,h5⟩:=h h0;exact⟨b,o,cs,rfl,by omega,by omega,hk b _ h1 h2 h3,h4,h5⟩
theorem zN.keep{ns:List aM}(h:zN lo T w v ns)(hl:cU<=lo)(hT:T<=T')(hk:∀(b:Nat) (o:Obj),lo<=b->b<T->w.heap[b]?=ze o->W.heap[b]?=ze o):zN cU T' W v ns:=by
 obtain⟨ao,cap,rfl,h⟩:=h;refine⟨ao,cap,rfl,λh0=>?_⟩;obtain⟨b,o,cs,rfl,h1,h2,h3,h4,h5⟩:=h h0;refine⟨b,o,cs,rfl,by omega,by omega,hk b _ h1 h2 h3,h4,λi hi=>?_⟩;obtain⟨g1,sv,g2,g3⟩:=h5 i hi;exact⟨g1,sv,g2,g3.keep hl hT hk⟩
theorem zA.keep{bs:List aW}(h:zA lo T w v bs)(hl:cU<=lo)(hT:T<=T')(hk:∀(b:Nat) (o:Obj),lo<=b->b<T->w.heap[b]?=ze o->W.heap[b]?=ze o):zA cU T' W v bs:=by
 obtain⟨ao,cap,rfl,h⟩:=h;refine⟨ao,cap,rfl,λh0=>?_⟩;obtain⟨b,o,cs,rfl,h1,h2,h3,h4,h5⟩:=h h0;refine⟨b,o,cs,rfl,by omega,by omega,hk b _ h1 h2 h3,h4,λi hi=>?_⟩;obtain⟨g1,sv,g2,g3⟩:=h5 i hi;exact⟨g1,sv,g2,g3.keep hl hT hk⟩
def oQ(lo:Nat)(w:zf)(v:zc)(rs:List (Int×Int)):Prop:=dD lo w v rs/\zQ lo w.heap.size w v rs.length
theorem oQ.below(h:oQ lo w v rs)(hb:zg w.heap.size w w'):oQ lo w' v rs:=⟨h.1.below hb,h.2.keep (ai _) hb.size λb _ _ hl e=>(hb.block b hl).trans e⟩
theorem oQ.mono(h:oQ lo w v rs)(hl:cU<=lo):oQ cU w v rs:=⟨h.1.mono hl,h.2.keep hl (ai _) λ_ _ _ _ e=>e⟩
theorem oQ.setCell(h:oQ lo w v rs){a:Addr}(ha:a.block<lo)(u:zc):oQ lo (w.setCell a u) v rs:=⟨h.1.setCell ha u,h.2.keep (ai _) (by simp[World.setCell]) λ_ _ hb _ e=>(cu _ _ _ _ (by omega)).trans e⟩
def oM(lo:Nat)(w:zf)(v:zc)(rs:List aM):Prop:=dU lo w v rs/\zN lo w.heap.size w v rs
theorem oM.below{rs:List aM}(h:oM lo w v rs)(hb:zg w.heap.size w w'):oM lo w' v rs:=⟨h.1.below hb,h.2.keep (ai _) hb.size λb _ _ hl e=>(hb.block b hl).trans e⟩
theorem oM.mono{rs:List aM}(h:oM lo w v rs)(hl:cU<=lo):oM cU w v rs:=⟨h.1.mono hl,h.2.keep hl (ai _) λ_ _ _ _ e=>e⟩
theorem oM.setCell{rs:List aM}(h:oM lo w v rs){a:Addr}(ha:a.block<lo)(u:zc):oM lo (w.setCell a u) v rs:=⟨h.1.setCell ha u,h.2.keep (ai _) (by simp[World.setCell]) λ_ _ hb _ e=>(cu _ _ _ _ (by omega)).trans e⟩
def oG(lo:Nat)(w:zf)(v:zc)(rs:List aW):Prop:=eh lo w v rs/\zA lo w.heap.size w v rs
theorem oG.below{rs:List aW}(h:oG lo w v rs)(hb:zg w.heap.size w w'):oG lo w' v rs:=⟨h.1.below hb,h.2.keep (ai _) hb.size λb _ _ hl e=>(hb.block b hl).trans e⟩
theorem oG.mono{rs:List aW}(h:oG lo w v rs)(hl:cU<=lo):oG cU w v rs:=⟨h.1.mono hl,h.2.keep hl (ai _) λ_ _ _ _ e=>e⟩
theorem oG.setCell{rs:List aW}(h:oG lo w v rs){a:Addr}(ha:a.block<lo)(u:zc):oG lo (w.setCell a u) v rs:=⟨h.1.setCell ha u,h.2.keep (ai _) (by simp[World.setCell]) λ_ _ hb _ e=>(cu _ _ _ _ (by omega)).trans e⟩
theorem zlR(v:zc)(rs:List (Int×Int))(w:zf)(hs:dD lo w v rs)(hn:rs.length<=1048576):
  zj prog 175 #[v] w λe w'=>∃v',e=.returned v'/\oQ w.heap.size w' v' rs/\zg w.heap.size w w':=by
 obtain⟨ao,cap,rfl,hm,hc⟩:=hs;obtain⟨i0,hi,bK,bh,bz⟩:=info_parts Tryz.zy1
 go_enter func175,ntmps175
 go_wp2_with (refine wpList_make_full _ rfl _ _ 147 rfl w.heap.size 211 i0 _ 2 underlying147 hi bK bh _ _ _ _ rs.length rfl rfl rfl rfl (by rw[bz];omega) (by unfold maxLen;omega) (ai _) ?_;intro w1 az eF)
 have ed:zg w.heap.size w w1:=(Below.refl _ _).grown eF (ai _) (by intro k h;cases h);clear eF
 go_loopw [4] (λi wr=>∃k:Nat,k<=rs.length/\i=zb .i64 k/\zg w.heap.size w wr/\∃xs:List zc,wr.ownsRow w.heap.size 211 2 (zd (ze ⟨w.heap.size,0,za⟩) rs.length rs.length) rs.length xs/\
   nu xs 2 k (λj=>[zb .i64 (rs.getD j (0,0)).1,zb .i64 (rs.getD j (0,0)).2]))
  (λi _=>rs.length-(intOf i).toNat)
 case atStart=>exact⟨0,aZ _,rfl,ed,_,az,λj hj=>absurd hj (dk _)⟩
 case round=>
  obtain⟨k,hk,rfl,hb,xs,az,eQ⟩:=hrel
  by_cases hlt:k<rs.length
  ·obtain⟨b,o,lo,hi,rfl,Hn,bu,c0,c1⟩:=hc.elem hb hlt
   go_wp2_with (go_at_call 197;refine(zn3 _ _ _).mono ?_;rintro e w2 ⟨rfl,af⟩;have kV:=cI az af;obtain⟨u0,u1,d0,d1,f0,f1⟩:=L8 kV hlt)
   go_roundw
   case rel=>exact⟨k+1,by omega,by go_num,((aj hb hb.size af).setCell (ai _) _).setCell (ai _) _,_,((kV.stored _ _).1.stored _ _).1,zhT eQ (by have:=kV.1;omega) (by rw[Hn.out])⟩
   case measure=>simp[intOf];omega
  ·go_wp2;have bC:k=rs.length:=by omega
   refine bD (v:=zd (ze ⟨w.heap.size,0,za⟩) rs.length rs.length) (by simp[results,results175,go_sem]) rfl ⟨_,rfl,⟨⟨_,_,rfl,hm,λ_=>⟨w.heap.size,0,rfl,ai _,qd az,λi hi=>?_⟩⟩,?_⟩,hb⟩
   all_goals rw[bC]at eQ
   rotate_left
   ·refine⟨_,_,rfl,λ_=>⟨w.heap.size,0,xs.toArray,rfl,ai _,qd az,wA az,by have:=az.1;simp;omega,λi hi=>?_⟩⟩;have hr:=aO _ _ i _ _ _ (wA az);have e:=lK az eQ (i:=i/2) (c:=i%2) (by omega) (by omega);rw[show i/2*2+i%2=i by omega]at e;rw[kn,<-hr];rcases(show i%2=0\/i%2=1 by omega) with h2|h2<;>simp only[h2]at e<;>simp[e,pj]
   have e0:=lK az eQ (c:=0) hi (by omega);have e1:=lK az eQ (c:=1) hi (by omega);simp only[wH,kn]at e0 e1 ⊢;exact⟨e0,e1⟩
theorem zn2(k mn mx g:Int)(sv:zc)(rs:List (Int×Int))(w:zf)(hs:dD lo w sv rs)(hn:rs.length<=1048576):
  zj prog 154 #[aa #[zb .i64 k,sv,zb .i64 mn,zb .i64 mx,zb .i64 g]] w λe w'=>∃rY,e=.returned (aa #[zb .i64 k,rY,zb .i64 mn,zb .i64 mx,zb .i64 g])/\oQ w.heap.size w' rY rs/\zg w.heap.size w w':=by
 go_enter func154,ntmps154
 go_wp2_with fail
 refine(zlR (lo:=lo) _ rs _ (hs.below ?_) hn).mono ?_
 ·exact((au).alloc (by simp) _).alloc (by simp;omega) _
 rintro e w2 ⟨rY,rfl,hr,hb⟩;have hw:=hr.2;obtain⟨j7,cap',rfl,uF,hc'⟩:=hr.1;obtain⟨hcc,Ec⟩:=vi hb;have hz:=hb.size;simp only[World.size_alloc]at hc' hz hw;have hr:oQ (w.heap.size+1+1+1) w2 (.slice j7 rs.length cap') rs:=⟨⟨_,_,rfl,uF,hc'⟩,hw⟩;have cX:=(((((Below.refl w.heap.size w).alloc (ai _) _).alloc (by simp) _).alloc (by simp;omega) _).trans (hb.mono (by simp;omega)));clear hb;go_wp2;refine bD (v:=aa #[zb .i64 k,.slice j7 rs.length cap',zb .i64 mn,zb .i64 mx,zb .i64 g]) (by simp[results,results154,go_sem,hcc]) rfl ⟨_,rfl,?_,?_⟩
 ·refine oQ.mono (lo:=w.heap.size+1+1+1) ?_ (by omega)
  iterate 9 refine oQ.setCell ?_ (by simp) _
  exact hr
 ·iterate 9 refine Below.setCell ?_ (by simp<;>omega) _
  exact cX
theorem zlQ(v:zc)(ns:List aM)(w:zf)(hs:dU lo w v ns)(hn:ns.length<=1048576)(n8:∀i,i<ns.length->(ns.getD i .zero).set.length<=1048576):
  zj prog 137 #[v] w λe w'=>∃v',e=.returned v'/\oM w.heap.size w' v' ns/\zg w.heap.size w w':=by
 obtain⟨ao,cap,rfl,hm,hc⟩:=hs;obtain⟨i0,hi,bK,bh,bz⟩:=info_parts Tryz.zyX
 go_enter func137,ntmps137
 go_wp2_with (refine wpList_make_full _ rfl _ _ 113 rfl w.heap.size 149 i0 _ 5 underlying113 hi bK bh _ _ _ _ ns.length rfl rfl rfl rfl (by rw[bz];omega) (by unfold maxLen;omega) (ai _) ?_;intro w1 az eF)
 have ed:zg w.heap.size w w1:=(Below.refl _ _).grown eF (ai _) (by intro k h;cases h);clear eF
 go_loopw [4] (λi wr=>∃k:Nat,k<=ns.length/\i=zb .i64 k/\zg w.heap.size w wr/\∃(xs:List zc) (S:Nat->zc),wr.ownsRow w.heap.size 149 5 (zd (ze ⟨w.heap.size,0,za⟩) ns.length ns.length) ns.length xs/\
   nu xs 5 k (PF ns S)/\∀j,j<k->oQ (w.heap.size+1) wr (S j) (ns.getD j .zero).set)
  (λi _=>ns.length-(intOf i).toNat)
 case atStart=>exact⟨0,aZ _,rfl,ed,_,λ_=>.nilIface,az,λj hj=>absurd hj (dk _),λj hj=>absurd hj (dk _)⟩
 case round=>
  obtain⟨k,hk,rfl,hb,xs,S,az,eQ,qY⟩:=hrel;have HS:ab (∀j,j<k->oQ (w.heap.size+1) wr (S j) (ns.getD j .zero).set):=qY;clear qY;have fC:=qd az
  by_cases hlt:k<ns.length
  ·obtain⟨b,o,sv,nd,rfl,Hn,bu,c0,c1,c2,c3,c4,di⟩:=hc.elem hb hlt;have gG:nd.set.length<=1048576:=by have:=n8 k hlt;rw[Hn.out]at this;exact this
   have FX:ab (∀i,i<ns.length->(ns.getD i .zero).set.length<=1048576):=n8;clear n8
   go_wp2_with (go_at_call 154;refine(zn2 _ _ _ _ _ _ _ di gG).mono ?_;rintro e w2 ⟨rY,rfl,hr,af⟩;have pb:=hr.2;obtain⟨j7,cap',rfl,uF,hc'⟩:=hr.1;have kV:=cI az af;obtain⟨u0,u1,u2,u3,u4,d0,d1,d2,d3,d4,f0,f1,f2,f3,f4⟩:=zrw kV hlt)
   go_roundw
   case rel=>
    refine⟨k+1,by omega,by go_num,?_,_,upd S k (.slice j7 nd.set.length cap'),(((((kV.stored _ _).1.stored _ _).1.stored _ _).1.stored _ _).1.stored _ _).1,zk6 (eQ.congr λj hj=>by simp only[PF,IE _ _ hj]) (by have:=kV.1;omega) (by rw[PF,Hn.out,Is]),λj hj=>?_⟩
    ·iterate 5 refine Below.setCell ?_ (by simp) _
     exact aj hb hb.size af
    ·iterate 5 refine oQ.setCell ?_ (by simp<;>omega) _
     by_cases e:j=k
     ·subst e;rw[Is,Hn.out];exact oQ.mono ⟨⟨_,_,rfl,uF,hc'⟩,pb⟩ (by omega)
     ·rw[IE _ _ (by omega)];exact(HS.out j (by omega)).below af
   case measure=>simp[intOf];omega
  ·go_wp2;have bC:k=ns.length:=by omega
   rw[bC]at eQ HS;refine bD (v:=zd (ze ⟨w.heap.size,0,za⟩) ns.length ns.length) (by simp[results,results137,go_sem]) rfl ⟨_,rfl,⟨⟨_,_,rfl,hm,λ_=>⟨w.heap.size,0,rfl,ai _,fC,λi hi=>?_⟩⟩,?_⟩,hb⟩
   rotate_left
   ·refine⟨_,_,rfl,λ_=>⟨w.heap.size,0,xs.toArray,rfl,ai _,fC,wA az,by have:=az.1;simp;omega,λi hi=>?_⟩⟩;have hr:=λk=>aO _ _ k _ _ _ (wA az)
    refine⟨λj hj hne=>?_,S i,?_,(HS.out i hi).2.keep (by omega) (ai _) λ_ _ _ _ e=>e⟩
    ·have e:=lK az eQ (c:=j) hi hj;rw[kn,<-hr];rcases(show j=0\/j=2\/j=3\/j=4 by omega) with h2|h2|h2|h2<;>subst h2<;>simp[PF]at e<;>simp[e,pj]
    ·have e:=lK az eQ (c:=1) hi (by omega);rw[kn,<-hr,e]
     rfl
   have e0:=lK az eQ (c:=0) hi (by omega);have e1:=lK az eQ (c:=1) hi (by omega);have e2:=lK az eQ (c:=2) hi (by omega);have e3:=lK az eQ (c:=3) hi (by omega);have e4:=lK az eQ (c:=4) hi (by omega);simp only[wH,kn]at e0 e1 e2 e3 e4 ⊢;exact⟨e0,⟨_,e1,(HS.out i hi).1.mono (by omega)⟩,e2,e3,e4⟩
theorem zkA(aV bm:Bool)(nv:zc)(ns:List aM)(w:zf)(hs:dU lo w nv ns)(hn:ns.length<=1048576)(n8:∀i,i<ns.length->(ns.getD i .zero).set.length<=1048576):
  zj prog 117 #[aa #[.bool aV,.bool bm,nv]] w λe w'=>∃qH,e=.returned (aa #[.bool aV,.bool bm,qH])/\oM w.heap.size w' qH ns/\zg w.heap.size w w':=by
 have FX:ab (∀i,i<ns.length->(ns.getD i .zero).set.length<=1048576):=n8;clear n8
 go_enter func117,ntmps117
 go_wp2_with fail
 refine(zlQ (lo:=lo) _ ns _ (hs.below ?_) hn FX.out).mono ?_
 ·exact((au).alloc (by simp) _).alloc (by simp;omega) _
 rintro e w2 ⟨rY,rfl,hr,hb⟩;have hw:=hr.2;obtain⟨j7,cap',rfl,uF,hc'⟩:=hr.1;obtain⟨hcc,Ec⟩:=vi hb;have hz:=hb.size;simp only[World.size_alloc]at hc' hz hw;have hr:oM (w.heap.size+1+1+1) w2 (.slice j7 ns.length cap') ns:=⟨⟨_,_,rfl,uF,hc'⟩,hw⟩;have cX:=(((((Below.refl w.heap.size w).alloc (ai _) _).alloc (by simp) _).alloc (by simp;omega) _).trans (hb.mono (by simp;omega)));clear hb;go_wp2;refine bD (v:=aa #[.bool aV,.bool bm,.slice j7 ns.length cap']) (by simp[results,results117,go_sem,hcc]) rfl ⟨_,rfl,?_,?_⟩
 ·refine oM.mono (lo:=w.heap.size+1+1+1) ?_ (by omega)
  iterate 4 refine oM.setCell ?_ (by simp) _
  exact hr
 ·iterate 4 refine Below.setCell ?_ (by simp<;>omega) _
  exact cX
theorem zjh(v:zc)(ns:List aW)(w:zf)(hs:eh lo w v ns)(hsm:Small ns):
  zj prog 95 #[v] w λe w'=>∃v',e=.returned v'/\oG w.heap.size w' v' ns/\zg w.heap.size w w':=by
 obtain⟨ao,cap,rfl,hm,hc⟩:=hs;have hn:=hsm.1;obtain⟨i0,hi,bK,bh,bz⟩:=info_parts Tryz.zyV
 go_enter func95,ntmps95
 go_wp2_with (refine wpList_make_full _ rfl _ _ 67 rfl w.heap.size 115 i0 _ 3 underlying67 hi bK bh _ _ _ _ ns.length rfl rfl rfl rfl (by rw[bz];omega) (by unfold maxLen;omega) (ai _) ?_;intro w1 az eF)
 have ed:zg w.heap.size w w1:=(Below.refl _ _).grown eF (ai _) (by intro k h;cases h);clear eF
 go_loopw [4] (λi wr=>∃k:Nat,k<=ns.length/\i=zb .i64 k/\zg w.heap.size w wr/\∃(xs:List zc) (S:Nat->zc),wr.ownsRow w.heap.size 115 3 (zd (ze ⟨w.heap.size,0,za⟩) ns.length ns.length) ns.length xs/\
   nu xs 3 k (Pc ns S)/\∀j,j<k->oM (w.heap.size+1) wr (S j) (ns.getD j .zero).nodes)
  (λi _=>ns.length-(intOf i).toNat)
 case atStart=>exact⟨0,aZ _,rfl,ed,_,λ_=>.nilIface,az,λj hj=>absurd hj (dk _),λj hj=>absurd hj (dk _)⟩
 case round=>
  obtain⟨k,hk,rfl,hb,xs,S,az,eQ,qY⟩:=hrel;have HS:ab (∀j,j<k->oM (w.heap.size+1) wr (S j) (ns.getD j .zero).nodes):=qY;clear qY;have fC:=qd az
  by_cases hlt:k<ns.length
  ·obtain⟨b,o,nv,nd,rfl,Hn,bu,c0,c1,c2,di⟩:=hc.elem hb hlt;have gG:nd.nodes.length<=1048576:=by have:=(hsm.2 k hlt).1;rw[Hn.out]at this;exact this
   have FX:ab (∀j,j<nd.nodes.length->(nd.nodes.getD j .zero).set.length<=1048576):=by have:=(hsm.2 k hlt).2;rw[Hn.out]at this;exact this
   go_wp2_with (go_at_call 117;refine(zkA _ _ _ _ _ di gG FX.out).mono ?_;rintro e w2 ⟨rY,rfl,hr,af⟩;have pb:=hr.2;obtain⟨j7,cap',rfl,uF,hc'⟩:=hr.1;have kV:=cI az af;obtain⟨u0,u1,u2,d0,d1,d2,f0,f1,f2⟩:=zpD kV hlt)
   go_roundw
   case rel=>
    refine⟨k+1,by omega,by go_num,?_,_,upd S k (.slice j7 nd.nodes.length cap'),(((kV.stored _ _).1.stored _ _).1.stored _ _).1,zjF (eQ.congr λj hj=>by simp only[Pc,IE _ _ hj]) (by have:=kV.1;omega) (by rw[Pc,Hn.out,Is]),λj hj=>?_⟩
    ·iterate 3 refine Below.setCell ?_ (by simp) _
     exact aj hb hb.size af
    ·iterate 3 refine oM.setCell ?_ (by simp<;>omega) _
     by_cases e:j=k
     ·subst e;rw[Is,Hn.out];exact oM.mono ⟨⟨_,_,rfl,uF,hc'⟩,pb⟩ (by omega)
     ·rw[IE _ _ (by omega)];exact(HS.out j (by omega)).below af
   case measure=>simp[intOf];omega
  ·go_wp2;have bC:k=ns.length:=by omega
   rw[bC]at eQ HS;refine bD (v:=zd (ze ⟨w.heap.size,0,za⟩) ns.length ns.length) (by simp[results,results95,go_sem]) rfl ⟨_,rfl,⟨⟨_,_,rfl,hm,λ_=>⟨w.heap.size,0,rfl,ai _,fC,λi hi=>?_⟩⟩,?_⟩,hb⟩
   rotate_left
   ·refine⟨_,_,rfl,λ_=>⟨w.heap.size,0,xs.toArray,rfl,ai _,fC,wA az,by have:=az.1;simp;omega,λi hi=>?_⟩⟩;have hr:=λk=>aO _ _ k _ _ _ (wA az)
    refine⟨λj hj=>?_,S i,?_,(HS.out i hi).2.keep (by omega) (ai _) λ_ _ _ _ e=>e⟩
    ·have e:=lK az eQ (c:=j) hi (by omega);rw[kn,<-hr];rcases(show j=0\/j=1 by omega) with h2|h2<;>subst h2<;>simp[Pc]at e<;>simp[e,pj]
    ·have e:=lK az eQ (c:=2) hi (by omega);rw[kn,<-hr,e]
     rfl
   have e0:=lK az eQ (c:=0) hi (by omega);have e1:=lK az eQ (c:=1) hi (by omega);have e2:=lK az eQ (c:=2) hi (by omega);simp only[wH,kn]at e0 e1 e2 ⊢;exact⟨e0,e1,⟨_,e2,(HS.out i hi).1.mono (by omega)⟩⟩
theorem zn4(g:Int)(bv:zc)(bs:List aW)(w:zf)(hs:eh lo w bv bs)(hsm:Small bs):
  zj prog 68 #[aa #[bv,zb .i64 g]] w λe w'=>∃qn,e=.returned (aa #[qn,zb .i64 g])/\oG w.heap.size w' qn bs/\zg w.heap.size w w':=by
 go_enter func68,ntmps68
 go_wp2_with fail
 refine(zjh (lo:=lo) _ bs _ (hs.below ?_) hsm).mono ?_
 ·exact((au).alloc (by simp) _).alloc (by simp;omega) _
 rintro e w2 ⟨rY,rfl,hr,hb⟩;have hw:=hr.2;obtain⟨j7,cap',rfl,uF,hc'⟩:=hr.1;obtain⟨hcc,Ec⟩:=vi hb;have hz:=hb.size;simp only[World.size_alloc]at hc' hz hw;have hr:oG (w.heap.size+1+1+1) w2 (.slice j7 bs.length cap') bs:=⟨⟨_,_,rfl,uF,hc'⟩,hw⟩;have cX:=(((((Below.refl w.heap.size w).alloc (ai _) _).alloc (by simp) _).alloc (by simp;omega) _).trans (hb.mono (by simp;omega)));clear hb;go_wp2;refine bD (v:=aa #[.slice j7 bs.length cap',zb .i64 g]) (by simp[results,results68,go_sem,hcc]) rfl ⟨_,rfl,?_,?_⟩
 ·refine oG.mono (lo:=w.heap.size+1+1+1) ?_ (by omega)
  iterate 4 refine oG.setCell ?_ (by simp) _
  exact hr
 ·iterate 4 refine Below.setCell ?_ (by simp<;>omega) _
  exact cX
end
section
variable {ns:List aM}{l:Int}{rs:List bL}{lo:Nat}
attribute [local go_sem ↓] wp_at_zero wp_at_succ
def nA:List bL->Int->Int
 |[],l=>l
 |r::rs,l=>if jh r.branches l<0 then -1 else nA rs (jh r.branches l)
def tN(rs:List bL)(left:Int):Int:=if left-rs.length<0 then -1 else nA rs (left-rs.length)
theorem zlP(ns:List bL):∀l:Int,0<=l->-1<=nA ns l/\nA ns l<=l:=by
 induction ns with
 |nil=>intro l h;simp[nA];omega
 |cons n ns ih=>
  intro l h;have:=LA n.branches l h;unfold nA;split
  ·omega
  ·have:=ih (jh n.branches l) (by omega);omega
theorem zlO(ns:List bL)(l:Int)(h:0<=l):-1<=tN ns l/\tN ns l<=l:=by
 unfold tN;split
 ·omega
 ·have:=zlP ns (l-ns.length) (by omega);omega
theorem zjf(ns:List bL)(i:Nat)(hi:i<ns.length)(l:Int):
  nA (ns.drop i) l=if jh (ns.getD i .zero).branches l<0 then -1 else nA (ns.drop (i+1)) (jh (ns.getD i .zero).branches l):=by
 rw[oC hi];simp[nA,List.getD,hi]
theorem zqd{n:aM}:∀(ns:List aM) (l:Int),0<=l->0<=nz ns l->n∈ns->(n.set.length:Int)<=l
 |[],_,_,_,h=>by cases h
 |m::ns,l,hl,h,hm=>by
  unfold nz at h;have hq:=LD m.set l hl
  by_cases hc:lL m.set l<0
  ·rw[aD hc]at h;omega
  ·rw[aq hc]at h;rcases oB.1 hm with e|e
   ·subst e;unfold lL at hc;split at hc<;>omega
   ·have:=zqd ns _ (by omega) h e;omega
theorem ztd(h:0<=jg ns l):(ns.length:Int)<=l/\∀n,n∈ns->(n.set.length:Int)<=l:=by
 unfold jg at h
 by_cases hc:l-ns.length<0
 ·rw[aD hc]at h;omega
 ·rw[aq hc]at h;exact⟨by omega,λn hn=>by have:=zqd ns _ (by omega) h hn;omega⟩
theorem zqc{b:aW}:∀(bs:List aW) (l:Int),0<=l->0<=nr bs l->b∈bs->((b.nodes.length:Int)<=l/\∀n,n∈b.nodes->(n.set.length:Int)<=l)
 |[],_,_,_,h=>by cases h
 |m::ns,l,hl,h,hm=>by
  unfold nr at h;have hq:=LB m.nodes l hl
  by_cases hc:jg m.nodes l<0
  ·rw[aD hc]at h;omega
  ·rw[aq hc]at h;rcases oB.1 hm with e|e
   ·subst e;exact ztd (by omega)
   ·have:=zqc ns _ (by omega) h e;exact⟨by omega,λn hn=>by have:=this.2 n hn;omega⟩
theorem VN{α:Type}{d:α}{l:List α}{i:Nat}(h:i<l.length):l.getD i d∈l:=by
 simp[List.getD,h]
theorem ztc{bs:List aW}(gW:l<=1048576)(h:0<=jh bs l):Small bs:=by
 unfold jh at h
 by_cases hc:l-bs.length<0
 ·rw[aD hc]at h;omega
 ·rw[aq hc]at h;refine⟨by omega,λi hi=>?_⟩;have:=zqc bs _ (by omega) h (VN (d:=.zero) hi);exact⟨by omega,λj hj=>by have:=this.2 _ (VN (d:=.zero) hj);omega⟩
theorem zkv{r:bL}:∀(rs:List bL) (l:Int),0<=l->l<=1048576->0<=nA rs l->r∈rs->Small r.branches
 |[],_,_,_,_,h=>by cases h
 |m::ns,l,hl,gW,h,hm=>by
  unfold nA at h;have hq:=LA m.branches l hl
  by_cases hc:jh m.branches l<0
  ·rw[aD hc]at h;omega
  ·rw[aq hc]at h;rcases oB.1 hm with e|e
   ·subst e;exact ztc gW (by omega)
   ·exact zkv ns _ (by omega) (by omega) h e
theorem znZ(h:0<=tN rs 1048576):qM rs:=by
 unfold tN at h
 by_cases hc:(1048576:Int)-rs.length<0
 ·rw[aD hc]at h;omega
 ·rw[aq hc]at h;exact⟨by omega,λk hk=>zkv rs _ (by omega) (by omega) h (VN hk)⟩
theorem zsb:∀(ns:List aM) (l:Int),0<=l->0<=nz ns l->(uk ns:Int)<=4*ns.length+2*(l-nz ns l)
 |[],l,_,h=>by simp[uk,nz]
 |m::ns,l,hl,h=>by
  have hq:=LD m.set l hl;have e:nz (m::ns) l=if lL m.set l<0 then -1 else nz ns (lL m.set l):=rfl
  rw[e]at h ⊢
  by_cases hc:lL m.set l<0
  ·rw[aD hc]at h;omega
  ·rw[aq hc]at h ⊢;have:=zsb ns _ (by omega) h;have hs:lL m.set l=l-m.set.length:=by unfold lL at hc ⊢;split at hc<;>omega
   simp only[uk,vm,List.sum_cons,yG,qg]at this ⊢;omega
theorem zsz(h:0<=jg ns l):(uk ns:Int)<=4*(l-jg ns l):=by
 unfold jg at h ⊢
 by_cases hc:l-ns.length<0
 ·rw[aD hc]at h;omega
 ·rw[aq hc]at h ⊢;have:=zsb ns _ (by omega) h;have:=zhn ns (l-ns.length) (by omega);omega
theorem zsa:∀(ns:List aW) (l:Int),0<=l->0<=nr ns l->(uj ns:Int)<=2*ns.length+4*(l-nr ns l)
 |[],l,_,h=>by simp[uj,nr]
 |m::ns,l,hl,h=>by
  have hq:=LB m.nodes l hl;have e:nr (m::ns) l=if jg m.nodes l<0 then -1 else nr ns (jg m.nodes l):=rfl
  rw[e]at h ⊢
  by_cases hc:jg m.nodes l<0
  ·rw[aD hc]at h;omega
  ·rw[aq hc]at h ⊢;have:=zsa ns _ (by omega) h;have:=zsz (by omega:0<=jg m.nodes l);simp only[uj,vm,List.sum_cons,yF,qg]at this ⊢;simp only[uj]at *;omega
theorem zsy{ns:List aW}(h:0<=jh ns l):(uj ns:Int)<=4*(l-jh ns l):=by
 unfold jh at h ⊢
 by_cases hc:l-ns.length<0
 ·rw[aD hc]at h;omega
 ·rw[aq hc]at h ⊢;have:=zsa ns _ (by omega) h;have:=zey ns (l-ns.length) (by omega);omega
theorem zsc:∀(ns:List bL) (l:Int),0<=l->0<=nA ns l->(sO ns:Int)<=ns.length+4*(l-nA ns l)
 |[],l,_,h=>by simp[sO,nA]
 |m::ns,l,hl,h=>by
  have hq:=LA m.branches l hl;have e:nA (m::ns) l=if jh m.branches l<0 then -1 else nA ns (jh m.branches l):=rfl
  rw[e]at h ⊢
  by_cases hc:jh m.branches l<0
  ·rw[aD hc]at h;omega
  ·rw[aq hc]at h ⊢;have:=zsc ns _ (by omega) h;have:=zsy (by omega:0<=jh m.branches l);simp only[sO,vm,List.sum_cons,yH,qg]at this ⊢;simp only[sO]at *;omega
theorem zsA(h:0<=tN rs 1048576):sO rs<=4194304:=by
 unfold tN at h
 by_cases hc:(1048576:Int)-rs.length<0
 ·rw[aD hc]at h;omega
 ·rw[aq hc]at h;have:=zsc rs _ (by omega) h;omega
theorem zn0(v:zc)(ns:List bL)(left:Int)(w:zf)(hs:gZ lo w v ns)(h0:0<=left)(h1:left<=1048576):
  zj prog 26 #[v,zb .i64 left] w λe w'=>e=.returned (zb .i64 (tN ns left))/\zg w.heap.size w w':=by
 obtain⟨ao,cap,rfl,hm,hc⟩:=hs
 by_cases hle:left-ns.length<0
 ·go_enter func26,ntmps26
  go_wp2;go_ret;exact⟨eX (by unfold tN;split<;>omega),Below.refl _ _⟩
 ·have HS:ab (tN ns left=nA (ns.drop 0) (left-ns.length)):=by show _=_;rw[tN,aq hle];rfl
  go_enter func26,ntmps26
  go_wp2
  go_loopw [1,5] (λl i wr=>∃k:Nat,k<=ns.length/\i=zb .i64 k/\∃L:Int,l=zb .i64 L/\0<=L/\L<=1048576/\ab (tN ns left=nA (ns.drop k) L)/\zg w.heap.size w wr)
   (λ_ i _=>ns.length-(intOf i).toNat)
  case atStart=>exact⟨0,aZ _,rfl,_,rfl,by omega,by omega,HS,Below.refl _ _⟩
  case round=>
   obtain⟨k,hk,rfl,L,rfl,uw,mO,HS,hb⟩:=hrel
   by_cases hlt:k<ns.length
   ·obtain⟨b,o,nv,nd,rfl,Hn,bu,c0,c1,zwa⟩:=hc.elem hb hlt;have io:=zwa.below hb;clear zwa;have hz:=hb.size;have hq:=LA nd.branches L uw;have HD:ab (nA (ns.drop k) L=if jh nd.branches L<0 then -1 else nA (ns.drop (k+1)) (jh nd.branches L)):=by have:=zjf ns k hlt L;rw[Hn.out]at this;exact this
    by_cases l9:jh nd.branches L<0
    ·go_wp2_with (go_at_call 59;refine(zkw _ _ _ _ _ io uw mO).mono ?_;rintro e w1 ⟨rfl,ak⟩)
     go_ret
     exact⟨eX (by rw[HS.out,HD.out,aD l9]),aj hb hz ak⟩
    ·go_wp2_with (go_at_call 59;refine(zkw _ _ _ _ _ io uw mO).mono ?_;rintro e w1 ⟨rfl,ak⟩)
     go_roundw
     case rel=>exact⟨k+1,by omega,by go_num,_,rfl,by omega,by omega,by show _=_;rw[HS.out,HD.out,aq (by omega)],aj hb hz ak⟩
     case measure=>simp[intOf];omega
   ·go_wp2;go_ret;exact⟨eX (by rw[HS.out,sA (by omega)];rfl),hb⟩
def WB(ns:List bL)(S:Nat->zc)(j:Nat):List zc:=[S j,zb .i64 (ns.getD j .zero).dG]
theorem zo5:(prog.info? 69).map (λi=>(i.zero,i.size,i.bytes))=ze (ze (aa #[zd za 0 0,zb .i64 0]),2,32):=by kernel_rfl
theorem zn5(v:zc)(ns:List bL)(w:zf)(hs:gZ lo w v ns)(hsm:qM ns):
  zj prog 34 #[v] w λe w'=>∃v',e=.returned v'/\gZ w.heap.size w' v' ns/\BN w.heap.size w'.heap.size w' v' ns/\zg w.heap.size w w':=by
 obtain⟨ao,cap,rfl,hm,hc⟩:=hs;have hn:=hsm.1;obtain⟨i0,hi,bK,bh,bz⟩:=info_parts zo5
 go_enter func34,ntmps34
 go_wp2_with (refine wpList_make_full _ rfl _ _ 38 rfl w.heap.size 69 i0 _ 2 underlying38 hi bK bh _ _ _ _ ns.length rfl rfl rfl rfl (by rw[bz];omega) (by unfold maxLen;omega) (ai _) ?_;intro w1 az eF)
 have ed:zg w.heap.size w w1:=(Below.refl _ _).grown eF (ai _) (by intro k h;cases h);clear eF
 go_loopw [4] (λi wr=>∃k:Nat,k<=ns.length/\i=zb .i64 k/\zg w.heap.size w wr/\∃(xs:List zc) (S:Nat->zc),wr.ownsRow w.heap.size 69 2 (zd (ze ⟨w.heap.size,0,za⟩) ns.length ns.length) ns.length xs/\
   nu xs 2 k (WB ns S)/\∀j,j<k->oG (w.heap.size+1) wr (S j) (ns.getD j .zero).branches)
  (λi _=>ns.length-(intOf i).toNat)
 case atStart=>exact⟨0,aZ _,rfl,ed,_,λ_=>.nilIface,az,λj hj=>absurd hj (dk _),λj hj=>absurd hj (dk _)⟩
 case round=>
  obtain⟨k,hk,rfl,hb,xs,S,az,eQ,qY⟩:=hrel;have HS:ab (∀j,j<k->oG (w.heap.size+1) wr (S j) (ns.getD j .zero).branches):=qY;clear qY;have fC:=qd az
  by_cases hlt:k<ns.length
  ·obtain⟨b,o,nv,nd,rfl,Hn,bu,c0,c1,KJ⟩:=hc.elem hb hlt;have di:=KJ.below hb;clear KJ;have FX:ab (Small nd.branches):=by have:=hsm.2 k hlt;rw[Hn.out]at this;exact this
   go_wp2_with (go_at_call 68;refine(zn4 _ _ _ _ di FX.out).mono ?_;rintro e w2 ⟨rY,rfl,hr,af⟩;have pb:=hr.2;obtain⟨j7,cap',rfl,uF,hc'⟩:=hr.1;have kV:=cI az af;obtain⟨u0,u1,d0,d1,f0,f1⟩:=L8 kV hlt)
   go_roundw
   case rel=>
    refine⟨k+1,by omega,by go_num,?_,_,upd S k (.slice j7 nd.branches.length cap'),((kV.stored _ _).1.stored _ _).1,zhT (eQ.congr λj hj=>by simp only[WB,IE _ _ hj]) (by have:=kV.1;omega) (by rw[WB,Hn.out,Is]),λj hj=>?_⟩
    ·iterate 2 refine Below.setCell ?_ (by simp) _
     exact aj hb hb.size af
    ·iterate 2 refine oG.setCell ?_ (by simp<;>omega) _
     by_cases e:j=k
     ·subst e;rw[Is,Hn.out];exact oG.mono ⟨⟨_,_,rfl,uF,hc'⟩,pb⟩ (by omega)
     ·rw[IE _ _ (by omega)];exact(HS.out j (by omega)).below af
   case measure=>simp[intOf];omega
  ·go_wp2;have bC:k=ns.length:=by omega
   rw[bC]at eQ HS;refine bD (v:=zd (ze ⟨w.heap.size,0,za⟩) ns.length ns.length) (by simp[results,results34,go_sem]) rfl ⟨_,rfl,⟨_,_,rfl,hm,λ_=>⟨w.heap.size,0,rfl,ai _,fC,λi hi=>?_⟩⟩,?_,hb⟩
   rotate_left
   ·refine⟨_,_,rfl,λ_=>⟨w.heap.size,0,xs.toArray,rfl,ai _,fC,wA az,by have:=az.1;simp;omega,λi hi=>?_⟩⟩;have hr:=λk=>aO _ _ k _ _ _ (wA az)
    refine⟨?_,S i,?_,(HS.out i hi).2.keep (by omega) (ai _) λ_ _ _ _ e=>e⟩
    ·have e:=lK az eQ (c:=1) hi (by omega);rw[kn,<-hr,e]
     rfl
    ·have e:=lK az eQ (c:=0) hi (by omega);rw[wH]at e;rw[kn,<-hr,e]
     rfl
   have e0:=lK az eQ (c:=0) hi (by omega);have e1:=lK az eQ (c:=1) hi (by omega);simp only[wH,kn]at e0 e1 ⊢;exact⟨⟨_,e0,(HS.out i hi).1.mono (by omega)⟩,e1⟩
theorem znd{l1 l2:Nat}(v v2:zc)(rs:List bL)(w:zf)(hs:gZ l1 w v rs)(cZ:gZ l2 w v2 rs):
  zj prog 40 #[v,v2] w λe w'=>e=.returned (.bool true)/\zg w.heap.size w w':=by
 obtain⟨ao,cap,rfl,hm,hc⟩:=hs;obtain⟨iG,fe,rfl,_,dx⟩:=cZ
 go_enter func40,ntmps40
 go_wp2
 go_loopw [5] (λi wr=>∃k:Nat,k<=rs.length/\i=zb .i64 k/\zg w.heap.size w wr)
  (λi _=>rs.length-(intOf i).toNat)
 case atStart=>exact⟨0,aZ _,rfl,Below.refl _ _⟩
 case round=>
  obtain⟨k,hk,rfl,hb⟩:=hrel
  by_cases hlt:k<rs.length
  ·obtain⟨b,o,nv,nd,rfl,Hn,bu,c0,c1,di⟩:=hc.elem hb hlt;obtain⟨b2,o2,pi,Lf,rfl,fQ,j8,d0,d1,GZ⟩:=dx.elem hb hlt;have uA:nd=Lf:=Hn.out.symm.trans fQ.out;subst uA;have aB:b<wr.heap.size:=bA bu hb.size;have jr:b2<wr.heap.size:=bA j8 hb.size;have dO:(0:Int)<=(k:Int):=by omega
   have dh:(k:Int)<(rs.length:Int):=by omega
   have qA:eh l1 wr.drew nv nd.branches:=di.below hb.drew;have nY:eh l2 wr.drew pi nd.branches:=GZ.below hb.drew;clear di GZ;go_wp2
   go_region_held3 (λw'=>w'.cell? ⟨b,o+k*2,za⟩=ze nv/\w'.cell? ⟨b,o+k*2+1,za⟩=ze (zb .i64 nd.dG)/\w'.cell? ⟨b2,o2+k*2,za⟩=ze pi/\w'.cell? ⟨b2,o2+k*2+1,za⟩=ze (zb .i64 nd.dG)) ((first|go_keep|exact⟨(hcc _ _ aB).trans c0,(hcc _ _ aB).trans c1,(hcc _ _ jr).trans d0,(hcc _ _ jr).trans d1⟩)) ((go_at_call 78;refine(zoO _ _ _ _ _ qA nY).mono ?_;rintro e w2 ⟨rfl,af⟩;obtain⟨hcc,_⟩:=vi af))
   go_wp2
   go_roundw
   case rel=>exact⟨k+1,by omega,by go_num,aj hb.drew hb.size af⟩
   case measure=>simp[intOf];omega
  ·go_wp2;go_ret;exact⟨rfl,hb⟩
end
section
variable {lo T n cU:Nat}{w W:zf}{v:zc}{rs:List Int}
attribute [local go_sem ↓] wp_at_zero wp_at_succ
def rj(lo T:Nat)(w:zf)(v:zc)(n:Nat):Prop:=∃ao cap,v=.slice ao n cap/\(0<n->∃(b o:Nat) (cs:Array zc),ao=ze ⟨b,o,za⟩/\lo<=b/\b<T/\w.heap[b]?=ze (.cells cs 3 (0,0))/\o+n<=cs.size/\∀i,i<n->pj cs[o+i]?=false)
theorem rj.mk(h:rj lo T w v n)(k:ew lo T w W):rj lo T W v n:=by
 obtain⟨ao,cap,rfl,h⟩:=h;refine⟨ao,cap,rfl,λh0=>?_⟩;obtain⟨b,o,cs,rfl,h1,h2,h3,h4,h5⟩:=h h0;obtain⟨gj,e,s,p,q⟩:=k.row b cs _ h3;exact⟨b,o,gj,rfl,h1,h2,e,by omega,λi hi=>q _ (h5 i hi)⟩
theorem rj.keep{T':Nat}(h:rj lo T w v n)(hl:cU<=lo)(hT:T<=T')(hk:∀(b:Nat) (o:Obj),lo<=b->b<T->w.heap[b]?=ze o->W.heap[b]?=ze o):rj cU T' W v n:=by
 obtain⟨ao,cap,rfl,h⟩:=h;refine⟨ao,cap,rfl,λh0=>?_⟩;obtain⟨b,o,cs,rfl,h1,h2,h3,h4,h5⟩:=h h0;exact⟨b,o,cs,rfl,by omega,by omega,hk b _ h1 h2 h3,h4,h5⟩
def fJ(lo:Nat)(w:zf)(v:zc)(rs:List Int):Prop:=iR lo w v rs/\rj lo w.heap.size w v rs.length
theorem fJ.below{w':zf}(h:fJ lo w v rs)(hb:zg w.heap.size w w'):fJ lo w' v rs:=⟨h.1.below hb,h.2.keep (ai _) hb.size λb _ _ hl e=>(hb.block b hl).trans e⟩
theorem fJ.mono(h:fJ lo w v rs)(hl:cU<=lo):fJ cU w v rs:=⟨h.1.mono hl,h.2.keep hl (ai _) λ_ _ _ _ e=>e⟩
theorem fJ.setCell(h:fJ lo w v rs){a:Addr}(ha:a.block<lo)(u:zc):fJ lo (w.setCell a u) v rs:=⟨h.1.setCell ha u,h.2.keep (ai _) (by simp[World.setCell]) λ_ _ hb _ e=>(cu _ _ _ _ (by omega)).trans e⟩
theorem EY(v:zc)(xs:List Int)(w:zf)(hs:iR lo w v xs)(hn:xs.length<=1048576):
  zj prog 69 #[v] w λe w'=>∃v',e=.returned v'/\fJ w.heap.size w' v' xs/\zg w.heap.size w w':=by
 obtain⟨ao,cap,rfl,hm,hc⟩:=hs;obtain⟨i0,hi,bK,bh,bz⟩:=info_parts Tryz.Oz
 go_enter func69,ntmps69
 go_wp2_with (refine wpList_make_full _ rfl _ _ 23 rfl w.heap.size 3 i0 _ 1 underlying23 hi bK bh _ _ _ _ xs.length rfl rfl rfl rfl (by rw[bz];omega) (by unfold maxLen;omega) (ai _) ?_;intro w1 az eF)
 have ed:zg w.heap.size w w1:=(Below.refl _ _).grown eF (ai _) (by intro k h;cases h);clear eF
 go_loopw [4] (λi wr=>∃k:Nat,k<=xs.length/\i=zb .i64 k/\zg w.heap.size w wr/\∃zs:List zc,wr.ownsRow w.heap.size 3 1 (zd (ze ⟨w.heap.size,0,za⟩) xs.length xs.length) xs.length zs/\
   nu zs 1 k (λj=>[zb .i64 (xs.getD j 0)]))
  (λi _=>xs.length-(intOf i).toNat)
 case atStart=>exact⟨0,aZ _,rfl,ed,_,az,λj hj=>absurd hj (dk _)⟩
 case round=>
  obtain⟨k,hk,rfl,hb,zs,az,eQ⟩:=hrel
  by_cases hlt:k<xs.length
  ·obtain⟨b,o,x,rfl,Hn,bu,c0⟩:=hc.elem hb hlt;obtain⟨u0,d0⟩:=se az (j:=k) (by omega);have f0:=az.frozenAt k;go_wp2
   go_roundw
   case rel=>exact⟨k+1,by omega,by go_num,hb.setCell (by simp) _,_,(az.stored _ _).1,znf eQ (by have:=az.1;omega) (by rw[Hn.out])⟩
   case measure=>simp[intOf];omega
  ·go_wp2;have bC:k=xs.length:=by omega
   refine bD (v:=zd (ze ⟨w.heap.size,0,za⟩) xs.length xs.length) (by simp[results,results69,go_sem]) rfl ⟨_,rfl,⟨⟨_,_,rfl,hm,λ_=>⟨w.heap.size,0,rfl,ai _,qd az,λi hi=>?_⟩⟩,?_⟩,hb⟩
   all_goals rw[bC]at eQ
   rotate_left
   ·refine⟨_,_,rfl,λ_=>⟨w.heap.size,0,zs.toArray,rfl,ai _,qd az,wA az,by have:=az.1;simp;omega,λi hi=>?_⟩⟩;have hr:=aO _ _ i _ _ _ (wA az);have e:=lK az eQ (i:=i) (c:=0) (by omega) (by omega);rw[show i*1+0=i by omega]at e;rw[kn,<-hr,e]
    rfl
   have e0:=lK az eQ (c:=0) hi (by omega)
   simpa using e0
theorem EQ(v:zc)(n:Nat)(k:Int)(w:zf)(h:rj lo T w v n)(hk:0<=k/\k+(n:Int)<=100000000):
  zj prog 81 #[v,zb .i64 k] w λe W=>e=.returned (zb .i64 (k+(n:Int)))/\ew lo T w W:=by
 obtain⟨ao,cap,rfl,h⟩:=h;have il:=hk.1;have cM:=hk.2;have H:ab _:=h;clear h hk
 go_enter func81,ntmps81
 go_wp2
 go_loopw [1,5] (λkv iv wr=>∃i:Nat,i<=n/\iv=zb .i64 i/\kv=zb .i64 (k+(i:Int))/\ab (ew lo T w wr)) (λ_ iv _=>n-(intOf iv).toNat)
 case atStart=>exact⟨0,aZ _,rfl,by simp,ew.refl _ _ _⟩
 case round=>
  obtain⟨i,hi,rfl,rfl,HM⟩:=hrel
  by_cases hlt:i<n
  ·obtain⟨b,o,cs,rfl,h1,h2,h3,h4,h5⟩:=H.out (by omega);obtain⟨cs1,e1,s1,p1,q1⟩:=HM.out.row b cs _ h3;obtain⟨u0,c0⟩:=PK e1 (i:=o+i) (by omega);have f0:=cF _ _ (o+i) _ _ e1;have m1:=ew.put e1 h1 h2 (q1 _ (h5 i (by omega))) (zb .i64 (k+(i:Int))) rfl;have yn:ab _:=HM.out.trans m1;have dO:(0:Int)<=(i:Int):=by omega
   have dh:(i:Int)<(n:Int):=by omega
   obtain⟨kk,bC⟩:∃kk:Int,k+(i:Int)=kk:=⟨_,rfl⟩;have zys:0<=kk:=by omega
   have zyt:kk<=100000000:=by omega
   rw[bC]at yn ⊢;have BF:ab _:=bC;clear m1 e1 p1 q1 s1 h3 h4 h5 bC HM;go_wp2
   go_roundw
   case rel=>exact⟨i+1,by omega,by go_num,by rw[<-BF.out];go_num,yn⟩
   case measure=>simp[intOf];omega
  ·obtain rfl:i=n:=by omega
   have HF:ab (ew lo T w wr):=HM.out;clear HM;go_wp2;go_ret;exact⟨rfl,HF.out⟩
end
section
variable {lo:Nat}
attribute [local go_sem ↓] wp_at_zero wp_at_succ
structure wF(lo:Nat)(w:zf)(cv bv fv tv ev nv kv:zc)(d:bG):Prop where
 ci:fJ lo w cv d.ci
 base:fJ lo w bv d.base
 bQ:fJ lo w fv d.bQ
 tag:fJ lo w tv d.tag
 fin:fJ lo w ev d.fin
 next:fJ lo w nv d.next
 a8:fJ lo w kv d.a8
theorem wF.jT{w:zf}{cv bv fv tv ev nv kv:zc}{d:bG}(h:wF lo w cv bv fv tv ev nv kv d):eN lo w cv bv fv tv ev nv kv d:=
 ⟨h.ci.1,h.base.1,h.bQ.1,h.tag.1,h.fin.1,h.next.1,h.a8.1⟩
theorem zlS(cv bv fv tv ev nv kv:zc)(d:bG)(w:zf)(hs:eN lo w cv bv fv tv ev nv kv d)(hsm:zq d):
  zj prog 35 #[aa #[cv,zb .i64 d.width,bv,fv,tv,ev,nv,kv]] w λe w'=>∃uq qn mL uR uu qH uN,e=.returned (aa #[uq,zb .i64 d.width,qn,mL,uR,uu,qH,uN])/\wF w.heap.size w' uq qn mL uR uu qH uN d/\zg w.heap.size w w':=by
 have fk:d.ci.length<=1048576:=hsm _ (by simp[bG.lists]);have cO:d.base.length<=1048576:=hsm _ (by simp[bG.lists]);have cD:d.bQ.length<=1048576:=hsm _ (by simp[bG.lists]);have vQ:d.tag.length<=1048576:=hsm _ (by simp[bG.lists]);have hm4:d.fin.length<=1048576:=hsm _ (by simp[bG.lists]);have AJ:d.next.length<=1048576:=hsm _ (by simp[bG.lists]);have yU:d.a8.length<=1048576:=hsm _ (by simp[bG.lists]);have T:=vA.new w 25 39 39 #[cv,zb .i64 d.width,bv,fv,tv,ev,nv,kv] #[zd za 0 0,zb .i64 0,zd za 0 0,zd za 0 0,zd za 0 0,zd za 0 0,zd za 0 0,zd za 0 0] #[zd za 0 0,zb .i64 0,zd za 0 0,zd za 0 0,zd za 0 0,zd za 0 0,zd za 0 0,zd za 0 0]
 go_enter func35,ntmps35
 go_wp2_with fail
 refine(EY _ d.ci _ (hs.below T.below).ci fk).mono ?_;rintro e w1 ⟨v0,rfl,de,hb⟩;replace de:=fJ.mono de T.size;replace T:=T.call hb;clear hb;obtain⟨⟨wY,wZ,rfl,Oi,hc⟩,hx⟩:=de;replace de:fJ (w.heap.size+1+1+1) w1 (.slice wY d.ci.length wZ) d.ci:=⟨⟨_,_,rfl,Oi,hc⟩,hx⟩;clear hc hx;obtain⟨c0,c1,c2,f1,f2⟩:=T.cells
 go_wp2_with fail
 clear c0 c1 c2 f1 f2;replace T:=T.set 0 (.slice wY d.ci.length wZ);replace de:=de.setCell (a:=⟨w.heap.size+1+1,0,za⟩) (by simp) (.slice wY d.ci.length wZ);replace T:=T.set 1 (zb .i64 d.width);replace de:=de.setCell (a:=⟨w.heap.size+1+1,1,za⟩) (by simp) (zb .i64 d.width);refine(EY _ d.base _ (hs.below T.below).base cO).mono ?_;rintro e w2 ⟨v1,rfl,eH,hb⟩;replace eH:=fJ.mono eH T.size;replace de:=de.below hb;replace T:=T.call hb;clear hb;obtain⟨⟨uf,sQ,rfl,oZ,hc⟩,hx⟩:=eH;replace eH:fJ (w.heap.size+1+1+1) w2 (.slice uf d.base.length sQ) d.base:=⟨⟨_,_,rfl,oZ,hc⟩,hx⟩;clear hc hx;obtain⟨c0,c1,c2,f1,f2⟩:=T.cells
 go_wp2_with fail
 clear c0 c1 c2 f1 f2;replace T:=T.set 2 (.slice uf d.base.length sQ);replace de:=de.setCell (a:=⟨w.heap.size+1+1,2,za⟩) (by simp) (.slice uf d.base.length sQ);replace eH:=eH.setCell (a:=⟨w.heap.size+1+1,2,za⟩) (by simp) (.slice uf d.base.length sQ);refine(EY _ d.bQ _ (hs.below T.below).bQ cD).mono ?_;rintro e w3 ⟨v2,rfl,iC,hb⟩;replace iC:=fJ.mono iC T.size;replace de:=de.below hb;replace eH:=eH.below hb;replace T:=T.call hb;clear hb;obtain⟨⟨iG,fe,rfl,ky,hc⟩,hx⟩:=iC;replace iC:fJ (w.heap.size+1+1+1) w3 (.slice iG d.bQ.length fe) d.bQ:=⟨⟨_,_,rfl,ky,hc⟩,hx⟩;clear hc hx;obtain⟨c0,c1,c2,f1,f2⟩:=T.cells
 go_wp2_with fail
 clear c0 c1 c2 f1 f2;replace T:=T.set 3 (.slice iG d.bQ.length fe);replace de:=de.setCell (a:=⟨w.heap.size+1+1,3,za⟩) (by simp) (.slice iG d.bQ.length fe);replace eH:=eH.setCell (a:=⟨w.heap.size+1+1,3,za⟩) (by simp) (.slice iG d.bQ.length fe);replace iC:=iC.setCell (a:=⟨w.heap.size+1+1,3,za⟩) (by simp) (.slice iG d.bQ.length fe);refine(EY _ d.tag _ (hs.below T.below).tag vQ).mono ?_;rintro e w4 ⟨v3,rfl,mV,hb⟩;replace mV:=fJ.mono mV T.size;replace de:=de.below hb;replace eH:=eH.below hb;replace iC:=iC.below hb;replace T:=T.call hb;clear hb;obtain⟨⟨DL,DM,rfl,Ek,hc⟩,hx⟩:=mV;replace mV:fJ (w.heap.size+1+1+1) w4 (.slice DL d.tag.length DM) d.tag:=⟨⟨_,_,rfl,Ek,hc⟩,hx⟩;clear hc hx;obtain⟨c0,c1,c2,f1,f2⟩:=T.cells
 go_wp2_with fail
 clear c0 c1 c2 f1 f2;replace T:=T.set 4 (.slice DL d.tag.length DM);replace de:=de.setCell (a:=⟨w.heap.size+1+1,4,za⟩) (by simp) (.slice DL d.tag.length DM);replace eH:=eH.setCell (a:=⟨w.heap.size+1+1,4,za⟩) (by simp) (.slice DL d.tag.length DM);replace iC:=iC.setCell (a:=⟨w.heap.size+1+1,4,za⟩) (by simp) (.slice DL d.tag.length DM);replace mV:=mV.setCell (a:=⟨w.heap.size+1+1,4,za⟩) (by simp) (.slice DL d.tag.length DM);refine(EY _ d.fin _ (hs.below T.below).fin hm4).mono ?_;rintro e w5 ⟨v4,rfl,nZ,hb⟩;replace nZ:=fJ.mono nZ T.size;replace de:=de.below hb;replace eH:=eH.below hb;replace iC:=iC.below hb;replace mV:=mV.below hb;replace T:=T.call hb;clear hb;obtain⟨⟨BP,BX,rfl,hn4,hc⟩,hx⟩:=nZ;replace nZ:fJ (w.heap.size+1+1+1) w5 (.slice BP d.fin.length BX) d.fin:=⟨⟨_,_,rfl,hn4,hc⟩,hx⟩;clear hc hx;obtain⟨c0,c1,c2,f1,f2⟩:=T.cells
 go_wp2_with fail
 clear c0 c1 c2 f1 f2;replace T:=T.set 5 (.slice BP d.fin.length BX);replace de:=de.setCell (a:=⟨w.heap.size+1+1,5,za⟩) (by simp) (.slice BP d.fin.length BX);replace eH:=eH.setCell (a:=⟨w.heap.size+1+1,5,za⟩) (by simp) (.slice BP d.fin.length BX);replace iC:=iC.setCell (a:=⟨w.heap.size+1+1,5,za⟩) (by simp) (.slice BP d.fin.length BX);replace mV:=mV.setCell (a:=⟨w.heap.size+1+1,5,za⟩) (by simp) (.slice BP d.fin.length BX);replace nZ:=nZ.setCell (a:=⟨w.heap.size+1+1,5,za⟩) (by simp) (.slice BP d.fin.length BX);refine(EY _ d.next _ (hs.below T.below).next AJ).mono ?_;rintro e w6 ⟨v5,rfl,xy,hb⟩;replace xy:=fJ.mono xy T.size;replace de:=de.below hb;replace eH:=eH.below hb;replace iC:=iC.below hb;replace mV:=mV.below hb;replace nZ:=nZ.below hb;replace T:=T.call hb;clear hb;obtain⟨⟨zY,gF,rfl,Tm,hc⟩,hx⟩:=xy;replace xy:fJ (w.heap.size+1+1+1) w6 (.slice zY d.next.length gF) d.next:=⟨⟨_,_,rfl,Tm,hc⟩,hx⟩;clear hc hx;obtain⟨c0,c1,c2,f1,f2⟩:=T.cells
 go_wp2_with fail
 clear c0 c1 c2 f1 f2;replace T:=T.set 6 (.slice zY d.next.length gF);replace de:=de.setCell (a:=⟨w.heap.size+1+1,6,za⟩) (by simp) (.slice zY d.next.length gF);replace eH:=eH.setCell (a:=⟨w.heap.size+1+1,6,za⟩) (by simp) (.slice zY d.next.length gF);replace iC:=iC.setCell (a:=⟨w.heap.size+1+1,6,za⟩) (by simp) (.slice zY d.next.length gF);replace mV:=mV.setCell (a:=⟨w.heap.size+1+1,6,za⟩) (by simp) (.slice zY d.next.length gF);replace nZ:=nZ.setCell (a:=⟨w.heap.size+1+1,6,za⟩) (by simp) (.slice zY d.next.length gF);replace xy:=xy.setCell (a:=⟨w.heap.size+1+1,6,za⟩) (by simp) (.slice zY d.next.length gF);refine(EY _ d.a8 _ (hs.below T.below).a8 yU).mono ?_;rintro e w7 ⟨v6,rfl,AQ,hb⟩;replace AQ:=fJ.mono AQ T.size;replace de:=de.below hb;replace eH:=eH.below hb;replace iC:=iC.below hb;replace mV:=mV.below hb;replace nZ:=nZ.below hb;replace xy:=xy.below hb;replace T:=T.call hb;clear hb;obtain⟨⟨YZ,Ad,rfl,El,hc⟩,hx⟩:=AQ;replace AQ:fJ (w.heap.size+1+1+1) w7 (.slice YZ d.a8.length Ad) d.a8:=⟨⟨_,_,rfl,El,hc⟩,hx⟩;clear hc hx;obtain⟨c0,c1,c2,f1,f2⟩:=T.cells;go_wp2;refine bD (v:=aa #[.slice wY d.ci.length wZ,zb .i64 d.width,.slice uf d.base.length sQ,.slice iG d.bQ.length fe,.slice DL d.tag.length DM,.slice BP d.fin.length BX,.slice zY d.next.length gF,.slice YZ d.a8.length Ad]) (by simp[results,results35,go_sem,c1]) rfl ⟨_,_,_,_,_,_,_,rfl,?_,?_⟩
 ·constructor
  all_goals
   refine fJ.mono (lo:=w.heap.size+1+1+1) ?_ (by omega)
   iterate 9 refine fJ.setCell ?_ (by simp) _
  ·exact de
  ·exact eH
  ·exact iC
  ·exact mV
  ·exact nZ
  ·exact xy
  ·exact AQ
 ·iterate 9 refine Below.setCell ?_ (by simp<;>omega) _
  exact T.below
end
section
variable {B sz g n cap:Nat}{W:zf}{v:zc}{rs:List (Int×Int)}{xs:List zc}
attribute [local go_sem ↓] wp_at_zero wp_at_succ
def vz(B:Nat)(W:zf)(v:zc)(rs:List (Int×Int)):Prop:=W.ownsRow B 71 2 v rs.length (pv rs)
theorem GJ{p:Prop}(h:p):ab p:=h
theorem zpO(rs:List (Int×Int))(i:Nat)(h:i<rs.length):(pv rs)[i*2]?=ze (zb .i64 (rs.getD i (0,0)).1)/\(pv rs)[i*2+1]?=ze (zb .i64 (rs.getD i (0,0)).2):=⟨PU rs (j:=0) h (by omega),PU rs (j:=1) h (by omega)⟩
theorem vz.read(h:vz B W v rs)(hn:rs.length<=1048576):dD B W v rs:=by
 rcases h.2 with ⟨rfl,h0⟩|⟨g,cap,aA,rfl,hg,hh,h1,h2,h3,h4⟩
 ·have hr:rs=[]:=Bu h0;subst hr;exact⟨za,0,rfl,by simp,λh=>absurd h (by simp)⟩
 ·refine⟨ze ⟨g,0,za⟩,cap,rfl,by omega,λ_=>⟨g,0,rfl,hg,(ap.1 hh).1,λi hi=>?_⟩⟩;have e:=zpO rs i hi;have c0:=h.cellAt (i*2) (by omega);have c1:=h.cellAt (i*2+1) (by omega);rw[e.1]at c0;rw[e.2]at c1;exact⟨by rw[kn];exact c0,by rw[kn];exact c1⟩
theorem zf7{e:TypeId}(h:W.ownsRow B e sz (zd (ze ⟨g,0,za⟩) n cap) n xs)(j:Nat)(u:zc):(W.setCell ⟨g,j,za⟩ u).ownsRow B e sz (zd (ze ⟨g,0,za⟩) n cap) n (xs.set j u):=by
 refine⟨by rw[List.length_set];exact h.1,?_⟩;rcases h.2 with ⟨e,_⟩|⟨g',cap',aA,e,hg,hh,h1,h2,h3,h4⟩
 ·cases e
 ·cases e
  refine .inr ⟨g,cap,aA.setIfInBounds j u,rfl,hg,dF _ _ _ _ _ _ hh,h1,h2,by simp[h3],?_⟩;rw[Array.toList_setIfInBounds,List.take_set,h4]
def wh(k:Int)(xs:List zc)(a:Nat):List zc:=(List.range xs.length).map λj=>if j<a then zb .i64 (k+(j:Int)) else xs.getD j undef
theorem zps(k:Int)(xs:List zc):wh k xs 0=xs:=by
 unfold wh;apply List.ext_getElem
 ·simp
 ·intro n h1 h2;simp[List.getD,h2]
theorem zmn(k:Int)(xs:List zc)(a:Nat):(wh k xs a).set a (zb .i64 (k+(a:Int)))=wh k xs (a+1):=by
 unfold wh;apply List.ext_getElem
 ·simp
 ·intro n h1 h2;rw[List.getElem_set]
  by_cases e:a=n
  ·subst e;simp
  ·rw[aq e];simp only[List.getElem_map,List.getElem_range]
   by_cases e2:n<a
   ·rw[aD e2,aD (by omega)]
   ·rw[aq e2,aq (by omega)]
def tC(n:Nat)(k:Int):List (Int×Int):=(List.range n).map λ(j:Nat)=>(k+2*(j:Int),k+2*(j:Int)+1)
theorem Fa(n:Nat)(k:Int):(tC n k).length=n:=by simp[tC]
theorem zrp(k:Int)(rs:List (Int×Int)):wh k (pv rs) (rs.length*2)=pv (tC rs.length k):=by
 apply FC
 intro m
 by_cases hm:m<rs.length*2
 ·have hL:(wh k (pv rs) (rs.length*2))[m]?=ze (zb .i64 (k+(m:Int))):=by
   unfold wh;rw[Bv,List.getElem?_range (by rw[Bf];exact hm)];simp[hm]
  rw[hL];have hi:m/2<(tC rs.length k).length:=by rw[Fa];omega
  have hg:=zpO (tC rs.length k) (m/2) hi;have hv:(tC rs.length k).getD (m/2) (0,0)=(k+2*((m/2:Nat):Int),k+2*((m/2:Nat):Int)+1):=by
   unfold tC;have:m/2<rs.length:=by omega
   simp[List.getD,this]
  rw[hv]at hg;rcases Nat.mod_two_eq_zero_or_one m with e|e
  ·have:=hg.1;rw[show m/2*2=m by omega]at this;rw[this]
   congr 2
   omega
  ·have:=hg.2;rw[show m/2*2+1=m by omega]at this;rw[this]
   congr 2
   omega
 ·rw[qh (by unfold wh;simp[Bf];omega),qh (by rw[Bf,Fa];omega)]
theorem zh6{e:TypeId}(h:W.ownsRow B e sz (zd (ze ⟨g,0,za⟩) n cap) n xs){j:Nat}(hj:j<n*sz):(∃u,W.cell? ⟨g,j,za⟩=ze u)/\W.frozen? ⟨g,j,za⟩=false:=by
 refine⟨?_,?_⟩
 ·have:=h.cellAt j hj;rw[this,eY (by rw[h.1];exact hj)];exact⟨_,rfl⟩
 ·rcases h.2 with ⟨e,_⟩|⟨g',cap',aA,e,hg,hh,_⟩
  ·cases e
  ·cases e;exact cF _ _ _ _ _ hh
theorem zgN(W:zf)(row:Option Nat):W.grownBy W row:=⟨rfl,rfl,rfl,ai _,λ_ _ _=>rfl⟩
theorem zf0{w':zf}(h:W.grownBy w' (ze g))(o:Nat)(u:zc):W.grownBy (w'.setCell ⟨g,o,za⟩ u) (ze g):=
 ⟨h.os,h.tape,h.output,by simpa [World.setCell]using h.size,λk hk hr=>by rw[cu _ _ _ _ (λe=>hr (by rw[e]))];exact h.block k hk hr⟩
theorem zjZ(k:Int)(w:zf)(h:vz B w v rs)(hk:0<=k/\k<=1000000000)(hn:rs.length<=100000):
  zj prog 44 #[v,zb .i64 k] w λe w'=>e=.returned (zb .i64 (k+2*(rs.length:Int)))/\vz B w' v (tC rs.length k)/\w.grownBy w' v.ownBlock:=by
 rcases h.2 with ⟨rfl,h0⟩|⟨g,cap,aA,rfl,hg,hh,h1,h2,h3,h4⟩
 ·have hr:rs=[]:=Bu h0;subst hr;clear h h0
  go_enter func44,ntmps44
  go_wp2
  go_loopw [1,5] (λkv iv wr=>kv=zb .i64 k/\iv=zb .i64 0/\wr=w) (λ_ _ _=>0)
  case atStart=>exact⟨rfl,rfl,rfl⟩
  case round=>
   obtain⟨rfl,rfl,rfl⟩:=hrel;go_wp2;go_ret;exact⟨by simp,⟨rfl,.inl ⟨rfl,rfl⟩⟩,zgN _ _⟩
 ·obtain⟨n,CA⟩:∃n,n=rs.length:=⟨_,rfl⟩;have hO:w.ownsRow B 71 2 (zd (ze ⟨g,0,za⟩) n cap) n (pv rs):=by rw[CA];exact h
  have XJ:ab (w.ownsRow B 71 2 (zd (ze ⟨g,0,za⟩) n cap) n (wh k (pv rs) 0)):=by rw[zps];exact hO
  have lF:(pv rs).length=n*2:=by rw[Bf,CA]
  have HRL:=GJ lF;have zw1:ab (wh k (pv rs) (n*2)=pv (tC n k)):=by rw[CA];exact zrp k rs
  have ky:n<=100000:=by omega
  rw[<-CA];have Hnn:=GJ CA;clear hh h3 h4 hO h lF CA hn
  go_enter func44,ntmps44
  go_wp2
  go_loopw [1,5] (λkv iv wr=>∃i:Nat,i<=n/\kv=zb .i64 (k+2*(i:Int))/\iv=zb .i64 (i:Int)/\ab (wr.ownsRow B 71 2 (zd (ze ⟨g,0,za⟩) n cap) n (wh k (pv rs) (i*2)))/\ab (w.grownBy wr (ze g))) (λ_ iv _=>n-(intOf iv).toNat)
  case atStart=>exact⟨0,by omega,by go_num,rfl,XJ,zgN _ _⟩
  case round=>
   clear XJ;obtain⟨i,hi,rfl,rfl,HO,HG⟩:=hrel
   by_cases hlt:i<n
   ·have zyz:(i:Int)<(n:Int):=by omega
    obtain⟨⟨u0,c0⟩,f0⟩:=zh6 HO.out (j:=i*2) (by omega);have FO:=zf7 HO.out (i*2) (zb .i64 (k+2*(i:Int)));rw[show k+2*(i:Int)=k+((i*2:Nat):Int) by omega,zmn]at FO;have Qk:=GJ FO;clear FO;have HG1:=GJ (zf0 HG.out (i*2) (zb .i64 (k+2*(i:Int))));rw[show k+((i*2:Nat):Int)=k+2*(i:Int) by omega]at Qk
    go_upto_region 5 with fail
    generalize wr.setCell ⟨g,i*2,za⟩ (zb .i64 (k+2*(i:Int)))=W2 at *;clear c0 f0;obtain⟨⟨u1,c1⟩,f1⟩:=zh6 Qk.out (j:=i*2+1) (by omega);have yo:=zf7 Qk.out (i*2+1) (zb .i64 (k+2*(i:Int)+1));rw[show k+2*(i:Int)+1=k+((i*2+1:Nat):Int) by omega,zmn]at yo;rw[show k+((i*2+1:Nat):Int)=k+2*(i:Int)+1 by omega,show i*2+1+1=(i+1)*2 by omega]at yo;have zw3:=GJ yo;have zC:=GJ (zf0 HG1.out (i*2+1) (zb .i64 (k+2*(i:Int)+1)));clear yo HG HO;go_wp2
    go_roundw
    case rel=>exact⟨i+1,by omega,by congr 1;omega,by go_num,zw3,zC⟩
    case measure=>simp[intOf];omega
   ·have mR:i=n:=by omega
    subst mR;go_wp2;go_ret;exact⟨rfl,by show World.ownsRow _ _ _ _ _ _ _;rw[Fa,<-zw1.out];exact HO.out,HG.out⟩
theorem zrm(n:Nat)(k:Int){i:Nat}(h:i<n):(tC n k).getD i (0,0)=(k+2*(i:Int),k+2*(i:Int)+1):=by
 unfold tC;simp[List.getD,h]
theorem zjM{lo:Nat}(k:Int)(w:zf)(h:dD lo w v (tC n k))(hk:0<=k/\k<=1000000000)(hn:n<=100000):
  zj prog 45 #[v,zb .i64 k] w λe w'=>e=.returned (zb .i64 (k+2*(n:Int)))/\w'=w:=by
 obtain⟨ao,cap,rfl,hm,hc⟩:=h;rw[Fa]at hm ⊢;have HC:ab (0<n->∃b o,ao=ze ⟨b,o,za⟩/\∀i,i<n->w.cell? ⟨b,o+i*2,za⟩=ze (zb .i64 (k+2*(i:Int)))/\w.cell? ⟨b,o+i*2+1,za⟩=ze (zb .i64 (k+2*(i:Int)+1))):=λh0=>by
  obtain⟨b,o,e,_,_,h9⟩:=hc (by rw[Fa];exact h0);refine⟨b,o,e,λi hi=>?_⟩;have h8:=h9 i (by rw[Fa];exact hi);rw[zrm n k hi]at h8;exact h8
 clear hc hm
 go_enter func45,ntmps45
 go_wp2
 go_loopw [1,5] (λkv iv wr=>∃i:Nat,i<=n/\kv=zb .i64 (k+2*(i:Int))/\iv=zb .i64 (i:Int)/\wr=w) (λ_ iv _=>n-(intOf iv).toNat)
 case atStart=>exact⟨0,by omega,by go_num,rfl,rfl⟩
 case round=>
  obtain⟨i,hi,rfl,rfl,rfl⟩:=hrel
  by_cases hlt:i<n
  ·have zyz:(i:Int)<(n:Int):=by omega
   obtain⟨b,o,rfl,h9⟩:=HC.out (by omega);obtain⟨c0,c1⟩:=h9 i hlt;clear h9 HC;go_wp2
   go_roundw
   case rel=>exact⟨i+1,by omega,by congr 1;omega,by go_num,trivial⟩
   case measure=>simp[intOf];omega
  ·have mR:i=n:=by omega
   subst mR;go_wp2;go_ret;exact⟨rfl,rfl⟩
end
attribute [local go_sem ↓] wp_at_zero wp_at_succ
theorem zkt{lo:Nat}(ao:Option Addr)(rc:Nat)(cv bv fv tv ev nv kv:zc)(rs:List bL)(d:bG)(w:zf)(hr:gZ lo w (.slice ao rs.length rc) rs)(hs:eN lo w cv bv fv tv ev nv kv d):
  zj prog 5 #[aa #[.slice ao rs.length rc,cv,zb .i64 d.width,bv,fv,tv,ev,nv,kv],zb .i64 1048576] w λe w'=>∃r:Int,e=.returned (zb .i64 r)/\-1<=r/\r<=1048576/\(0<=r->qM rs/\zq d/\sO rs<=4194304)/\zg w.heap.size w w':=by
 obtain⟨W0,ah⟩:∃W0,w.alloc (.cells #[.slice ao rs.length rc,cv,zb .i64 d.width,bv,fv,tv,ev,nv,kv] 27)=W0:=⟨_,rfl⟩;have ae:zg w.heap.size w W0:=by rw[<-ah];exact au
 have r0:W0.heap[w.heap.size]?=ze (.cells #[.slice ao rs.length rc,cv,zb .i64 d.width,bv,fv,tv,ev,nv,kv] 27 (0,0)):=by rw[<-ah];exact aL _ _
 have c1:=zn0 (.slice ao rs.length rc) rs 1048576 W0 (hr.below ae) (by omega) (by omega);have c2:=λl W (hb:zg w.heap.size w W) (h0:0<=l) (h1:l<=1048576)=>zn1 cv bv fv tv ev nv kv d l W (hs.below hb) h0 h1
 have b1:=zlO rs 1048576 (by omega);have YG:ab (0<=tN rs 1048576->qM rs/\sO rs<=4194304):=λh=>⟨znZ h,zsA h⟩
 obtain⟨q0,q1,q2,q3,q4,q5,q6,q7,q8⟩:=mC r0;clear hr hs;generalize tN rs 1048576=l at *
 go_enter func5,ntmps5
 go_wp2_with fail
 refine c1.mono ?_;rintro e w1 ⟨rfl,ak⟩;have iU:=aj ae ae.size ak;clear q0 q1 q2 q3 q4 q5 q6 q7 q8 ah c1
 by_cases hl:l<0
 ·go_wp2;go_ret;exact⟨-1,rfl,by omega,by omega,λh=>by omega,iU⟩
 have c2:=c2 l w1 iU (by omega) (by omega);have b2:=zmJ d.lists l (by omega);have Hts:ab (0<=kJ d.lists l->zq d):=λh=>zhl d.lists l (by omega) (by omega) h
 obtain⟨q0,q1,q2,q3,q4,q5,q6,q7,q8⟩:=mC (cB r0 ak);generalize kJ d.lists l=m at *
 go_wp2_with fail
 refine c2.mono ?_;rintro e w2 ⟨rfl,af⟩;have dL:=aj iU iU.size af;clear c2 q0 q1 q2 q3 q4 q5 q6 q7 q8
 by_cases hm:m<0
 ·go_wp2;go_ret;exact⟨-1,rfl,by omega,by omega,λh=>by omega,dL⟩
 ·go_wp2;go_ret;exact⟨m,rfl,by omega,by omega,λh=>⟨(YG.out (by omega)).1,Hts.out (by omega),(YG.out (by omega)).2⟩,dL⟩
theorem BN.keep{lo T T' cU:Nat}{w W:zf}{v:zc}{rs:List bL}(h:BN lo T w v rs)(hl:cU<=lo)(hT:T<=T')(hk:∀(b:Nat) (o:Obj),lo<=b->b<T->w.heap[b]?=ze o->W.heap[b]?=ze o):BN cU T' W v rs:=by
 obtain⟨ao,cap,rfl,h⟩:=h;refine⟨ao,cap,rfl,λh0=>?_⟩;obtain⟨b,o,cs,rfl,h1,h2,h3,h4,h5⟩:=h h0;refine⟨b,o,cs,rfl,by omega,by omega,hk b _ h1 h2 h3,h4,λi hi=>?_⟩;obtain⟨g1,sv,g2,g3⟩:=h5 i hi;exact⟨g1,sv,g2,g3.keep hl hT hk⟩
theorem fJ.same{lo:Nat}{w w':zf}{v:zc}{xs:List Int}(h:fJ lo w v xs)(hs:Same lo w w'):fJ lo w' v xs:=⟨h.1.same hs,h.2.keep (ai _) hs.size λb _ h1 h2 e=>(hs.block b h1 h2).trans e⟩
structure rq(lo:Nat)(w:zf)(rv cv bv fv tv ev nv kv:zc)(rs:List bL)(d:bG):Prop where
 G8:gZ lo w rv rs
 UE:BN lo w.heap.size w rv rs
 jT:wF lo w cv bv fv tv ev nv kv d
section
variable {lo cU:Nat} {w w':zf} {rv cv bv fv tv ev nv kv:zc} {rs:List bL} {d:bG}
theorem wF.same(h:wF lo w cv bv fv tv ev nv kv d)(hs:Same lo w w'):wF lo w' cv bv fv tv ev nv kv d:=⟨h.1.same hs,h.2.same hs,h.3.same hs,h.4.same hs,h.5.same hs,h.6.same hs,h.7.same hs⟩
theorem wF.mono(h:wF lo w cv bv fv tv ev nv kv d)(hl:cU<=lo):wF cU w cv bv fv tv ev nv kv d:=⟨h.1.mono hl,h.2.mono hl,h.3.mono hl,h.4.mono hl,h.5.mono hl,h.6.mono hl,h.7.mono hl⟩
theorem rq.same(h:rq lo w rv cv bv fv tv ev nv kv rs d)(hs:Same lo w w'):rq lo w' rv cv bv fv tv ev nv kv rs d:=
 ⟨h.G8.same hs,h.UE.keep (ai _) hs.size λb _ h1 h2 e=>(hs.block b h1 h2).trans e,h.jT.same hs⟩
theorem rq.mono(h:rq lo w rv cv bv fv tv ev nv kv rs d)(hl:cU<=lo):rq cU w rv cv bv fv tv ev nv kv rs d:=⟨h.G8.mono hl,h.UE.keep hl (ai _) λ_ _ _ _ e=>e,h.jT.mono hl⟩
theorem rq.below(h:rq lo w rv cv bv fv tv ev nv kv rs d)(hb:zg w.heap.size w w'):rq lo w' rv cv bv fv tv ev nv kv rs d:=h.same (.cH hb)
end
theorem zkB{lo:Nat}(ao:Option Addr)(rc:Nat)(cv bv fv tv ev nv kv:zc)(rs:List bL)(d:bG)(w:zf)(hr:gZ lo w (.slice ao rs.length rc) rs)(hsm:qM rs)(hs:eN lo w cv bv fv tv ev nv kv d)(rQ:zq d):
  zj prog 8 #[aa #[.slice ao rs.length rc,cv,zb .i64 d.width,bv,fv,tv,ev,nv,kv]] w λe w'=>∃j7 zn uq qn mL uR uu qH uN,e=.returned (aa #[.slice j7 rs.length zn,uq,zb .i64 d.width,qn,mL,uR,uu,qH,uN])/\rq w.heap.size w' (.slice j7 rs.length zn) uq qn mL uR uu qH uN rs d/\zg w.heap.size w w':=by
 have T:=vA.new w 27 41 41 #[.slice ao rs.length rc,cv,zb .i64 d.width,bv,fv,tv,ev,nv,kv] #[zd za 0 0,zd za 0 0,zb .i64 0,zd za 0 0,zd za 0 0,zd za 0 0,zd za 0 0,zd za 0 0,zd za 0 0] #[zd za 0 0,zd za 0 0,zb .i64 0,zd za 0 0,zd za 0 0,zd za 0 0,zd za 0 0,zd za 0 0,zd za 0 0]
 go_enter func8,ntmps8
 go_wp2_with fail
 refine(zn5 _ rs _ (hr.below T.below) hsm).mono ?_;rintro e w1 ⟨v0,rfl,de,vW,hb⟩;have hz:=T.size;have lG:BN (w.heap.size+1+1+1) w1.heap.size w1 v0 rs:=vW.keep hz (ai _) λ_ _ _ _ e=>e
 have eH:=de.mono hz;replace T:=T.call hb;clear hb de vW;obtain⟨wY,wZ,rfl,fk,xh⟩:=eH;have eH:gZ (w.heap.size+1+1+1) w1 (.slice wY rs.length wZ) rs:=⟨_,_,rfl,fk,xh⟩;clear xh fk;obtain⟨c0,c1,c2,f1,f2⟩:=T.cells
 go_wp2_with fail
 clear c0 c1 c2 f1 f2;replace T:=T.set 0 (.slice wY rs.length wZ);have Cg:Same (w.heap.size+1+1+1) w1 (w1.setCell ⟨w.heap.size+1+1,0,za⟩ (.slice wY rs.length wZ)):=Same.setCell w1 (by simp) _;replace eH:=eH.same Cg;replace lG:=lG.keep (ai _) Cg.size λb _ h1 h2 e=>(Cg.block b h1 h2).trans e
 refine(zlS cv bv fv tv ev nv kv d _ (hs.below T.below) rQ).mono ?_;rintro e w2 ⟨uq,qn,mL,uR,uu,qH,uN,rfl,Oo,af⟩;have bh:=T.size;replace T:=T.call af;have M:rq (w.heap.size+1+1+1) w2 (.slice wY rs.length wZ) uq qn mL uR uu qH uN rs d:=⟨eH.below af,lG.keep (ai _) af.size λb _ _ h2 e=>(af.block b h2).trans e,Oo.mono bh⟩;obtain⟨⟨⟨a0,p0,rfl,_⟩,_⟩,⟨⟨a1,p1,rfl,_⟩,_⟩,⟨⟨a2,p2,rfl,_⟩,_⟩,⟨⟨a3,p3,rfl,_⟩,_⟩,⟨⟨a4,p4,rfl,_⟩,_⟩,⟨⟨a5,p5,rfl,_⟩,_⟩,⟨⟨a6,p6,rfl,_⟩,_⟩⟩:=Oo;have HM:=aY M;obtain⟨c0,c1,c2,f1,f2⟩:=T.cells;have HT:=aY T.below;clear M af eH lG Cg;go_wp2;refine bD (v:=aa #[.slice wY rs.length wZ,.slice a0 d.ci.length p0,zb .i64 d.width,.slice a1 d.base.length p1,.slice a2 d.bQ.length p2,.slice a3 d.tag.length p3,.slice a4 d.fin.length p4,.slice a5 d.next.length p5,.slice a6 d.a8.length p6]) (by simp[results,results8,go_sem,c1]) rfl ⟨wY,wZ,_,_,_,_,_,_,_,rfl,?_,?_⟩
 ·refine rq.mono (lo:=w.heap.size+1+1+1) (HM.out.same ?_) (by omega)
  iterate 17 refine Same.trans ?_ (Same.setCell _ (by simp) _)
  exact⟨ai _,λ_ _ _=>rfl⟩
 ·iterate 17 refine Below.setCell ?_ (by simp<;>omega) _
  exact HT.out
end Go.Proofs.YtdimhpfiieepiaaGreatDoor
