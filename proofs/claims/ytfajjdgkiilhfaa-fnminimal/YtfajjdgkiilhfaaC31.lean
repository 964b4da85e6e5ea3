import Derived.Test.YtfajjdgkiilhfaaC30
import Derived.Lib.ConvBytes
namespace Go.Proofs.Ytfajjdgkiilhfaa
open Proofs.Try
open Option renaming none->za,some->zi
open RowKit renaming Hid->zn,Below->zB
open Value renaming slice->zp,int->zx,agg->zF,pointer->zK
open Obj renaming cells->zy
open Go renaming World->zG,Value->zH,Calls->zI,TypeId->zL
set_option maxHeartbeats 8000000
set_option maxRecDepth 100000
open Go.RowKit
section
attribute [local go_sem] Oper.semAt_some
structure gX(X:zG) where
 W:zG
 h:zB X.heap.size X W
instance zBK (X:zG):Nonempty (gX X):=⟨⟨X,Below.refl _ _⟩⟩
theorem Try.zye:(prog.info? 5).map (λi=>(i.zero,i.size,i.bytes))=zi (zi (.int .u8 0),1,1):=by kernel_rfl
def zv8(ats:Array zL)(ty:zL)(args:Array zH):Sem zH:=Builtin.append_ ats ty args
theorem zlf(ty:zL)(args:Array zH):Builtin.append_ #[22,22] ty args=zv8 #[22,22] ty args:=rfl
theorem zr5{W:zG}{B g9 c9:Nat}{xs:List UInt8}(ho:W.ownsRow B 5 1 (zp (zi ⟨g9,0,za⟩) xs.length c9) xs.length (yi xs))(hB:B<=W.heap.size)(hl:xs.length<=100000)(b0 b1:UInt8)(ty:zL):
  ∃g cap W',(zv8 #[22,22] ty #[zp (zi ⟨g9,0,za⟩) xs.length c9,zp (zi ⟨W.heap.size,0,za⟩) 2 2]).run prog (W.alloc (zy #[.int .u8 b0.toNat,.int .u8 b1.toNat] 5))=.ok (zp (zi ⟨g,0,za⟩) (xs.length+2) cap) W'/\W'.ownsRow B 5 1 (zp (zi ⟨g,0,za⟩) (xs++[b0,b1]).length cap) (xs++[b0,b1]).length (yi (xs++[b0,b1]))/\W.grownBy W' (zi g9):=by
 obtain⟨i0,fk,eQ,eR,dR⟩:=info_parts Try.zye;have hb:zB W.heap.size W (W.alloc (zy #[.int .u8 b0.toNat,.int .u8 b1.toNat] 5)):=aC;have own:=jy ho hb;have hsz:(W.alloc (zy #[.int .u8 b0.toNat,.int .u8 b1.toNat] 5)).heap.size=W.heap.size+1:=by simp
 obtain⟨g,cap,W',hr,yV,iy,at',_⟩:=run_append_lies (P:=prog) (W.alloc (zy #[.int .u8 b0.toNat,.int .u8 b1.toNat] 5)) 22 ty B 5 i0 _ 1 1 underlying22 fk eQ eR dR rfl (by omega) _ xs.length (yi xs) own ⟨W.heap.size,0,za⟩ 2 2 [.int .u8 b0.toNat,.int .u8 b1.toNat] rfl (World.news_of_block (aU _ _)) (by intro u hu;simp at hu;rcases hu with rfl|rfl<;>rfl) (by omega) (by unfold maxLen;omega) (by omega) (by omega) (W.heap.size+1) hsz;refine⟨g,cap,W',hr,?_,?_⟩
 ·rw[show (xs++[b0,b1]).length=xs.length+2 by simp,show yi (xs++[b0,b1])=yi xs++[.int .u8 b0.toNat,.int .u8 b1.toNat] by simp[yi]];exact yV
 ·exact⟨iy.os.trans hb.os,iy.tape.trans hb.tape,iy.output.trans hb.output,cM hb.size iy.size,λk hk hne=>(iy.block k (by have:=hb.size;omega) hne).trans (hb.block k hk)⟩
structure MmL(w:zG)(D:Array zH)(b3 b4 b5 gb cb g1 K c1 g2 n c2:Nat)(o os:List Nat)(nb:List Int)(W:zG):Prop where
 zD:W.heap[w.heap.size]?=zi (zy D 25 (0,0))
 z3:W.cell? ⟨b3,0,za⟩=zi (zp (zi ⟨gb,0,za⟩) n cb)
 z4:W.cell? ⟨b4,0,za⟩=zi (zp (zi ⟨g1,0,za⟩) K c1)
 z5:W.cell? ⟨b5,0,za⟩=zi (zp (zi ⟨g2,0,za⟩) n c2)
 cb:∀s,s<n->W.cell? ⟨gb,s,za⟩=zi (zx .i64 ((o.getD s 0:Nat):Int))
 c4:∀k,k<K->W.cell? ⟨g1,k,za⟩=zi (zx .i64 ((os.getD k 0:Nat):Int))
 c5:∀j,j<n->W.cell? ⟨g2,j,za⟩=zi (zx .i64 (nb.getD j 0))
theorem zpW{d:aE}(hf:cL d){o:List Nat}{nb:List Int}{K k c:Nat}(h:uP d o (aF (ai d) (au d) K 0) nb)(hG:qd (ai d) (au d) K)(hK:(aF (ai d) (au d) K 0).length=K)(hk:k<K)(hc:c<256):ai d ((aF (ai d) (au d) K 0).getD k 0) c<d.tag.length/\nb.getD (o.getD (ai d ((aF (ai d) (au d) K 0).getD k 0) c) 0) 0=(aN d k c:Int)/\aN d k c<K:=by
 have hs:=h.lt _ (kO (show k<(aF (ai d) (au d) K 0).length by omega));have hx:=hf.LO hs hc;have h1:=zhs hG hk hc;have h2:=zkK (st:=ai d) (an:=au d) hk hc;have h3:=h.num _ hx;rw[<-h1,ae h2]at h3;exact⟨hx,h3,by unfold aN;omega⟩
structure Nv(W8:zG)(R:Nat->Nat->Nat)(K p9 c:Nat)(v:Nat->zH)(ls:Nat->List Int)(g9 c9:Nat)(xs:List UInt8)(W:zG):Prop where
 st:jk W8 W 0 v ls ((aM K R c).map (jm R K)) p9 g9 c9 xs
 l0:ls 0=(List.range c).map λc=>(da K R c:Int)
 l1:ls 1=[]
 l2:ls 2=[]
 l3:ls 3=[]
 l4:ls 4=aO (aM K R c)
theorem Nv.own(W8:zG)(R:Nat->Nat->Nat)(K p9 B:Nat)(hB:W8.heap.size+6<=B):OwnFrom B (λc W=>∃v ls g9 c9 xs,Nv W8 R K p9 c v ls g9 c9 xs W):=by
 rintro c W W' row ⟨v,ls,g9,c9,xs,h⟩ hg hr;have hc:∀{b:Nat} {cs:Array zH} {t:zL},W.heap[b]?=zi (zy cs t (0,0))->W'.heap[b]?=zi (zy cs t (0,0)):=λhb=>(hg.block _ (az hb) (λe=>by obtain⟨_,o,h1,h2⟩:=hr _ e.symm;rw[hb]at h1;cases h1;cases h2)).trans hb
 refine⟨v,ls,g9,c9,xs,⟨⟨h.st.hd.aq.sI λi hi b hb=>?_,hc h.st.hd.box,h.st.hd.below.grown hg (by have:=h.st.size;omega) (λb hb=>by have:=(hr b hb).1;omega),rfl⟩,hc h.st.b7,(hg.block _ (gF.1 h.st.mp).1 (λe=>by have:=(hr _ e.symm).1;omega)).trans h.st.mp,hc h.st.b8,oI h.st.C3 λb cs hb=>hc hb,hc h.st.b9,h.st.wu⟩,h.l0,h.l1,h.l2,h.l3,h.l4⟩;obtain⟨cs,h1⟩:=jx (h.st.hd.aq.own i hi) hb;rw[hc h1,h1]
attribute [local go_sem ↓] zeH zlf
attribute [local go_sem] oJ
theorem znK(cv nv tv ev:zH)(d:aE)(w:zG)(hs:dk 0 w cv nv tv ev d)(hf:cL d):
  zI prog 11 #[zF #[cv,zx .i64 d.width,nv,tv,ev]] w (Rj w d):=by
 have du:prog.follows .mixedOrders=true:=by kernel_rfl
 obtain⟨iB,yE,yR,yS,yT⟩:=info_parts Try.zye;have jG:=hf.n1;have fc:=hf.n2;have Hs:zn _:=hs;obtain⟨⟨ca,cc,rfl,cm,cx⟩,⟨na,nc,rfl,nm,nx⟩,⟨ta,tc,rfl,tm,tx⟩,⟨ea,ec,rfl,em,ex⟩⟩:=hs;clear cx nx tx ex;have HF:zn (cL d):=hf;clear hf;obtain⟨W1,bk⟩:∃W1,(w.alloc (zy #[.slice ca d.aD.length cc,zx .i64 d.width,.slice na d.next.length nc,.slice ta d.tag.length tc,.slice ea d.fin.length ec] 25)).alloc (zy bm 25)=W1:=⟨_,rfl⟩;have aP:zB w.heap.size w W1:=by rw[<-bk];exact(aC).alloc (by simp) _
 have xD:W1.heap[w.heap.size]?=zi (zy #[.slice ca d.aD.length cc,zx .i64 d.width,.slice na d.next.length nc,.slice ta d.tag.length tc,.slice ea d.fin.length ec] 25 (0,0)):=by
  rw[<-bk,Below.heap_alloc _ _ _ (by simp)];exact aU _ _
 have xR:W1.heap[w.heap.size+1]?=zi (zy bm 25 (0,0)):=by
  rw[<-bk];have:=aU (w.alloc (zy #[.slice ca d.aD.length cc,zx .i64 d.width,.slice na d.next.length nc,.slice ta d.tag.length tc,.slice ea d.fin.length ec] 25)) (zy bm 25)
  simpa using this
 obtain⟨q0,q1,q2,q3,q4⟩:=bL xD;have Nh:zn _:=aP;have HxD:zn _:=xD;have HxR:zn _:=xR;have QW:zn _:=zqi _ _ _ _ d W1 (Hs.out.below aP) HF.out;clear aP xD xR;unfold bm at bk;refine(callsIn_wide (n:=5)).1 ?_;refine callsIn_of_wp_marks func11 rfl trivial ?_ rfl;refine wpIn_wide.2 ?_;simp only[ntmps11,List.size_toArray,iG,n4,Nat.reduceAdd,Nat.reduceSub,Array.replicate_succ,Array.replicate_zero,List.push_toArray,List.append_toArray,List.nil_append,List.cons_append]
 go_wp2_with fail
 refine Calls.mono QW.out ?_;rintro e w2 ⟨bv,o,rfl,hO,Lz,hon,hA,aL⟩;obtain⟨gb,cb,ebv,zCj,zw8,kH⟩:=pC hO (by rw[cW];omega);rw[cW,Lz]at ebv kH;subst ebv;have Bq:zn (zB w.heap.size w w2):=Nh.out.trans (aL.mono Nh.out.size);have CO:zn (∀s,s<d.tag.length->w2.cell? ⟨gb,s,za⟩=zi (zx .i64 ((o.getD s 0:Nat):Int))):=λs hs=>by rw[kH s hs,uu]
 have zv4:zn _:=aY HxD.out aL;have zy9:zn _:=aY HxR.out aL;have Nr:zn _:=hon;have HA:zn _:=hA;clear hO Lz kH hon hA aL q0 q1 q2 q3 q4 QW bk HxD HxR;obtain⟨W3,sA⟩:∃W3,w2.alloc (zy #[zp (zi ⟨gb,0,za⟩) d.tag.length cb] 23)=W3:=⟨_,rfl⟩;have cN:zB w2.heap.size w2 W3:=by rw[<-sA];exact aC
 have x3:W3.heap[w2.heap.size]?=zi (zy #[zp (zi ⟨gb,0,za⟩) d.tag.length cb] 23 (0,0)):=by rw[<-sA];exact aU _ _
 have y3:W3.cell? ⟨w2.heap.size,0,za⟩=zi (zp (zi ⟨gb,0,za⟩) d.tag.length cb):=by rw[dt _ _ _ _ _ _ x3];rfl
 obtain⟨q0,q1,q2,q3,q4⟩:=bL (aY zv4.out cN);have Hb3:zn (zB w.heap.size w W3):=Bq.out.trans (cN.mono Bq.out.size);have Hwk:zn _:=ztf (bb:=gb) (bo:=0) (bc:=cb) _ _ _ _ d o W3 (Hs.out.below Hb3.out) HF.out (by have:=cN.size;omega) (λs hs=>by rw[jB,cN.cell (p:=⟨gb,s,za⟩) zw8];exact CO.out s hs) Nr.out HA.out;have sE:=az x3;have Hx3:zn _:=x3;have zvR:zn _:=cN;clear x3 cN
 go_wp2_with fail
 refine Calls.mono Hwk.out ?_;rintro e w4 ⟨K,g1,c1,g2,c2,nb,hG,E9,rfl,Db,XJ,N8,bZ⟩;obtain⟨W8,Yb⟩:∃W8,(w4.alloc (zy #[zp (zi ⟨g1,0,za⟩) K c1] 23)).alloc (zy #[zp (zi ⟨g2,0,za⟩) d.tag.length c2] 23)=W8:=⟨_,rfl⟩;have IQ:=@run_makeMap prog;have hKn:=N8.len;have Na:zn _:=N8;have HG:zn _:=hG;have Bl:zn _:=E9;have fU:zB w4.heap.size w4 W8:=by rw[<-Yb];exact(aC).alloc (by simp) _
 have x4:W8.heap[w4.heap.size]?=zi (zy #[zp (zi ⟨g1,0,za⟩) K c1] 23 (0,0)):=by
  rw[<-Yb,Below.heap_alloc _ _ _ (by simp)];exact aU _ _
 have x5:W8.heap[w4.heap.size+1]?=zi (zy #[zp (zi ⟨g2,0,za⟩) d.tag.length c2] 23 (0,0)):=by
  rw[<-Yb];have:=aU (w4.alloc (zy #[zp (zi ⟨g1,0,za⟩) K c1] 23)) (zy #[zp (zi ⟨g2,0,za⟩) d.tag.length c2] 23)
  simpa using this
 have Ip:1<=K:=by
  have:=(Cj (ai d) (au d) 0 K (bH _));obtain⟨t,ht⟩:=this;rw[ht,xq]at E9;simp at E9;omega
 obtain⟨g1',Ky,RB,_,SB,nK⟩:=pC Db (by rw[cW];omega);rw[cW,E9]at RB nK;cases RB;obtain⟨g2',NB,RF,_,zAf,dN⟩:=pC XJ (by rw[N8.nl];omega);rw[N8.nl]at RF dN;cases RF;have Iv:zB w2.heap.size w2 W8:=zvR.out.trans ((bZ.trans (fU.mono bZ.size)).mono zvR.out.size);have HL:zn (∀W,zB W8.heap.size W8 W->MmL w #[.slice ca d.aD.length cc,zx .i64 d.width,.slice na d.next.length nc,.slice ta d.tag.length tc,.slice ea d.fin.length ec] w2.heap.size w4.heap.size (w4.heap.size+1) gb cb g1 K c1 g2 d.tag.length c2 o (aF (ai d) (au d) K 0) nb W):=λW hW=>by
  have sj:zB w2.heap.size w2 W:=Iv.trans (hW.mono Iv.size);have E2:zB w4.heap.size w4 W:=fU.trans (hW.mono fU.size);refine⟨aY zv4.out sj,?_,?_,?_,λs hs=>(sj.cell (p:=⟨gb,s,za⟩) zw8).trans (CO.out s hs),λk hk=>by rw[E2.cell (p:=⟨g1,k,za⟩) SB,nK k hk,uu],λj hj=>by rw[E2.cell (p:=⟨g2,j,za⟩) zAf];exact dN j hj⟩
  ·rw[dt _ _ _ _ _ _ (aY (aY Hx3.out (bZ.trans (fU.mono bZ.size))) hW)];rfl
  ·rw[dt _ _ _ _ _ _ (aY x4 hW)];rfl
  ·rw[dt _ _ _ _ _ _ (aY x5 hW)];rfl
 have CE:zn (zB w.heap.size w W8):=Bq.out.trans (Iv.mono Bq.out.size);have zvM:zn (W8.heap[w.heap.size+1]?=zi (zy bm 25 (0,0))):=aY zy9.out Iv;have sG:w.heap.size+1<W8.heap.size:=az zvM.out;obtain⟨W9,Df⟩:∃W9,((((W8.alloc (zy #[zp za 0 0,zx .i64 0,zp za 0 0,zp za 0 0,zp za 0 0] 25)).alloc (zy #[] 3)).alloc (zy #[zp (zi ⟨W8.heap.size+1,0,za⟩) 0 0] 23)).alloc (.map #[] 0)).alloc (zy #[.map (zi (W8.heap.size+1+1+1))] 47)=W9:=⟨_,rfl⟩;have s9:W9.heap.size=W8.heap.size+5:=by rw[<-Df];simp
 have Dj:zB W8.heap.size W8 W9:=by rw[<-Df];exact((((aC).alloc (by simp) _).alloc (by simp;omega) _).alloc (by simp;omega) _).alloc (by simp;omega) _
 have y4:=(HL.out W9 Dj).z4;have hKi:(K:Int)<=4000:=by omega
 have Hb9:zn _:=Dj;have Hs9:zn _:=s9;have Kc:zn _:=Df;clear Hwk q0 q1 q2 q3 q4 y3 Db XJ fU x4 x5 nK dN Iv bZ hG E9 N8 Dj s9
 go_wp2_with (refine wpList_make_own _ rfl _ _ 22 rfl (W8.heap.size+1) 5 iB _ 1 underlying22 yE yR yS _ _ _ (2*K) rfl rfl (by omega) (by rw[yT];omega) (by unfold maxLen;omega) (by have:=Hs9.out;omega) ?_;intro eU zxI zxe)
 rename_i K1 E8
 have Di:zB W9.heap.size W9 eU:=(Below.refl _ _).grown zxe (ax _) (by intro k h;cases h);have zAU:=Di.size;have Zl:W8.heap.size+5<=W9.heap.size:=by have:=Hs9.out;omega
 have oa:zn (Nv W8 (aN d) K eU.heap.size 0 (upd (λ_=>zp za 0 0) 4 (zp (zi ⟨W8.heap.size+1,0,za⟩) 0 0)) (bq (λ_=>[]) 4 []) W9.heap.size (2*K) [] (eU.alloc (zy #[zp (zi ⟨W9.heap.size,0,za⟩) 0 (2*K)] 22))):=by
  have zxU:=lI.start (W8:=W8);unfold bm at zxU;have bz1:zB ((W8.alloc (zy #[zp za 0 0,zx .i64 0,zp za 0 0,zp za 0 0,zp za 0 0] 25)).alloc (zy #[] 3)).heap.size ((W8.alloc (zy #[zp za 0 0,zx .i64 0,zp za 0 0,zp za 0 0,zp za 0 0] 25)).alloc (zy #[] 3)) W9:=by rw[<-Kc.out];exact((aC).alloc (by simp) _).alloc (by simp) _
  have h7:W9.heap[W8.heap.size+1+1]?=zi (zy #[zp (zi ⟨W8.heap.size+1,0,za⟩) 0 0] 23 (0,0)):=by
   rw[<-Kc.out,Below.heap_alloc _ _ _ (by simp),Below.heap_alloc _ _ _ (by simp)];have:=aU ((W8.alloc (zy #[zp za 0 0,zx .i64 0,zp za 0 0,zp za 0 0,zp za 0 0] 25)).alloc (zy #[] 3)) (zy #[zp (zi ⟨W8.heap.size+1,0,za⟩) 0 0] 23)
   simpa using this
  have YV:W9.heap[W8.heap.size+1+1+1]?=zi (.map #[] 0):=by
   rw[<-Kc.out,Below.heap_alloc _ _ _ (by simp)];have:=aU (((W8.alloc (zy #[zp za 0 0,zx .i64 0,zp za 0 0,zp za 0 0,zp za 0 0] 25)).alloc (zy #[] 3)).alloc (zy #[zp (zi ⟨W8.heap.size+1,0,za⟩) 0 0] 23)) (.map #[] 0)
   simpa using this
  have h8:W9.heap[W8.heap.size+1+1+1+1]?=zi (zy #[.map (zi (W8.heap.size+1+1+1))] 47 (0,0)):=by
   rw[<-Kc.out];have:=aU ((((W8.alloc (zy #[zp za 0 0,zx .i64 0,zp za 0 0,zp za 0 0,zp za 0 0] 25)).alloc (zy #[] 3)).alloc (zy #[zp (zi ⟨W8.heap.size+1,0,za⟩) 0 0] 23)).alloc (.map #[] 0)) (zy #[.map (zi (W8.heap.size+1+1+1))] 47)
   simpa using this
  have ba:zB eU.heap.size eU (eU.alloc (zy #[zp (zi ⟨W9.heap.size,0,za⟩) 0 (2*K)] 22)):=aC;have Rq:=Di.trans (ba.mono zAU);exact⟨⟨(zxU.on bz1).on Rq,aY h7 Rq,aY YV Rq,aY h8 Rq,jy zxI ba,aU _ _,by omega⟩,rfl,rfl,rfl,rfl,rfl⟩
 have O3:zn ((eU.alloc (zy #[zp (zi ⟨W9.heap.size,0,za⟩) 0 (2*K)] 22)).heap.size=eU.heap.size+1):=by show _=_;simp
 have zyX:zn (zB W8.heap.size W8 eU):=Hb9.out.trans (Di.mono (by omega));clear zxI zxe y4;refine(wpIn_wide (n:=5)).1 ?_;refine zhJ (encs:=Gp) (N:=256) (gf:=24) (I:=λc W=>∃v ls g9 c9 xs,Nv W8 (aN d) K eU.heap.size c v ls g9 c9 xs W)
  (a₁:=λc=>{tmps:=#[zF #[.slice ca d.aD.length cc,zx .i64 d.width,.slice na d.next.length nc,.slice ta d.tag.length tc,.slice ea d.fin.length ec],zK (zi ⟨w.heap.size,0,za⟩),zK (zi ⟨w.heap.size+1,0,za⟩),zK (zi ⟨w2.heap.size,0,za⟩),zK (zi ⟨w4.heap.size,0,za⟩),zK (zi ⟨w4.heap.size+1,0,za⟩),zK (zi ⟨W8.heap.size,0,za⟩),zK (zi ⟨W8.heap.size+1+1,0,za⟩),zK (zi ⟨W8.heap.size+1+1+1+1,0,za⟩),zK (zi ⟨eU.heap.size,0,za⟩),zx .i64 (c:Int),undef,undef,undef,undef,undef,undef,undef,undef,undef,zF #[.slice ca d.aD.length cc,zx .i64 d.width,.slice na d.next.length nc,.slice ta d.tag.length tc,.slice ea d.fin.length ec],zp (zi ⟨gb,0,za⟩) d.tag.length cb,.tuple #[zp (zi ⟨g1,0,za⟩) K c1,zp (zi ⟨g2,0,za⟩) d.tag.length c2],zF #[.slice ca d.aD.length cc,zx .i64 d.width,.slice na d.next.length nc,.slice ta d.tag.length tc,.slice ea d.fin.length ec],zp (zi ⟨gb,0,za⟩) d.tag.length cb,.tuple #[zp (zi ⟨g1,0,za⟩) K c1,zp (zi ⟨g2,0,za⟩) d.tag.length c2],zp (zi ⟨g1,0,za⟩) K c1,zp (zi ⟨g2,0,za⟩) d.tag.length c2,zF #[zp za 0 0,zx .i64 0,zp za 0 0,zp za 0 0,zp za 0 0],zp (zi ⟨W8.heap.size+1,0,za⟩) 0 0,.map (zi (W8.heap.size+1+1+1)),zp (zi ⟨g1,0,za⟩) K c1,zx .i64 (K:Int),zx .i64 (2*(K:Int)),zp (zi ⟨W9.heap.size,0,za⟩) 0 (2*K),zx .i64 (c:Int),undef,undef,undef,undef,undef,undef,undef,undef,undef,undef,undef,undef,undef,undef,undef,undef,undef,undef,undef,undef,undef,undef,undef,undef,undef,undef,undef,undef,undef,undef,undef,undef,undef,undef,undef,undef,undef,undef,undef,undef,undef,undef,undef,undef,undef,undef,undef,undef,undef,undef,undef,undef,undef,undef,undef,undef,undef,undef,undef,undef,undef,undef,undef,undef,undef,undef,undef,undef,undef,undef,undef,undef,undef,undef,undef,undef,undef,undef,undef,undef,undef,undef,undef,undef,undef,undef,undef,undef,undef,undef,undef,undef,undef,undef,undef,undef,undef,undef],defers:=[]}) ?h1 ?hg ?eg ?hseq ?hps ?hI ?h0 ?assign ?body ?done
 case h1=>omega
 case hg=>rfl
 case eg=>exact enters_of func24 (by kernel_rfl) rfl
 case hseq=>exact zd7 4 (by omega)
 case hps=>exact λ_=>rfl
 case hI=>exact Nv.own W8 _ K _ _ (by rw[O3.out];omega)
 case h0=>exact⟨_,_,_,_,_,oa.out⟩
 case assign=>
  intro l k W K2 NU;unfold Gp
  gi_wp2
  exact NU
 case body=>
  rintro l0 c W5 sD ⟨v,ls,g9,c9,xs,H⟩ hc;have z9:W5.cell? ⟨eU.heap.size,0,za⟩=zi (zp (zi ⟨g9,0,za⟩) xs.length c9):=by rw[dt _ _ _ _ _ _ H.st.b9];rfl
  have f9:=aR _ _ 0 _ _ H.st.b9;have hE:=H.st.empty;obtain⟨Wa,Fi⟩:∃Wa,W5.setCell ⟨eU.heap.size,0,za⟩ (zp (zi ⟨g9,0,za⟩) 0 c9)=Wa:=⟨_,rfl⟩;rw[Fi]at hE;have HE:zn _:=hE;have HKa:zn (KeepsOthers W5 Wa):=by rw[<-Fi];exact KeepsOthers.setCell _ _ _
  have z4:=(HL.out Wa hE.hd.below).z4;have HH:zn _:=H;clear hE H oa E8 Kc zyX
  gi_wp2
  clear z9 f9 z4 Fi
  gi_loopw [40] (λi W=>∃(k g9 c9:Nat),k<=K/\i=zx .i64 k/\zn (jk W8 W 0 v ls ((aM K (aN d) c).map (jm (aN d) K)) eU.heap.size g9 c9 (qu (aN d) c k))/\zn (KeepsOthers W5 W))
   (λi _=>K-(intOf i).toNat)
  case atStart=>exact⟨0,g9,c9,bH _,rfl,HE,HKa⟩
  case round=>
   clear HE HKa;obtain⟨k,g9,c9,hk,rfl,HM,HK⟩:=hrel
   by_cases bJ:k<K
   ·have L:=HL.out wr HM.out.hd.below;obtain⟨mg,lP,nO⟩:=zpW HF.out Na.out HG.out Bl.out bJ hc;have ue:=Na.out.lt _ (kO (show k<(aF (ai d) (au d) K 0).length by have:=Bl.out;omega));have z0:=L.c4 k bJ;have zR:zn (∀X,zB w.heap.size w X->zI prog 25 #[zF #[.slice ca d.aD.length cc,zx .i64 d.width,.slice na d.next.length nc,.slice ta d.tag.length tc,.slice ea d.fin.length ec],zx .i64 (((aF (ai d) (au d) K 0).getD k 0:Nat):Int),zx .i64 (c:Int)] X λe w'=>e=.returned (zx .i64 ((ai d ((aF (ai d) (au d) K 0).getD k 0) c:Nat):Int))/\zB X.heap.size X w'):=λX hX=>by
     have:=zl8 _ _ _ _ d (((aF (ai d) (au d) K 0).getD k 0:Nat):Int) c X (Hs.out.below hX) HF.out (by omega) (by omega) hc;rw[T4 HF.out ue hc]at this;exact this
    have bN:=Nr.out _ mg;have Lx:∀s:gX wr,MmL w #[.slice ca d.aD.length cc,zx .i64 d.width,.slice na d.next.length nc,.slice ta d.tag.length tc,.slice ea d.fin.length ec] w2.heap.size w4.heap.size (w4.heap.size+1) gb cb g1 K c1 g2 d.tag.length c2 o (aF (ai d) (au d) K 0) nb s.W:=λs=>HL.out s.W (HM.out.hd.below.trans (s.h.mono (by have:=HM.out.size;omega)))
    have x5:∀s:gX wr,s.W.cell? ⟨w4.heap.size+1,0,za⟩=zi (zp (zi ⟨g2,0,za⟩) d.tag.length c2):=λs=>(Lx s).z5
    have x3:∀s:gX wr,s.W.cell? ⟨w2.heap.size,0,za⟩=zi (zp (zi ⟨gb,0,za⟩) d.tag.length cb):=λs=>(Lx s).z3
    have xd0:∀s:gX wr,s.W.cell? ⟨w.heap.size,0,za⟩=zi (.slice ca d.aD.length cc):=λs=>(bL (Lx s).zD).1
    have xd1:∀s:gX wr,s.W.cell? ⟨w.heap.size,1,za⟩=zi (zx .i64 d.width):=λs=>(bL (Lx s).zD).2.1
    have xd2:∀s:gX wr,s.W.cell? ⟨w.heap.size,2,za⟩=zi (.slice na d.next.length nc):=λs=>(bL (Lx s).zD).2.2.1
    have xd3:∀s:gX wr,s.W.cell? ⟨w.heap.size,3,za⟩=zi (.slice ta d.tag.length tc):=λs=>(bL (Lx s).zD).2.2.2.1
    have xd4:∀s:gX wr,s.W.cell? ⟨w.heap.size,4,za⟩=zi (.slice ea d.fin.length ec):=λs=>(bL (Lx s).zD).2.2.2.2
    have xb:∀s:gX wr,s.W.cell? ⟨gb,ai d ((aF (ai d) (au d) K 0).getD k 0) c,za⟩=zi (zx .i64 ((o.getD (ai d ((aF (ai d) (au d) K 0).getD k 0) c) 0:Nat):Int)):=λs=>(Lx s).cb _ mg
    have xn:∀s:gX wr,s.W.cell? ⟨g2,o.getD (ai d ((aF (ai d) (au d) K 0).getD k 0) c) 0,za⟩=zi (zx .i64 ((aN d k c:Nat):Int)):=λs=>by rw[(Lx s).c5 _ bN,lP]
    have hstep:∀s:gX wr,zI prog 25 #[zF #[.slice ca d.aD.length cc,zx .i64 d.width,.slice na d.next.length nc,.slice ta d.tag.length tc,.slice ea d.fin.length ec],zx .i64 (((aF (ai d) (au d) K 0).getD k 0:Nat):Int),zx .i64 (c:Int)] s.W λe w'=>e=.returned (zx .i64 ((ai d ((aF (ai d) (au d) K 0).getD k 0) c:Nat):Int))/\∃s':gX wr,w'=s'.W:=λs=>by
     have hB:=HM.out.hd.below.trans (s.h.mono (by have:=HM.out.size;omega));refine(zR.out s.W (CE.out.trans (hB.mono CE.out.size))).mono ?_;rintro e w' ⟨rfl,hw⟩;exact⟨rfl,⟨w',s.h.trans (hw.mono s.h.size)⟩,rfl⟩
    have Hcs:zn _:=TM (aN d) c k;have bn:=ziX (aN d) c k;have aG:IntKind.u8.wrap ((aN d k c:Nat):Int)=(((ux (aN d k c)).toNat:Nat):Int):=by rw[zjL];simp[IntKind.wrap,IntKind.bits,IntKind.signed]
    have aP:IntKind.u8.wrap (((aN d k c:Nat):Int)/256)=(((ux (aN d k c/256)).toNat:Nat):Int):=by rw[zjL];simp[IntKind.wrap,IntKind.bits,IntKind.signed]
    clear zR Lx L lP ue;generalize yP:ux (aN d k c)=u0 at *;generalize qD:ux (aN d k c/256)=u1 at *;generalize (aF (ai d) (au d) K 0).getD k 0=s0 at *;generalize ai d s0 c=x at *;generalize o.getD x 0=bx at *;generalize aN d k c=tt at *;have cG:(k:Int)<(K:Int):=by omega
    have fA:(x:Int)<(d.tag.length:Int):=by omega
    have oy:(bx:Int)<(d.tag.length:Int):=by omega
    have Dn:(tt:Int)<=4000:=by omega
    have Hcl:zn _:=bn;clear bn yP qD
    gi_wp2
    refine PE 11 (λw'=>∃s:gX wr,w'=s.W) du ⟨⟨wr.drew,⟨rfl,rfl,rfl,ax _,λ_ _=>rfl⟩⟩,rfl⟩ (by rintro ⟨_,_,h⟩;exact h) (by decide) (by kernel_rfl) rfl ?_;intro os aX;simp only[gG,kQ]at aX;subst aX
    repeat (go_big_quiet_step (exact hstep _))
    refine wpQuiet_nil ?_;rintro w' ⟨⟨Wb,kG⟩,rfl⟩ r hr;simp only[rT,qi]at hr;subst hr;clear x5 x3 xd0 xd1 xd2 xd3 xd4 xb xn hstep;have Fa:=HM.out.on kG;have z9:w'.cell? ⟨eU.heap.size,0,za⟩=zi (zp (zi ⟨g9,0,za⟩) (qu (aN d) c k).length c9):=by rw[dt _ _ _ _ _ _ Fa.b9];rfl
    obtain⟨g',c',w6,Dh,ho6,ow⟩:=zr5 Fa.C3 (by have:=Fa.size;omega) (by have:=Hcl.out;omega) u0 u1 22;obtain⟨z96,f96,Ac⟩:=Fa.zwp ho6 ow;rw[show (qu (aN d) c k++[u0,u1]).length=(qu (aN d) c k).length+2 by simp]at Ac;have vL:zn _:=Ac;have EB:zn (KeepsOthers W5 (w6.setCell ⟨eU.heap.size,0,za⟩ (zp (zi ⟨g',0,za⟩) ((qu (aN d) c k).length+2) c'))):=by
     obtain⟨cs9,h9,_⟩:=Fa.zwo;exact((HK.out.trans (Ga kG)).trans (KeepsOthers.of_grownBy ow λj _ e ho=>by
      have e2:=Option.some.inj e;rw[<-e2,h9]at ho;rw[<-Option.some.inj ho]
      rfl)).trans (KeepsOthers.setCell _ _ _)
    clear Fa ho6 ow Ac;generalize (qu (aN d) c k).length=cl at *;go_wp2
    gi_wp2
    go_roundw
    case rel=>exact⟨k+1,g',c',by omega,by go_num,by rw[Hcs.out];exact vL.out,EB⟩
    case measure=>simp[intOf];omega
   ·have cI:k=K:=by omega
    have hM:=HM.out;rw[cI]at hM;have HM':zn _:=hM;have Oh:∀j x,j<K->x<=c->aN d j x<65536:=λj x hj hx=>by
     have:=(zpW HF.out Na.out HG.out Bl.out hj (show x<256 by omega)).2.2;omega
    have z8:wr.cell? ⟨W8.heap.size+1+1+1+1,0,za⟩=zi (.map (zi (W8.heap.size+1+1+1))):=by rw[dt _ _ _ _ _ _ hM.b8];rfl
    have z9:wr.cell? ⟨eU.heap.size,0,za⟩=zi (zp (zi ⟨g9,0,za⟩) (qu (aN d) c K).length c9):=by rw[dt _ _ _ _ _ _ hM.b9];rfl
    have hcv:=run_convert_bytes_back (P:=prog) wr 22 9 5 ⟨g9,0,za⟩ c9 (qu (aN d) c K) underlying22 underlying5 underlying9 (λj hj=>by
     have e:(⟨g9,0,za⟩:Addr).add j=⟨g9,j,za⟩:=by unfold Addr.add;split<;>simp_all
     rw[e,hM.C3.cellAt j (by omega)];simp[yi,hj])
    have pV:=znO (W8.heap.size+1+1+1) _ (jm (aN d) K c) wr hM.mp;have zBB:zn _:=zgX Oh;have zBz:zn _:=zj6 Oh;have uK:zn _:=zgY Oh;have CS:zn _:=sR K (aN d) c;have Yn:jm (aN d) K c=⟨(qu (aN d) c K).toArray⟩:=rfl;have hL4:=HH.out.l4;have hL0:=HH.out.l0;have IK:(aM K (aN d) c).length<=256:=by have:=D9 K (aN d) c;omega
    have hHB:zn (eU.heap.size+1=(eU.alloc (zy #[zp (zi ⟨W9.heap.size,0,za⟩) 0 (2*K)] 22)).heap.size):=O3.out.symm;unfold Hc at pV;rw[zgX Oh,zj6 Oh]at pV;rw[<-Yn]at hcv;clear Yn hM;obtain⟨w9n,ZC⟩:∃n,(qu (aN d) c K).length=n:=⟨_,rfl⟩;rw[ZC]at z9 hcv;have Hw9:zn _:=ZC;clear ZC;have cG:¬(k:Int)<(K:Int):=by omega
    clear cI
    by_cases Sy:da K (aN d) c<(aM K (aN d) c).length
    ·have AE:zI prog 26 #[.map (zi (W8.heap.size+1+1+1)),.string (jm (aN d) K c)] wr λe w'=>e=.returned (.tuple #[zx .i64 ((da K (aN d) c:Nat):Int),.bool false])/\w'.heap[W8.heap.size+1+1+1]?=zi (.map (ju Value.string ((aM K (aN d) (c+1)).map (jm (aN d) K))) ((aM K (aN d) (c+1)).map (jm (aN d) K)).length)/\wr.grownBy w' (zi (W8.heap.size+1+1+1)):=by
      refine pV.mono ?_;rintro e w' ⟨a,b,e3⟩;exact⟨by rw[a];simp[uK.out.2 Sy],b,e3⟩
     rw[ae Sy]at CS;have zJ:zn _:=AE;clear pV AE;generalize jm (aN d) K c=key at *
     gi_wp2_with fail
     refine⟨trivial,?_⟩;refine(CallsIn.inRound l0 (callsIn_wide.2 zJ.out)).mono ?_;rintro e w6 ⟨rfl,yI,ow⟩;have vM:zn _:=HM'.out.reg ow yI;have Vh:zn (KeepsFrom (eU.alloc (zy #[zp (zi ⟨W9.heap.size,0,za⟩) 0 (2*K)] 22)).heap.size W5 w6):=(HK.out.from _).trans (KeepsFrom.of_grownBy ow (λj e=>by cases e;rw[O3.out];omega));clear yI ow z8 z9 hcv zJ;obtain⟨⟨a0,Hw⟩,e0⟩:=cJ (vM.out.hd.aq.own 0 (by omega));have IL:(ls 0).length=c:=by rw[HH.out.l0];simp
     rw[IL]at e0;have z0:w6.cell? ⟨W8.heap.size,0,za⟩=zi (.slice a0 c Hw):=by rw[(cE vM.out.hd.box).1,e0]
     have MQ:zn _:=e0;clear e0;obtain⟨WW,WL,w7,zzX,wy,pP⟩:=Jt vM.out.hd.aq 0 (by omega) _ rfl c IL _ MQ.out ((da K (aN d) c:Nat):Int) (by omega) (by have:=vM.out.size;omega) 23;obtain⟨Ix,Ad⟩:=vM.out.field (i:=0) (off:=0) (by omega) rfl wy pP;have z07:w7.cell? ⟨W8.heap.size,0,za⟩=zi (.slice a0 c Hw):=by rw[(cE Ix).1,MQ.out]
     have f07:=aR _ _ 0 _ _ Ix;have tD:zn _:=Ad;have GU:zn (KeepsFrom (eU.alloc (zy #[zp (zi ⟨W9.heap.size,0,za⟩) 0 (2*K)] 22)).heap.size W5 (w7.setCell ⟨W8.heap.size,0,za⟩ (zp (zi ⟨WW,0,za⟩) (c+1) WL))):=Vh.out.trans (((Jy vM.out.hd.aq (i:=0) (by omega) pP).trans (KeepsOthers.setCell _ _ _)).from _);clear wy pP Ix Ad IL
     gi_wp2
     refine⟨GU.out,_,_,g9,c9,_,⟨tD.out,?_,?_,?_,?_,?_⟩⟩
     ·rw[ez,HH.out.l0,oN,rR];rfl
     ·rw[a8 _ _ (by omega)];exact HH.out.l1
     ·rw[a8 _ _ (by omega)];exact HH.out.l2
     ·rw[a8 _ _ (by omega)];exact HH.out.l3
     ·rw[a8 _ _ (by omega),CS.out];exact HH.out.l4
    ·have AE:zI prog 26 #[.map (zi (W8.heap.size+1+1+1)),.string (jm (aN d) K c)] wr λe w'=>e=.returned (.tuple #[zx .i64 ((da K (aN d) c:Nat):Int),.bool true])/\w'.heap[W8.heap.size+1+1+1]?=zi (.map (ju Value.string ((aM K (aN d) (c+1)).map (jm (aN d) K))) ((aM K (aN d) (c+1)).map (jm (aN d) K)).length)/\wr.grownBy w' (zi (W8.heap.size+1+1+1)):=by
      refine pV.mono ?_;rintro e w' ⟨a,b,e3⟩;have hnk:jm (aN d) K c∉(aM K (aN d) c).map (jm (aN d) K):=λh=>Sy (uK.out.1 h)
      exact⟨by rw[a];simp only[hnk,not_false_eq_true,decide_true],b,e3⟩
     rw[ab Sy]at CS;have zJ:zn _:=AE;clear pV AE;generalize jm (aN d) K c=key at *
     gi_wp2_with fail
     refine⟨trivial,?_⟩;refine(CallsIn.inRound l0 (callsIn_wide.2 zJ.out)).mono ?_;rintro e w6 ⟨rfl,yI,ow⟩;have vM:zn _:=HM'.out.reg ow yI;have Vh:zn (KeepsFrom (eU.alloc (zy #[zp (zi ⟨W9.heap.size,0,za⟩) 0 (2*K)] 22)).heap.size W5 w6):=(HK.out.from _).trans (KeepsFrom.of_grownBy ow (λj e=>by cases e;rw[O3.out];omega));clear yI ow z8 z9 hcv zJ;obtain⟨⟨a4,zX⟩,e4⟩:=cJ (vM.out.hd.aq.own 4 (by omega));have YS:(ls 4).length=(aM K (aN d) c).length:=by rw[HH.out.l4,cW]
     rw[YS]at e4;have z7:w6.cell? ⟨W8.heap.size+1+1,0,za⟩=zi (.slice a4 (aM K (aN d) c).length zX):=by rw[dt _ _ _ _ _ _ vM.out.b7,<-e4];rfl
     obtain⟨gh,ch,wh,zB5,hFh,OB⟩:=Jt vM.out.hd.aq 4 (by omega) _ rfl (aM K (aN d) c).length YS _ e4 (c:Int) (by omega) (by have:=vM.out.size;omega) 23;obtain⟨z7h,f7h,XG⟩:=vM.out.head hFh OB;rw[e4]at z7h;obtain⟨WX,hWX⟩:∃WX,wh.setCell ⟨W8.heap.size+1+1,0,za⟩ (zp (zi ⟨gh,0,za⟩) ((aM K (aN d) c).length+1) ch)=WX:=⟨_,rfl⟩;rw[hWX]at XG;have Ka:zn _:=XG;have HKx:zn (KeepsFrom (eU.alloc (zy #[zp (zi ⟨W9.heap.size,0,za⟩) 0 (2*K)] 22)).heap.size W5 WX):=by rw[<-hWX];exact Vh.out.trans (((Jy vM.out.hd.aq (i:=4) (by omega) OB).trans (KeepsOthers.setCell _ _ _)).from _)
     have yH:bq ls 4 (ls 4++[(c:Int)]) 0=(List.range c).map λc=>(da K (aN d) c:Int):=by rw[a8 _ _ (by omega)];exact HH.out.l0
     have Hlx:zn _:=yH;clear XG hFh OB e4 YS yH;obtain⟨⟨a0,Hw⟩,e0⟩:=cJ (Ka.out.hd.aq.own 0 (by omega));have IL:(bq ls 4 (ls 4++[(c:Int)]) 0).length=c:=by rw[Hlx.out];simp
     rw[IL]at e0;have z0:WX.cell? ⟨W8.heap.size,0,za⟩=zi (.slice a0 c Hw):=by rw[(cE Ka.out.hd.box).1,e0]
     have MQ:zn _:=e0;clear e0;obtain⟨WW,WL,w7,zzX,wy,pP⟩:=Jt Ka.out.hd.aq 0 (by omega) _ rfl c IL _ MQ.out ((da K (aN d) c:Nat):Int) (by omega) (by have:=Ka.out.size;omega) 23;obtain⟨Ix,Ad⟩:=Ka.out.field (i:=0) (off:=0) (by omega) rfl wy pP;have z07:w7.cell? ⟨W8.heap.size,0,za⟩=zi (.slice a0 c Hw):=by rw[(cE Ix).1,MQ.out]
     have f07:=aR _ _ 0 _ _ Ix;have tD:zn _:=Ad;have GU:zn (KeepsFrom (eU.alloc (zy #[zp (zi ⟨W9.heap.size,0,za⟩) 0 (2*K)] 22)).heap.size W5 (w7.setCell ⟨W8.heap.size,0,za⟩ (zp (zi ⟨WW,0,za⟩) (c+1) WL))):=HKx.out.trans (((Jy Ka.out.hd.aq (i:=0) (by omega) pP).trans (KeepsOthers.setCell _ _ _)).from _);clear wy pP Ix Ad IL
     gi_wp2
     refine⟨GU.out,_,_,g9,c9,_,⟨tD.out,?_,?_,?_,?_,?_⟩⟩
     ·rw[ez,Hlx.out,oN,rR];rfl
     ·rw[a8 _ _ (by omega)];rw[a8 _ _ (by omega)];exact HH.out.l1
     ·rw[a8 _ _ (by omega)];rw[a8 _ _ (by omega)];exact HH.out.l2
     ·rw[a8 _ _ (by omega)];rw[a8 _ _ (by omega)];exact HH.out.l3
     ·rw[a8 _ _ (by omega),CS.out];rw[ez,HH.out.l4];simp[aO]
 case done=>
  rintro D W5 KG ⟨v,ls,g9,c9,xs,H⟩ hD;refine E8 _ _ ?_;obtain⟨ta',tc',eta,_,vh⟩:=Hs.out.tag;cases eta;obtain⟨tb,jY,O6,_,tl,tq⟩:=vh (by omega);subst O6;obtain⟨ea',ec',eea,_,hex⟩:=Hs.out.fin;cases eea;obtain⟨eb,jS,Yt,_,el,eq⟩:=hex (by have:=HF.out.fl;omega);subst Yt;have Rh:zn (∀W,zB W8.heap.size W8 W->∀s,s<d.tag.length->W.cell? ⟨tb,jY+s,za⟩=zi (zx .i64 (d.tag.getD s 0))/\W.cell? ⟨eb,jS+s,za⟩=zi (zx .i64 (d.fin.getD s 0))):=λW hW s hs=>by
   have BP:zB w.heap.size w W:=CE.out.trans (hW.mono CE.out.size);exact⟨by rw[BP.cell (p:=⟨tb,jY+s,za⟩) tl];exact tq s hs,by rw[BP.cell (p:=⟨eb,jS+s,za⟩) el];exact eq s (by have:=HF.out.fl;omega)⟩
  have HD:zn _:=hD;have HDw:zn (w.heap.size<=D):=by
   show _<=_;rw[KG];have:=O3.out;omega
  clear KG hD oa E8 vh hex tq eq Kc;generalize Fy:aM K (aN d) 256=hd at *;have Kg:zn _:=Fy;have Dm:hd.length<=256:=by rw[<-Fy];exact D9 _ _ _
  have EE:zn (∀j,j<hd.length->hd.getD j 0<256):=λj hj=>zd K (aN d) 256 _ (by rw[Fy];exact kO hj)
  clear Fy;have AB:ls 4=aO hd:=by rw[H.l4,Kg.out]
  obtain⟨⟨a4,zX⟩,e4⟩:=cJ (H.st.hd.aq.own 4 (by omega));rw[AB,cW]at e4;have z7:W5.cell? ⟨W8.heap.size+1+1,0,za⟩=zi (.slice a4 hd.length zX):=by rw[dt _ _ _ _ _ _ H.st.b7,<-e4];rfl
  have y1:=(cE H.st.hd.box).2.1;have fm:=aR _ _ 1 _ _ H.st.hd.box;have Ac:=H.st.zBu (hd.length:Int);obtain⟨W6,lJ⟩:∃W6,W5.setCell ⟨W8.heap.size,1,za⟩ (zx .i64 (hd.length:Int))=W6:=⟨_,rfl⟩;rw[lJ]at Ac;have vL:zn _:=Ac;have He4:zn _:=e4;have jR:zn (ls 0=(List.range 256).map (λc=>(da K (aN d) c:Int))/\ls 1=zk (aN d) hd 0/\ls 2=((aF (ai d) (au d) K 0).take 0).map (λs=>d.tag.getD s 0)/\ls 3=((aF (ai d) (au d) K 0).take 0).map (λs=>d.fin.getD s 0)/\ls 4=aO hd):=⟨H.l0,by rw[H.l1];rfl,by rw[H.l2];simp,by rw[H.l3];simp,AB⟩;have EB:zn (KeepsOthers W5 W6):=by rw[<-lJ];exact KeepsOthers.setCell _ _ _
  have z4:=(HL.out W6 Ac.hd.below).z4;clear Ac e4 AB H;go_wp2;clear z7 y1 fm lJ z4;generalize zAz:(aM K (aN d) 256).map (jm (aN d) K)=keys at *;clear zAz
  go_loopw [86] (λi W=>∃(q:Nat) (v':Nat->zH) (dp:Nat->List Int),q<=K/\i=zx .i64 q/\zn (jk W8 W (hd.length:Int) v' dp keys eU.heap.size g9 c9 xs)/\zn (v' 4=.slice a4 hd.length zX)/\zn (dp 0=(List.range 256).map (λc=>(da K (aN d) c:Int))/\dp 1=zk (aN d) hd q/\dp 2=((aF (ai d) (au d) K 0).take q).map (λs=>d.tag.getD s 0)/\dp 3=((aF (ai d) (au d) K 0).take q).map (λs=>d.fin.getD s 0)/\dp 4=aO hd)/\zn (KeepsOthers W5 W))
   (λi _=>K-(intOf i).toNat)
  case atStart=>exact⟨0,v,ls,bH _,rfl,vL,He4,jR,EB⟩
  case round=>
   clear vL jR EB He4;obtain⟨q,v',dp,hq,rfl,HM,CT,jR,HK⟩:=hrel
   by_cases im:q<K
   ·have ue:=Na.out.lt _ (kO (show q<(aF (ai d) (au d) K 0).length by have:=Bl.out;omega));have z0:=(HL.out wr HM.out.hd.below).c4 q im;have HT:zn _:=T5 (λs=>d.tag.getD s 0) (aF (ai d) (au d) K 0) (q:=q) (by have:=Bl.out;omega);have HE:zn _:=T5 (λs=>d.fin.getD s 0) (aF (ai d) (au d) K 0) (q:=q) (by have:=Bl.out;omega);have oT:zn (∀f:Nat->Int,(((aF (ai d) (au d) K 0).take q).map f).length=q):=λf=>by have:=Bl.out;rw[jK,nr,this];omega
    have VW:zn (∀j,j<hd.length->hd.getD j 0<256/\ai d ((aF (ai d) (au d) K 0).getD q 0) (hd.getD j 0)<d.tag.length/\nb.getD (o.getD (ai d ((aF (ai d) (au d) K 0).getD q 0) (hd.getD j 0)) 0) 0=(aN d q (hd.getD j 0):Int)/\aN d q (hd.getD j 0)<K):=λj hj=>⟨EE.out j hj,zpW HF.out Na.out HG.out Bl.out im (EE.out j hj)⟩
    have Nu:zn _:=ue;have cG:(q:Int)<(K:Int):=by omega
    generalize kI:(aF (ai d) (au d) K 0).getD q 0=s0 at *;have Rf:zn _:=kI;clear kI;have fA:(s0:Int)<(d.tag.length:Int):=by omega
    have oy:(s0:Int)<(d.fin.length:Int):=by have:=HF.out.fl;omega
    obtain⟨t1,mP⟩:∃t1,d.tag.getD s0 0=t1:=⟨_,rfl⟩;obtain⟨t2,lR⟩:∃t2,d.fin.getD s0 0=t2:=⟨_,rfl⟩;have V7:zn _:=mP;have V8:zn _:=lR;clear ue mP lR;obtain⟨⟨a2,p2⟩,e2⟩:=cJ (HM.out.hd.aq.own 2 (by omega));rw[jR.out.2.2.1,oT.out]at e2;have Q5:zn _:=e2;clear e2;have Lx:∀s:gX wr,zB W8.heap.size W8 s.W:=λs=>HM.out.hd.below.trans (s.h.mono (by have:=HM.out.size;omega))
    have xm:∀s:gX wr,s.W.cell? ⟨W8.heap.size,3,za⟩=zi (.slice a2 q p2):=λs=>by rw[(cE (HM.out.on s.h).hd.box).2.2.2.1,Q5.out]
    have xd:∀s:gX wr,s.W.cell? ⟨w.heap.size,3,za⟩=zi (zp (zi ⟨tb,jY,za⟩) d.tag.length tc):=λs=>(bL (HL.out s.W (Lx s)).zD).2.2.2.1
    have xk:∀s:gX wr,s.W.cell? ⟨tb,jY+s0,za⟩=zi (zx .i64 t1):=λs=>by rw[(Rh.out s.W (Lx s) s0 Nu.out).1,V7.out]
    clear Lx;go_wp2;clear z0;refine PD 7 8 (λw'=>∃s:gX wr,w'=s.W) du ⟨⟨wr.drew,⟨rfl,rfl,rfl,ax _,λ_ _=>rfl⟩⟩,rfl⟩ (by kernel_rfl) ?_;intro os aX;simp only[gG,kQ]at aX;subst aX
    repeat (go_big_quiet_step (fail))
    refine wpQuiet_nil ?_;rintro w' ⟨⟨Wb,kG⟩,rfl⟩ r hr;simp only[rT,qi]at hr;subst hr;clear xm xd xk;have rb:=HM.out.on kG;refine yX rfl (λK5 bh=>?_)
    first|go_big_move|go_big_op
    refine bh _ _ (λ_=>⟨⟨_,kG.alloc kG.size _⟩,rfl⟩) ?_;clear bh K5;refine Jp _ _ _ _ (ax _) (λ_ _ h=>h) ?_;obtain⟨g5,c5,wt,hrun,hFt,iV⟩:=Jt rb.hd.aq 2 (by omega) _ jR.out.2.2.1 q (oT.out _) _ Q5.out t1 (by omega) (by have:=rb.size;omega) 23;obtain⟨WK,XH⟩:=rb.field (i:=2) (off:=3) (by omega) rfl hFt iV;have yt:=(cE WK).2.2.2.1;rw[Q5.out]at yt;have ft:=aR _ _ 3 _ _ WK;obtain⟨vW,K7⟩:∃vW,wt.setCell ⟨W8.heap.size,3,za⟩ (zp (zi ⟨g5,0,za⟩) (q+1) c5)=vW:=⟨_,rfl⟩;rw[K7]at XH;have J9:zn _:=XH;have zvI:zn (KeepsOthers W5 vW):=by rw[<-K7];exact((HK.out.trans (Ga kG)).trans (Jy rb.hd.aq (i:=2) (by omega) iV)).trans (KeepsOthers.setCell _ _ _)
    have sE:bq dp 2 (((aF (ai d) (au d) K 0).take q).map (λs=>d.tag.getD s 0)++[t1]) 3=((aF (ai d) (au d) K 0).take q).map (λs=>d.fin.getD s 0):=by rw[a8 _ _ (by omega)];exact jR.out.2.2.2.1
    have VO:zn _:=sE;obtain⟨⟨a3,p3⟩,e3⟩:=cJ (J9.out.hd.aq.own 3 (by omega));rw[sE,oT.out]at e3;have Q6:zn _:=e3;clear XH hFt iV WK rb sE e3 kG;go_wp2;have Lx:∀s:gX vW,zB W8.heap.size W8 s.W:=λs=>J9.out.hd.below.trans (s.h.mono (by have:=J9.out.size;omega))
    have xm:∀s:gX vW,s.W.cell? ⟨W8.heap.size,4,za⟩=zi (.slice a3 q p3):=λs=>by rw[(cE (J9.out.on s.h).hd.box).2.2.2.2,Q6.out]
    have xd:∀s:gX vW,s.W.cell? ⟨w.heap.size,4,za⟩=zi (zp (zi ⟨eb,jS,za⟩) d.fin.length ec):=λs=>(bL (HL.out s.W (Lx s)).zD).2.2.2.2
    have xk:∀s:gX vW,s.W.cell? ⟨eb,jS+s0,za⟩=zi (zx .i64 t2):=λs=>by rw[(Rh.out s.W (Lx s) s0 Nu.out).2,V8.out]
    clear Lx K7 hrun yt ft;refine PD 7 8 (λw'=>∃s:gX vW,w'=s.W) du ⟨⟨vW.drew,⟨rfl,rfl,rfl,ax _,λ_ _=>rfl⟩⟩,rfl⟩ (by kernel_rfl) ?_;intro os aX;simp only[gG,kQ]at aX;subst aX
    repeat (go_big_quiet_step (fail))
    refine wpQuiet_nil ?_;rintro w' ⟨⟨Wb,kG⟩,rfl⟩ r hr;simp only[rT,qi]at hr;subst hr;clear xm xd xk;have rb:=J9.out.on kG;refine yX rfl (λK5 bh=>?_)
    first|go_big_move|go_big_op
    refine bh _ _ (λ_=>⟨⟨_,kG.alloc kG.size _⟩,rfl⟩) ?_;clear bh K5;refine Jp _ _ _ _ (ax _) (λ_ _ h=>h) ?_;obtain⟨g6,c6,we,hrun,NR,eK⟩:=Jt rb.hd.aq 3 (by omega) _ VO.out q (oT.out _) _ Q6.out t2 (by omega) (by have:=rb.size;omega) 23;obtain⟨Hu,Iq⟩:=rb.field (i:=3) (off:=4) (by omega) rfl NR eK;have ye:=(cE Hu).2.2.2.2;rw[Q6.out]at ye;have fe:=aR _ _ 4 _ _ Hu;obtain⟨Rm,XY⟩:∃Rm,we.setCell ⟨W8.heap.size,4,za⟩ (zp (zi ⟨g6,0,za⟩) (q+1) c6)=Rm:=⟨_,rfl⟩;rw[XY]at Iq;have QL:zn _:=Iq;have QJ:zn (KeepsOthers W5 Rm):=by rw[<-XY];exact((zvI.out.trans (Ga kG)).trans (Jy rb.hd.aq (i:=3) (by omega) eK)).trans (KeepsOthers.setCell _ _ _)
    have Zz:upd (upd v' 2 (zp (zi ⟨g5,0,za⟩) (q+1) c5)) 3 (zp (zi ⟨g6,0,za⟩) (q+1) c6) 4=.slice a4 hd.length zX:=by rw[bW _ _ (by omega),bW _ _ (by omega)];exact CT.out
    have z7:Rm.cell? ⟨W8.heap.size+1+1,0,za⟩=zi (.slice a4 hd.length zX):=by rw[dt _ _ _ _ _ _ Iq.b7,<-Zz];rfl
    have zv3:zn _:=Zz;have zvW:zn (bq (bq dp 2 (((aF (ai d) (au d) K 0).take q).map (λs=>d.tag.getD s 0)++[t1])) 3 (((aF (ai d) (au d) K 0).take q).map (λs=>d.fin.getD s 0)++[t2]) 0=(List.range 256).map (λc=>(da K (aN d) c:Int))/\bq (bq dp 2 (((aF (ai d) (au d) K 0).take q).map (λs=>d.tag.getD s 0)++[t1])) 3 (((aF (ai d) (au d) K 0).take q).map (λs=>d.fin.getD s 0)++[t2]) 1=uy (aN d) hd q 0/\bq (bq dp 2 (((aF (ai d) (au d) K 0).take q).map (λs=>d.tag.getD s 0)++[t1])) 3 (((aF (ai d) (au d) K 0).take q).map (λs=>d.fin.getD s 0)++[t2]) 2=((aF (ai d) (au d) K 0).take (q+1)).map (λs=>d.tag.getD s 0)/\bq (bq dp 2 (((aF (ai d) (au d) K 0).take q).map (λs=>d.tag.getD s 0)++[t1])) 3 (((aF (ai d) (au d) K 0).take q).map (λs=>d.fin.getD s 0)++[t2]) 3=((aF (ai d) (au d) K 0).take (q+1)).map (λs=>d.fin.getD s 0)/\bq (bq dp 2 (((aF (ai d) (au d) K 0).take q).map (λs=>d.tag.getD s 0)++[t1])) 3 (((aF (ai d) (au d) K 0).take q).map (λs=>d.fin.getD s 0)++[t2]) 4=aO hd):=by
     refine⟨?_,?_,?_,?_,?_⟩
     ·rw[a8 _ _ (by omega),a8 _ _ (by omega)];exact jR.out.1
     ·rw[a8 _ _ (by omega),a8 _ _ (by omega),zix];exact jR.out.2.1
     ·rw[a8 _ _ (by omega),ez,HT.out,V7.out]
     ·rw[ez,HE.out,V8.out]
     ·rw[a8 _ _ (by omega),a8 _ _ (by omega)];exact jR.out.2.2.2.2
    clear Iq NR eK Hu Zz rb kG;go_wp2;rw[oJ];go_wp2;clear XY hrun ye fe z7
    go_loopw [112] (λi W=>∃(j:Nat) (v2:Nat->zH) (FX:Nat->List Int),j<=hd.length/\i=zx .i64 j/\zn (jk W8 W (hd.length:Int) v2 FX keys eU.heap.size g9 c9 xs)/\zn (v2 4=.slice a4 hd.length zX)/\zn (FX 0=(List.range 256).map (λc=>(da K (aN d) c:Int))/\FX 1=uy (aN d) hd q j/\FX 2=((aF (ai d) (au d) K 0).take (q+1)).map (λs=>d.tag.getD s 0)/\FX 3=((aF (ai d) (au d) K 0).take (q+1)).map (λs=>d.fin.getD s 0)/\FX 4=aO hd)/\zn (KeepsOthers W5 W))
     (λi _=>hd.length-(intOf i).toNat)
    case atStart=>exact⟨0,_,_,bH _,rfl,QL,zv3,zvW,QJ⟩
    case round=>
     clear QL zv3 zvW QJ J9 zvI HM CT jR HK HT HE V7 V8 oT Q5 Q6 VO;obtain⟨j,v2,FX,hj,rfl,HM,CT,jR,HK⟩:=hrel
     by_cases e8:j<hd.length
     ·obtain⟨zxh,mg,lP,nO⟩:=VW.out j e8;have bN:=Nr.out _ mg;have zh:∃g4,a4=zi ⟨g4,0,za⟩/\wr.cell? ⟨g4,j,za⟩=zi (zx .i64 ((hd.getD j 0:Nat):Int)):=by
       have ho:=HM.out.hd.aq.own 4 (by omega);rw[CT.out,jR.out.2.2.2.2]at ho;obtain⟨g',c',e1,_,_,hcc⟩:=pC ho (by rw[cW];omega);rw[cW]at e1;cases e1;exact⟨g',rfl,by rw[hcc j (by rw[cW];exact e8),uu]⟩
      obtain⟨g4,ha4,zh⟩:=zh;have HJ:zn _:=ziw (aN d) hd q e8;have Dw:=zkq (aN d) hd (q:=q) (j:=j) (by omega) (by omega);obtain⟨⟨a1,p1⟩,e1⟩:=cJ (HM.out.hd.aq.own 1 (by omega));rw[jR.out.2.1]at e1;obtain⟨nl,il⟩:∃nl,(uy (aN d) hd q j).length=nl:=⟨_,rfl⟩;rw[il]at e1 Dw;have uJ:zn _:=e1;have CQ:zn _:=il;have Ha4:zn _:=ha4;clear e1 il;subst ha4;have zR:zn (∀X,zB w.heap.size w X->zI prog 25 #[zF #[.slice ca d.aD.length cc,zx .i64 d.width,.slice na d.next.length nc,zp (zi ⟨tb,jY,za⟩) d.tag.length tc,zp (zi ⟨eb,jS,za⟩) d.fin.length ec],zx .i64 (s0:Int),zx .i64 ((hd.getD j 0:Nat):Int)] X λe w'=>e=.returned (zx .i64 ((ai d s0 (hd.getD j 0):Nat):Int))/\zB X.heap.size X w'):=λX hX=>by
       have:=zl8 _ _ _ _ d (s0:Int) (hd.getD j 0) X (Hs.out.below hX) HF.out (by omega) (by omega) zxh;rw[T4 HF.out Nu.out zxh]at this;exact this
      have Lx:∀s:gX wr,zB W8.heap.size W8 s.W:=λs=>HM.out.hd.below.trans (s.h.mono (by have:=HM.out.size;omega))
      have xm:∀s:gX wr,s.W.cell? ⟨W8.heap.size,2,za⟩=zi (.slice a1 nl p1):=λs=>by rw[(cE (HM.out.on s.h).hd.box).2.2.1,uJ.out]
      have x5:∀s:gX wr,s.W.cell? ⟨w4.heap.size+1,0,za⟩=zi (zp (zi ⟨g2,0,za⟩) d.tag.length c2):=λs=>(HL.out s.W (Lx s)).z5
      have x3:∀s:gX wr,s.W.cell? ⟨w2.heap.size,0,za⟩=zi (zp (zi ⟨gb,0,za⟩) d.tag.length cb):=λs=>(HL.out s.W (Lx s)).z3
      have xd0:∀s:gX wr,s.W.cell? ⟨w.heap.size,0,za⟩=zi (.slice ca d.aD.length cc):=λs=>(bL (HL.out s.W (Lx s)).zD).1
      have xd1:∀s:gX wr,s.W.cell? ⟨w.heap.size,1,za⟩=zi (zx .i64 d.width):=λs=>(bL (HL.out s.W (Lx s)).zD).2.1
      have xd2:∀s:gX wr,s.W.cell? ⟨w.heap.size,2,za⟩=zi (.slice na d.next.length nc):=λs=>(bL (HL.out s.W (Lx s)).zD).2.2.1
      have xd3:∀s:gX wr,s.W.cell? ⟨w.heap.size,3,za⟩=zi (zp (zi ⟨tb,jY,za⟩) d.tag.length tc):=λs=>(bL (HL.out s.W (Lx s)).zD).2.2.2.1
      have xd4:∀s:gX wr,s.W.cell? ⟨w.heap.size,4,za⟩=zi (zp (zi ⟨eb,jS,za⟩) d.fin.length ec):=λs=>(bL (HL.out s.W (Lx s)).zD).2.2.2.2
      have Hxb:zn (∀s:gX wr,s.W.cell? ⟨gb,ai d s0 (hd.getD j 0),za⟩=zi (zx .i64 ((o.getD (ai d s0 (hd.getD j 0)) 0:Nat):Int))/\s.W.cell? ⟨g2,o.getD (ai d s0 (hd.getD j 0)) 0,za⟩=zi (zx .i64 ((aN d q (hd.getD j 0):Nat):Int))):=λs=>⟨(HL.out s.W (Lx s)).cb _ mg,by rw[(HL.out s.W (Lx s)).c5 _ bN,lP]⟩
      have HLx:zn _:=Lx;clear lP Lx;generalize aN d q (hd.getD j 0)=tt at *;generalize hx:ai d s0 (hd.getD j 0)=x at *;generalize hd.getD j 0=h at *;generalize o.getD x 0=bx at *;clear hx;have Dn:(j:Int)<(hd.length:Int):=by omega
      have IG:(x:Int)<(d.tag.length:Int):=by omega
      have SE:(bx:Int)<(d.tag.length:Int):=by omega
      go_wp2;clear zh;refine PD 7 13 (λw'=>∃s:gX wr,w'=s.W) du ⟨⟨wr.drew,⟨rfl,rfl,rfl,ax _,λ_ _=>rfl⟩⟩,rfl⟩ (by kernel_rfl) ?_;intro os aX;simp only[gG,kQ]at aX;subst aX
      repeat (go_big_quiet_step (fail))
      refine wpQuiet_nil ?_;rintro w' ⟨⟨Wb,kG⟩,rfl⟩ r hr;simp only[rT,qi]at hr;subst hr;clear xm x5 x3 xd0 xd1 xd2 xd3 xd4;have E3:=HLx.out ⟨w',kG⟩;have zxT:=zR.out w' (CE.out.trans (E3.mono CE.out.size));refine yX rfl (λK5 bh=>?_)
      first|go_big_move|go_big_op
      refine zxT.mono ?_;rintro e w6 ⟨rfl,gM⟩;have lJ:zB wr.heap.size wr w6:=kG.trans (gM.mono kG.size);refine bh _ _ (λ_=>⟨⟨_,lJ⟩,rfl⟩) ?_;clear bh K5 zxT E3;obtain⟨xb,xn⟩:=Hxb.out ⟨w6,lJ⟩;dsimp only at xb xn;refine yX rfl (λK5 bh=>?_)
      first|go_big_move|go_big_op
      refine bh _ _ (λ_=>⟨⟨_,lJ⟩,rfl⟩) ?_;clear bh K5;refine yX rfl (λK5 bh=>?_)
      first|go_big_move|go_big_op
      refine bh _ _ (λ_=>⟨⟨_,lJ⟩,rfl⟩) ?_;clear bh K5;refine yX rfl (λK5 bh=>?_)
      first|go_big_move|go_big_op
      refine bh _ _ (λ_=>⟨⟨_,lJ⟩,rfl⟩) ?_;clear bh K5;refine yX rfl (λK5 bh=>?_)
      first|go_big_move|go_big_op
      refine bh _ _ (λ_=>⟨⟨_,lJ⟩,rfl⟩) ?_;clear bh K5;refine yX rfl (λK5 bh=>?_)
      first|go_big_move|go_big_op
      refine bh _ _ (λ_=>⟨⟨_,lJ.alloc lJ.size _⟩,rfl⟩) ?_;clear bh K5;refine Jp _ _ _ _ (ax _) (λ_ _ h=>h) ?_;have rb:=HM.out.on lJ;obtain⟨g6,c6,we,hrun,NR,eK⟩:=Jt rb.hd.aq 1 (by omega) _ jR.out.2.1 nl CQ.out _ uJ.out (tt:Int) (by omega) (by have:=rb.size;omega) 23;obtain⟨Hu,Iq⟩:=rb.field (i:=1) (off:=2) (by omega) rfl NR eK;have ye:=(cE Hu).2.2.1;rw[uJ.out]at ye;have fe:=aR _ _ 2 _ _ Hu;have QL:zn _:=Iq;have QJ:zn (KeepsOthers W5 (we.setCell ⟨W8.heap.size,2,za⟩ (zp (zi ⟨g6,0,za⟩) (nl+1) c6))):=((HK.out.trans (Ga lJ)).trans (Jy rb.hd.aq (i:=1) (by omega) eK)).trans (KeepsOthers.setCell _ _ _);clear Iq NR eK Hu rb kG gM lJ xb xn;go_wp2;rw[oJ];go_wp2
      go_roundw
      case rel=>
       refine⟨j+1,_,_,by omega,by go_num,QL,?_,⟨?_,?_,?_,?_,?_⟩,QJ⟩
       ·show _=_;rw[bW _ _ (by omega)];exact CT.out
       ·rw[a8 _ _ (by omega)];exact jR.out.1
       ·rw[ez,HJ.out]
       ·rw[a8 _ _ (by omega)];exact jR.out.2.2.1
       ·rw[a8 _ _ (by omega)];exact jR.out.2.2.2.1
       ·rw[a8 _ _ (by omega)];exact jR.out.2.2.2.2
      case measure=>simp[intOf];omega
     ·have me:j=hd.length:=by omega
      have SF:¬(j:Int)<(hd.length:Int):=by omega
      have Hjj:zn _:=me;clear me;go_wp2
      go_roundw
      case rel=>exact⟨q+1,v2,FX,by omega,by go_num,HM,CT,⟨jR.out.1,by rw[<-zkp,<-Hjj.out];exact jR.out.2.1,jR.out.2.2.1,jR.out.2.2.2.1,jR.out.2.2.2.2⟩,HK⟩
      case measure=>simp[intOf];omega
   ·have yJ:q=K:=by omega
    have cG:¬(q:Int)<(K:Int):=by omega
    have zw:=(HM.out.hd.below.block _ sG).trans zvM.out;unfold bm at zw;obtain⟨z0,z1,z2,z3,z4⟩:=bL zw;have fz:∀o,wr.frozen? ⟨w.heap.size+1,o,za⟩=false:=λ_=>aR _ _ _ _ _ zw
    obtain⟨y0,y1,y2,y3,y4⟩:=cE HM.out.hd.box;obtain⟨⟨a0,p0⟩,e0⟩:=cJ (HM.out.hd.aq.own 0 (by omega));obtain⟨⟨a1,p1⟩,e1⟩:=cJ (HM.out.hd.aq.own 1 (by omega));obtain⟨⟨a2,p2⟩,e2⟩:=cJ (HM.out.hd.aq.own 2 (by omega));obtain⟨⟨a3,p3⟩,e3⟩:=cJ (HM.out.hd.aq.own 3 (by omega));rw[e0]at y0;rw[e1]at y2;rw[e2]at y3;rw[e3]at y4;have hlK:=Bl.out;have k8:∀i,i<4->dp i=dG d K i:=by
     intro i hi
     match i,hi with
     |0,_=>exact jR.out.1
     |1,_=>
      rw[jR.out.2.1,yJ,<-Kg.out]
      rfl
     |2,_=>
      rw[jR.out.2.2.1,yJ,tj (by omega)]
      rfl
     |3,_=>
      rw[jR.out.2.2.2.1,yJ,tj (by omega)]
      rfl
    have JZ:zn (aS W8.heap.size 4 (dJ wr (w.heap.size+1) (.slice a0 (dp 0).length p0) (zx .i64 (hd.length:Int)) (.slice a1 (dp 1).length p1) (.slice a2 (dp 2).length p2) (.slice a3 (dp 3).length p3)) v' (dG d K)):=((HM.out.hd.aq.zyq (by omega)).congr (λ_ _=>rfl) k8).dJ (by omega) _ _ _ _ _;have rW:zn (zB w.heap.size w (dJ wr (w.heap.size+1) (.slice a0 (dp 0).length p0) (zx .i64 (hd.length:Int)) (.slice a1 (dp 1).length p1) (.slice a2 (dp 2).length p2) (.slice a3 (dp 3).length p3))):=Cc (CE.out.trans (HM.out.hd.below.mono CE.out.size)) (by omega) _ _ _ _ _;have EG:zn (fH (hd.length:Int) v'=#[.slice a0 (dp 0).length p0,zx .i64 (hd.length:Int),.slice a1 (dp 1).length p1,.slice a2 (dp 2).length p2,.slice a3 (dp 3).length p3]):=by
     show _=_;unfold fH;rw[e0,e1,e2,e3]
    have E5:wr.heap[D]?=zi (.deferred (zi [])):=HK.out.same D _ HD.out rfl;have Il:D≠w.heap.size+1:=λe=>by rw[e,zw]at E5;cases E5
    have HDm:zn ((dJ wr (w.heap.size+1) (.slice a0 (dp 0).length p0) (zx .i64 (hd.length:Int)) (.slice a1 (dp 1).length p1) (.slice a2 (dp 2).length p2) (.slice a3 (dp 3).length p3)).heap[D]?=zi (.deferred (zi []))):=by
     show _=_;unfold dJ;rw[cS _ _ _ _ (by exact Il),cS _ _ _ _ (by exact Il),cS _ _ _ _ (by exact Il),cS _ _ _ _ (by exact Il),cS _ _ _ _ (by exact Il)];exact E5
    have zyO:zn ((dJ wr (w.heap.size+1) (.slice a0 (dp 0).length p0) (zx .i64 (hd.length:Int)) (.slice a1 (dp 1).length p1) (.slice a2 (dp 2).length p2) (.slice a3 (dp 3).length p3)).heap[w.heap.size+1]?=zi (zy #[.slice a0 (dp 0).length p0,zx .i64 (hd.length:Int),.slice a1 (dp 1).length p1,.slice a2 (dp 2).length p2,.slice a3 (dp 3).length p3] 25 (0,0))):=by
     show _=_;unfold dJ;have h1:=dx wr (w.heap.size+1) 0 _ _ (.slice a0 (dp 0).length p0) zw;have h2:=dx _ (w.heap.size+1) 1 _ _ (zx .i64 (hd.length:Int)) h1;have h3:=dx _ (w.heap.size+1) 2 _ _ (.slice a1 (dp 1).length p1) h2;have h4:=dx _ (w.heap.size+1) 3 _ _ (.slice a2 (dp 2).length p2) h3;have h5:=dx _ (w.heap.size+1) 4 _ _ (.slice a3 (dp 3).length p3) h4;exact h5
    have zyA:zn _:=Il;have wK:w.heap.size<=W8.heap.size:=CE.out.size;clear e0 e1 e2 e3 yJ zw k8 E5 Il hlK;generalize (dp 0).length=n0 at *;generalize (dp 1).length=n1 at *;generalize (dp 2).length=n2 at *;generalize (dp 3).length=n3 at *;go_wp2;refine⟨by simp,.inl ⟨_,_,rfl,run_takeDeferred HDm.out,?_⟩⟩;have hR:=zyO.out;have ff:((dJ wr (w.heap.size+1) (.slice a0 n0 p0) (zx .i64 (hd.length:Int)) (.slice a1 n1 p1) (.slice a2 n2 p2) (.slice a3 n3 p3)).putObj D (.deferred za)).heap[w.heap.size+1]?=zi (zy #[.slice a0 n0 p0,zx .i64 (hd.length:Int),.slice a1 n1 p1,.slice a2 n2 p2,.slice a3 n3 p3] 25 (0,0)):=(World.putObj_heap_other (Ne.symm zyA.out)).trans hR;obtain⟨r0,r1,r2,r3,r4⟩:=bL ff;unfold dJ at r0 r1 r2 r3 r4;refine⟨zF #[.slice a0 n0 p0,zx .i64 (hd.length:Int),.slice a1 n1 p1,.slice a2 n2 p2,.slice a3 n3 p3],by simp[results,results11,go_sem,r0,r1,r2,r3,r4],K,HG.out,Bl.out,W8.heap.size,v',by rw[Kg.out,EG.out],wK,?_,?_⟩
    ·refine JZ.out.sI λi hi b hb=>?_
     obtain⟨cs,h1⟩:=jx (JZ.out.own i hi) hb;refine World.putObj_heap_other (λe:b=D=>?_);rw[e,HDm.out]at h1;cases h1
    ·exact rW.out.grown (grownBy_putObj' _ D _) rW.out.size (λx e=>by cases e;exact HDw.out)
end
section
attribute [local go_sem ↓] wp_at_zero wp_at_succ
theorem zgd{lo:Nat}(cv nv tv ev:zH)(d:aE)(w:zG)(hs:dk lo w cv nv tv ev d)(hB:dX d=false):
  zI prog 44 #[zF #[cv,zx .i64 d.width,nv,tv,ev]] w (Mq w 0 (λ_=>[])):=by
 obtain⟨W0,ay⟩:∃W0,(w.alloc (zy #[cv,zx .i64 d.width,nv,tv,ev] 25)).alloc (zy bm 25)=W0:=⟨_,rfl⟩;have aG:zB w.heap.size w W0:=by rw[<-ay];exact(aC).alloc (by simp) _
 have x0:W0.heap[w.heap.size]?=zi (zy #[cv,zx .i64 d.width,nv,tv,ev] 25 (0,0)):=by
  rw[<-ay];exact(Below.heap_alloc _ _ _ (by simp)).trans (aU w _)
 have z0:W0.heap[w.heap.size+1]?=zi (zy bm 25 (0,0)):=by
  rw[<-ay];have:=aU (w.alloc (zy #[cv,zx .i64 d.width,nv,tv,ev] 25)) (zy bm 25)
  simpa using this
 have hT:=TC cv nv tv ev d _ (hs.below aG);rw[hB]at hT;unfold bm at ay;obtain⟨q0,q1,q2,q3,q4⟩:=bL x0
 go_enter func44,ntmps44
 go_wp2_with fail
 refine hT.mono ?_;rintro e w1 ⟨rfl,aP⟩;have z1:=aY z0 aP;have B1:=bi aG aG.size aP;have fz:∀o,w1.frozen? ⟨w.heap.size+1,o,za⟩=false:=λ_=>aR _ _ _ _ _ z1
 unfold bm at z1;obtain⟨y0,y1,y2,y3,y4⟩:=bL z1;clear hT x0 z0 aG aP z1 q0 q1 q2 q3 q4 ay;go_wp2;refine bw (v:=zF #[zp za 0 0,zx .i64 0,zp za 0 0,zp za 0 0,zp za 0 0]) (by simp[results,results44,go_sem,y0,y1,y2,y3,y4]) rfl ?_;exact⟨w.heap.size,λ_=>zp za 0 0,rfl,ax _,aS.nil _ _ _,Cc B1 (by omega) _ _ _ _ _⟩
section
variable {lo n:Nat}{os:List Nat}{d:aE}
theorem zf4(cv nv tv ev:zH)(d:aE)(w:zG)(hs:dk lo w cv nv tv ev d)(hsm:Ce d)(hB:dX d=false):
  zI prog 5 #[zF #[cv,zx .i64 d.width,nv,tv,ev]] w (Mq w 0 (λ_=>[])):=by
 obtain⟨W0,ay⟩:∃W0,(w.alloc (zy #[cv,zx .i64 d.width,nv,tv,ev] 25)).alloc (zy bm 25)=W0:=⟨_,rfl⟩;have aG:zB w.heap.size w W0:=by rw[<-ay];exact(aC).alloc (by simp) _
 have x0:W0.heap[w.heap.size]?=zi (zy #[cv,zx .i64 d.width,nv,tv,ev] 25 (0,0)):=by
  rw[<-ay];exact(Below.heap_alloc _ _ _ (by simp)).trans (aU w _)
 have z0:W0.heap[w.heap.size+1]?=zi (zy bm 25 (0,0)):=by
  rw[<-ay];have:=aU (w.alloc (zy #[cv,zx .i64 d.width,nv,tv,ev] 25)) (zy bm 25)
  simpa using this
 have hT:=zfU cv nv tv ev d _ (hs.below aG) hsm;rw[hB]at hT;unfold bm at ay;obtain⟨q0,q1,q2,q3,q4⟩:=bL x0
 go_enter func5,ntmps5
 go_wp2_with fail
 refine hT.mono ?_;rintro e w1 ⟨rfl,aP⟩;have z1:=aY z0 aP;have B1:=bi aG aG.size aP;have fz:∀o,w1.frozen? ⟨w.heap.size+1,o,za⟩=false:=λ_=>aR _ _ _ _ _ z1
 unfold bm at z1;obtain⟨y0,y1,y2,y3,y4⟩:=bL z1;clear hT x0 z0 aG aP z1 q0 q1 q2 q3 q4 ay;go_wp2;refine bw (v:=zF #[zp za 0 0,zx .i64 0,zp za 0 0,zp za 0 0,zp za 0 0]) (by simp[results,results5,go_sem,y0,y1,y2,y3,y4]) rfl ?_;exact⟨w.heap.size,λ_=>zp za 0 0,rfl,ax _,aS.nil _ _ _,Cc B1 (by omega) _ _ _ _ _⟩
theorem zhR(cv nv tv ev:zH)(d:aE)(w:zG)(hs:dk lo w cv nv tv ev d)(hsm:Ce d)(hB:dX d=true):
  zI prog 5 #[zF #[cv,zx .i64 d.width,nv,tv,ev]] w (Rj w d):=by
 obtain⟨W0,ay⟩:∃W0,(w.alloc (zy #[cv,zx .i64 d.width,nv,tv,ev] 25)).alloc (zy bm 25)=W0:=⟨_,rfl⟩;have aG:zB w.heap.size w W0:=by rw[<-ay];exact(aC).alloc (by simp) _
 have x0:W0.heap[w.heap.size]?=zi (zy #[cv,zx .i64 d.width,nv,tv,ev] 25 (0,0)):=by
  rw[<-ay];exact(Below.heap_alloc _ _ _ (by simp)).trans (aU w _)
 have z0:W0.heap[w.heap.size+1]?=zi (zy bm 25 (0,0)):=by
  rw[<-ay];have:=aU (w.alloc (zy #[cv,zx .i64 d.width,nv,tv,ev] 25)) (zy bm 25)
  simpa using this
 have hT:=zfU cv nv tv ev d _ (hs.below aG) hsm;rw[hB]at hT;unfold bm at ay;obtain⟨q0,q1,q2,q3,q4⟩:=bL x0
 go_enter func5,ntmps5
 go_wp2_with fail
 refine hT.mono ?_;rintro e w1 ⟨rfl,aP⟩;have z1:=aY z0 aP;have x1:=aY x0 aP;have B1:=bi aG aG.size aP;clear hT x0 z0 aG aP q0 q1 q2 q3 q4 ay;obtain⟨q0,q1,q2,q3,q4⟩:=bL x1;have hM:=znK cv nv tv ev d w1 ((hs.below B1).low (bH _)) (Md hB)
 go_wp2_with fail
 refine hM.mono ?_;rintro e w2 ⟨K,hG,hK,gt,v,rfl,iV,hF,aL⟩;have HG:zn _:=hG;have HK:zn _:=hK;have z2:=aY z1 aL;have dT:=az z1;have B2:=bi B1 B1.size aL;clear hM q0 q1 q2 q3 q4 hG hK x1 z1 aL;have fz:∀o,w2.frozen? ⟨w.heap.size+1,o,za⟩=false:=λ_=>aR _ _ _ _ _ z2
 unfold bm at z2;obtain⟨y0,y1,y2,y3,y4⟩:=bL z2;obtain⟨⟨a0,p0⟩,e0⟩:=cJ (hF.own 0 (by omega));obtain⟨⟨a1,p1⟩,e1⟩:=cJ (hF.own 1 (by omega));obtain⟨⟨a2,p2⟩,e2⟩:=cJ (hF.own 2 (by omega));obtain⟨⟨a3,p3⟩,e3⟩:=cJ (hF.own 3 (by omega));have EG:zn (fH ((aM K (aN d) 256).length:Int) v=#[.slice a0 (dG d K 0).length p0,zx .i64 ((aM K (aN d) 256).length:Int),.slice a1 (dG d K 1).length p1,.slice a2 (dG d K 2).length p2,.slice a3 (dG d K 3).length p3]):=by
  show _=_;unfold fH;rw[e0,e1,e2,e3]
 have JZ:zn (aS gt 4 (dJ w2 (w.heap.size+1) (.slice a0 (dG d K 0).length p0) (zx .i64 ((aM K (aN d) 256).length:Int)) (.slice a1 (dG d K 1).length p1) (.slice a2 (dG d K 2).length p2) (.slice a3 (dG d K 3).length p3)) v (dG d K)):=hF.dJ (by omega) _ _ _ _ _;have rW:zn (zB w.heap.size w (dJ w2 (w.heap.size+1) (.slice a0 (dG d K 0).length p0) (zx .i64 ((aM K (aN d) 256).length:Int)) (.slice a1 (dG d K 1).length p1) (.slice a2 (dG d K 2).length p2) (.slice a3 (dG d K 3).length p3))):=Cc B2 (by omega) _ _ _ _ _;have wK:w.heap.size<=gt:=by have:=B1.size;omega
 rw[EG.out];clear e0 e1 e2 e3 hF B1 B2 z2 dT iV;generalize (dG d K 0).length=n0 at *;generalize (dG d K 1).length=n1 at *;generalize (dG d K 2).length=n2 at *;generalize (dG d K 3).length=n3 at *;generalize hh:(aM K (aN d) 256).length=hn at *;have Hh:zn _:=hh;clear hh;go_wp2;refine bw (v:=zF #[.slice a0 n0 p0,zx .i64 (hn:Int),.slice a1 n1 p1,.slice a2 n2 p2,.slice a3 n3 p3]) (by simp[results,results5,go_sem,y0,y1,y2,y3,y4]) rfl ?_;exact⟨K,HG.out,HK.out,gt,v,by rw[Hh.out,EG.out],wK,JZ.out,rW.out⟩
theorem zn2{st:Nat->Nat->Nat}{an:Nat->Int×Int}{x:Nat}(h:os.Nodup/\∀y∈os,y<n)(hx:x<n):(nD st an os x).Nodup/\∀y∈nD st an os x,y<n:=by
 unfold nD;split
 ·exact h
 ·rename_i hn
  have hm:x∉os:=λhm=>hn (Cl.2 ⟨x,hm,cD.refl _ _ _⟩)
  refine⟨Gw.2 ⟨h.1,by simp,λa ha b hb=>?_⟩,λy hy=>?_⟩
  ·intro e;subst e;simp at hb;subst hb;exact hm ha
  ·rcases gH.1 hy with hy|hy
   ·exact h.2 y hy
   ·simp at hy;omega
theorem zoG(h:∀y∈os,y<n)(hn:0<n)(k:Nat):os.getD k 0<n:=by
 by_cases hk:k<os.length
 ·rw[bI,bE hk];exact h _ (gy hk)
 ·rw[bI,qR (by omega)];exact hn
theorem zhE(hf:cL d)(hn:0<d.tag.length)(k:Nat)(h0:(aF (ai d) (au d) k 0).Nodup/\∀y∈aF (ai d) (au d) k 0,y<d.tag.length):∀c,c<=256->(aF (ai d) (au d) k c).Nodup/\∀y∈aF (ai d) (au d) k c,y<d.tag.length
 |0,_=>h0
 |c+1,hc=>by
  have ih:=zhE hf hn k h0 c (by omega);rw[yZ];exact zn2 ih (hf.LO (zoG ih.2 hn k) (by omega))
theorem DO(hf:cL d)(hn:0<d.tag.length):∀k,(aF (ai d) (au d) k 0).Nodup/\∀y∈aF (ai d) (au d) k 0,y<d.tag.length
 |0=>by rw[xq];exact⟨by simp,λy hy=>by simp at hy;omega⟩
 |k+1=>by rw[xp];exact zhE hf hn k (DO hf hn k) 256 (by omega)
open Classical in
noncomputable def rG (d:aE):Nat:=if h:∃K,qd (ai d) (au d) K/\(aF (ai d) (au d) K 0).length=K then Classical.choose h else 0
theorem Uy{K:Nat}(h1:qd (ai d) (au d) K)(h2:(aF (ai d) (au d) K 0).length=K):rG d=K:=by
 have h:∃K,qd (ai d) (au d) K/\(aF (ai d) (au d) K 0).length=K:=⟨K,h1,h2⟩;unfold rG;rw[dif_pos h];have hc:=Classical.choose_spec h;exact zoK hc.1 hc.2 h1 h2
theorem zmC(hf:cL d)(hn:0<d.tag.length):(aF (ai d) (au d) (rG d) 0).length<=d.tag.length:=sT _ _ (DO hf hn _).1 (DO hf hn _).2
theorem zsE(hf:cL d)(hn:0<d.tag.length):rG d<=d.tag.length:=by
 by_cases h:∃K,qd (ai d) (au d) K/\(aF (ai d) (au d) K 0).length=K
 ·obtain⟨K,h1,h2⟩:=h;have:=zmC hf hn;rw[Uy h1 h2]at this ⊢;omega
 ·unfold rG;rw[dif_neg h];omega
noncomputable def km (d:aE):Int:=if dX d=true then ((aM (rG d) (aN d) 256).length:Int) else 0
noncomputable def dA (d:aE):Nat->List Int:=if dX d=true then dG d (rG d) else λ_=>[]
theorem zj1(f:Nat->List Int)(m:Nat)(hf:∀k,(f k).length<=m):∀n,((List.range n).flatMap f).length<=n*m
 |0=>by simp
 |n+1=>by
  have:=zj1 f m hf n;have:=hf n;rw[oN,Cy,a6,Eo];have e:([n].flatMap f).length=(f n).length:=by simp only[List.flatMap_cons,List.flatMap_nil,Gx]
  rw[e];omega
theorem zmD(d:aE):∀i,i<4->(dA d i).length<=1048576:=by
 intro i hi;unfold dA;cases hB:dX d
 ·simp
 ·have hf:=Md hB;have hn:=hf.n1;have fc:=hf.n2;have hk:=zsE hf (by omega);have hl:=zmC hf (by omega);have hh:=D9 (rG d) (aN d) 256;rw[ae rfl]
  match i,hi with
  |0,_=>simp[dG]
  |1,_=>
   have h1:(dG d (rG d) 1).length<=rG d*256:=by
    unfold dG;exact zj1 _ 256 (λk=>by simp;exact hh) _
   omega
  |2,_=>simp only[dG,jK];omega
  |3,_=>simp only[dG,jK];omega
theorem zmE{w w':zG}{e:Ending}(hB:dX d=true)(h:Rj w d e w'):Mq w (km d) (dA d) e w':=by
 obtain⟨K,h1,h2,h3⟩:=h;unfold km dA;rw[ae hB,ae hB,Uy h1 h2];exact h3
theorem zhw(cv nv tv ev:zH)(d:aE)(w:zG)(hs:dk lo w cv nv tv ev d):
  zI prog 44 #[zF #[cv,zx .i64 d.width,nv,tv,ev]] w (Mq w (km d) (dA d)):=by
 cases hB:dX d
 ·unfold km dA;rw[hB,ab (by decide),ab (by decide)];exact zgd cv nv tv ev d w hs hB
 ·exact(zhX cv nv tv ev d w hs hB).mono λe w' h=>zmE hB h
theorem zea(cv nv tv ev:zH)(d:aE)(w:zG)(hs:dk lo w cv nv tv ev d)(hsm:Ce d):
  zI prog 5 #[zF #[cv,zx .i64 d.width,nv,tv,ev]] w (Mq w (km d) (dA d)):=by
 cases hB:dX d
 ·unfold km dA;rw[hB,ab (by decide),ab (by decide)];exact zf4 cv nv tv ev d w hs hsm hB
 ·exact(zhR cv nv tv ev d w hs hsm hB).mono λe w' h=>zmE hB h
end
end
end Go.Proofs.Ytfajjdgkiilhfaa
