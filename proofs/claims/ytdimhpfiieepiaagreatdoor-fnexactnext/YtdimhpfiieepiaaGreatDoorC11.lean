import Derived.Test.YtdimhpfiieepiaaGreatDoorC10
import Derived.Deep.RegionLaw
import Derived.Deep.Cut
import Derived.Deep.CutRange
import Derived.Deep.DrawnRows
namespace Go.Proofs.YtdimhpfiieepiaaGreatDoor
open Proofs.Tryz
open Option renaming some->za,none->zc
open RowKit renaming Hid->zb,Below->zh
open Value renaming int->zd,slice->zi
open Obj renaming cells->ze
open Go renaming Value->zf,World->zg,TypeId->zj
set_option maxHeartbeats 4000000
set_option maxRecDepth 100000
open Go.RowKit
def PV(bs:List aW):Prop:=∀i,i<bs.length->jW (bs.getD i .zero).nodes=true/\(bs.getD i .zero).nodes.all aX=true
def Bj(b:aW):Int:=eA b.nodes (b.nodes.length-1)
def jU:List aW->Int
 |[]=>0
 |b::bs=>Bj b+jU bs
theorem zic(bs:List aW)(k:Nat)(hk:k<bs.length):jU (bs.take (k+1))=jU (bs.take k)+Bj (bs.getD k .zero):=by
 induction bs generalizing k with
 |nil=>exact absurd hk (dk _)
 |cons b bs ih=>
  cases k with
  |zero=>simp[jU,List.getD]
  |succ k=>
   have:=ih k (by simpa using hk);simp only[nE,jU,List.getD_cons_succ]at this ⊢;omega
theorem Py{b:aW}(hk:jW b.nodes=true)(eB:∀i,i<b.nodes.length->bi (bJ b.nodes i)<=(aN b.nodes i).length)(hb:b.nodes.all aX=true):1<=Bj b/\Bj b<=2001:=by
 obtain⟨hp,_⟩:=Wi b.nodes hk eB hb;exact Bh b.nodes eB hb (b.nodes.length) (b.nodes.length-1) (by omega) (by omega)
theorem zmd:∀(ns pre:List aM) (d:Nat),nB ns (aN (pre++ns) pre.length).length=za d->∀i,pre.length<=i->i<pre.length+ns.length->bi (bJ (pre++ns) i)<=(aN (pre++ns) i).length
 |[],pre,_,_,i,h1,h2=>by simp at h2;omega
 |n::ns,pre,d,h,i,h1,h2=>by
  have zvO:bJ (pre++n::ns) pre.length=n.kind:=by simp[bJ,List.getD_eq_getElem?_getD]
  unfold nB at h
  by_cases hc:(aN (pre++n::ns) pre.length).length<bi n.kind
  ·rw[aD hc]at h;cases h
  ·rw[aq hc]at h
   by_cases e:i=pre.length
   ·subst e;rw[zvO];omega
   ·have e1:pre++n::ns=(pre++[n])++ns:=by simp
    have hl:=WC (pre++n::ns) pre.length;rw[zvO]at hl;rw[<-hl]at h;have:=zmd ns (pre++[n]) d (by rw[<-e1];simpa using h) i (by simp;omega) (by simp at h2 ⊢;omega);rwa[<-e1]at this
theorem LU{ns:List aM}(h:jW ns=true):∀i,i<ns.length->bi (bJ ns i)<=(aN ns i).length:=by
 intro i hi;unfold jW at h;exact zmd ns [] 1 (eq_of_beq h) i (aZ _) (by simpa using hi)
theorem Pv{bs:List aW}(h:PV bs):∀k,k<=bs.length->0<=jU (bs.take k)/\jU (bs.take k)<=k*2001
 |0,_=>by simp[jU]
 |k+1,hk=>by
  have h1:=Pv h k (by omega);obtain⟨h2,h3⟩:=h k (by omega);have h4:=Py h2 (LU h2) h3;rw[zic bs k (by omega)];omega
theorem zfb{lo:Nat}(G:Int)(v:zf)(bs:List aW)(w:zg)(hs:eh lo w v bs)(hsm:Small bs)(eU:PV bs):
  Calls prog 88 #[.agg #[v,zd .i64 G]] w λe w'=>e=.returned (zd .i64 (jU bs))/\zh w.heap.size w w':=by
 obtain⟨ao,cap,rfl,hm,hc⟩:=hs;have hn:=hsm.1;have BJ:zb _:=eU;clear eU
 go_enter func88,ntmps88
 go_wp2
 go_loopw [3,9] (λs i wr=>∃k:Nat,k<=bs.length/\i=zd .i64 k/\s=zd .i64 (jU (bs.take k))/\zh w.heap.size w wr)
  (λ_ i _=>bs.length-(intOf i).toNat)
 case atStart=>exact⟨0,aZ _,rfl,rfl,au⟩
 case round=>
  obtain⟨k,hk,rfl,rfl,hb⟩:=hrel;have hrb:=Pv BJ.out k hk
  by_cases hlt:k<bs.length
  ·obtain⟨b,o,nv,bd,rfl,Hn,bu,c0,c1,c2,io⟩:=hc.elem hb hlt;have uG:bd.nodes.length<=1048576:=by have:=(hsm.2 k hlt).1;rw[Hn.out]at this;exact this
   have im:jW bd.nodes=true:=by have:=(BJ.out k hlt).1;rw[Hn.out]at this;exact this
   have yL:bd.nodes.all aX=true:=by have:=(BJ.out k hlt).2;rw[Hn.out]at this;exact this
   have hwl:=Py im (LU im) yL;obtain⟨dC,mo,rfl,kz,kU⟩:=io;have bB:zh w.heap.size w (wr.alloc (ze #[.bool bd.aV,.bool bd.bm,.slice dC bd.nodes.length mo] 115)):=hb.alloc hb.size _;have GU:dU lo (wr.alloc (ze #[.bool bd.aV,.bool bd.bm,.slice dC bd.nodes.length mo] 115)) (.slice dC bd.nodes.length mo) bd.nodes:=dU.below ⟨_,_,rfl,kz,kU⟩ (au);have HT:zb _:=zic bs k hlt;rw[Hn.out]at HT;generalize jU (bs.take k)=s at *;have HL:zb (eA bd.nodes (bd.nodes.length-1)=Bj bd):=rfl
   go_wp2_with fail
   refine(zqo _ bd.nodes _ GU uG im yL).mono ?_;rintro e w2 ⟨rfl,af⟩;rw[HL.out];clear im yL;generalize Bj bd=wl at *;have jx:IntKind.i64.wrap (s+wl)=s+wl:=by rw[IntKind.wrap_i64];omega
   go_wp2
   go_roundw
   case rel=>exact⟨k+1,by omega,by go_num,by rw[HT.out],aj bB bB.size af⟩
   case measure=>simp[intOf];omega
  ·go_wp2;go_ret;exact⟨eX (by rw[wL (by omega)]),hb⟩
section
variable {w wr w1:zg}{v:zf}{G:Int}{gg cc:Nat}{gs:List Int}
def nM(bs:List aW):Bool:=bs.all λb=>jW b.nodes&&b.nodes.all aX
def zy(G:Int)(gs:List Int):Bool:=(List.range G.toNat).all λi=>gs.count ((i:Int)+1)==1
def gD(G:Int)(bs:List aW):Bool:=
 decide (1<=bs.length/\bs.length<=2000)&&decide (0<=G/\G<=500)&&decide (ir bs<=5000)&&nM bs&&(((fP bs).length:Int)==G)&&zy G (fP bs)&&decide (jU bs<=2000)
theorem zqZ(ns:List aM)(j:Nat)(hj:j<ns.length)(nd:aM)(h:ns.getD j .zero=nd):aT (ns.take (j+1))=aT (ns.take j)++(if nd.kind=5 then [nd.group] else []):=by
 induction ns generalizing j with
 |nil=>exact absurd hj (dk _)
 |cons n ns ih=>
  cases j with
  |zero=>
   have:n=nd:=by simpa [List.getD]using h
   subst this;simp only[nE,tV,aT,wJ]
  |succ j=>
   have:=ih j (by simpa using hj) (by simpa [List.getD]using h);simp only[nE,aT]at this ⊢;rw[this];split<;>simp
theorem zkP(bs:List aW)(k:Nat)(hk:k<bs.length)(bd:aW)(h:bs.getD k .zero=bd):fP (bs.take (k+1))=fP (bs.take k)++aT bd.nodes:=by
 induction bs generalizing k with
 |nil=>exact absurd hk (dk _)
 |cons b bs ih=>
  cases k with
  |zero=>
   have:b=bd:=by simpa [List.getD]using h
   subst this;simp[fP]
  |succ k=>
   have:=ih k (by simpa using hk) (by simpa [List.getD]using h);simp only[nE,fP]at this ⊢;rw[this,pA]
theorem WG:∀ns:List aM,(aT ns).length<=ns.length
 |[]=>ai _
 |n::ns=>by have:=WG ns;unfold aT;split<;>simp<;>omega
theorem VF:∀bs:List aW,(fP bs).length<=ir bs
 |[]=>ai _
 |b::bs=>by have:=VF bs;have:=WG b.nodes;unfold fP ir;simp;omega
theorem zj8(bs:List aW)(k:Nat):ir (bs.take k)<=ir bs:=by
 induction bs generalizing k with
 |nil=>simp
 |cons b bs ih=>
  cases k with
  |zero=>simp[ir]
  |succ k=>have:=ih k;simp only[nE,ir];omega
theorem zoc(bs:List aW)(k:Nat)(hk:k<bs.length)(bd:aW)(h:bs.getD k .zero=bd)(hf:(jW bd.nodes&&bd.nodes.all aX)=false):nM bs=false:=by
 unfold nM;rw[List.all_eq_false];refine⟨bs[k],oz _,?_⟩;have:bs[k]=bd:=by rw[<-h];simp[List.getD,hk]
 rw[this,hf];simp
theorem zoe(bs:List aW)(k:Nat)(hk:k<bs.length)(bd:aW)(h:bs.getD k .zero=bd)(ht:nM (bs.take k)=true)(hf:(jW bd.nodes&&bd.nodes.all aX)=true):nM (bs.take (k+1))=true:=by
 unfold nM at *;rw[Mu hk,List.all_append,ht];have:bs[k]=bd:=by rw[<-h];simp[List.getD,hk]
 simp only[List.all_cons,List.all_nil,this,hf,Bool.and_true]
theorem zlr(ns:List aM)(j:Nat)(hj:j<ns.length)(nd:aM)(h:ns.getD j .zero=nd)(hf:aX nd=false):ns.all aX=false:=by
 rw[List.all_eq_false];refine⟨ns[j],oz _,?_⟩;have:ns[j]=nd:=by rw[<-h];simp[List.getD,hj]
 rw[this,hf];simp
theorem znH(ns:List aM)(j:Nat)(hj:j<ns.length)(nd:aM)(h:ns.getD j .zero=nd)(ht:(ns.take j).all aX=true)(hf:aX nd=true):(ns.take (j+1)).all aX=true:=by
 rw[Mu hj,List.all_append,ht];have:ns[j]=nd:=by rw[<-h];simp[List.getD,hj]
 simp only[List.all_cons,List.all_nil,this,hf,Bool.and_true]
theorem zod{bs:List aW}(h:nM bs=true):PV bs:=by
 intro i hi;have:=jl.1 h (bs.getD i .zero) (by
  rw[cL,eY hi];exact oz _)
 simpa using this
theorem zm5(gs:List Int)(j:Nat)(hj:j<gs.length)(x:Int):(gs.take (j+1)).count x=(gs.take j).count x+(if gs.getD j 0=x then 1 else 0):=by
 rw[Mu hj,List.count_append];simp[List.getD,hj,List.count_cons]
def CP(gs:List Int):List zf:=gs.map (Value.int .i64)
theorem zpZ(gs:List Int)(x:Int):CP (gs++[x])=CP gs++[zd .i64 x]:=by simp[CP]
theorem zrP(gs:List Int)(i:Nat)(h:i<gs.length):(CP gs)[i]?=za (zd .i64 (gs.getD i 0)):=by simp[CP,h,List.getD]
structure rr(w wr:zg)(v:zf)(G:Int)(gg cc:Nat)(gs:List Int):Prop where
 below:zh w.heap.size w wr
 Gf:wr.cell? ⟨w.heap.size,0,zc⟩=za v
 Nn:wr.cell? ⟨w.heap.size,1,zc⟩=za (zd .i64 G)
 row:wr.ownsRow (w.heap.size+1) 3 1 (zi (za ⟨gg,0,zc⟩) gs.length cc) gs.length (CP gs)
 size:w.heap.size+1<=wr.heap.size
theorem rr.same(h:rr w wr v G gg cc gs)(hb:zh wr.heap.size wr w1):rr w w1 v G gg cc gs:=
 ⟨aj h.below (aU (Nat.le_succ _) h.size) hb,(hb.cell (by have:=h.size;simp;omega)).trans h.Gf,(hb.cell (by have:=h.size;simp;omega)).trans h.Nn,cI h.row hb,aU h.size hb.size⟩
theorem rr.alloc(h:rr w wr v G gg cc gs)(o:Obj):rr w (wr.alloc o) v G gg cc gs:=h.same (au)
theorem rr.grown{g' c':Nat}{x:Int}(h:rr w wr v G gg cc gs)(hg:wr.grownBy w1 (za gg))(ho:w1.ownsRow (w.heap.size+1) 3 1 (zi (za ⟨g',0,zc⟩) (gs.length+1) c') (gs.length+1) (CP gs++[zd .i64 x])):rr w w1 v G g' c' (gs++[x]):=by
 have hgg:=(qc h.row).1;have hs:=h.size;refine⟨h.below.grown hg (by omega) (by intro q hq;cases hq;omega),?_,?_,by simpa [zpZ]using ho,aU h.size hg.size⟩
 ·exact(hg.cell_far _ (by simp;omega) (by simp;omega)).trans h.Gf
 ·exact(hg.cell_far _ (by simp;omega) (by simp;omega)).trans h.Nn
end
theorem zfd{lo:Nat}(G:Int)(v:zf)(bs:List aW)(w:zg)(hs:eh lo w v bs)(hsm:Small bs):
  Calls prog 87 #[.agg #[v,zd .i64 G]] w λe w'=>e=.returned (.bool (gD G bs))/\zh w.heap.size w w':=by
 have hn:=hsm.1;have bX:=hs;obtain⟨ao,cap,rfl,hm,hc⟩:=hs;have ae:zh w.heap.size w (w.alloc (ze #[.slice ao bs.length cap,zd .i64 G] 69)):=au
 by_cases h1:cz (bs.length:Int) 1 2000=false
 ·have H:zb (gD G bs=false):=by
   show _=_;have:decide (1<=bs.length/\bs.length<=2000)=false:=by simp[cz]at h1;simp;omega
   simp[gD,this]
  go_enter func87,ntmps87
  go_wp2_with (go_at_call 47;refine(tO _ _ _ _).mono ?_;rintro e w' ⟨rfl,rfl⟩)
  go_ret
  exact⟨bF H.out.symm,ae⟩
 have Ak:cz (bs.length:Int) 1 2000=true:=by simpa using h1
 clear h1
 by_cases h2:cz G 0 500=false
 ·have H:zb (gD G bs=false):=by
   show _=_;have:decide (0<=G/\G<=500)=false:=by simp[cz]at h2;simp;omega
   simp[gD,this]
  go_enter func87,ntmps87
  go_wp2_with (go_at_call 47;refine(tO _ _ _ _).mono ?_;rintro e w' ⟨rfl,rfl⟩)
  go_ret
  exact⟨bF H.out.symm,ae⟩
 have Al:cz G 0 500=true:=by simpa using h2
 clear h2;have hlen:1<=bs.length/\bs.length<=2000:=by simp[cz]at Ak;omega
 have hG:0<=G/\G<=500:=by simp[cz]at Al;omega
 obtain⟨ZM,ZN⟩:=hG;have HA:zb (gD G bs=(decide (ir bs<=5000)&&nM bs&&(((fP bs).length:Int)==G)&&zy G (fP bs)&&decide (jU bs<=2000))):=by
  show _=_;have e1:decide (1<=bs.length/\bs.length<=2000)=true:=by simp;omega
  have e2:decide (0<=G/\G<=500)=true:=by simp;omega
  unfold gD;rw[e1,e2,kM,kM]
 obtain⟨i0,hi,bK,bh,bz⟩:=info_parts Tryz.Oz
 go_enter func87,ntmps87
 go_wp2_with (go_at_call 47;refine(tO _ _ _ _).mono ?_;rintro e w' ⟨rfl,rfl⟩)
 have zvM:rr w ((w.alloc (ze #[.slice ao bs.length cap,zd .i64 G] 69)).alloc (ze #[] 3)) (.slice ao bs.length cap) G (w.heap.size+1) 0 []:=⟨ae.alloc ae.size _,by simp,by simp,OX _ _ _ _ (by omega) (by simp),by simp⟩
 go_loopw [3,33] (λs i wr=>∃k:Nat,k<=bs.length/\i=zd .i64 k/\s=zd .i64 (ir (bs.take k))/\rr w wr (.slice ao bs.length cap) G (w.heap.size+1) 0 [])
  (λ_ i _=>bs.length-(intOf i).toNat)
 case atStart=>exact⟨0,aZ _,rfl,rfl,zvM⟩
 case round=>
  clear zvM;obtain⟨k,hk,rfl,rfl,hinv⟩:=hrel;have nR:=O5 hsm k hk
  by_cases hlt:k<bs.length
  ·obtain⟨b,o,nv,bd,rfl,Hn,bu,c0,c1,c2,io⟩:=hc.elem hinv.below hlt;have uG:bd.nodes.length<=1048576:=by have:=(hsm.2 k hlt).1;rw[Hn.out]at this;exact this
   obtain⟨dC,mo,rfl,kz,kU⟩:=io;have HT:zb _:=OV bs k hlt;rw[Hn.out]at HT;generalize ir (bs.take k)=s at *;go_wp2
   go_roundw
   case rel=>exact⟨k+1,by omega,by go_num,by rw[HT.out];go_num,hinv.alloc _⟩
   case measure=>simp[intOf];omega
  have bC:bs.take k=bs:=wL (by omega);rw[bC]at nR ⊢;clear bC
  by_cases h5:5000<(ir bs:Int)
  ·have H:zb (gD G bs=false):=by
    show _=_;have:decide (ir bs<=5000)=false:=by simp;omega
    rw[HA.out,this];simp
   have cX:=hinv.below;have fE:=hinv.Gf;clear HA;go_wp2;go_ret;exact⟨bF H.out.symm,cX⟩
  have ZF:ir bs<=5000:=by omega
  have e5:decide (ir bs<=5000)=true:=by simpa using ZF
  rw[e5,kM]at HA;clear e5 nR;have fE:=hinv.Gf;go_wp2;generalize Gy:ir bs=cn at *;have Ye:zb _:=Gy;clear Gy
  go_loopw [4,48] (λs i wr=>∃(k gg cc:Nat),k<=bs.length/\i=zd .i64 k/\s=zi (za ⟨gg,0,zc⟩) (fP (bs.take k)).length cc/\rr w wr (.slice ao bs.length cap) G gg cc (fP (bs.take k))/\zb (nM (bs.take k)=true))
   (λ_ i _=>bs.length-(intOf i).toNat)
  case atStart=>exact⟨0,w.heap.size+1,0,aZ _,rfl,rfl,hinv,rfl⟩
  case round=>
   clear hinv fE;obtain⟨k2,gg,cc,iA,rfl,rfl,hinv,sJ⟩:=hrel
   by_cases oY:k2<bs.length
   ·obtain⟨b,o,nv,bd,rfl,Hn,bu,q0,q1,q2,io⟩:=hc.elem (Below.refl _ _) oY;have c0:=(hinv.below.cell (p:=⟨b,o+k2*3,zc⟩) bu).trans q0;have c1:=(hinv.below.cell (p:=⟨b,o+k2*3+1,zc⟩) bu).trans q1;have c2:=(hinv.below.cell (p:=⟨b,o+k2*3+2,zc⟩) bu).trans q2;clear q0 q1 q2;have uG:bd.nodes.length<=1048576:=by have:=(hsm.2 k2 oY).1;rw[Hn.out]at this;exact this
    have fC:(fP (bs.take k2)).length+bd.nodes.length<=5000:=by
     have e1:=VF (bs.take k2);have e2:=OV bs k2 oY;have e3:=zj8 bs (k2+1);rw[Hn.out]at e2;rw[Ye.out]at e3;omega
    obtain⟨dC,mo,rfl,kz,kU⟩:=io;have N8:=hinv.alloc (ze #[.bool bd.aV,.bool bd.bm,.slice dC bd.nodes.length mo] 115);have GU:dU lo (wr.alloc (ze #[.bool bd.aV,.bool bd.bm,.slice dC bd.nodes.length mo] 115)) (.slice dC bd.nodes.length mo) bd.nodes:=dU.below ⟨_,_,rfl,kz,kU⟩ N8.below;generalize oW:fP (bs.take k2)=B8 at *;have Hgs:zb _:=oW;clear oW
    go_wp2_with fail
    refine(WH _ bd.nodes _ GU uG).mono ?_;rintro e w2 ⟨af,⟨hkf,lv,rv,rfl⟩|⟨iZ,gl,cl,gr,cr,rfl,_,_,_⟩⟩
    ·have H:zb (gD G bs=false):=by
      show _=_;rw[HA.out,zoc bs k2 oY bd Hn.out (by rw[hkf];rfl)];simp
     have cX:=(N8.same af).below;clear HA hkf;go_wp2;go_ret;exact⟨bF H.out.symm,cX⟩
    have Hkt:zb _:=iZ;clear iZ;have d2:w2.cell? ⟨wr.heap.size,2,zc⟩=za (.slice dC bd.nodes.length mo):=(af.cell (by simp)).trans (by simp);have zvN:=N8.same af;clear hinv N8 GU af c0 c1 c2;go_wp2
    go_loopw [4,64] (λs i wr=>∃(j gg cc:Nat),j<=bd.nodes.length/\i=zd .i64 j/\s=zi (za ⟨gg,0,zc⟩) (B8++aT (bd.nodes.take j)).length cc/\rr w wr (zi (za ⟨b,o,zc⟩) bs.length cap) G gg cc (B8++aT (bd.nodes.take j))/\zb ((bd.nodes.take j).all aX=true))
     (λ_ i _=>bd.nodes.length-(intOf i).toNat)
    case atStart=>exact⟨0,gg,cc,aZ _,rfl,by simp[aT],by simpa [aT]using zvN,rfl⟩
    case round=>
     clear zvN d2;obtain⟨j,g3,c3,hj,rfl,rfl,Kd,Qu⟩:=hrel;have zyx:(B8++aT (bd.nodes.take j)).length<=5000:=by
      have:=WG (bd.nodes.take j);simp at this ⊢;omega
     by_cases Og:j<bd.nodes.length
     ·obtain⟨b2,o2,sv,nd,rfl,fQ,j8,d0,d1,d2,d3,d4,di⟩:=kU.elem Kd.below Og;have Qd:zb _:=zqZ bd.nodes j Og nd fQ.out;obtain⟨kd,rs,mn,mx,gp⟩:=nd;simp only at d0 d2 d3 d4 di Qd;obtain⟨bH,bI,rfl,Eu,jQ⟩:=di;have SS:=Kd.alloc (ze #[zd .i64 kd,.slice bH rs.length bI,zd .i64 mn,zd .i64 mx,zd .i64 gp] 149);have vT:dD lo (wr.alloc (ze #[zd .i64 kd,.slice bH rs.length bI,zd .i64 mn,zd .i64 mx,zd .i64 gp] 149)) (.slice bH rs.length bI) rs:=dD.below ⟨_,_,rfl,Eu,jQ⟩ (au);generalize Eg:B8++aT (bd.nodes.take j)=Ns at *;have Yo:zb _:=Eg;clear Eg
      by_cases pO:aX ⟨kd,rs,mn,mx,gp⟩=false
      ·have H:zb (gD G bs=false):=by
        show _=_;rw[HA.out,zoc bs k2 oY bd Hn.out (by rw[zlr bd.nodes j Og _ fQ.out pO];simp)];simp
       clear HA
       go_wp2_with (go_at_call 110;refine(zj9 _ _ _ _ _ _ _ vT).mono ?_;rintro e w4 ⟨rfl,aG⟩)
       go_ret
       exact⟨bF H.out.symm,(SS.same aG).below⟩
      have mU:aX ⟨kd,rs,mn,mx,gp⟩=true:=by simpa using pO
      have XX:zb ((bd.nodes.take (j+1)).all aX=true):=znH bd.nodes j Og _ fQ.out Qu.out mU;clear pO
      go_wp2_with fail
      refine(zj9 _ _ _ _ _ _ _ vT).mono ?_;rintro e w4 ⟨rfl,aG⟩;have y0:w4.cell? ⟨wr.heap.size,0,zc⟩=za (zd .i64 kd):=(aG.cell (by simp)).trans (by simp);have y4:w4.cell? ⟨wr.heap.size,4,zc⟩=za (zd .i64 gp):=(aG.cell (by simp)).trans (by simp);have N7:=SS.same aG;have zyP:=N7.size;clear Kd SS aG
      by_cases Nt:kd=5
      ·subst Nt
       go_wp2_with (refine pX w4 rfl (.tmp 74) (.tmp 77) 23 rfl (w.heap.size+1) 3 i0 _ 8 underlying23 hi bK bh bz rfl g3 c3 Ns.length (CP Ns) _ rfl N7.row rfl rfl (by omega) (by omega) zyP ?_;intro g5 c5 w5 pT zxU at5)
       go_roundw
       case rel=>
        have he:B8++aT (bd.nodes.take (j+1))=Ns++[gp]:=by rw[Qd.out,aD (by trivial),<-pA,Yo.out]
        exact⟨j+1,g5,c5,by omega,by go_num,by rw[he];simp,by rw[he];exact N7.grown zxU pT,XX⟩
       case measure=>simp[intOf];omega
      ·have zzN:(kd==5)=false:=eu.2 Nt;have H55:zb _:=Nt;clear Nt;go_wp2
       go_roundw
       case rel=>
        have he:B8++aT (bd.nodes.take (j+1))=Ns:=by rw[Qd.out,aq H55.out,tW,Yo.out]
        exact⟨j+1,g3,c3,by omega,by go_num,by rw[he],by rw[he];exact N7,XX⟩
       case measure=>simp[intOf];omega
     ·have fL:bd.nodes.take j=bd.nodes:=wL (by omega);rw[fL]at Kd Qu zyx ⊢;have zC:zb (fP (bs.take (k2+1))=B8++aT bd.nodes):=by show _=_;rw[zkP bs k2 oY bd Hn.out,Hgs.out]
      have kN:zb (nM (bs.take (k2+1))=true):=zoe bs k2 oY bd Hn.out sJ.out (by rw[Hkt.out,Qu.out];rfl);clear fL;generalize B8++aT bd.nodes=gs4 at *;go_wp2
      go_roundw
      case rel=>exact⟨k2+1,g3,c3,by omega,by go_num,by rw[zC.out],by rw[zC.out];exact Kd,kN⟩
      case measure=>simp[intOf];omega
   ·have fL:bs.take k2=bs:=wL (by omega);rw[fL]at hinv sJ ⊢;have fC:(fP bs).length<=5000:=by have:=VF bs;rw[Ye.out]at this;omega
    rw[sJ.out,kM]at HA;clear fL;have zwc:=zod sJ.out;have YB:zb _:=zwc;clear zwc;generalize oW:fP bs=gs at *;have mj:=hinv.Nn;have fE:=hinv.Gf
    by_cases GI:((gs.length:Int)==G)=false
    ·have H:zb (gD G bs=false):=by show _=_;rw[HA.out,GI];simp
     have zyk:(((gs.length:Nat):Int) != G)=true:=by simp at GI ⊢;exact GI
     have cX:=hinv.below;clear HA GI;go_wp2;go_ret;exact⟨bF H.out.symm,cX⟩
    have AD:((gs.length:Int)==G)=true:=by simpa using GI
    rw[AD,kM]at HA;have zyk:(((gs.length:Nat):Int) != G)=false:=by simp at AD ⊢;exact AD
    have ZO:G=gs.length:=(eq_of_beq AD).symm;clear GI AD;obtain⟨Gn,rfl⟩:=Int.eq_ofNat_of_zero_le ZM;have HGe:zb _:=ZO;clear ZO;have hGn:Gn<=500:=by omega
    go_wp2
    go_loopw [14] (λgv wr=>∃q:Nat,q<=Gn/\gv=zd .i64 ((q:Int)+1)/\rr w wr (.slice ao bs.length cap) (Gn:Int) gg cc gs/\zb (∀i,i<q->gs.count ((i:Int)+1)=1))
     (λgv _=>Gn+1-(intOf gv).toNat)
    case atStart=>exact⟨0,aZ _,rfl,hinv,λi hi=>absurd hi (dk _)⟩
    case round=>
     clear hinv mj fE;obtain⟨q,hq,rfl,hinv,Yf⟩:=hrel;have mj:=hinv.Nn;have fE:=hinv.Gf
     by_cases zyA:q<Gn
     ·have hle:(q:Int)+1<=(Gn:Int):=by omega
      go_wp2
      go_loopw [15,94] (λt i wr=>∃j:Nat,j<=gs.length/\i=zd .i64 j/\t=zd .i64 ((gs.take j).count ((q:Int)+1):Nat)/\rr w wr (.slice ao bs.length cap) (Gn:Int) gg cc gs)
       (λ_ i _=>gs.length-(intOf i).toNat)
      case atStart=>exact⟨0,aZ _,rfl,rfl,hinv⟩
      case round=>
       clear hinv mj fE;obtain⟨j,hj,rfl,rfl,hinv⟩:=hrel;have ik:(gs.take j).count ((q:Int)+1)<=j:=by
        have:=List.count_le_length (a:=(q:Int)+1) (l:=gs.take j);simp at this;omega
       by_cases zv0:j<gs.length
       ·have y0:wr.cell? ⟨gg,j,zc⟩=za (zd .i64 (gs.getD j 0)):=(hinv.row.cellAt j (by omega)).trans (zrP gs j zv0);have HC:zb _:=zm5 gs j zv0 ((q:Int)+1);generalize (gs.take j).count ((q:Int)+1)=ct at *;generalize gs.getD j 0=h0 at *
        by_cases vN:h0=(q:Int)+1
        ·have zyq:(h0==(q:Int)+1)=true:=beq_iff_eq.2 vN;have Qe:zb _:=vN;clear vN;go_wp2
         go_roundw
         case rel=>exact⟨j+1,by omega,by go_num,by rw[HC.out,aD Qe.out];go_num,hinv⟩
         case measure=>simp[intOf];omega
        ·have zyq:(h0==(q:Int)+1)=false:=eu.2 vN;have Qe:zb _:=vN;clear vN;go_wp2
         go_roundw
         case rel=>exact⟨j+1,by omega,by go_num,by rw[HC.out,aq Qe.out,wH],hinv⟩
         case measure=>simp[intOf];omega
       ·have zwu:gs.take j=gs:=wL (by omega);rw[zwu]at ik ⊢;clear zwu
        by_cases rO:gs.count ((q:Int)+1)=1
        ·have Mz:zb (∀i,i<q+1->gs.count ((i:Int)+1)=1):=by
          intro i hi
          by_cases e:i=q
          ·subst e;exact rO
          ·exact Yf.out i (by omega)
         have zyE:(((gs.count ((q:Int)+1):Nat):Int) != 1)=false:=by rw[rO];rfl
         clear rO;generalize gs.count ((q:Int)+1)=ct at *;go_wp2
         go_roundw
         case rel=>exact⟨q+1,by omega,by go_num,hinv,Mz⟩
         case measure=>simp[intOf];omega
        ·have zyE:(((gs.count ((q:Int)+1):Nat):Int) != 1)=true:=by rw[bne_iff_ne];omega
         have H:zb (gD (Gn:Int) bs=false):=by
          show _=_;have:zy (Gn:Int) gs=false:=by
           unfold zy;rw[List.all_eq_false];exact⟨q,by simpa using zyA,by simpa using rO⟩
          rw[HA.out,this];simp
         have cX:=hinv.below;clear HA rO;generalize gs.count ((q:Int)+1)=ct at *;go_wp2;go_ret;exact⟨bF H.out.symm,cX⟩
     ·have AD:¬((q:Int)+1<=(Gn:Int)):=by omega
      have ho:zy (Gn:Int) gs=true:=by
       unfold zy;rw[jl];intro i hi;have:=Yf.out i (by simp at hi;omega);rw[this];rfl
      rw[ho,kM]at HA;have pb:=Pv YB.out bs.length (ai _);rw[wK]at pb;have cX:=hinv.below;have iY:=bX.below cX;clear ho
      go_wp2_with fail
      refine(zfb (Gn:Int) _ bs _ iY hsm YB.out).mono ?_;rintro e w7 ⟨rfl,vI⟩;have Sm:=aj cX cX.size vI;go_wp2;go_ret;exact⟨bF (by rw[HA.out]),Sm⟩
theorem Dd{P:Program}{ops:Array Oper}{o:Oper}{a:Act}{w:zg}{K:Act->zg->Prop}{Q:Exit->Act->zg->Prop}{E:Prop}(lY:o.guard=zc)(f:FuncId)(xs:Array Operand)(ats:Array zj)
  (ho:o.op=.call {callee:=.value (.func f),args:=xs,argTypes:=ats}) (args:Array zf) (Ck:(#[]++xs.map a.eval++#[]:Array zf)=args) (v:zf) (R:zg->Prop) (pK:(callFunc f args).run P w=.ok (.enter f args) w)
  (hc:Calls P f args w λe w'=>e=.returned v/\R w') (h:∀w',R w'->K (a.put o.dst v) w'):
  if Region.wanted o (yielded ops a.tmps)=true then Oper.wp P o a w K Q else E:=by
 have hw:Region.wanted o (yielded ops a.tmps)=true:=by simp[Region.wanted,lY]
 rw[aD hw];obtain⟨dst,op,type,pos,after,guard⟩:=o;simp only at ho;subst ho;unfold Oper.wp;rw[execOp_call_go,Ck];rw[pK,Oper.upon_enter];refine hc.mono ?_;rintro e w' ⟨rfl,hR⟩;exact h w' hR
variable {w:zg}{g:Nat}{o:Obj}{a b c d e:zf}
theorem cB{w':zg}(h:w.heap[g]?=za o)(hb:zh w.heap.size w w'):w'.heap[g]?=za o:=(hb.block g (ap.1 h).1).trans h
theorem ID(h:w.heap[g]?=za o):g<w.heap.size:=(ap.1 h).1
theorem cm{C:Array zf}{t:zj}(h:w.heap[g]?=za (ze C t (0,0))):∀o,w.cell? ⟨g,o,zc⟩=C[o]?:=λ_=>aO _ _ _ _ _ _ h
theorem eW{t:zj}(h:w.heap[g]?=za (ze #[a,b,c,d,e] t (0,0))):w.cell? ⟨g,0,zc⟩=za a/\w.cell? ⟨g,1,zc⟩=za b/\w.cell? ⟨g,2,zc⟩=za c/\w.cell? ⟨g,3,zc⟩=za d/\w.cell? ⟨g,4,zc⟩=za e:=
 ⟨cm h 0,cm h 1,cm h 2,cm h 3,cm h 4⟩
theorem EU{f h i:zf}{t:zj}(z:w.heap[g]?=za (ze #[a,b,c,d,e,f,h,i] t (0,0))):w.cell? ⟨g,0,zc⟩=za a/\w.cell? ⟨g,1,zc⟩=za b/\w.cell? ⟨g,2,zc⟩=za c/\w.cell? ⟨g,3,zc⟩=za d/\w.cell? ⟨g,4,zc⟩=za e/\w.cell? ⟨g,5,zc⟩=za f/\w.cell? ⟨g,6,zc⟩=za h/\w.cell? ⟨g,7,zc⟩=za i:=
 ⟨cm z 0,cm z 1,cm z 2,cm z 3,cm z 4,cm z 5,cm z 6,cm z 7⟩
end Go.Proofs.YtdimhpfiieepiaaGreatDoor
