import Derived.Test.YtdimhpfiieepiaaGreatDoorC7
import Derived.Deep.RegionLaw
import Derived.Deep.Cut
import Derived.Deep.CutRange
import Derived.Deep.DrawnRows
import Derived.Deep.RegionHeld3
import Derived.Deep.QuietTactic
import Derived.BigQuiet
namespace Go.Proofs.YtdimhpfiieepiaaGreatDoor
open Proofs.Tryz
open Option renaming some->zb,none->zc
open Value renaming int->zd,slice->zl
open RowKit renaming Hid->ze,Below->zh
open Go renaming Value->zf,World->zg,Calls->zk,TypeId->zm
open Obj renaming cells->zj
set_option maxHeartbeats 4000000
set_option maxRecDepth 100000
open Go.RowKit
def Rs(bs:List aV):Prop:=∀i,i<bs.length->jP (bs.getD i .zero).nodes=true/\(bs.getD i .zero).nodes.all aY=true
def BU(b:aV):Int:=eJ b.nodes (b.nodes.length-1)
def jM:List aV->Int
 |[]=>0
 |b::bs=>BU b+jM bs
theorem zh5(bs:List aV)(k:Nat)(hk:k<bs.length):jM (bs.take (k+1))=jM (bs.take k)+BU (bs.getD k .zero):=by
 induction bs generalizing k with
 |nil=>exact absurd hk (cR _)
 |cons b bs ih=>
  cases k with
  |zero=>simp[jM,List.getD]
  |succ k=>
   have:=ih k (by simpa using hk);simp only[nH,jM,List.getD_cons_succ]at this ⊢;omega
theorem QV{b:aV}(hk:jP b.nodes=true)(eu:∀i,i<b.nodes.length->bC (bO b.nodes i)<=(aK b.nodes i).length)(hb:b.nodes.all aY=true):1<=BU b/\BU b<=2001:=by
 obtain⟨hp,_⟩:=XY b.nodes hk eu hb;exact BR b.nodes eu hb (b.nodes.length) (b.nodes.length-1) (by omega) (by omega)
theorem zmj:∀(ns pre:List aL) (d:Nat),nE ns (aK (pre++ns) pre.length).length=zb d->∀i,pre.length<=i->i<pre.length+ns.length->bC (bO (pre++ns) i)<=(aK (pre++ns) i).length
 |[],pre,_,_,i,h1,h2=>by simp at h2;omega
 |n::ns,pre,d,h,i,h1,h2=>by
  have zwV:bO (pre++n::ns) pre.length=n.kind:=by simp[bO,List.getD_eq_getElem?_getD]
  unfold nE at h
  by_cases hc:(aK (pre++n::ns) pre.length).length<bC n.kind
  ·rw[aC hc]at h;cases h
  ·rw[ak hc]at h
   by_cases e:i=pre.length
   ·subst e;rw[zwV];omega
   ·have e1:pre++n::ns=(pre++[n])++ns:=by simp
    have hl:=Yy (pre++n::ns) pre.length;rw[zwV]at hl;rw[<-hl]at h;have:=zmj ns (pre++[n]) d (by rw[<-e1];simpa using h) i (by simp;omega) (by simp at h2 ⊢;omega);rwa[<-e1]at this
theorem Nn{ns:List aL}(h:jP ns=true):∀i,i<ns.length->bC (bO ns i)<=(aK ns i).length:=by
 intro i hi;unfold jP at h;exact zmj ns [] 1 (eq_of_beq h) i (aR _) (by simpa using hi)
theorem QT{bs:List aV}(h:Rs bs):∀k,k<=bs.length->0<=jM (bs.take k)/\jM (bs.take k)<=k*2001
 |0,_=>by simp[jM]
 |k+1,hk=>by
  have h1:=QT h k (by omega);obtain⟨h2,h3⟩:=h k (by omega);have h4:=QV h2 (Nn h2) h3;rw[zh5 bs k (by omega)];omega
theorem zfb{lo:Nat}(G:Int)(v:zf)(bs:List aV)(w:zg)(hs:eh lo w v bs)(hsm:Small bs)(fE:Rs bs):
  zk prog 88 #[.agg #[v,zd .i64 G]] w λe w'=>e=.returned (zd .i64 (jM bs))/\zh w.heap.size w w':=by
 obtain⟨ao,cap,rfl,hm,hc⟩:=hs;have hn:=hsm.1;have Co:ze _:=fE;clear fE
 go_enter func88,ntmps88
 go_wp2
 go_loopw [3,9] (λs i wr=>∃k:Nat,k<=bs.length/\i=zd .i64 k/\s=zd .i64 (jM (bs.take k))/\zh w.heap.size w wr)
  (λ_ i _=>bs.length-(intOf i).toNat)
 case atStart=>exact⟨0,aR _,rfl,rfl,aw⟩
 case round=>
  obtain⟨k,hk,rfl,rfl,hb⟩:=hrel;have hrb:=QT Co.out k hk
  by_cases hlt:k<bs.length
  ·obtain⟨b,o,nv,bd,rfl,Hn,aZ,c0,c1,c2,ir⟩:=hc.elem hb hlt;have uQ:bd.nodes.length<=1048576:=by have:=(hsm.2 k hlt).1;rw[Hn.out]at this;exact this
   have gH:jP bd.nodes=true:=by have:=(Co.out k hlt).1;rw[Hn.out]at this;exact this
   have zi:bd.nodes.all aY=true:=by have:=(Co.out k hlt).2;rw[Hn.out]at this;exact this
   have I1:=QV gH (Nn gH) zi;obtain⟨dM,mo,rfl,mQ,kW⟩:=ir;have bQ:zh w.heap.size w (wr.alloc (zj #[.bool bd.aX,.bool bd.bm,.slice dM bd.nodes.length mo] 115)):=hb.alloc hb.size _;have IM:dZ lo (wr.alloc (zj #[.bool bd.aX,.bool bd.bm,.slice dM bd.nodes.length mo] 115)) (.slice dM bd.nodes.length mo) bd.nodes:=dZ.below ⟨_,_,rfl,mQ,kW⟩ (aw);have HT:ze _:=zh5 bs k hlt;rw[Hn.out]at HT;generalize jM (bs.take k)=s at *;have HL:ze (eJ bd.nodes (bd.nodes.length-1)=BU bd):=rfl
   go_wp2_with fail
   refine(zqv _ bd.nodes _ IM uQ gH zi).mono ?_;rintro e w2 ⟨rfl,ae⟩;rw[HL.out];clear gH zi;generalize BU bd=wl at *;have jo:IntKind.i64.wrap (s+wl)=s+wl:=by rw[IntKind.wrap_i64];omega
   go_wp2
   go_roundw
   case rel=>exact⟨k+1,by omega,by go_num,by rw[HT.out],aq bQ bQ.size ae⟩
   case measure=>simp[intOf];omega
  ·go_wp2;go_ret;exact⟨gh (by rw[wZ (by omega)]),hb⟩
section
variable {w wr w1:zg}{v:zf}{G:Int}{gg cc:Nat}{gs:List Int}
def nQ(bs:List aV):Bool:=bs.all λb=>jP b.nodes&&b.nodes.all aY
def zW(G:Int)(gs:List Int):Bool:=(List.range G.toNat).all λi=>gs.count ((i:Int)+1)==1
def gC(G:Int)(bs:List aV):Bool:=
 decide (1<=bs.length/\bs.length<=2000)&&decide (0<=G/\G<=500)&&decide (iz bs<=5000)&&nQ bs&&(((fT bs).length:Int)==G)&&zW G (fT bs)&&decide (jM bs<=2000)
theorem zq6(ns:List aL)(j:Nat)(hj:j<ns.length)(nd:aL)(h:ns.getD j .zero=nd):aT (ns.take (j+1))=aT (ns.take j)++(if nd.kind=5 then [nd.group] else []):=by
 induction ns generalizing j with
 |nil=>exact absurd hj (cR _)
 |cons n ns ih=>
  cases j with
  |zero=>
   have:n=nd:=by simpa [List.getD]using h
   subst this;simp only[nH,ue,aT,wX]
  |succ j=>
   have:=ih j (by simpa using hj) (by simpa [List.getD]using h);simp only[nH,aT]at this ⊢;rw[this];split<;>simp
theorem zkN(bs:List aV)(k:Nat)(hk:k<bs.length)(bd:aV)(h:bs.getD k .zero=bd):fT (bs.take (k+1))=fT (bs.take k)++aT bd.nodes:=by
 induction bs generalizing k with
 |nil=>exact absurd hk (cR _)
 |cons b bs ih=>
  cases k with
  |zero=>
   have:b=bd:=by simpa [List.getD]using h
   subst this;simp[fT]
  |succ k=>
   have:=ih k (by simpa using hk) (by simpa [List.getD]using h);simp only[nH,fT]at this ⊢;rw[this,pG]
theorem Yz:∀ns:List aL,(aT ns).length<=ns.length
 |[]=>aj _
 |n::ns=>by have:=Yz ns;unfold aT;split<;>simp<;>omega
theorem Xo:∀bs:List aV,(fT bs).length<=iz bs
 |[]=>aj _
 |b::bs=>by have:=Xo bs;have:=Yz b.nodes;unfold fT iz;simp;omega
theorem zj9(bs:List aV)(k:Nat):iz (bs.take k)<=iz bs:=by
 induction bs generalizing k with
 |nil=>simp
 |cons b bs ih=>
  cases k with
  |zero=>simp[iz]
  |succ k=>have:=ih k;simp only[nH,iz];omega
theorem zol(bs:List aV)(k:Nat)(hk:k<bs.length)(bd:aV)(h:bs.getD k .zero=bd)(hf:(jP bd.nodes&&bd.nodes.all aY)=false):nQ bs=false:=by
 unfold nQ;rw[List.all_eq_false];refine⟨bs[k],kg _,?_⟩;have:bs[k]=bd:=by rw[<-h];simp[List.getD,hk]
 rw[this,hf];simp
theorem zon(bs:List aV)(k:Nat)(hk:k<bs.length)(bd:aV)(h:bs.getD k .zero=bd)(ht:nQ (bs.take k)=true)(hf:(jP bd.nodes&&bd.nodes.all aY)=true):nQ (bs.take (k+1))=true:=by
 unfold nQ at *;rw[NP hk,List.all_append,ht];have:bs[k]=bd:=by rw[<-h];simp[List.getD,hk]
 simp only[List.all_cons,List.all_nil,this,hf,Bool.and_true]
theorem zlt(ns:List aL)(j:Nat)(hj:j<ns.length)(nd:aL)(h:ns.getD j .zero=nd)(hf:aY nd=false):ns.all aY=false:=by
 rw[List.all_eq_false];refine⟨ns[j],kg _,?_⟩;have:ns[j]=nd:=by rw[<-h];simp[List.getD,hj]
 rw[this,hf];simp
theorem znQ(ns:List aL)(j:Nat)(hj:j<ns.length)(nd:aL)(h:ns.getD j .zero=nd)(ht:(ns.take j).all aY=true)(hf:aY nd=true):(ns.take (j+1)).all aY=true:=by
 rw[NP hj,List.all_append,ht];have:ns[j]=nd:=by rw[<-h];simp[List.getD,hj]
 simp only[List.all_cons,List.all_nil,this,hf,Bool.and_true]
theorem zom{bs:List aV}(h:nQ bs=true):Rs bs:=by
 intro i hi;have:=iQ.1 h (bs.getD i .zero) (by
  rw[bP,dh hi];exact kg _)
 simpa using this
theorem znb(gs:List Int)(j:Nat)(hj:j<gs.length)(x:Int):(gs.take (j+1)).count x=(gs.take j).count x+(if gs.getD j 0=x then 1 else 0):=by
 rw[NP hj,List.count_append];simp[List.getD,hj,List.count_cons]
def Dr(gs:List Int):List zf:=gs.map (Value.int .i64)
theorem zp8(gs:List Int)(x:Int):Dr (gs++[x])=Dr gs++[zd .i64 x]:=by simp[Dr]
theorem zr9(gs:List Int)(i:Nat)(h:i<gs.length):(Dr gs)[i]?=zb (zd .i64 (gs.getD i 0)):=by simp[Dr,h,List.getD]
structure rG(w wr:zg)(v:zf)(G:Int)(gg cc:Nat)(gs:List Int):Prop where
 below:zh w.heap.size w wr
 G9:wr.cell? ⟨w.heap.size,0,zc⟩=zb v
 OK:wr.cell? ⟨w.heap.size,1,zc⟩=zb (zd .i64 G)
 row:wr.ownsRow (w.heap.size+1) 3 1 (zl (zb ⟨gg,0,zc⟩) gs.length cc) gs.length (Dr gs)
 size:w.heap.size+1<=wr.heap.size
theorem rG.same(h:rG w wr v G gg cc gs)(hb:zh wr.heap.size wr w1):rG w w1 v G gg cc gs:=
 ⟨aq h.below (aW (Nat.le_succ _) h.size) hb,(hb.cell (by have:=h.size;simp;omega)).trans h.G9,(hb.cell (by have:=h.size;simp;omega)).trans h.OK,dQ h.row hb,aW h.size hb.size⟩
theorem rG.alloc(h:rG w wr v G gg cc gs)(o:Obj):rG w (wr.alloc o) v G gg cc gs:=h.same (aw)
theorem rG.grown{g' c':Nat}{x:Int}(h:rG w wr v G gg cc gs)(hg:wr.grownBy w1 (zb gg))(ho:w1.ownsRow (w.heap.size+1) 3 1 (zl (zb ⟨g',0,zc⟩) (gs.length+1) c') (gs.length+1) (Dr gs++[zd .i64 x])):rG w w1 v G g' c' (gs++[x]):=by
 have hgg:=(qn h.row).1;have hs:=h.size;refine⟨h.below.grown hg (by omega) (by intro q hq;cases hq;omega),?_,?_,by simpa [zp8]using ho,aW h.size hg.size⟩
 ·exact(hg.cell_far _ (by simp;omega) (by simp;omega)).trans h.G9
 ·exact(hg.cell_far _ (by simp;omega) (by simp;omega)).trans h.OK
end
theorem zfd{lo:Nat}(G:Int)(v:zf)(bs:List aV)(w:zg)(hs:eh lo w v bs)(hsm:Small bs):
  zk prog 87 #[.agg #[v,zd .i64 G]] w λe w'=>e=.returned (.bool (gC G bs))/\zh w.heap.size w w':=by
 have hn:=hsm.1;have dD:=hs;obtain⟨ao,cap,rfl,hm,hc⟩:=hs;have af:zh w.heap.size w (w.alloc (zj #[.slice ao bs.length cap,zd .i64 G] 69)):=aw
 by_cases h1:bF (bs.length:Int) 1 2000=false
 ·have H:ze (gC G bs=false):=by
   show _=_;have:decide (1<=bs.length/\bs.length<=2000)=false:=by simp[bF]at h1;simp;omega
   simp[gC,this]
  go_enter func87,ntmps87
  go_wp2_with (go_at_call 47;refine(oz _ _ _ _).mono ?_;rintro e w' ⟨rfl,rfl⟩)
  go_ret
  exact⟨bz H.out.symm,af⟩
 have A0:bF (bs.length:Int) 1 2000=true:=by simpa using h1
 clear h1
 by_cases h2:bF G 0 500=false
 ·have H:ze (gC G bs=false):=by
   show _=_;have:decide (0<=G/\G<=500)=false:=by simp[bF]at h2;simp;omega
   simp[gC,this]
  go_enter func87,ntmps87
  go_wp2_with (go_at_call 47;refine(oz _ _ _ _).mono ?_;rintro e w' ⟨rfl,rfl⟩)
  go_ret
  exact⟨bz H.out.symm,af⟩
 have A1:bF G 0 500=true:=by simpa using h2
 clear h2;have hlen:1<=bs.length/\bs.length<=2000:=by simp[bF]at A0;omega
 have hG:0<=G/\G<=500:=by simp[bF]at A1;omega
 obtain⟨hG0,hG1⟩:=hG;have HA:ze (gC G bs=(decide (iz bs<=5000)&&nQ bs&&(((fT bs).length:Int)==G)&&zW G (fT bs)&&decide (jM bs<=2000))):=by
  show _=_;have e1:decide (1<=bs.length/\bs.length<=2000)=true:=by simp;omega
  have e2:decide (0<=G/\G<=500)=true:=by simp;omega
  unfold gC;rw[e1,e2,kh,kh]
 obtain⟨i0,hi,bI,aO,aQ⟩:=info_parts Tryz.P0
 go_enter func87,ntmps87
 go_wp2_with (go_at_call 47;refine(oz _ _ _ _).mono ?_;rintro e w' ⟨rfl,rfl⟩)
 have zwT:rG w ((w.alloc (zj #[.slice ao bs.length cap,zd .i64 G] 69)).alloc (zj #[] 3)) (.slice ao bs.length cap) G (w.heap.size+1) 0 []:=⟨af.alloc af.size _,by simp,by simp,Qq _ _ _ _ (by omega) (by simp),by simp⟩
 go_loopw [3,33] (λs i wr=>∃k:Nat,k<=bs.length/\i=zd .i64 k/\s=zd .i64 (iz (bs.take k))/\rG w wr (.slice ao bs.length cap) G (w.heap.size+1) 0 [])
  (λ_ i _=>bs.length-(intOf i).toNat)
 case atStart=>exact⟨0,aR _,rfl,rfl,zwT⟩
 case round=>
  clear zwT;obtain⟨k,hk,rfl,rfl,hinv⟩:=hrel;have nV:=Qu hsm k hk
  by_cases hlt:k<bs.length
  ·obtain⟨b,o,nv,bd,rfl,Hn,aZ,c0,c1,c2,ir⟩:=hc.elem hinv.below hlt;have uQ:bd.nodes.length<=1048576:=by have:=(hsm.2 k hlt).1;rw[Hn.out]at this;exact this
   obtain⟨dM,mo,rfl,mQ,kW⟩:=ir;have HT:ze _:=Qp bs k hlt;rw[Hn.out]at HT;generalize iz (bs.take k)=s at *;go_wp2
   go_roundw
   case rel=>exact⟨k+1,by omega,by go_num,by rw[HT.out];go_num,hinv.alloc _⟩
   case measure=>simp[intOf];omega
  have bK:bs.take k=bs:=wZ (by omega);rw[bK]at nV ⊢;clear bK
  by_cases h5:5000<(iz bs:Int)
  ·have H:ze (gC G bs=false):=by
    show _=_;have:decide (iz bs<=5000)=false:=by simp;omega
    rw[HA.out,this];simp
   have cN:=hinv.below;have j9:=hinv.G9;clear HA;go_wp2;go_ret;exact⟨bz H.out.symm,cN⟩
  have h5':iz bs<=5000:=by omega
  have e5:decide (iz bs<=5000)=true:=by simpa using h5'
  rw[e5,kh]at HA;clear e5 nV;have j9:=hinv.G9;go_wp2;generalize Ir:iz bs=cn at *;have Zz:ze _:=Ir;clear Ir
  go_loopw [4,48] (λs i wr=>∃(k gg cc:Nat),k<=bs.length/\i=zd .i64 k/\s=zl (zb ⟨gg,0,zc⟩) (fT (bs.take k)).length cc/\rG w wr (.slice ao bs.length cap) G gg cc (fT (bs.take k))/\ze (nQ (bs.take k)=true))
   (λ_ i _=>bs.length-(intOf i).toNat)
  case atStart=>exact⟨0,w.heap.size+1,0,aR _,rfl,rfl,hinv,rfl⟩
  case round=>
   clear hinv j9;obtain⟨k2,gg,cc,mP,rfl,rfl,hinv,s6⟩:=hrel
   by_cases pj:k2<bs.length
   ·obtain⟨b,o,nv,bd,rfl,Hn,aZ,q0,q1,q2,ir⟩:=hc.elem (Below.refl _ _) pj;have c0:=(hinv.below.cell (p:=⟨b,o+k2*3,zc⟩) aZ).trans q0;have c1:=(hinv.below.cell (p:=⟨b,o+k2*3+1,zc⟩) aZ).trans q1;have c2:=(hinv.below.cell (p:=⟨b,o+k2*3+2,zc⟩) aZ).trans q2;clear q0 q1 q2;have uQ:bd.nodes.length<=1048576:=by have:=(hsm.2 k2 pj).1;rw[Hn.out]at this;exact this
    have fD:(fT (bs.take k2)).length+bd.nodes.length<=5000:=by
     have e1:=Xo (bs.take k2);have e2:=Qp bs k2 pj;have e3:=zj9 bs (k2+1);rw[Hn.out]at e2;rw[Zz.out]at e3;omega
    obtain⟨dM,mo,rfl,mQ,kW⟩:=ir;have PE:=hinv.alloc (zj #[.bool bd.aX,.bool bd.bm,.slice dM bd.nodes.length mo] 115);have IM:dZ lo (wr.alloc (zj #[.bool bd.aX,.bool bd.bm,.slice dM bd.nodes.length mo] 115)) (.slice dM bd.nodes.length mo) bd.nodes:=dZ.below ⟨_,_,rfl,mQ,kW⟩ PE.below;generalize iJ:fT (bs.take k2)=CN at *;have Sl:ze _:=iJ;clear iJ
    go_wp2_with fail
    refine(YB _ bd.nodes _ IM uQ).mono ?_;rintro e w2 ⟨ae,⟨hkf,lv,rv,rfl⟩|⟨nY,gl,cl,gr,cr,rfl,_,_,_⟩⟩
    ·have H:ze (gC G bs=false):=by
      show _=_;rw[HA.out,zol bs k2 pj bd Hn.out (by rw[hkf];rfl)];simp
     have cN:=(PE.same ae).below;clear HA hkf;go_wp2;go_ret;exact⟨bz H.out.symm,cN⟩
    have Hkt:ze _:=nY;clear nY;have d2:w2.cell? ⟨wr.heap.size,2,zc⟩=zb (.slice dM bd.nodes.length mo):=(ae.cell (by simp)).trans (by simp);have zwU:=PE.same ae;clear hinv PE IM ae c0 c1 c2;go_wp2
    go_loopw [4,64] (λs i wr=>∃(j gg cc:Nat),j<=bd.nodes.length/\i=zd .i64 j/\s=zl (zb ⟨gg,0,zc⟩) (CN++aT (bd.nodes.take j)).length cc/\rG w wr (zl (zb ⟨b,o,zc⟩) bs.length cap) G gg cc (CN++aT (bd.nodes.take j))/\ze ((bd.nodes.take j).all aY=true))
     (λ_ i _=>bd.nodes.length-(intOf i).toNat)
    case atStart=>exact⟨0,gg,cc,aR _,rfl,by simp[aT],by simpa [aT]using zwU,rfl⟩
    case round=>
     clear zwU d2;obtain⟨j,g3,c3,hj,rfl,rfl,LG,R9⟩:=hrel;have zzV:(CN++aT (bd.nodes.take j)).length<=5000:=by
      have:=Yz (bd.nodes.take j);simp at this ⊢;omega
     by_cases PJ:j<bd.nodes.length
     ·obtain⟨b2,o2,sv,nd,rfl,fJ,jl,d0,d1,d2,d3,d4,dr⟩:=kW.elem LG.below PJ;have RQ:ze _:=zq6 bd.nodes j PJ nd fJ.out;obtain⟨kd,rs,mn,mx,gp⟩:=nd;simp only at d0 d2 d3 d4 dr RQ;obtain⟨bZ,cd,rfl,Fl,jJ⟩:=dr;have UA:=LG.alloc (zj #[zd .i64 kd,.slice bZ rs.length cd,zd .i64 mn,zd .i64 mx,zd .i64 gp] 149);have IZ:dR lo (wr.alloc (zj #[zd .i64 kd,.slice bZ rs.length cd,zd .i64 mn,zd .i64 mx,zd .i64 gp] 149)) (.slice bZ rs.length cd) rs:=dR.below ⟨_,_,rfl,Fl,jJ⟩ (aw);generalize E6:CN++aT (bd.nodes.take j)=OS at *;have ZK:ze _:=E6;clear E6
      by_cases iV:aY ⟨kd,rs,mn,mx,gp⟩=false
      ·have H:ze (gC G bs=false):=by
        show _=_;rw[HA.out,zol bs k2 pj bd Hn.out (by rw[zlt bd.nodes j PJ _ fJ.out iV];simp)];simp
       clear HA
       go_wp2_with (go_at_call 110;refine(zka _ _ _ _ _ _ _ IZ).mono ?_;rintro e w4 ⟨rfl,bE⟩)
       go_ret
       exact⟨bz H.out.symm,(UA.same bE).below⟩
      have lG:aY ⟨kd,rs,mn,mx,gp⟩=true:=by simpa using iV
      have Zs:ze ((bd.nodes.take (j+1)).all aY=true):=znQ bd.nodes j PJ _ fJ.out R9.out lG;clear iV
      go_wp2_with fail
      refine(zka _ _ _ _ _ _ _ IZ).mono ?_;rintro e w4 ⟨rfl,bE⟩;have y0:w4.cell? ⟨wr.heap.size,0,zc⟩=zb (zd .i64 kd):=(bE.cell (by simp)).trans (by simp);have y4:w4.cell? ⟨wr.heap.size,4,zc⟩=zb (zd .i64 gp):=(bE.cell (by simp)).trans (by simp);have PD:=UA.same bE;have zAf:=PD.size;clear LG UA bE
      by_cases OT:kd=5
      ·subst OT
       go_wp2_with (refine wL w4 rfl (.tmp 74) (.tmp 77) 23 rfl (w.heap.size+1) 3 i0 _ 8 underlying23 hi bI aO aQ rfl g3 c3 OS.length (Dr OS) _ rfl PD.row rfl rfl (by omega) (by omega) zAf ?_;intro g5 c5 w5 mq zzk at5)
       go_roundw
       case rel=>
        have he:CN++aT (bd.nodes.take (j+1))=OS++[gp]:=by rw[RQ.out,aC (by trivial),<-pG,ZK.out]
        exact⟨j+1,g5,c5,by omega,by go_num,by rw[he];simp,by rw[he];exact PD.grown zzk mq,Zs⟩
       case measure=>simp[intOf];omega
      ·have zA0:(kd==5)=false:=eB.2 OT;have H55:ze _:=OT;clear OT;go_wp2
       go_roundw
       case rel=>
        have he:CN++aT (bd.nodes.take (j+1))=OS:=by rw[RQ.out,ak H55.out,ud,ZK.out]
        exact⟨j+1,g3,c3,by omega,by go_num,by rw[he],by rw[he];exact PD,Zs⟩
       case measure=>simp[intOf];omega
     ·have fQ:bd.nodes.take j=bd.nodes:=wZ (by omega);rw[fQ]at LG R9 zzV ⊢;have Af:ze (fT (bs.take (k2+1))=CN++aT bd.nodes):=by show _=_;rw[zkN bs k2 pj bd Hn.out,Sl.out]
      have pJ:ze (nQ (bs.take (k2+1))=true):=zon bs k2 pj bd Hn.out s6.out (by rw[Hkt.out,R9.out];rfl);clear fQ;generalize CN++aT bd.nodes=gs4 at *;go_wp2
      go_roundw
      case rel=>exact⟨k2+1,g3,c3,by omega,by go_num,by rw[Af.out],by rw[Af.out];exact LG,pJ⟩
      case measure=>simp[intOf];omega
   ·have fQ:bs.take k2=bs:=wZ (by omega);rw[fQ]at hinv s6 ⊢;have fD:(fT bs).length<=5000:=by have:=Xo bs;rw[Zz.out]at this;omega
    rw[s6.out,kh]at HA;clear fQ;have zxm:=zom s6.out;have ZZ:ze _:=zxm;clear zxm;generalize iJ:fT bs=gs at *;have rY:=hinv.OK;have j9:=hinv.G9
    by_cases Iz:((gs.length:Int)==G)=false
    ·have H:ze (gC G bs=false):=by show _=_;rw[HA.out,Iz];simp
     have zzJ:(((gs.length:Nat):Int) != G)=true:=by simp at Iz ⊢;exact Iz
     have cN:=hinv.below;clear HA Iz;go_wp2;go_ret;exact⟨bz H.out.symm,cN⟩
    have Bj:((gs.length:Int)==G)=true:=by simpa using Iz
    rw[Bj,kh]at HA;have zzJ:(((gs.length:Nat):Int) != G)=false:=by simp at Bj ⊢;exact Bj
    have hGe:G=gs.length:=(eq_of_beq Bj).symm;clear Iz Bj;obtain⟨Gn,rfl⟩:=Int.eq_ofNat_of_zero_le hG0;have HGe:ze _:=hGe;clear hGe;have hGn:Gn<=500:=by omega
    go_wp2
    go_loopw [14] (λgv wr=>∃q:Nat,q<=Gn/\gv=zd .i64 ((q:Int)+1)/\rG w wr (.slice ao bs.length cap) (Gn:Int) gg cc gs/\ze (∀i,i<q->gs.count ((i:Int)+1)=1))
     (λgv _=>Gn+1-(intOf gv).toNat)
    case atStart=>exact⟨0,aR _,rfl,hinv,λi hi=>absurd hi (cR _)⟩
    case round=>
     clear hinv rY j9;obtain⟨q,hq,rfl,hinv,ZA⟩:=hrel;have rY:=hinv.OK;have j9:=hinv.G9
     by_cases zzY:q<Gn
     ·have hle:(q:Int)+1<=(Gn:Int):=by omega
      go_wp2
      go_loopw [15,94] (λt i wr=>∃j:Nat,j<=gs.length/\i=zd .i64 j/\t=zd .i64 ((gs.take j).count ((q:Int)+1):Nat)/\rG w wr (.slice ao bs.length cap) (Gn:Int) gg cc gs)
       (λ_ i _=>gs.length-(intOf i).toNat)
      case atStart=>exact⟨0,aR _,rfl,rfl,hinv⟩
      case round=>
       clear hinv rY j9;obtain⟨j,hj,rfl,rfl,hinv⟩:=hrel;have iq:(gs.take j).count ((q:Int)+1)<=j:=by
        have:=List.count_le_length (a:=(q:Int)+1) (l:=gs.take j);simp at this;omega
       by_cases zw7:j<gs.length
       ·have y0:wr.cell? ⟨gg,j,zc⟩=zb (zd .i64 (gs.getD j 0)):=(hinv.row.cellAt j (by omega)).trans (zr9 gs j zw7);have HC:ze _:=znb gs j zw7 ((q:Int)+1);generalize (gs.take j).count ((q:Int)+1)=ct at *;generalize gs.getD j 0=h0 at *
        by_cases vZ:h0=(q:Int)+1
        ·have zzO:(h0==(q:Int)+1)=true:=beq_iff_eq.2 vZ;have RR:ze _:=vZ;clear vZ;go_wp2
         go_roundw
         case rel=>exact⟨j+1,by omega,by go_num,by rw[HC.out,aC RR.out];go_num,hinv⟩
         case measure=>simp[intOf];omega
        ·have zzO:(h0==(q:Int)+1)=false:=eB.2 vZ;have RR:ze _:=vZ;clear vZ;go_wp2
         go_roundw
         case rel=>exact⟨j+1,by omega,by go_num,by rw[HC.out,ak RR.out,uf],hinv⟩
         case measure=>simp[intOf];omega
       ·have zxE:gs.take j=gs:=wZ (by omega);rw[zxE]at iq ⊢;clear zxE
        by_cases rV:gs.count ((q:Int)+1)=1
        ·have NV:ze (∀i,i<q+1->gs.count ((i:Int)+1)=1):=by
          intro i hi
          by_cases e:i=q
          ·subst e;exact rV
          ·exact ZA.out i (by omega)
         have zz2:(((gs.count ((q:Int)+1):Nat):Int) != 1)=false:=by rw[rV];rfl
         clear rV;generalize gs.count ((q:Int)+1)=ct at *;go_wp2
         go_roundw
         case rel=>exact⟨q+1,by omega,by go_num,hinv,NV⟩
         case measure=>simp[intOf];omega
        ·have zz2:(((gs.count ((q:Int)+1):Nat):Int) != 1)=true:=by rw[bne_iff_ne];omega
         have H:ze (gC (Gn:Int) bs=false):=by
          show _=_;have:zW (Gn:Int) gs=false:=by
           unfold zW;rw[List.all_eq_false];exact⟨q,by simpa using zzY,by simpa using rV⟩
          rw[HA.out,this];simp
         have cN:=hinv.below;clear HA rV;generalize gs.count ((q:Int)+1)=ct at *;go_wp2;go_ret;exact⟨bz H.out.symm,cN⟩
     ·have Bj:¬((q:Int)+1<=(Gn:Int)):=by omega
      have ho:zW (Gn:Int) gs=true:=by
       unfold zW;rw[iQ];intro i hi;have:=ZA.out i (by simp at hi;omega);rw[this];rfl
      rw[ho,kh]at HA;have pu:=QT ZZ.out bs.length (aj _);rw[wY]at pu;have cN:=hinv.below;have iU:=dD.below cN;clear ho
      go_wp2_with fail
      refine(zfb (Gn:Int) _ bs _ iU hsm ZZ.out).mono ?_;rintro e w7 ⟨rfl,o8⟩;have Ud:=aq cN cN.size o8;go_wp2;go_ret;exact⟨bz (by rw[HA.out]),Ud⟩
theorem DN{P:Program}{ops:Array Oper}{o:Oper}{a:Act}{w:zg}{K:Act->zg->Prop}{Q:Exit->Act->zg->Prop}{E:Prop}(lZ:o.guard=zc)(f:FuncId)(xs:Array Operand)(ats:Array zm)
  (ho:o.op=.call {callee:=.value (.func f),args:=xs,argTypes:=ats}) (args:Array zf) (CZ:(#[]++xs.map a.eval++#[]:Array zf)=args) (v:zf) (R:zg->Prop) (pV:(callFunc f args).run P w=.ok (.enter f args) w)
  (hc:zk P f args w λe w'=>e=.returned v/\R w') (h:∀w',R w'->K (a.put o.dst v) w'):
  if Region.wanted o (yielded ops a.tmps)=true then Oper.wp P o a w K Q else E:=by
 have hw:Region.wanted o (yielded ops a.tmps)=true:=by simp[Region.wanted,lZ]
 rw[aC hw];obtain⟨dst,op,type,pos,after,guard⟩:=o;simp only at ho;subst ho;unfold Oper.wp;rw[execOp_call_go,CZ];rw[pV,Oper.upon_enter];refine hc.mono ?_;rintro e w' ⟨rfl,hR⟩;exact h w' hR
section
variable {w:zg}{g:Nat}{o:Obj}{a b c d e:zf}
theorem ck{w':zg}(h:w.heap[g]?=zb o)(hb:zh w.heap.size w w'):w'.heap[g]?=zb o:=(hb.block g (ah.1 h).1).trans h
theorem JK(h:w.heap[g]?=zb o):g<w.heap.size:=(ah.1 h).1
theorem bX{C:Array zf}{t:zm}(h:w.heap[g]?=zb (zj C t (0,0))):∀o,w.cell? ⟨g,o,zc⟩=C[o]?:=λ_=>aM _ _ _ _ _ _ h
theorem ja{t:zm}(h:w.heap[g]?=zb (zj #[a,b,c,d,e] t (0,0))):w.cell? ⟨g,0,zc⟩=zb a/\w.cell? ⟨g,1,zc⟩=zb b/\w.cell? ⟨g,2,zc⟩=zb c/\w.cell? ⟨g,3,zc⟩=zb d/\w.cell? ⟨g,4,zc⟩=zb e:=
 ⟨bX h 0,bX h 1,bX h 2,bX h 3,bX h 4⟩
theorem FT{f h i:zf}{t:zm}(z:w.heap[g]?=zb (zj #[a,b,c,d,e,f,h,i] t (0,0))):w.cell? ⟨g,0,zc⟩=zb a/\w.cell? ⟨g,1,zc⟩=zb b/\w.cell? ⟨g,2,zc⟩=zb c/\w.cell? ⟨g,3,zc⟩=zb d/\w.cell? ⟨g,4,zc⟩=zb e/\w.cell? ⟨g,5,zc⟩=zb f/\w.cell? ⟨g,6,zc⟩=zb h/\w.cell? ⟨g,7,zc⟩=zb i:=
 ⟨bX z 0,bX z 1,bX z 2,bX z 3,bX z 4,bX z 5,bX z 6,bX z 7⟩
end
section
attribute [local go_sem ↓] wp_at_zero wp_at_succ
section
variable {w w':zg}{lo:Nat}{v:zf}
theorem ay{p:Prop}(h:p):ze p:=h
theorem zhH{g:Nat}{a b:zf}{t:zm}(h:w.heap[g]?=zb (zj #[a,b] t (0,0))):w.cell? ⟨g,0,zc⟩=zb a/\w.cell? ⟨g,1,zc⟩=zb b:=⟨(aM _ _ _ _ _ _ h:w.cell? ⟨g,0,zc⟩=_),(aM _ _ _ _ _ _ h:w.cell? ⟨g,1,zc⟩=_)⟩
def bi.zero:bi:=⟨[],0⟩
def XN(lo:Nat)(w:zg)(ao:Option Addr)(rs:List bi):Prop:=
 0<rs.length->∃b o,ao=zb ⟨b,o,zc⟩/\lo<=b/\b<w.heap.size/\
  ∀i,i<rs.length->(∃bv,w.cell? ⟨b,o+i*2,zc⟩=zb bv/\eh lo w bv (rs.getD i .zero).branches)/\w.cell? ⟨b,o+i*2+1,zc⟩=zb (zd .i64 (rs.getD i .zero).di)
def fU(lo:Nat)(w:zg)(v:zf)(rs:List bi):Prop:=∃ao cap,v=.slice ao rs.length cap/\rs.length<=9223372036854775807/\XN lo w ao rs
theorem fU.same{rs:List bi}(h:fU lo w v rs)(hb:Same lo w w'):fU lo w' v rs:=by
 obtain⟨ao,cap,rfl,hm,h⟩:=h;refine⟨ao,cap,rfl,hm,λh0=>?_⟩;obtain⟨b,o,rfl,fY,hlt,hc⟩:=h h0;refine⟨b,o,rfl,fY,bA hlt hb.size,λi hi=>?_⟩;obtain⟨⟨bv,c0,hn⟩,c1⟩:=hc i hi;have hcell:∀off,w'.cell? ⟨b,off,zc⟩=w.cell? ⟨b,off,zc⟩:=λoff=>hb.cell (by exact fY) (by exact hlt)
 exact⟨⟨bv,(hcell _).trans c0,hn.same hb⟩,(hcell _).trans c1⟩
theorem fU.below{rs:List bi}(h:fU lo w v rs)(hb:zh w.heap.size w w'):fU lo w' v rs:=h.same (.bR hb)
theorem fU.mono{cE:Nat}{rs:List bi}(h:fU lo w v rs)(hl:cE<=lo):fU cE w v rs:=by
 obtain⟨ao,cap,rfl,hm,h⟩:=h;refine⟨ao,cap,rfl,hm,λh0=>?_⟩;obtain⟨b,o,rfl,fY,hlt,hc⟩:=h h0;refine⟨b,o,rfl,by omega,hlt,λi hi=>?_⟩;obtain⟨⟨bv,c0,hn⟩,c1⟩:=hc i hi;exact⟨⟨bv,c0,hn.mono hl⟩,c1⟩
theorem XN.elem{wr:zg}{ao:Option Addr}{rs:List bi}(h:XN lo w ao rs)(hb:zh w.heap.size w wr){k:Nat}(hk:k<rs.length):
  ∃(b o:Nat) (bv:zf) (rd:bi),ao=zb ⟨b,o,zc⟩/\ze (rs.getD k .zero=rd)/\b<w.heap.size/\wr.cell? ⟨b,o+k*2,zc⟩=zb bv/\wr.cell? ⟨b,o+k*2+1,zc⟩=zb (zd .i64 rd.di)/\eh lo w bv rd.branches:=by
 obtain⟨b,o,rfl,_,hlt,hc⟩:=h (by omega);obtain⟨⟨bv,c0,hn⟩,c1⟩:=hc k hk;exact⟨b,o,bv,_,rfl,rfl,hlt,(hb.cell (by exact hlt)).trans c0,(hb.cell (by exact hlt)).trans c1,hn⟩
def pC(rs:List bi):Prop:=rs.length<=1048576/\∀k,k<rs.length->Small (rs.getD k .zero).branches
def iK(r:bi):Bool:=gC r.di r.branches
def iM:List bi->Int
 |[]=>0
 |r::rs=>jM r.branches+iM rs
theorem zkC(rs:List bi)(k:Nat)(hk:k<rs.length):iM (rs.take (k+1))=iM (rs.take k)+jM (rs.getD k .zero).branches:=by
 induction rs generalizing k with
 |nil=>exact absurd hk (cR _)
 |cons r rs ih=>
  cases k with
  |zero=>simp[iM]
  |succ k=>
   have:=ih k (by simpa using hk);simp only[nH,iM,this,List.getD_cons_succ];omega
def lu(rs:List bi):Bool:=decide (rs.length<=100)&&rs.all iK&&decide (iM rs<=4000)
theorem YN{r:bi}(h:iK r=true):Rs r.branches/\0<=jM r.branches/\jM r.branches<=2000:=by
 unfold iK gC at h;simp only[de,lx]at h;obtain⟨⟨⟨⟨⟨⟨h1,h2⟩,h3⟩,h4⟩,h5⟩,h6⟩,h7⟩:=h;have ha:=zom h4;have:=QT ha r.branches.length (aj _);rw[wY]at this;exact⟨ha,by omega,h7⟩
theorem zlg(v:zf)(rs:List bi)(w:zg)(hs:fU lo w v rs)(hsm:pC rs):
  zk prog 61 #[v] w λe W=>e=.returned (.bool (lu rs))/\zh w.heap.size w W:=by
 obtain⟨ao,cap,rfl,hm,hc⟩:=hs;have hl:=hsm.1
 by_cases Ps:rs.length<=100
 ·have ag:¬(100:Int)<(rs.length:Int):=by omega
  have HC:=ay hc;have N6:=ay hsm;clear hc hsm hl
  go_enter func61,ntmps61
  go_wp2_with fail
  go_loopw [3,11] (λsv i wr=>∃k:Nat,k<=rs.length/\i=zd .i64 k/\sv=zd .i64 (iM (rs.take k))/\zh w.heap.size w wr/\(rs.take k).all iK=true/\0<=iM (rs.take k)/\iM (rs.take k)<=2000*k) (λ_ i _=>rs.length-(intOf i).toNat)
  case atStart=>exact⟨0,aR _,rfl,by simp[iM],Below.refl _ _,rfl,by simp[iM],by simp[iM]⟩
  case round=>
   obtain⟨k,hk,rfl,rfl,hb,io,wy,mh⟩:=hrel
   by_cases hlt:k<rs.length
   ·obtain⟨b,o,bv,rd,rfl,gD,aZ,c0,c1,iU⟩:=HC.out.elem hb hlt;have rX:=zkC rs k hlt;rw[gD.out]at rX;have Dn:=N6.out.2 k hlt;rw[gD.out]at Dn;obtain⟨bo,bc,rfl,xB,qG⟩:=iU;have da:(0:Int)<=(k:Int):=by omega
    have cO:(k:Int)<(rs.length:Int):=by omega
    have fO:b<wr.heap.size:=bA aZ hb.size;have za:eh lo w (.slice bo rd.branches.length bc) rd.branches:=⟨bo,bc,rfl,xB,qG⟩;obtain⟨W2,dk⟩:∃W2,wr.alloc (zj #[.slice bo rd.branches.length bc,zd .i64 rd.di] 69)=W2:=⟨_,rfl⟩;have b2:zh wr.heap.size wr W2:=by rw[<-dk];exact aw
    have x2:W2.heap[wr.heap.size]?=zb (zj #[.slice bo rd.branches.length bc,zd .i64 rd.di] 69 (0,0)):=by rw[<-dk];exact aI _ _
    have dg:=aq hb hb.size b2;have cr:=zfd rd.di (.slice bo rd.branches.length bc) rd.branches W2 (za.below dg) Dn;have cw:∀W3,zh w.heap.size w W3->iK rd=true->zk prog 88 #[.agg #[.slice bo rd.branches.length bc,zd .i64 rd.di]] W3 λe W4=>e=.returned (zd .i64 (jM rd.branches))/\zh W3.heap.size W3 W4:=λW3 h3 h4=>zfb rd.di (.slice bo rd.branches.length bc) rd.branches W3 (za.below h3) Dn (YN h4).1
    obtain⟨q0,q1⟩:=zhH x2;have Zq:=ay x2;have Ai:=ay dk;have J9:=ay rX;have Ad:=ay dg;have Lh:(rs.take (k+1)).all iK=iK rd:=by
     rw[List.take_add_one,List.all_append,io,dh hlt,<-gD.out];simp[List.getD,hlt]
    have RI:=ay Lh;have hno:iK rd=false->lu rs=false:=λh=>by
     have:rs.all iK=false:=by
      rw[Bool.eq_false_iff];intro h2;have h3:=iQ.1 h2 rd (by rw[<-gD.out];simp[List.getD,hlt]);rw[h]at h3;cases h3
     unfold lu;rw[this];simp
    have RV:=ay hno;have LZ:iK rd=gC rd.di rd.branches:=rfl;rw[<-LZ]at cr;have zxl:iK rd=true->0<=jM rd.branches/\jM rd.branches<=2000:=λh=>(YN h).2
    have HOB:=ay zxl;generalize fE:iK rd=ok at *;generalize pu:jM rd.branches=rw1 at *;clear qG za dk x2 rX dg b2 hb io Lh hno LZ fE Dn xB zxl
    go_upto_region 7 with fail
    rw[Ai.out];clear Ai c0 c1;cases ok
    ·go_wp2_with fail
     refine cr.mono ?_;rintro e W3 ⟨rfl,b3⟩;go_wp2;go_ret;exact⟨by rw[RV.out (by simp)];rfl,aq Ad.out Ad.out.size b3⟩
    ·go_wp2_with fail
     refine cr.mono ?_;rintro e W3 ⟨rfl,b3⟩;have kn:=aq Ad.out Ad.out.size b3;obtain⟨q0,q1⟩:=zhH ((b3.block _ (JK Zq.out)).trans Zq.out);have cw3:=cw W3 kn (by simp);have NT:=ay kn;obtain⟨dx,eT⟩:=HOB.out (by simp);generalize PS:iM (rs.take k)=ss at *;have jo:IntKind.i64.wrap (ss+rw1)=ss+rw1:=by rw[IntKind.wrap_i64];omega
     clear cr cw kn b3 PS
     go_wp2_with fail
     refine cw3.mono ?_;rintro e W4 ⟨rfl,b4⟩;clear cw3;go_wp2
     go_roundw
     case rel=>exact⟨k+1,by omega,by go_num,by rw[J9.out],aq NT.out NT.out.size b4,RI.out,by rw[J9.out];omega,by rw[J9.out];omega⟩
     case measure=>simp[intOf];omega
   ·have bK:k=rs.length:=by omega
    rw[bK,wY]at io wy mh ⊢;have hne:¬(rs.length:Int)<(rs.length:Int):=by omega
    have HB:=ay hb;have uO:lu rs=decide (iM rs<=4000):=by unfold lu;rw[io];simp[Ps]
    have NZ:=ay uO;clear hb uO;go_wp2;go_ret;exact⟨by rw[NZ.out];rfl,HB.out⟩
 ·have ag:(100:Int)<(rs.length:Int):=by omega
  have:lu rs=false:=by unfold lu;simp[Ps]
  rw[this];clear this hc hsm
  go_enter func61,ntmps61
  go_wp2;go_ret;exact⟨rfl,Below.refl _ _⟩
end
section
variable {lo:Nat}{w w':zg}{v:zf}{xs:List Int}
def Yc(lo:Nat)(w:zg)(ao:Option Addr)(xs:List Int):Prop:=
 0<xs.length->∃b o,ao=zb ⟨b,o,zc⟩/\lo<=b/\b<w.heap.size/\∀i,i<xs.length->w.cell? ⟨b,o+i,zc⟩=zb (zd .i64 (xs.getD i 0))
def iO(lo:Nat)(w:zg)(v:zf)(xs:List Int):Prop:=∃ao cap,v=.slice ao xs.length cap/\xs.length<=9223372036854775807/\Yc lo w ao xs
theorem iO.same(h:iO lo w v xs)(hb:Same lo w w'):iO lo w' v xs:=by
 obtain⟨ao,cap,rfl,hm,h⟩:=h;refine⟨ao,cap,rfl,hm,λh0=>?_⟩;obtain⟨b,o,rfl,fY,hlt,hc⟩:=h h0;exact⟨b,o,rfl,fY,bA hlt hb.size,λi hi=>(hb.cell (by exact fY) (by exact hlt)).trans (hc i hi)⟩
theorem iO.below(h:iO lo w v xs)(hb:zh w.heap.size w w'):iO lo w' v xs:=h.same (.bR hb)
theorem iO.mono{cE:Nat}(h:iO lo w v xs)(hl:cE<=lo):iO cE w v xs:=by
 obtain⟨ao,cap,rfl,hm,h⟩:=h;refine⟨ao,cap,rfl,hm,λh0=>?_⟩;obtain⟨b,o,rfl,fY,r⟩:=h h0;exact⟨b,o,rfl,aW hl fY,r⟩
theorem iO.setCell(h:iO lo w v xs){a:Addr}(ha:a.block<lo)(u:zf):iO lo (w.setCell a u) v xs:=h.same (Same.setCell w ha u)
theorem Yc.elem{wr:zg}{ao:Option Addr}(h:Yc lo w ao xs)(hb:zh w.heap.size w wr){k:Nat}(hk:k<xs.length):
  ∃(b o:Nat) (x:Int),ao=zb ⟨b,o,zc⟩/\ze (xs.getD k 0=x)/\b<w.heap.size/\wr.cell? ⟨b,o+k,zc⟩=zb (zd .i64 x):=by
 obtain⟨b,o,rfl,_,hlt,hc⟩:=h (by omega);exact⟨b,o,_,rfl,rfl,hlt,(hb.cell (by exact hlt)).trans (hc k hk)⟩
def iN(xs:List Int)(left:Int):Int:=if left-xs.length<0 then -1 else left-xs.length
theorem Dz(xs:List Int)(l:Int)(h:0<=l):-1<=iN xs l/\iN xs l<=l:=by unfold iN;split<;>omega
theorem FV(a:Option Addr)(xs:List Int)(cap:Nat)(left:Int)(w:zg)(h0:0<=left)(h1:left<=1048576)(h2:xs.length<=9223372036854775807):
  zk prog 60 #[.slice a xs.length cap,zd .i64 left] w λe w'=>e=.returned (zd .i64 (iN xs left))/\w'=w:=by
 by_cases hle:left-xs.length<0
 all_goals
  go_enter func60,ntmps60
  go_wp2;go_ret;exact⟨gh (by unfold iN;split<;>omega),rfl⟩
theorem znn{xs:List zf}{k:Nat}{f:Nat->List zf}{a:zf}(h:mD xs 1 k f)(hl:k<xs.length)(hk:f k=[a]):mD (xs.set k a) 1 (k+1) f:=by
 intro j hj c hc;obtain rfl:c=0:=by omega
 rw[Nat.mul_one,uf,qx]
 by_cases e:j=k
 ·subst e;rw[hk];simp;omega
 ·rw[ak (by omega)];have:=h j (by omega) 0 (by omega)
  simpa using this
theorem F6{l1 l2:Nat}(v v2:zf)(xs:List Int)(w:zg)(hs:iO l1 w v xs)(cV:iO l2 w v2 xs):
  zk prog 79 #[v,v2] w λe w'=>e=.returned (.bool true)/\zh w.heap.size w w':=by
 obtain⟨ao,cap,rfl,hm,hc⟩:=hs;obtain⟨iD,fB,rfl,_,eW⟩:=cV
 go_enter func79,ntmps79
 go_wp2
 go_loopw [5] (λi wr=>∃k:Nat,k<=xs.length/\i=zd .i64 k/\zh w.heap.size w wr)
  (λi _=>xs.length-(intOf i).toNat)
 case atStart=>exact⟨0,aR _,rfl,Below.refl _ _⟩
 case round=>
  obtain⟨k,hk,rfl,hb⟩:=hrel
  by_cases hlt:k<xs.length
  ·obtain⟨b,o,x,rfl,Hn,aZ,c0⟩:=hc.elem hb hlt;obtain⟨b2,o2,x2,rfl,fJ,jl,d0⟩:=eW.elem hb hlt;have qI:x=x2:=Hn.out.symm.trans fJ.out;subst qI;have da:(0:Int)<=(k:Int):=by omega
   have cO:(k:Int)<(xs.length:Int):=by omega
   have hne:(x != x)=false:=by simp
   go_wp2
   go_quiet (fail)
   go_wp2
   go_roundw
   case rel=>exact⟨k+1,by omega,by go_num,below_drewN hb _⟩
   case measure=>simp[intOf];omega
  ·go_wp2;go_ret;exact⟨rfl,hb⟩
def bS(lo hi:Int)(xs:List Int):Bool:=xs.all λx=>bF x lo hi
theorem zhC(lo hi:Int)(xs:List Int)(k:Nat)(hk:k<xs.length)(x:Int)(h:xs.getD k 0=x):bS lo hi (xs.drop k)=(bF x lo hi&&bS lo hi (xs.drop (k+1))):=by
 rw[oK hk];have:xs[k]=x:=by rw[<-h];simp[List.getD,hk]
 unfold bS;rw[List.all_cons,this]
theorem Jw{lo hi:Int}(h:bS lo hi xs=true){k:Nat}(hk:k<xs.length):lo<=xs.getD k 0/\xs.getD k 0<=hi:=by
 have:=iQ.1 h (xs.getD k 0) (by
  rw[bP,dh hk];exact kg _)
 simpa [bF]using this
end
end
theorem zks{xs:List Int}{l:Int}(h:0<=iN xs l)(hl:l<=1048576):xs.length<=1048576/\iN xs l<=1048576:=by
 unfold iN at h ⊢;split at h<;>(try split)<;>omega
theorem zQ{l:Nat}(lo hi:Int)(v:zf)(xs:List Int)(w:zg)(hs:iO l w v xs):
  zk prog 63 #[v,zd .i64 lo,zd .i64 hi] w λe w'=>e=.returned (.bool (bS lo hi xs))/\w'=w:=by
 obtain⟨ao,cap,rfl,hm,hc⟩:=hs
 go_enter func63,ntmps63
 go_wp2
 go_loop [11] (λi=>∃k:Nat,k<=xs.length/\i=zd .i64 k/\ze (bS lo hi xs=bS lo hi (xs.drop k)))
  (λi=>xs.length-(intOf i).toNat)
 case atStart=>exact⟨0,aR _,rfl,rfl⟩
 case round=>
  obtain⟨k,hk,rfl,HS⟩:=hrel
  by_cases hlt:k<xs.length
  ·obtain⟨b,o,x,rfl,Hn,aZ,c0⟩:=hc.elem (Below.refl _ _) hlt;have HD:ze _:=zhC lo hi xs k hlt x Hn.out
   by_cases hb:bF x lo hi=true
   ·go_wp2_with (go_at_call 47;refine(oz _ _ _ _).mono ?_;rintro e w' ⟨rfl,rfl⟩)
    go_round
    case rel=>exact⟨k+1,by omega,by go_num,by show _=_;rw[HS.out,HD.out,hb,kh]⟩
    case measure=>simp[intOf];omega
   ·have C5:bF x lo hi=false:=by simpa using hb
    clear hb
    go_wp2_with (go_at_call 47;refine(oz _ _ _ _).mono ?_;rintro e w' ⟨rfl,rfl⟩)
    go_ret
    exact⟨bz (by rw[HS.out,HD.out,C5,Bool.false_and]),rfl⟩
  ·go_wp2;go_ret;exact⟨bz (by rw[HS.out,sI (by omega)];rfl),rfl⟩
end Go.Proofs.YtdimhpfiieepiaaGreatDoor
