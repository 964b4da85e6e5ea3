import Derived.Test.YtfajjdgkiilhfaaGreatDoorC41
import Derived.Deep.Slices
namespace Go.Proofs.YtfajjdgkiilhfaaGreatDoor
open Proofs.Tryz
open Option renaming none->za,some->zb
open Value renaming slice->zc,int->zd
open Go renaming Value->ze,World->zg
open Obj renaming cells->zf
open RowKit renaming Hid->zh,Below->zi
set_option maxHeartbeats 1000000
set_option maxRecDepth 100000
open Go.RowKit
attribute [local go_sem ↓] wp_at_zero wp_at_succ
structure cg where
 ai:List Int
 width:Int
 base:List Int
 bA:List Int
 tag:List Int
 fin:List Int
 next:List Int
 az:List Int
structure qi(lo:Nat)(w:zg)(cv bv fv tv ev nv kv:ze)(d:cg):Prop where
 ai:dD lo w cv d.ai
 base:dD lo w bv d.base
 bA:dD lo w fv d.bA
 tag:dD lo w tv d.tag
 fin:dD lo w ev d.fin
 next:dD lo w nv d.next
 az:dD lo w kv d.az
theorem qi.below{lo:Nat}{w w':zg}{cv bv fv tv ev nv kv:ze}{d:cg}(h:qi lo w cv bv fv tv ev nv kv d)(hb:zi w.heap.size w w'):qi lo w' cv bv fv tv ev nv kv d:=
 ⟨h.ai.below hb,h.base.below hb,h.bA.below hb,h.tag.below hb,h.fin.below hb,h.next.below hb,h.az.below hb⟩
def cg.lists(d:cg):List (List Int):=[d.ai,d.base,d.bA,d.tag,d.fin,d.next,d.az]
def C4(d:cg):Prop:=∀xs∈d.lists,xs.length<=1048576
section
variable {w W:zg}{B gt n b:Nat}{width:Int}{v:Nat -> ze}{l:Nat -> List Int}
def fR(width:Int)(v:Nat->ze):Array ze:=#[v 0,zd .i64 width,v 1,v 2,v 3,v 4,v 5,v 6]
def Ku(i:Nat):Nat:=if i=0 then 0 else i+1
theorem OP(width:Int)(v:Nat->ze)(i:Nat)(hi:i<7)(u:ze):(fR width v).setIfInBounds (Ku i) u=fR width (upd v i u):=by
 match i,hi with
 |0,_=>rfl
 |1,_=>rfl
 |2,_=>rfl
 |3,_=>rfl
 |4,_=>rfl
 |5,_=>rfl
 |6,_=>rfl
def cO:Array ze:=#[zc za 0 0,zd .i64 0,zc za 0 0,zc za 0 0,zc za 0 0,zc za 0 0,zc za 0 0,zc za 0 0]
theorem zY{x:ze}{t:TypeId}(h:w.heap[B]?=zb (zf #[x] t (0,0))):∀j u,[x][j]?=zb u->w.cell? ((⟨B,0,za⟩:Addr).add j)=zb u:=World.news_of_block h
theorem zrP(l:Nat->List Int)(i:Nat)(a b:List Int):bG (bG l i a) i b=bG l i b:=by
 funext j;unfold bG;split<;>rfl
theorem iV{g:Nat}{t:TypeId}(h:w.heap[g]?=zb (zf (fR width v) t (0,0))):w.cell? ⟨g,0,za⟩=zb (v 0)/\w.cell? ⟨g,1,za⟩=zb (zd .i64 width)/\w.cell? ⟨g,2,za⟩=zb (v 1)/\w.cell? ⟨g,3,za⟩=zb (v 2)/\w.cell? ⟨g,4,za⟩=zb (v 3)/\w.cell? ⟨g,5,za⟩=zb (v 4)/\w.cell? ⟨g,6,za⟩=zb (v 5)/\w.cell? ⟨g,7,za⟩=zb (v 6):=
 ⟨cG h 0,cG h 1,cG h 2,cG h 3,cG h 4,cG h 5,cG h 6,cG h 7⟩
def jP(width:Int)(l:Nat->List Int):cg:=⟨l 0,width,l 1,l 2,l 3,l 4,l 5,l 6⟩
theorem aI.CI(h:aI gt n W v l)(hb:b<=gt)(o:Nat)(u:ze):aI gt n (W.setCell ⟨b,o,za⟩ u) v l:=h.keep λc hc _=>bh _ _ _ _ (by simp;omega)
def lR(W:zg)(b:Nat)(u0 u1 u2 u3 u4 u5 u6 u7:ze):zg:=(((((((W.setCell ⟨b,0,za⟩ u0).setCell ⟨b,1,za⟩ u1).setCell ⟨b,2,za⟩ u2).setCell ⟨b,3,za⟩ u3).setCell ⟨b,4,za⟩ u4).setCell ⟨b,5,za⟩ u5).setCell ⟨b,6,za⟩ u6).setCell ⟨b,7,za⟩ u7
theorem A5(h:zi B w W)(hb:B<=b)(u0 u1 u2 u3 u4 u5 u6 u7:ze):zi B w (lR W b u0 u1 u2 u3 u4 u5 u6 u7):=
 (((((((h.setCell (by exact hb) _).setCell (by exact hb) _).setCell (by exact hb) _).setCell (by exact hb) _).setCell (by exact hb) _).setCell (by exact hb) _).setCell (by exact hb) _).setCell (by exact hb) _
theorem aI.lR(h:aI gt n W v l)(hb:b<=gt)(u0 u1 u2 u3 u4 u5 u6 u7:ze):aI gt n (lR W b u0 u1 u2 u3 u4 u5 u6 u7) v l:=
 (((((((h.CI hb _ _).CI hb _ _).CI hb _ _).CI hb _ _).CI hb _ _).CI hb _ _).CI hb _ _).CI hb _ _
def yi(w:zg)(width code:Int)(l:Nat->List Int)(e:Ending)(w':zg):Prop:=∃(gt:Nat) (v:Nat->ze),e=.returned (.tuple #[.agg (fR width v),zd .i64 code])/\w.heap.size<=gt/\aI gt 7 w' v l/\zi w.heap.size w w'
def SK(a:Nat->Option Addr)(l:Nat->List Int)(p:Nat->Nat):Nat->ze:=λi=>.slice (a i) (l i).length (p i)
theorem nX{v:ze}{xs:List Int}(h:bX B W v xs):∃r:Option Addr×Nat,v=.slice r.1 xs.length r.2:=by
 rcases h.2 with ⟨rfl,h0⟩|⟨g,cap,aZ,rfl,_⟩
 ·exact⟨(za,0),by rw[h0]⟩
 ·exact⟨(zb ⟨g,0,za⟩,cap),rfl⟩
theorem aI.lower{gt':Nat}(h:aI gt n W v l)(hg:gt'<=gt):aI gt' n W v l:=
 ⟨λi hi=>⟨(h.own i hi).1,(h.own i hi).2.elim .inl λ⟨g,cap,aZ,hv,hb,r⟩=>.inr ⟨g,cap,aZ,hv,by omega,r⟩⟩,h.apart⟩
theorem yi.form{w':zg}{code:Int}{e:Ending}(h:yi w width code l e w'):∃(a:Nat->Option Addr) (p:Nat->Nat),e=.returned (.tuple #[.agg (fR width (SK a l p)),zd .i64 code])/\aI w.heap.size 7 w' (SK a l p) l/\zi w.heap.size w w':=by
 obtain⟨gt,v,rfl,h1,Wj,h3⟩:=h;have h2:=Wj.lower h1;obtain⟨F,hF⟩:=Go.Deep.choose_lt (α:=Option Addr×Nat) (p:=λi r=>v i=.slice r.1 (l i).length r.2) (λi (hi:i<7)=>nX (h2.own i hi));have e:∀i,i<7->SK (λi=>(F i).1) l (λi=>(F i).2) i=v i:=λi hi=>(hF i hi).symm
 refine⟨λi=>(F i).1,λi=>(F i).2,?_,⟨λi hi=>by rw[e i hi];exact h2.own i hi,λi j hi hj hne b hb=>by rw[e i hi]at hb;rw[e j hj];exact h2.apart i j hi hj hne b hb⟩,h3⟩;unfold fR;rw[e 0 (by omega),e 1 (by omega),e 2 (by omega),e 3 (by omega),e 4 (by omega),e 5 (by omega),e 6 (by omega)]
end
section
variable {row:List Int}{lo:Nat}
theorem ZB(l:List Int)(x:Int)(k:Nat)(hk:k<l.length)(y:Int)(hy:l.getD k 0=y):(l.take (k+1)).count x=(l.take k).count x+if x=y then 1 else 0:=by
 have e:l[k]=y:=by rw[<-hy];simp[List.getD,hk]
 rw[oh hk,e,List.count_append,List.count_singleton]
 congr 1
 by_cases h:x=y
 ·rw[af h,h];simp
 ·rw[ab h];have:(y==x)=false:=by simp;exact λe=>h e.symm
  simp[this]
def Be(row:List Int)(k:Nat)(b t:Int):Prop:=
 (k=0/\b=-1/\t=0)\/(b∈row.take k/\t=jX row b/\∀y∈row.take k,jX row y<jX row b\/(jX row y=jX row b/\b<=y))
theorem zpD{k:Nat}(hk:k<row.length){b t x:Int}(hx:row.getD k 0=x)(h:Be row k b t):
  (t<jX row x->Be row (k+1) x (jX row x))/\((jX row x:Int)=t->x<b->Be row (k+1) x (jX row x))/\(¬t<jX row x->¬((jX row x:Int)=t/\x<b)->Be row (k+1) b t):=by
 have e:row[k]=x:=by rw[<-hx];simp[List.getD,hk]
 have Nx:x∈row:=by rw[<-e];exact gA hk
 have oJ:0<jX row x:=List.count_pos_iff.2 Nx;have eV:row.take (k+1)=row.take k++[x]:=by rw[oh hk,e]
 have oF:x∈row.take (k+1):=by rw[eV];simp
 have up:(∀y∈row.take k,jX row y<jX row x\/(jX row y=jX row x/\x<=y))->Be row (k+1) x (jX row x):=λhy=>.inr ⟨oF,rfl,λy pW=>by
  rw[eV]at pW;rcases gH.1 pW with h1|h1
  ·exact hy y h1
  ·rw[sZ.1 h1];exact .inr ⟨rfl,Ai _⟩⟩
 rcases h with ⟨h0,hb,ht⟩|⟨hb,ht,bm⟩
 ·have EF:row.take k=[]:=by rw[h0];rfl
  refine⟨λ_=>up (by rw[EF];simp),λ_ _=>up (by rw[EF];simp),λh1 _=>absurd (by omega) h1⟩
 ·refine⟨λh1=>up λy hy=>?_,λh1 h2=>up λy hy=>?_,λh1 h2=>.inr ⟨?_,ht,λy hy=>?_⟩⟩
  ·have:=bm y hy;omega
  ·have:=bm y hy;omega
  ·rw[eV];exact List.mem_append_left _ hb
  ·rw[eV]at hy;rcases gH.1 hy with h3|h3
   ·exact bm y h3
   ·rw[sZ.1 h3];omega
theorem zsf{b t:Int}(h0:0<row.length)(h:Be row row.length b t):dW row=b:=by
 rcases h with ⟨h1,_⟩|⟨hb,_,bm⟩
 ·omega
 ·rw[sW]at hb bm;exact znv (Tg.2 ⟨hb,bm⟩)
theorem zln(v:ze)(row:List Int)(w:zg)(hs:dD lo w v row)(h0:0<row.length)(h1:row.length<=256):
  Calls prog 21 #[v] w λe w'=>e=.returned (zd .i64 (dW row))/\w'=w:=by
 obtain⟨ao,cap,rfl,hm,hc⟩:=hs;obtain⟨b,o,rfl,_,bF,hcell⟩:=hc h0;have Hc:zh (∀i,i<row.length->w.cell? ⟨b,o+i,za⟩=zb (zd .i64 (row.getD i 0))):=hcell;clear hcell hc
 go_enter func21,ntmps21
 go_wp2
 go_loop [3,4,12] (λbv tv i=>∃(k:Nat) (bb tt:Int),k<=row.length/\i=zd .i64 k/\bv=zd .i64 bb/\tv=zd .i64 tt/\zh (Be row k bb tt)/\0<=tt/\tt<=256)
  (λ_ _ i=>row.length-(intOf i).toNat)
 case atStart=>exact⟨0,-1,0,dz _,rfl,rfl,rfl,.inl ⟨rfl,rfl,rfl⟩,by omega,by omega⟩
 case round=>
  obtain⟨k,bb,tt,hk,rfl,rfl,rfl,HB,ht0,tQ⟩:=hrel
  by_cases hlt:k<row.length
  ·have c0:w.cell? ⟨b,o+k,za⟩=zb (zd .i64 (row.getD k 0)):=Hc.out k hlt;have HS:zh _:=zpD hlt rfl HB.out;generalize row.getD k 0=x at *;go_wp2
   go_loop [7,18] (λtv i=>∃j:Nat,j<=row.length/\i=zd .i64 j/\tv=zd .i64 (((row.take j).count x:Nat):Int)/\(row.take j).count x<=j)
    (λ_ i=>row.length-(intOf i).toNat)
   case atStart=>exact⟨0,dz _,rfl,rfl,by simp⟩
   case round=>
    obtain⟨j,hj,rfl,rfl,hjc⟩:=hrel
    by_cases ry:j<row.length
    ·have d0:w.cell? ⟨b,o+j,za⟩=zb (zd .i64 (row.getD j 0)):=Hc.out j ry;have HC:zh _:=ZB row x j ry _ rfl;generalize row.getD j 0=y at *
     by_cases uQ:x=y
     ·rw[af uQ]at HC;have aO:(x==y)=true:=by simp[uQ]
      clear uQ;go_wp2
      go_round
      case rel=>exact⟨j+1,by omega,by go_num,by rw[HC.out];go_num,by rw[HC.out];omega⟩
      case measure=>simp[intOf];omega
     ·rw[ab uQ]at HC;have aO:(x==y)=false:=by simp[uQ]
      clear uQ;go_wp2
      go_round
      case rel=>exact⟨j+1,by omega,by go_num,by rw[HC.out];go_num,by rw[HC.out];omega⟩
      case measure=>simp[intOf];omega
    ·have qy:j=row.length:=by omega
     have HX:zh ((row.take j).count x=jX row x):=by show _=_;rw[qy,sW];rfl
     have hle:jX row x<=256:=by rw[<-HX.out];omega
     rw[HX.out];clear qy hjc HX;obtain⟨s1,s2,s3⟩:=HS.out;have S1:zh _:=s1;have S2:zh _:=s2;have S3:zh _:=s3;clear s1 s2 s3 HS;generalize jX row x=ct at *
     by_cases g1:tt<(ct:Int)
     ·go_wp2
      go_round
      case rel=>exact⟨k+1,x,ct,by omega,by go_num,rfl,rfl,S1.out g1,by omega,by omega⟩
      case measure=>simp[intOf];omega
     ·by_cases g2:(ct:Int)=tt
      ·by_cases g3:x<bb
       ·have hR:=S2.out g2 g3;have HR:zh (Be row (k+1) x (ct:Int)):=hR;have aB:((ct:Int)==tt)=true:=by simp[g2]
        clear hR g2;go_wp2
        go_round
        case rel=>exact⟨k+1,x,ct,by omega,by go_num,rfl,rfl,HR.out,by omega,by omega⟩
        case measure=>simp[intOf];omega
       ·have HR:zh (Be row (k+1) bb tt):=S3.out (by omega) (λh=>g3 h.2);have aB:((ct:Int)==tt)=true:=by simp[g2]
        clear g2;go_wp2
        go_round
        case rel=>exact⟨k+1,bb,tt,by omega,by go_num,rfl,rfl,HR.out,by omega,by omega⟩
        case measure=>simp[intOf];omega
      ·have HR:zh (Be row (k+1) bb tt):=S3.out (by omega) (λh=>g2 h.1);have aB:((ct:Int)==tt)=false:=by simp[g2]
       clear g2;go_wp2
       go_round
       case rel=>exact⟨k+1,bb,tt,by omega,by go_num,rfl,rfl,HR.out,by omega,by omega⟩
       case measure=>simp[intOf];omega
  ·have cC:k=row.length:=by omega
   rw[cC]at HB;have HR:zh (dW row=bb):=zsf h0 HB.out;clear cC;go_wp2;go_ret;exact⟨ew HR.out.symm,rfl⟩
theorem zqD(v:ze)(az:List Int)(k:Nat)(ck:Int)(w:zg)(hs:dD lo w v az)(hck:ck=k):
  Calls prog 22 #[v,zd .i64 ck] w λe w'=>e=.returned (.bool (im az k))/\w'=w:=by
 subst hck;obtain⟨ao,cap,rfl,hm,hc⟩:=hs
 by_cases h:az.length<=k
 ·have H:zh (im az k=true):=by show _=_;simp[im,h]
  have h':(az.length:Int)<=(k:Int):=by omega
  clear h hc
  go_enter func22,ntmps22
  go_wp2;go_ret;exact⟨cU H.out.symm,rfl⟩
 ·obtain⟨b,o,x,rfl,Hn,bF,c0⟩:=hc.elem (Below.refl _ _) (k:=k) (by omega);have H:zh (im az k=(x == -1)):=by show _=_;unfold im;rw[Hn.out];simp[h]
  have h':¬(az.length:Int)<=(k:Int):=by omega
  have h2:(k:Int)<(az.length:Int):=by omega
  clear h hc Hn
  go_enter func22,ntmps22
  go_wp2;go_ret;exact⟨cU H.out.symm,rfl⟩
end
section
variable {w W W':zg}{D:Array ze}{gt:Nat}{width:Int}{v:Nat -> ze}{l:Nat -> List Int}{ops:Array Oper}{rest:List Oper}{o:Oper}{a:Act}{Q:Exit -> Act -> zg -> Prop}
structure fh(w:zg)(D:Array ze)(gt:Nat)(width:Int)(W:zg)(v:Nat->ze)(l:Nat->List Int):Prop where
 below:zi w.heap.size w W
 over:w.heap.size+1<gt
 lt:gt<W.heap.size
 box:W.heap[w.heap.size]?=zb (zf D 25 (0,0))
 bw:W.heap[w.heap.size+1]?=zb (zf cO 28 (0,0))
 row:W.heap[gt]?=zb (zf (fR width v) 28 (0,0))
 au:aI gt 8 W v l
theorem fh.grow(h:fh w D gt width W v l)(hb:zi W.heap.size W W'):fh w D gt width W' v l:=
 ⟨aH h.below h.below.size hb,h.over,dR h.lt hb.size,aT h.box hb,aT h.bw hb,aT h.row hb,h.au.below hb⟩
theorem aI.zAA{n:Nat}(h:aI gt n W v l){i:Nat}(hi:i<n){g cap:Nat}{ys:List Int}
  (own:W'.ownsRow (gt+1) 3 1 (zc (zb ⟨g,0,za⟩) ((l i).length+ys.length) cap) ((l i).length+ys.length) ((l i).map eu++ys.map eu)) (grow:W.grownBy W' (v i).ownBlock) (at':(v i).ownBlock=zb g\/W.heap.size<=g):
  aI gt n W' (upd v i (zc (zb ⟨g,0,za⟩) ((l i).length+ys.length) cap)) (bG l i (l i++ys)):=by
 refine⟨λj hj=>?_,λj k hj hk hne b hb=>?_⟩
 ·by_cases e:j=i
  ·subst e;rw[kI,jj];unfold bX;rw[aQ,sY];exact own
  ·rw[eF _ _ e,eO _ _ e];refine nY (h.own j hj) λb hb=>?_
   have hlt:=dG (h.own j hj) hb;exact grow.block b hlt.2 (λhc=>h.apart j i hj hi e b hb hc.symm)
 ·have key:∀j,j<n->j≠i->∀b,(v j).ownBlock=zb b->b≠g:=by
   intro j2 iD e2 b2 aB nF;rcases at' with a2|a2
   ·rw[<-nF]at a2;exact h.apart j2 i iD hi e2 b2 aB a2
   ·have:=(dG (h.own j2 iD) aB).2;omega
  by_cases e:j=i
  ·subst e;rw[kI]at hb;rw[eF _ _ (Ne.symm hne)];simp[Value.ownBlock]at hb;subst hb;intro hc;exact key k hk (Ne.symm hne) _ hc rfl
  ·rw[eF _ _ e]at hb
   by_cases e2:k=i
   ·subst e2;rw[kI];intro hc;simp[Value.ownBlock]at hc;exact key j hj e b hb hc.symm
   ·rw[eF _ _ e2];exact h.apart j k hj hk hne b hb
theorem fh.grown{W1 W2:zg}(h:fh w D gt width W v l)(hb:zi W.heap.size W W1){i:Nat}(hi:i<8){g cap:Nat}{ys:List Int}
  (own:W2.ownsRow (gt+1) 3 1 (zc (zb ⟨g,0,za⟩) ((l i).length+ys.length) cap) ((l i).length+ys.length) ((l i).map eu++ys.map eu)) (grow:W1.grownBy W2 (v i).ownBlock) (at':(v i).ownBlock=zb g\/W1.heap.size<=g):
  zi w.heap.size w W2/\gt<W2.heap.size/\W2.heap[w.heap.size]?=zb (zf D 25 (0,0))/\W2.heap[w.heap.size+1]?=zb (zf cO 28 (0,0))/\W2.heap[gt]?=zb (zf (fR width v) 28 (0,0))/\
   aI gt 8 W2 (upd v i (zc (zb ⟨g,0,za⟩) ((l i).length+ys.length) cap)) (bG l i (l i++ys)):=by
 have hz:=hb.size;have hlt:=h.lt;have EG:=h.over;have Cj:∀b,b<=gt->zb b≠(v i).ownBlock:=λb nF hc=>by have:=dG (h.au.own i hi) hc.symm;omega
 have k1:∀b,b<=gt->W2.heap[b]?=W.heap[b]?:=λb nF=>(grow.block b (by omega) (Cj b nF)).trans (hb.block b (by omega))
 have gy:W1.heap.size<=W2.heap.size:=grow.size;refine⟨?_,by omega,(k1 _ (by omega)).trans h.box,(k1 _ (by omega)).trans h.bw,(k1 _ (aq _)).trans h.row,aI.zAA (h.au.below hb) hi own grow at'⟩;exact(aH h.below h.below.size hb).grown grow (cY h.below.size hz) (by
  intro k hk;have:=dG (h.au.own i hi) hk;omega)
theorem fh.store{l':Nat->List Int}{i:Nat}(hi:i<7){u:ze}(EG:w.heap.size+1<gt)
  (h:zi w.heap.size w W/\gt<W.heap.size/\W.heap[w.heap.size]?=zb (zf D 25 (0,0))/\W.heap[w.heap.size+1]?=zb (zf cO 28 (0,0))/\W.heap[gt]?=zb (zf (fR width v) 28 (0,0))/\aI gt 8 W (upd v i u) l'):
  fh w D gt width (W.setCell ⟨gt,Ku i,za⟩ u) (upd v i u) l':=by
 obtain⟨a,b,c,d,e,f⟩:=h;refine⟨a.setCell (by simp;omega) _,EG,by simpa [World.setCell]using b,?_,?_,?_,f.set _ _⟩
 ·rw[bh _ _ _ _ (by simp;omega)];exact c
 ·rw[bh _ _ _ _ (by simp;omega)];exact d
 ·rw[<-OP width v i hi];exact cJ _ _ _ _ _ _ e
theorem Ot(S:fh w D gt width W v l)(H:Nat)(hH:W.heap.size=H)(fQ:o.guard=za)(s x:Operand)
  (ho:o.op=.call {callee:=.builtin .append,args:=#[s,x],argTypes:=#[23,23]}) (i:Nat) (hi:i<7) (off:Nat) (qA:Ku i=off) (xs:List Int) (tR:l i=xs) (n:Nat) (hn:xs.length=n) (hs:a.eval s=v i) (y:Int) (hx:a.eval x=zc (zb ⟨H,0,za⟩) 1 1) (hl:n<=2000000)
  (h:∀g cap W',W'.heap[gt]?=zb (zf (fR width v) 28 (0,0))->fh w D gt width (W'.setCell ⟨gt,off,za⟩ (zc (zb ⟨g,0,za⟩) (n+1) cap)) (upd v i (zc (zb ⟨g,0,za⟩) (n+1) cap)) (bG l i (xs++[y]))->wpList prog ops Q rest (a.put o.dst (zc (zb ⟨g,0,za⟩) (n+1) cap)) W'):
  wpList prog ops Q (o::rest) a (W.alloc (zf #[zd .i64 y] 3)):=by
 subst hH;subst qA;subst hn;subst tR;obtain⟨i0,eC,da,dt,cR⟩:=info_parts Tryz.pX;have hb:zi W.heap.size W (W.alloc (zf #[zd .i64 y] 3)):=ax;have own:(W.alloc (zf #[zd .i64 y] 3)).ownsRow (gt+1) 3 1 (v i) (l i).length ((l i).map eu):=(S.au.below hb).own i (by omega);refine wpList_append_lies _ fQ s x 23 ho (gt+1) 3 i0 _ 1 8 underlying23 eC da dt cR rfl (by omega) (v i) (l i).length ((l i).map eu) hs own ⟨W.heap.size,0,za⟩ 1 1 [zd .i64 y] hx rfl (zY (aJ _ _)) (by intro u hu;simp at hu;subst hu;rfl) (by omega) (by unfold maxLen;omega) (by omega) (by have:=S.lt;simp;omega) (W.heap.size+1) (by simp) ?_;intro g cap W' jG jD at' _;have G:=S.grown hb (i:=i) (by omega) (ys:=[y]) jG jD (at'.imp id (λh=>by simp;omega));exact h g cap W' G.2.2.2.2.1 (fh.store hi S.over G)
theorem zku(S:fh w D gt width W v l)(H:Nat)(hH:W.heap.size=H)(fQ:o.guard=za)(s x:Operand)
  (ho:o.op=.call {callee:=.builtin .append,args:=#[s,x],argTypes:=#[23,23]}) (xs:List Int) (tR:l 7=xs) (n:Nat) (hn:xs.length=n) (hs:a.eval s=v 7) (y:Int) (hx:a.eval x=zc (zb ⟨H,0,za⟩) 1 1) (hl:n<=2000000)
  (h:∀g cap W',fh w D gt width W' (upd v 7 (zc (zb ⟨g,0,za⟩) (n+1) cap)) (bG l 7 (xs++[y]))->wpList prog ops Q rest (a.put o.dst (zc (zb ⟨g,0,za⟩) (n+1) cap)) W'):
  wpList prog ops Q (o::rest) a (W.alloc (zf #[zd .i64 y] 3)):=by
 subst hH;subst hn;subst tR;obtain⟨i0,eC,da,dt,cR⟩:=info_parts Tryz.pX;have hb:zi W.heap.size W (W.alloc (zf #[zd .i64 y] 3)):=ax;have own:(W.alloc (zf #[zd .i64 y] 3)).ownsRow (gt+1) 3 1 (v 7) (l 7).length ((l 7).map eu):=(S.au.below hb).own 7 (by omega);refine wpList_append_lies _ fQ s x 23 ho (gt+1) 3 i0 _ 1 8 underlying23 eC da dt cR rfl (by omega) (v 7) (l 7).length ((l 7).map eu) hs own ⟨W.heap.size,0,za⟩ 1 1 [zd .i64 y] hx rfl (zY (aJ _ _)) (by intro u hu;simp at hu;subst hu;rfl) (by omega) (by unfold maxLen;omega) (by omega) (by have:=S.lt;simp;omega) (W.heap.size+1) (by simp) ?_;intro g cap W' jG jD at' _;obtain⟨p1,p2,p3,p4,p5,p6⟩:=S.grown hb (i:=7) (by omega) (ys:=[y]) jG jD (at'.imp id (λh=>by simp;omega));exact h g cap W' ⟨p1,S.over,p2,p3,p4,p5,p6⟩
theorem ZH(S:fh w D gt width W v l)(fQ:o.guard=za)(s x:Operand)
  (ho:o.op=.call {callee:=.builtin .append,args:=#[s,x],argTypes:=#[23,23]}) (i:Nat) (hi:i<7) (off:Nat) (qA:Ku i=off) (tR:l i=[]) (hs:a.eval s=v i) (ys:List Int) (b q cc n:Nat) (hn:ys.length=n) (hx:a.eval x=zc (zb ⟨b,q,za⟩) n cc) (hc:∀j,j<ys.length->W.cell? ⟨b,q+j,za⟩=zb (zd .i64 (ys.getD j 0))) (h0:0<n) (hl:n<=2000000)
  (h:∀g cap W',W'.heap[gt]?=zb (zf (fR width v) 28 (0,0))->zi w.heap.size w W'->W'.heap[w.heap.size]?=zb (zf D 25 (0,0))->fh w D gt width (W'.setCell ⟨gt,off,za⟩ (zc (zb ⟨g,0,za⟩) n cap)) (upd v i (zc (zb ⟨g,0,za⟩) n cap)) (bG l i ys)->wpList prog ops Q rest (a.put o.dst (zc (zb ⟨g,0,za⟩) n cap)) W'):
  wpList prog ops Q (o::rest) a W:=by
 subst qA;subst hn;obtain⟨i0,eC,da,dt,cR⟩:=info_parts Tryz.pX;have own:W.ownsRow (gt+1) 3 1 (v i) 0 []:=by
  have:=S.au.own i (by omega);unfold bX at this;rw[tR]at this;exact this
 refine wpList_append_lies _ fQ s x 23 ho (gt+1) 3 i0 _ 1 8 underlying23 eC da dt cR rfl (by omega) (v i) 0 [] hs own ⟨b,q,za⟩ ys.length cc (ys.map eu) hx (by simp) ?_ (by intro u hu;simp at hu;obtain⟨y,_,rfl⟩:=hu;rfl) (by omega) (by unfold maxLen;omega) (by omega) (by have:=S.lt;omega) W.heap.size rfl ?_
 ·intro j u hu;have hj:j<ys.length:=by
   have:=(mA.1 hu).1
   simpa using this
  have e:(⟨b,q,za⟩:Addr).add j=⟨b,q+j,za⟩:=by unfold Addr.add;split<;>simp_all
  rw[e,hc j hj,<-hu];simp[List.getD,hj,eu]
 intro g cap W' jG jD at' _;rw[iH]at jG;have nP:W'.ownsRow (gt+1) 3 1 (zc (zb ⟨g,0,za⟩) ((l i).length+ys.length) cap) ((l i).length+ys.length) ((l i).map eu++ys.map eu):=by
  rw[tR];simpa using jG
 have G:=S.grown (Below.refl _ _) (i:=i) (by omega) (ys:=ys) nP jD (at'.imp id (λh=>by omega));rw[tR]at G;simp only[qU,iH,List.nil_append]at G;have:=h g cap W' G.2.2.2.2.1 G.1 G.2.2.1 (fh.store hi S.over G);rw[iH];exact this
theorem fh.fresh(S:fh w D gt width W v l):fh w D gt width (W.alloc (zf #[] 3)) (upd v 7 (zc (zb ⟨W.heap.size,0,za⟩) 0 0)) (bG l 7 []):=by
 have S':=S.grow ((Below.refl _ _).alloc (aq _) (zf #[] 3));refine⟨S'.below,S'.over,S'.lt,S'.box,S'.bw,S'.row,⟨λj hj=>?_,λj k hj hk hne b hb=>?_⟩⟩
 ·by_cases e:j=7
  ·subst e;rw[kI,jj];exact KH W 3 (gt+1) W.heap.size (by have:=S.lt;omega) rfl
  ·rw[eF _ _ e,eO _ _ e];exact S'.au.own j hj
 ·have key:∀j,j<8->∀b,(v j).ownBlock=zb b->b≠W.heap.size:=λj hj b hb=>by
   have:=(dG (S.au.own j hj) hb).2;omega
  by_cases e:j=7
  ·subst e;rw[kI]at hb;rw[eF _ _ (Ne.symm hne)];simp[Value.ownBlock]at hb;subst hb;intro hc;exact key k hk _ hc rfl
  ·rw[eF _ _ e]at hb
   by_cases e2:k=7
   ·subst e2;rw[kI];intro hc;simp[Value.ownBlock]at hc;exact key j hj b hb hc.symm
   ·rw[eF _ _ e2];exact S'.au.apart j k hj hk hne b hb
def bU(c t f:List Int)(L:pI)(aU:List Int):Nat->List Int
 |0=>c
 |1=>L.base
 |2=>L.bA
 |3=>t
 |4=>f
 |5=>L.next
 |6=>L.az
 |7=>aU
 |_=>[]
theorem zj9(c t f:List Int)(L:pI)(aU x:List Int):bG (bU c t f L aU) 1 x=bU c t f ⟨x,L.bA,L.next,L.az⟩ aU:=by
 funext j;match j with
 |0=>rfl
 |1=>rfl
 |2=>rfl
 |3=>rfl
 |4=>rfl
 |5=>rfl
 |6=>rfl
 |7=>rfl
 |j+8=>rfl
theorem zoa(c t f:List Int)(L:pI)(aU x:List Int):bG (bU c t f L aU) 2 x=bU c t f ⟨L.base,x,L.next,L.az⟩ aU:=by
 funext j;match j with
 |0=>rfl
 |1=>rfl
 |2=>rfl
 |3=>rfl
 |4=>rfl
 |5=>rfl
 |6=>rfl
 |7=>rfl
 |j+8=>rfl
theorem zka(c t f:List Int)(L:pI)(aU x:List Int):bG (bU c t f L aU) 5 x=bU c t f ⟨L.base,L.bA,x,L.az⟩ aU:=by
 funext j;match j with
 |0=>rfl
 |1=>rfl
 |2=>rfl
 |3=>rfl
 |4=>rfl
 |5=>rfl
 |6=>rfl
 |7=>rfl
 |j+8=>rfl
theorem zkb(c t f:List Int)(L:pI)(aU x:List Int):bG (bU c t f L aU) 6 x=bU c t f ⟨L.base,L.bA,L.next,x⟩ aU:=by
 funext j;match j with
 |0=>rfl
 |1=>rfl
 |2=>rfl
 |3=>rfl
 |4=>rfl
 |5=>rfl
 |6=>rfl
 |7=>rfl
 |j+8=>rfl
theorem zob(c t f:List Int)(L:pI)(aU x:List Int):bG (bU c t f L aU) 7 x=bU c t f L x:=by
 funext j;match j with
 |0=>rfl
 |1=>rfl
 |2=>rfl
 |3=>rfl
 |4=>rfl
 |5=>rfl
 |6=>rfl
 |7=>rfl
 |j+8=>rfl
theorem zq8(c t f:List Int):bG (bG (bG (λ_=>[]) 0 c) 3 t) 4 f=bU c t f ⟨[],[],[],[]⟩ []:=by
 funext j;match j with
 |0=>rfl
 |1=>rfl
 |2=>rfl
 |3=>rfl
 |4=>rfl
 |5=>rfl
 |6=>rfl
 |7=>rfl
 |j+8=>rfl
end
variable {w W:zg}{D:Array ze}{gt:Nat}{width:Int}{v:Nat -> ze}{l:Nat -> List Int}
theorem fh.drew(S:fh w D gt width W v l):fh w D gt width W.drew v l:=S.grow (Below.refl _ _).drew
theorem fh.at(S:fh w D gt width W v l){i:Nat}(hi:i<8){xs:List Int}(hx:l i=xs)(h0:0<xs.length)(hm:xs.length<=9223372036854775807):
  ∃g cap,v i=zc (zb ⟨g,0,za⟩) xs.length cap/\gt<g/\(∀j,j<xs.length->W.cell? ⟨g,j,za⟩=zb (zd .i64 (xs.getD j 0)))/\(∀j,W.frozen? ⟨g,j,za⟩=false):=by
 subst hx;have own:=S.au.own i hi;obtain⟨g,cap,hv,hb,_⟩:=World.ownsRow.form own h0;have jG:W.ownsRow (gt+1) 3 1 (zc (zb ⟨g,0,za⟩) (l i).length cap) (l i).length ((l i).map eu):=by
  have h:=own;unfold bX at h;rw[hv]at h;exact h
 refine⟨g,cap,hv,hb,λj hj=>?_,λj=>jG.frozenAt j⟩;rw[jG.cellAt j (by omega)];simp[eu,List.getD,hj]
theorem fh.put(S:fh w D gt width W v l){i:Nat}(hi:i<8){xs:List Int}(hx:l i=xs){g cap:Nat}(hv:v i=zc (zb ⟨g,0,za⟩) xs.length cap)(idx:Nat)(x:Int):
  fh w D gt width (W.setCell ⟨g,idx,za⟩ (zd .i64 x)) v (bG l i (xs.set idx x)):=by
 subst hx;have own:=S.au.own i hi;have jG:W.ownsRow (gt+1) 3 1 (zc (zb ⟨g,0,za⟩) (l i).length cap) (l i).length ((l i).map eu):=by
  have h:=own;unfold bX at h;rw[hv]at h;exact h
 have hg:gt+1<=g:=(dG own (b:=g) (by rw[hv];rfl)).1;have EG:=S.over;have st:=(jG.stored idx (zd .i64 x)).1;refine⟨S.below.setCell (by simp;omega) _,EG,by simpa [World.setCell]using S.lt,?_,?_,?_,⟨λj hj=>?_,S.au.apart⟩⟩
 ·rw[bh _ _ _ _ (by simp;omega)];exact S.box
 ·rw[bh _ _ _ _ (by simp;omega)];exact S.bw
 ·rw[bh _ _ _ _ (by simp;omega)];exact S.row
 ·by_cases e:j=i
  ·subst e;rw[jj];unfold bX;rw[jQ,hv,List.map_set];exact st
  ·rw[eO _ _ e];refine nY (S.au.own j hj) λb hb=>bh _ _ _ _ (λhc=>?_)
   exact S.au.apart j i hj hi e b hb (by rw[hv,show b=g from hc];rfl)
theorem OE(z z':Int)(k:Nat)(f f':Nat->Int):∀(a:List Nat) (l l':List Int),l.length=l'.length->(di z l k f a).length=(di z' l' k f' a).length
 |[],_,_,h=>h
 |c::cs,l,l',h=>by
  simp only[di];refine OE z z' k f f' cs _ _ ?_;unfold sB;rw[jQ,jQ,pq,pq,h]
theorem To{z:Int}{n:Nat}{l:List Int}:bP z (max l.length n) l=bP z n l:=by
 unfold bP
 congr 2
 omega
theorem zhL(z:Int)(k:Nat)(f:Nat->Int)(a:List Nat)(c:Nat)(l:List Int):di z l k f (a++[c])=sB z (di z l k f a) (k+c) (f c):=by
 rw[zfC];rfl
end Go.Proofs.YtfajjdgkiilhfaaGreatDoor
