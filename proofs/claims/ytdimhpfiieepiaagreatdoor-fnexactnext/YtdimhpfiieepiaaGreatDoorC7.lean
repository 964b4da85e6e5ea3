import Derived.Test.YtdimhpfiieepiaaGreatDoorC6
namespace Go.Proofs.YtdimhpfiieepiaaGreatDoor
open Proofs.Tryz
open Value renaming int->za
open Option renaming none->zb,some->zc
open Obj renaming cells->zd
set_option maxHeartbeats 2000000
set_option maxRecDepth 100000
open Go.RowKit
section
variable {bs:List aW}{st:List Int}{N:Nat}
def jz:List aW->Option (List Int)
 |[]=>zc []
 |b::bs=>match tR b.nodes with
  |none=>zb
  |some a=>(jz bs).map (a :: ·)
theorem zjR(bs:List aW)(i:Nat)(hi:i<bs.length)(bd:aW)(h:bs.getD i .zero=bd)(hf:tR bd.nodes=zb):jz (bs.drop i)=zb:=by
 rw[oC hi];have:bs[i]=bd:=by rw[<-h];simp[List.getD,hi]
 rw[this,jz,hf]
theorem zjS(bs:List aW)(i:Nat)(hi:i<bs.length)(bd:aW)(h:bs.getD i .zero=bd)(a:Int)(hf:tR bd.nodes=zc a):jz (bs.drop i)=(jz (bs.drop (i+1))).map (a :: ·):=by
 rw[oC hi];have:bs[i]=bd:=by rw[<-h];simp[List.getD,hi]
 rw[this,jz,hf]
theorem zjT{k:Nat}{a:Int}(h1:jz bs=(jz (bs.drop k)).map (st ++ ·))(h2:jz (bs.drop k)=(jz (bs.drop (k+1))).map (a :: ·)):jz bs=(jz (bs.drop (k+1))).map ((st++[a]) ++ ·):=by
 rw[h1,h2];cases jz (bs.drop (k+1))<;>simp
def iF(st:List Int):Int:=st.foldl (λs a=>cJ (s+a)) 0
theorem Vl(st:List Int)(k:Nat)(hk:k<st.length):iF (st.take (k+1))=cJ (iF (st.take k)+st.getD k 0):=by
 unfold iF;rw[Mu hk,List.foldl_append];simp[List.getD,hk]
theorem zgz{n:Int}(h:0<=n):0<=cJ n/\cJ n<=2001:=by unfold cJ;split<;>omega
theorem LX{xs:List Value}(h:IH N xs st):∀k,k<=st.length->0<=iF (st.take k)/\iF (st.take k)<=2001
 |0,_=>by simp[iF]
 |k+1,hk=>by
  rw[Vl st k (by omega)];obtain⟨t,x,_,hp⟩:=h.2 k (by omega);have:=fZ.facts N _ _ hp;have h2:=LX h k (by omega);exact zgz (by omega)
theorem Ve{B g sc:Nat}(st:List Int)(xs:List Value)(w:World)(az:w.ownsRow B 184 1 (.slice (zc ⟨g,0,zb⟩) st.length sc) st.length xs)(fV:IH N xs st)(hn:st.length<=2000000):
  Calls prog 97 #[.slice (zc ⟨g,0,zb⟩) st.length sc] w λe w'=>e=.returned (za .i64 (iF st))/\Below w.heap.size w w':=by
 go_enter func97,ntmps97
 go_wp2
 go_loopw [3,8] (λs i wr=>∃k:Nat,k<=st.length/\i=za .i64 k/\s=za .i64 (iF (st.take k))/\Below w.heap.size w wr)
  (λ_ i _=>st.length-(intOf i).toNat)
 case atStart=>exact⟨0,aZ _,rfl,rfl,Below.refl _ _⟩
 case round=>
  obtain⟨k,hk,rfl,rfl,hb⟩:=hrel;have AU:=LX fV k hk
  by_cases hlt:k<st.length
  ·obtain⟨t,x,hx,hp⟩:=fV.2 k hlt;have zwf:=cI az hb;have c0:wr.cell? ⟨g,k,zb⟩=zc (.iface t x):=(zwf.cellAt k (by omega)).trans hx;have HT:Hid _:=Vl st k hlt;obtain⟨hw,fD,jc⟩:=fZ.facts N _ _ hp;generalize st.getD k 0=a at *;generalize On:iF (st.take k)=s at *;have Hss:Hid _:=On;have jx:IntKind.i64.wrap (s+a)=s+a:=by rw[IntKind.wrap_i64];omega
   clear On hx zwf
   go_wp2_with (first|(refine H9 _ rfl (.tmp 13) _ rfl _ _ rfl hw ⟨λ_ _=>by kernel_rfl,λ_ _=>by kernel_rfl,λ_ _=>by kernel_rfl,λ_ _=>by kernel_rfl,λ_ _=>by kernel_rfl⟩ ?_;intro w2 af)|(go_at_call 121;refine(HU _ _).mono ?_;rintro e w4 ⟨rfl,rfl⟩))
   go_roundw
   case rel=>exact⟨k+1,by omega,by go_num,by rw[HT.out],aj hb hb.size af⟩
   case measure=>simp[intOf];omega
  ·go_wp2;go_ret;exact⟨eX (by rw[wL (by omega)]),hb⟩
def ir:List aW->Nat
 |[]=>0
 |b::bs=>b.nodes.length+ir bs
theorem OV(bs:List aW)(k:Nat)(hk:k<bs.length):ir (bs.take (k+1))=ir (bs.take k)+(bs.getD k .zero).nodes.length:=by
 induction bs generalizing k with
 |nil=>exact absurd hk (dk _)
 |cons b bs ih=>
  cases k with
  |zero=>simp[ir,List.getD]
  |succ k=>
   have:=ih k (by simpa using hk);simp only[nE,ir,List.getD_cons_succ]at this ⊢;omega
theorem O5(h:Small bs):∀k,k<=bs.length->ir (bs.take k)<=k*1048576
 |0,_=>by simp[ir]
 |k+1,hk=>by
  have h1:=O5 h k (by omega);have h2:=(h.2 k (by omega)).1;rw[OV bs k (by omega)];omega
theorem zix{lo:Nat}(v:Value)(bs:List aW)(w:World)(hs:eh lo w v bs)(hsm:Small bs):
  Calls prog 118 #[v] w λe w'=>e=.returned (za .i64 (ir bs))/\Below w.heap.size w w':=by
 obtain⟨ao,cap,rfl,hm,hc⟩:=hs;have hn:=hsm.1
 go_enter func118,ntmps118
 go_wp2
 go_loopw [3,8] (λs i wr=>∃k:Nat,k<=bs.length/\i=za .i64 k/\s=za .i64 (ir (bs.take k))/\Below w.heap.size w wr)
  (λ_ i _=>bs.length-(intOf i).toNat)
 case atStart=>exact⟨0,aZ _,rfl,rfl,Below.refl _ _⟩
 case round=>
  obtain⟨k,hk,rfl,rfl,hb⟩:=hrel;have nR:=O5 hsm k hk
  by_cases hlt:k<bs.length
  ·obtain⟨b,o,nv,bd,rfl,Hn,bu,c0,c1,c2,io⟩:=hc.elem hb hlt;have uG:bd.nodes.length<=1048576:=by have:=(hsm.2 k hlt).1;rw[Hn.out]at this;exact this
   obtain⟨dC,mo,rfl,kz,kU⟩:=io;have HT:Hid _:=OV bs k hlt;rw[Hn.out]at HT;generalize ir (bs.take k)=s at *;go_wp2
   go_roundw
   case rel=>exact⟨k+1,by omega,by go_num,by rw[HT.out];go_num,hb.alloc hb.size _⟩
   case measure=>simp[intOf];omega
  ·go_wp2;go_ret;exact⟨eX (by rw[wL (by omega)]),hb⟩
end
def r9(f:Nat->Bool):Array Value:=((List.range 501).map λc=>Value.bool (f c)).toArray
theorem zf9(f:Nat->Bool):(r9 f).size=501:=by simp[r9]
theorem Vj(f:Nat->Bool)(i:Nat)(h:i<501):(r9 f)[i]?=zc (.bool (f i)):=by simp[r9,h]
theorem zlF{f g:Nat->Bool}(h:∀c,c<501->f c=g c):r9 f=r9 g:=by
 unfold r9;rw[Bo λc hc=>by rw[h c (by simpa using hc)]]
theorem zlG(f:Nat->Bool)(i:Nat):(r9 f).setIfInBounds i (.bool true)=r9 (λc=>f c || c==i):=by
 apply Array.ext_getElem?
 intro j;rw[Array.getElem?_setIfInBounds,zf9]
 by_cases hj:j<501
 ·rw[Vj _ _ hj,Vj _ _ hj]
  by_cases e:i=j
  ·subst e;simp[hj]
  ·have e':(j==i)=false:=by simp;omega
   simp[e,e']
 ·have h1:∀g,(r9 g)[j]?=zb:=λg=>Ms (by rw[zf9];omega)
  rw[h1,h1];split<;>simp_all
def xP(done:List Int):Nat->Bool:=λc=>decide ((c:Int)∈done)
theorem zkk(done:List Int)(q:Nat):r9 (λc=>xP done c || c==q)=r9 (xP ((q:Int)::done)):=zlF λc _=>by
 unfold xP
 by_cases e:c=q
 ·subst e;simp
 ·have e':(c==q)=false:=eu.2 e;have e2:¬(c:Int)=(q:Int):=by omega
  simp[e',e2]
theorem Tryz.zzA:(prog.info? 215).map (λi=>(i.zero,i.size))=zc (zc (.agg (r9 (xP []))),501):=by kernel_rfl
def aT:List aM->List Int
 |[]=>[]
 |n::ns=>if n.kind=5 then n.group::aT ns else aT ns
def fP:List aW->List Int
 |[]=>[]
 |b::bs=>aT b.nodes++fP bs
def px(G:Int):List Int->List Int->Bool
 |done,[]=>((done.length:Int)==G)
 |done,g::gs=>if g<1\/G<g\/g∈done then false else px G (g::done) gs
theorem zqY(ns:List aM)(i:Nat)(hi:i<ns.length)(nd:aM)(h:ns.getD i .zero=nd):aT (ns.drop i)=if nd.kind=5 then nd.group::aT (ns.drop (i+1)) else aT (ns.drop (i+1)):=by
 rw[oC hi];have:ns[i]=nd:=by rw[<-h];simp[List.getD,hi]
 rw[this,aT]
theorem zkO(bs:List aW)(i:Nat)(hi:i<bs.length)(bd:aW)(h:bs.getD i .zero=bd):fP (bs.drop i)=aT (bd.nodes.drop 0)++fP (bs.drop (i+1)):=by
 rw[oC hi];have:bs[i]=bd:=by rw[<-h];simp[List.getD,hi]
 rw[this,fP]
 rfl
theorem zla{lo:Nat}(G:Int)(v:Value)(bs:List aW)(w:World)(hs:eh lo w v bs)(hsm:Small bs)(ZM:0<=G)(ZN:G<=500):
  Calls prog 119 #[.agg #[v,za .i64 G]] w λe w'=>e=.returned (.bool (px G [] (fP bs)))/\Below w.heap.size w w':=by
 obtain⟨ao,cap,rfl,hm,hc⟩:=hs;have hn:=hsm.1;have T8:=(zero_of_info Tryz.zzA).1
 go_enter func119,ntmps119
 go_wp2
 go_loopw [4,12] (λf i wr=>∃(k:Nat) (done:List Int),k<=bs.length/\i=za .i64 k/\f=za .i64 done.length/\done.length<=k*1048576/\Below w.heap.size w wr/\wr.cell? ⟨w.heap.size,1,zb⟩=zc (za .i64 G)/\Hid (wr.heap[w.heap.size+1]?=zc (zd (r9 (xP done)) 215 (0,0)))/\w.heap.size+1<wr.heap.size/\Hid (px G [] (fP bs)=px G done (fP (bs.drop k))))
  (λ_ i _=>bs.length-(intOf i).toNat)
 case atStart=>exact⟨0,[],aZ _,rfl,rfl,by simp,(au).alloc (by simp) _,by simp,heap_alloc2_new _ _ _,by simp,rfl⟩
 case round=>
  obtain⟨k,done,hk,rfl,rfl,tf,hb,gU,zxc,hsz,HS⟩:=hrel
  by_cases hlt:k<bs.length
  ·obtain⟨b,o,nv,bd,rfl,Hn,bu,k0,k1,k2,io⟩:=hc.elem (Below.refl _ _) hlt;have c0:=(hb.cell (p:=⟨b,o+k*3,zb⟩) bu).trans k0;have c1:=(hb.cell (p:=⟨b,o+k*3+1,zb⟩) bu).trans k1;have c2:=(hb.cell (p:=⟨b,o+k*3+2,zb⟩) bu).trans k2;clear k0 k1 k2;have uG:bd.nodes.length<=1048576:=by have:=(hsm.2 k hlt).1;rw[Hn.out]at this;exact this
   obtain⟨dC,mo,rfl,kz,kU⟩:=io;have HA:Hid _:=zkO bs k hlt bd Hn.out;generalize nh:fP (bs.drop (k+1))=tl at *;have QP:Hid _:=nh;clear nh;have bB:Below w.heap.size w (wr.alloc (zd #[.bool bd.aV,.bool bd.bm,.slice dC bd.nodes.length mo] 115)):=hb.alloc hb.size _;have zx5:(wr.alloc (zd #[.bool bd.aV,.bool bd.bm,.slice dC bd.nodes.length mo] 115)).cell? ⟨w.heap.size,1,zb⟩=zc (za .i64 G):=(World.cell?_of_block (Below.heap_alloc _ _ _ (by simp;omega))).trans gU;have zxd:Hid _:=cQ (ob:=zd #[.bool bd.aV,.bool bd.bm,.slice dC bd.nodes.length mo] 115) zxc.out;have Sc:w.heap.size+1<(wr.alloc (zd #[.bool bd.aV,.bool bd.bm,.slice dC bd.nodes.length mo] 115)).heap.size:=by simp;omega
   go_wp2;generalize (wr.alloc (zd #[.bool bd.aV,.bool bd.bm,.slice dC bd.nodes.length mo] 115))=W at *
   go_loopw [4,19] (λf i wq=>∃(j:Nat) (dn:List Int),j<=bd.nodes.length/\i=za .i64 j/\f=za .i64 dn.length/\dn.length<=k*1048576+j/\Below w.heap.size w wq/\wq.cell? ⟨w.heap.size,1,zb⟩=zc (za .i64 G)/\Hid (wq.heap[w.heap.size+1]?=zc (zd (r9 (xP dn)) 215 (0,0)))/\w.heap.size+1<wq.heap.size/\Hid (px G [] (fP bs)=px G dn (aT (bd.nodes.drop j)++tl)))
    (λ_ i _=>bd.nodes.length-(intOf i).toNat)
   case atStart=>exact⟨0,done,aZ _,rfl,rfl,aU tf (Nat.le_add_right _ _),bB,zx5,zxd,Sc,by show _=_;rw[HS.out,HA.out]⟩
   case round=>
    obtain⟨j,dn,hj,rfl,rfl,zzY,J0,Ss,Jk,zyQ,HQ⟩:=hrel
    by_cases oY:j<bd.nodes.length
    ·obtain⟨b2,o2,sv,nd,rfl,fQ,j8,d0,d1,d2,d3,d4,di⟩:=kU.elem J0 oY;have HG:Hid _:=zqY bd.nodes j oY nd fQ.out;obtain⟨kd,rs,mn,mx,gr⟩:=nd;simp only at d0 d2 d3 d4 di HG;obtain⟨bH,bI,rfl,Eu,jQ⟩:=di;have hqz:=J0.size;have NZ:Below w.heap.size w (wr.alloc (zd #[za .i64 kd,.slice bH rs.length bI,za .i64 mn,za .i64 mx,za .i64 gr] 149)):=J0.alloc hqz _;have zxe:Hid _:=cQ (ob:=zd #[za .i64 kd,.slice bH rs.length bI,za .i64 mn,za .i64 mx,za .i64 gr] 149) Jk.out;have NY:(wr.alloc (zd #[za .i64 kd,.slice bH rs.length bI,za .i64 mn,za .i64 mx,za .i64 gr] 149)).cell? ⟨w.heap.size,1,zb⟩=zc (za .i64 G):=(World.cell?_of_block (Below.heap_alloc _ _ _ (by simp;omega))).trans Ss
     by_cases h5:kd=5
     ·subst h5;have zC:Hid (px G [] (fP bs)=if gr<1\/G<gr\/gr∈dn then false else px G (gr::dn) (aT (bd.nodes.drop (j+1))++tl)):=by show _=_;rw[HQ.out,HG.out,aD rfl];rfl
      by_cases g1:gr<1
      ·go_wp2;go_ret;exact⟨bF (by rw[zC.out,aD (.inl g1)]),NZ⟩
      by_cases g2:G<gr
      ·go_wp2;go_ret;exact⟨bF (by rw[zC.out,aD (.inr (.inl g2))]),NZ⟩
      obtain⟨q,rfl⟩:=Int.eq_ofNat_of_zero_le (show 0<=gr by omega);have hq:q<501:=by omega
      have s0:wr.cell? ⟨w.heap.size+1,q,zb⟩=zc (.bool (xP dn q)):=by rw[aO _ _ _ _ _ _ Jk.out,Vj _ _ hq]
      have RH:wr.frozen? ⟨w.heap.size+1,q,zb⟩=false:=cF _ _ _ _ _ Jk.out
      by_cases g3:xP dn q=true
      ·go_wp2;go_ret;exact⟨bF (by rw[zC.out,aD (.inr (.inr (by simpa [xP]using g3)))]),NZ⟩
      have ZD:xP dn q=false:=by simpa using g3
      clear g3;go_wp2
      go_roundw
      case rel=>exact⟨j+1,(q:Int)::dn,by omega,by go_num,by simp,by simp;omega,(J0.setCell (by simp) _).alloc (by simpa [World.setCell]using hqz) _,(World.cell?_of_block (Below.heap_alloc _ _ _ (by simp[World.setCell];omega))).trans ((World.cell?_of_block (cu _ _ _ _ (by simp))).trans Ss),cQ (by rw[dF _ _ _ _ _ _ Jk.out,zlG,zkk]),by simp[World.setCell];omega,by show _=_;rw[zC.out,aq (by rintro (h|h|h);omega;omega;simp[xP]at ZD;exact ZD h)]⟩
      case measure=>simp[intOf];omega
     ·have ZF:(kd != 5)=true:=by rw[bne_iff_ne];exact h5
      have H5:Hid _:=h5;clear h5;go_wp2
      go_roundw
      case rel=>exact⟨j+1,dn,by omega,by go_num,rfl,by omega,NZ,NY,zxe,by simp;omega,by show _=_;rw[HQ.out,HG.out,aq H5.out]⟩
      case measure=>simp[intOf];omega
    ·have Kf:j=bd.nodes.length:=by omega
     have AL:bd.nodes.drop j=[]:=sA (by omega);rw[AL]at HQ;have zyb:dn.length<=(k+1)*1048576:=by omega
     clear Kf AL;go_wp2
     go_roundw
     case rel=>exact⟨k+1,dn,by omega,by go_num,rfl,zyb,J0,Ss,Jk,zyQ,by show _=_;rw[HQ.out,QP.out];rfl⟩
     case measure=>simp[intOf];omega
  ·have dZ:bs.drop k=[]:=sA (by omega);go_wp2;go_ret;refine⟨bF ?_,hb⟩;rw[HS.out,dZ]
   rfl
def qf(G:Int)(bs:List aW):Bool:=
 decide (1<=bs.length/\bs.length<=2000)&&decide (0<=G/\G<=500)&&decide (ir bs<=5000)&&px G [] (fP bs)&&match jz bs with
  |none=>false
  |some st=>decide (iF st<=2000)
end Go.Proofs.YtdimhpfiieepiaaGreatDoor
