import Derived.Test.YtdimhpfiieepiaaGreatDoorC4
namespace Go.Proofs.YtdimhpfiieepiaaGreatDoor
open Proofs.Tryz
open Value renaming int->za
open Option renaming none->zb,some->zc
open Obj renaming cells->zd
set_option maxHeartbeats 2000000
set_option maxRecDepth 100000
open Go.RowKit
section
variable {bs:List aV}{st:List Int}{N:Nat}
def jq:List aV->Option (List Int)
 |[]=>zc []
 |b::bs=>match tZ b.nodes with
  |none=>zb
  |some a=>(jq bs).map (a :: ·)
theorem zjQ(bs:List aV)(i:Nat)(hi:i<bs.length)(bd:aV)(h:bs.getD i .zero=bd)(hf:tZ bd.nodes=zb):jq (bs.drop i)=zb:=by
 rw[oK hi];have:bs[i]=bd:=by rw[<-h];simp[List.getD,hi]
 rw[this,jq,hf]
theorem zjR(bs:List aV)(i:Nat)(hi:i<bs.length)(bd:aV)(h:bs.getD i .zero=bd)(a:Int)(hf:tZ bd.nodes=zc a):jq (bs.drop i)=(jq (bs.drop (i+1))).map (a :: ·):=by
 rw[oK hi];have:bs[i]=bd:=by rw[<-h];simp[List.getD,hi]
 rw[this,jq,hf]
theorem zjS{k:Nat}{a:Int}(h1:jq bs=(jq (bs.drop k)).map (st ++ ·))(h2:jq (bs.drop k)=(jq (bs.drop (k+1))).map (a :: ·)):jq bs=(jq (bs.drop (k+1))).map ((st++[a]) ++ ·):=by
 rw[h1,h2];cases jq (bs.drop (k+1))<;>simp
def iH(st:List Int):Int:=st.foldl (λs a=>cM (s+a)) 0
theorem Xa(st:List Int)(k:Nat)(hk:k<st.length):iH (st.take (k+1))=cM (iH (st.take k)+st.getD k 0):=by
 unfold iH;rw[NP hk,List.foldl_append];simp[List.getD,hk]
theorem zgp{n:Int}(h:0<=n):0<=cM n/\cM n<=2001:=by unfold cM;split<;>omega
theorem Nr{xs:List Value}(h:JR N xs st):∀k,k<=st.length->0<=iH (st.take k)/\iH (st.take k)<=2001
 |0,_=>by simp[iH]
 |k+1,hk=>by
  rw[Xa st k (by omega)];obtain⟨t,x,_,hp⟩:=h.2 k (by omega);have:=gu.facts N _ _ hp;have h2:=Nr h k (by omega);exact zgp (by omega)
theorem WS{B g sc:Nat}(st:List Int)(xs:List Value)(w:World)(aB:w.ownsRow B 184 1 (.slice (zc ⟨g,0,zb⟩) st.length sc) st.length xs)(j8:JR N xs st)(hn:st.length<=2000000):
  Calls prog 97 #[.slice (zc ⟨g,0,zb⟩) st.length sc] w λe w'=>e=.returned (za .i64 (iH st))/\Below w.heap.size w w':=by
 go_enter func97,ntmps97
 go_wp2
 go_loopw [3,8] (λs i wr=>∃k:Nat,k<=st.length/\i=za .i64 k/\s=za .i64 (iH (st.take k))/\Below w.heap.size w wr)
  (λ_ i _=>st.length-(intOf i).toNat)
 case atStart=>exact⟨0,aR _,rfl,rfl,Below.refl _ _⟩
 case round=>
  obtain⟨k,hk,rfl,rfl,hb⟩:=hrel;have wv:=Nr j8 k hk
  by_cases hlt:k<st.length
  ·obtain⟨t,x,hx,hp⟩:=j8.2 k hlt;have zxq:=dQ aB hb;have c0:wr.cell? ⟨g,k,zb⟩=zc (.iface t x):=(zxq.cellAt k (by omega)).trans hx;have HT:Hid _:=Xa st k hlt;obtain⟨hw,kB,iW⟩:=gu.facts N _ _ hp;generalize st.getD k 0=a at *;generalize PS:iH (st.take k)=s at *;have Hss:Hid _:=PS;have jo:IntKind.i64.wrap (s+a)=s+a:=by rw[IntKind.wrap_i64];omega
   clear PS hx zxq
   go_wp2_with (first|(refine Jj _ rfl (.tmp 13) _ rfl _ _ rfl hw ⟨λ_ _=>by kernel_rfl,λ_ _=>by kernel_rfl,λ_ _=>by kernel_rfl,λ_ _=>by kernel_rfl,λ_ _=>by kernel_rfl⟩ ?_;intro w2 ae)|(go_at_call 121;refine(Jk _ _).mono ?_;rintro e w4 ⟨rfl,rfl⟩))
   go_roundw
   case rel=>exact⟨k+1,by omega,by go_num,by rw[HT.out],aq hb hb.size ae⟩
   case measure=>simp[intOf];omega
  ·go_wp2;go_ret;exact⟨gh (by rw[wZ (by omega)]),hb⟩
def iz:List aV->Nat
 |[]=>0
 |b::bs=>b.nodes.length+iz bs
theorem Qp(bs:List aV)(k:Nat)(hk:k<bs.length):iz (bs.take (k+1))=iz (bs.take k)+(bs.getD k .zero).nodes.length:=by
 induction bs generalizing k with
 |nil=>exact absurd hk (cR _)
 |cons b bs ih=>
  cases k with
  |zero=>simp[iz,List.getD]
  |succ k=>
   have:=ih k (by simpa using hk);simp only[nH,iz,List.getD_cons_succ]at this ⊢;omega
theorem Qu(h:Small bs):∀k,k<=bs.length->iz (bs.take k)<=k*1048576
 |0,_=>by simp[iz]
 |k+1,hk=>by
  have h1:=Qu h k (by omega);have h2:=(h.2 k (by omega)).1;rw[Qp bs k (by omega)];omega
theorem zir{lo:Nat}(v:Value)(bs:List aV)(w:World)(hs:eh lo w v bs)(hsm:Small bs):
  Calls prog 118 #[v] w λe w'=>e=.returned (za .i64 (iz bs))/\Below w.heap.size w w':=by
 obtain⟨ao,cap,rfl,hm,hc⟩:=hs;have hn:=hsm.1
 go_enter func118,ntmps118
 go_wp2
 go_loopw [3,8] (λs i wr=>∃k:Nat,k<=bs.length/\i=za .i64 k/\s=za .i64 (iz (bs.take k))/\Below w.heap.size w wr)
  (λ_ i _=>bs.length-(intOf i).toNat)
 case atStart=>exact⟨0,aR _,rfl,rfl,Below.refl _ _⟩
 case round=>
  obtain⟨k,hk,rfl,rfl,hb⟩:=hrel;have nV:=Qu hsm k hk
  by_cases hlt:k<bs.length
  ·obtain⟨b,o,nv,bd,rfl,Hn,aZ,c0,c1,c2,ir⟩:=hc.elem hb hlt;have uQ:bd.nodes.length<=1048576:=by have:=(hsm.2 k hlt).1;rw[Hn.out]at this;exact this
   obtain⟨dM,mo,rfl,mQ,kW⟩:=ir;have HT:Hid _:=Qp bs k hlt;rw[Hn.out]at HT;generalize iz (bs.take k)=s at *;go_wp2
   go_roundw
   case rel=>exact⟨k+1,by omega,by go_num,by rw[HT.out];go_num,hb.alloc hb.size _⟩
   case measure=>simp[intOf];omega
  ·go_wp2;go_ret;exact⟨gh (by rw[wZ (by omega)]),hb⟩
end
def sr(f:Nat->Bool):Array Value:=((List.range 501).map λc=>Value.bool (f c)).toArray
theorem zfZ(f:Nat->Bool):(sr f).size=501:=by simp[sr]
theorem WY(f:Nat->Bool)(i:Nat)(h:i<501):(sr f)[i]?=zc (.bool (f i)):=by simp[sr,h]
theorem zlK{f g:Nat->Bool}(h:∀c,c<501->f c=g c):sr f=sr g:=by
 unfold sr;rw[BV λc hc=>by rw[h c (by simpa using hc)]]
theorem zlL(f:Nat->Bool)(i:Nat):(sr f).setIfInBounds i (.bool true)=sr (λc=>f c || c==i):=by
 apply Array.ext_getElem?
 intro j;rw[NN,zfZ]
 by_cases hj:j<501
 ·rw[WY _ _ hj,WY _ _ hj]
  by_cases e:i=j
  ·subst e;simp[hj]
  ·have e':(j==i)=false:=by simp;omega
   simp[e,e']
 ·have h1:∀g,(sr g)[j]?=zb:=λg=>DZ (by rw[zfZ];omega)
  rw[h1,h1];split<;>simp_all
def yo(done:List Int):Nat->Bool:=λc=>decide ((c:Int)∈done)
theorem zkk(done:List Int)(q:Nat):sr (λc=>yo done c || c==q)=sr (yo ((q:Int)::done)):=zlK λc _=>by
 unfold yo
 by_cases e:c=q
 ·subst e;simp
 ·have e':(c==q)=false:=eB.2 e;have e2:¬(c:Int)=(q:Int):=by omega
  simp[e',e2]
theorem Tryz.zAQ:(prog.info? 215).map (λi=>(i.zero,i.size))=zc (zc (.agg (sr (yo []))),501):=by kernel_rfl
def aT:List aL->List Int
 |[]=>[]
 |n::ns=>if n.kind=5 then n.group::aT ns else aT ns
def fT:List aV->List Int
 |[]=>[]
 |b::bs=>aT b.nodes++fT bs
def pD(G:Int):List Int->List Int->Bool
 |done,[]=>((done.length:Int)==G)
 |done,g::gs=>if g<1\/G<g\/g∈done then false else pD G (g::done) gs
theorem zq5(ns:List aL)(i:Nat)(hi:i<ns.length)(nd:aL)(h:ns.getD i .zero=nd):aT (ns.drop i)=if nd.kind=5 then nd.group::aT (ns.drop (i+1)) else aT (ns.drop (i+1)):=by
 rw[oK hi];have:ns[i]=nd:=by rw[<-h];simp[List.getD,hi]
 rw[this,aT]
theorem zkM(bs:List aV)(i:Nat)(hi:i<bs.length)(bd:aV)(h:bs.getD i .zero=bd):fT (bs.drop i)=aT (bd.nodes.drop 0)++fT (bs.drop (i+1)):=by
 rw[oK hi];have:bs[i]=bd:=by rw[<-h];simp[List.getD,hi]
 rw[this,fT]
 rfl
theorem zla{lo:Nat}(G:Int)(v:Value)(bs:List aV)(w:World)(hs:eh lo w v bs)(hsm:Small bs)(hG0:0<=G)(hG1:G<=500):
  Calls prog 119 #[.agg #[v,za .i64 G]] w λe w'=>e=.returned (.bool (pD G [] (fT bs)))/\Below w.heap.size w w':=by
 obtain⟨ao,cap,rfl,hm,hc⟩:=hs;have hn:=hsm.1;have VI:=(zero_of_info Tryz.zAQ).1
 go_enter func119,ntmps119
 go_wp2
 go_loopw [4,12] (λf i wr=>∃(k:Nat) (done:List Int),k<=bs.length/\i=za .i64 k/\f=za .i64 done.length/\done.length<=k*1048576/\Below w.heap.size w wr/\wr.cell? ⟨w.heap.size,1,zb⟩=zc (za .i64 G)/\Hid (wr.heap[w.heap.size+1]?=zc (zd (sr (yo done)) 215 (0,0)))/\w.heap.size+1<wr.heap.size/\Hid (pD G [] (fT bs)=pD G done (fT (bs.drop k))))
  (λ_ i _=>bs.length-(intOf i).toNat)
 case atStart=>exact⟨0,[],aR _,rfl,rfl,by simp,(aw).alloc (by simp) _,by simp,heap_alloc2_new _ _ _,by simp,rfl⟩
 case round=>
  obtain⟨k,done,hk,rfl,rfl,zj,hb,gY,zyu,hsz,HS⟩:=hrel
  by_cases hlt:k<bs.length
  ·obtain⟨b,o,nv,bd,rfl,Hn,aZ,k0,k1,k2,ir⟩:=hc.elem (Below.refl _ _) hlt;have c0:=(hb.cell (p:=⟨b,o+k*3,zb⟩) aZ).trans k0;have c1:=(hb.cell (p:=⟨b,o+k*3+1,zb⟩) aZ).trans k1;have c2:=(hb.cell (p:=⟨b,o+k*3+2,zb⟩) aZ).trans k2;clear k0 k1 k2;have uQ:bd.nodes.length<=1048576:=by have:=(hsm.2 k hlt).1;rw[Hn.out]at this;exact this
   obtain⟨dM,mo,rfl,mQ,kW⟩:=ir;have HA:Hid _:=zkM bs k hlt bd Hn.out;generalize mZ:fT (bs.drop (k+1))=tl at *;have SC:Hid _:=mZ;clear mZ;have bQ:Below w.heap.size w (wr.alloc (zd #[.bool bd.aX,.bool bd.bm,.slice dM bd.nodes.length mo] 115)):=hb.alloc hb.size _;have zzu:(wr.alloc (zd #[.bool bd.aX,.bool bd.bm,.slice dM bd.nodes.length mo] 115)).cell? ⟨w.heap.size,1,zb⟩=zc (za .i64 G):=(World.cell?_of_block (Below.heap_alloc _ _ _ (by simp;omega))).trans gY;have zyv:Hid _:=cX (ob:=zd #[.bool bd.aX,.bool bd.bm,.slice dM bd.nodes.length mo] 115) zyu.out;have hWs:w.heap.size+1<(wr.alloc (zd #[.bool bd.aX,.bool bd.bm,.slice dM bd.nodes.length mo] 115)).heap.size:=by simp;omega
   go_wp2;generalize (wr.alloc (zd #[.bool bd.aX,.bool bd.bm,.slice dM bd.nodes.length mo] 115))=W at *
   go_loopw [4,19] (λf i wq=>∃(j:Nat) (dn:List Int),j<=bd.nodes.length/\i=za .i64 j/\f=za .i64 dn.length/\dn.length<=k*1048576+j/\Below w.heap.size w wq/\wq.cell? ⟨w.heap.size,1,zb⟩=zc (za .i64 G)/\Hid (wq.heap[w.heap.size+1]?=zc (zd (sr (yo dn)) 215 (0,0)))/\w.heap.size+1<wq.heap.size/\Hid (pD G [] (fT bs)=pD G dn (aT (bd.nodes.drop j)++tl)))
    (λ_ i _=>bd.nodes.length-(intOf i).toNat)
   case atStart=>exact⟨0,done,aR _,rfl,rfl,aW zj (Nat.le_add_right _ _),bQ,zzu,zyv,hWs,by show _=_;rw[HS.out,HA.out]⟩
   case round=>
    obtain⟨j,dn,hj,rfl,rfl,zBc,Ll,Uh,Kr,zAg,HQ⟩:=hrel
    by_cases pj:j<bd.nodes.length
    ·obtain⟨b2,o2,sv,nd,rfl,fJ,jl,d0,d1,d2,d3,d4,dr⟩:=kW.elem Ll pj;have HG:Hid _:=zq5 bd.nodes j pj nd fJ.out;obtain⟨kd,rs,mn,mx,gr⟩:=nd;simp only at d0 d2 d3 d4 dr HG;obtain⟨bZ,cd,rfl,Fl,jJ⟩:=dr;have hqz:=Ll.size;have Pv:Below w.heap.size w (wr.alloc (zd #[za .i64 kd,.slice bZ rs.length cd,za .i64 mn,za .i64 mx,za .i64 gr] 149)):=Ll.alloc hqz _;have zyw:Hid _:=cX (ob:=zd #[za .i64 kd,.slice bZ rs.length cd,za .i64 mn,za .i64 mx,za .i64 gr] 149) Kr.out;have Pu:(wr.alloc (zd #[za .i64 kd,.slice bZ rs.length cd,za .i64 mn,za .i64 mx,za .i64 gr] 149)).cell? ⟨w.heap.size,1,zb⟩=zc (za .i64 G):=(World.cell?_of_block (Below.heap_alloc _ _ _ (by simp;omega))).trans Uh
     by_cases h5:kd=5
     ·subst h5;have Af:Hid (pD G [] (fT bs)=if gr<1\/G<gr\/gr∈dn then false else pD G (gr::dn) (aT (bd.nodes.drop (j+1))++tl)):=by show _=_;rw[HQ.out,HG.out,aC rfl];rfl
      by_cases g1:gr<1
      ·go_wp2;go_ret;exact⟨bz (by rw[Af.out,aC (.inl g1)]),Pv⟩
      by_cases g2:G<gr
      ·go_wp2;go_ret;exact⟨bz (by rw[Af.out,aC (.inr (.inl g2))]),Pv⟩
      obtain⟨q,rfl⟩:=Int.eq_ofNat_of_zero_le (show 0<=gr by omega);have hq:q<501:=by omega
      have s0:wr.cell? ⟨w.heap.size+1,q,zb⟩=zc (.bool (yo dn q)):=by rw[aM _ _ _ _ _ _ Kr.out,WY _ _ hq]
      have Tx:wr.frozen? ⟨w.heap.size+1,q,zb⟩=false:=cT _ _ _ _ _ Kr.out
      by_cases g3:yo dn q=true
      ·go_wp2;go_ret;exact⟨bz (by rw[Af.out,aC (.inr (.inr (by simpa [yo]using g3)))]),Pv⟩
      have g3':yo dn q=false:=by simpa using g3
      clear g3;go_wp2
      go_roundw
      case rel=>exact⟨j+1,(q:Int)::dn,by omega,by go_num,by simp,by simp;omega,(Ll.setCell (by simp) _).alloc (by simpa [World.setCell]using hqz) _,(World.cell?_of_block (Below.heap_alloc _ _ _ (by simp[World.setCell];omega))).trans ((World.cell?_of_block (cH _ _ _ _ (by simp))).trans Uh),cX (by rw[dE _ _ _ _ _ _ Kr.out,zlL,zkk]),by simp[World.setCell];omega,by show _=_;rw[Af.out,ak (by rintro (h|h|h);omega;omega;simp[yo]at g3';exact g3' h)]⟩
      case measure=>simp[intOf];omega
     ·have h5':(kd != 5)=true:=by rw[bne_iff_ne];exact h5
      have H5:Hid _:=h5;clear h5;go_wp2
      go_roundw
      case rel=>exact⟨j+1,dn,by omega,by go_num,rfl,by omega,Pv,Pu,zyw,by simp;omega,by show _=_;rw[HQ.out,HG.out,ak H5.out]⟩
      case measure=>simp[intOf];omega
    ·have LI:j=bd.nodes.length:=by omega
     have Bp:bd.nodes.drop j=[]:=sI (by omega);rw[Bp]at HQ;have zzA:dn.length<=(k+1)*1048576:=by omega
     clear LI Bp;go_wp2
     go_roundw
     case rel=>exact⟨k+1,dn,by omega,by go_num,rfl,zzA,Ll,Uh,Kr,zAg,by show _=_;rw[HQ.out,SC.out];rfl⟩
     case measure=>simp[intOf];omega
  ·have dV:bs.drop k=[]:=sI (by omega);go_wp2;go_ret;refine⟨bz ?_,hb⟩;rw[HS.out,dV]
   rfl
def qo(G:Int)(bs:List aV):Bool:=
 decide (1<=bs.length/\bs.length<=2000)&&decide (0<=G/\G<=500)&&decide (iz bs<=5000)&&pD G [] (fT bs)&&match jq bs with
  |none=>false
  |some st=>decide (iH st<=2000)
end Go.Proofs.YtdimhpfiieepiaaGreatDoor
