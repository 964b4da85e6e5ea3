import Derived.Test.YtdimhpfiieepiaaGreatDoorC6
import Derived.Deep.RegionHeld3
import Derived.Deep.DrawnRows
namespace Go.Proofs.YtdimhpfiieepiaaGreatDoor
open Proofs.Tryz
open Value renaming int->za,slice->zd
open Option renaming some->zb,none->zc
set_option maxHeartbeats 4000000
set_option maxRecDepth 100000
open Go.RowKit
attribute [local go_sem ↓] wp_at_zero wp_at_succ
def fR(ns:List aL):Nat->List Int
 |0=>[]
 |i+1=>yz (fR ns i) (ns.getD i .zero)
def eJ(ns:List aL)(i:Nat):Int:=oI (ns.getD i .zero) ((fR ns i).drop ((fR ns i).length-bC (bO ns i)))
theorem Rh(ns:List aL):∀i,(aK ns i).map (eJ ns)=fR ns i
 |0=>rfl
 |i+1=>by
  have ih:=Rh ns i;have hl:(aK ns i).length=(fR ns i).length:=by rw[<-ih,rf]
  rw[aK,fR,yz,zX,List.map_take,ih,hl]
  rfl
theorem Nt(ns:List aL)(i:Nat):(fR ns i).length=(aK ns i).length:=by rw[<-Rh,rf]
theorem QW(ns:List aL)(i j:Nat)(h:j<(aK ns i).length):(fR ns i).getD j 0=eJ ns ((aK ns i).getD j 0):=by
 rw[<-Rh];simp[List.getD_eq_getElem?_getD,h]
theorem Xj:∀(ns:List aL) (st tU:List Int),mG ns st=zb tU->nE ns st.length=zb tU.length/\ns.all aY=true
 |[],st,tU,h=>by cases h;exact⟨rfl,rfl⟩
 |n::ns,st,tU,h=>by
  unfold mG at h
  by_cases hc:st.length<bC n.kind\/aY n=false
  ·rw[aC hc]at h;cases h
  ·rw[ak hc]at h;have hl:(yz st n).length=st.length-bC n.kind+1:=by simp[yz]
   obtain⟨h1,h2⟩:=Xj ns (yz st n) tU h;refine⟨?_,?_⟩
   ·unfold nE;rw[ak (λq=>hc (.inl q)),<-hl];exact h1
   ·have:aY n=true:=by
     cases hb:aY n
     ·exact absurd (.inr hb) hc
     ·rfl
    simp only[List.all_cons,h2,this,Bool.and_true]
theorem zhQ(ns:List aL)(ha:∀i,i<ns.length->bC (bO ns i)<=(aK ns i).length)(hb:ns.all aY=true):∀k,k<=ns.length->mG ns []=mG (ns.drop k) (fR ns k)
 |0,_=>rfl
 |k+1,hk=>by
  rw[zhQ ns ha hb k (by omega),zhP ns k (by omega) (fR ns k) _ rfl,ak]
  ·rfl
  ·have h1:=ha k (by omega);rintro (h|h)
   ·rw[Nt]at h;unfold bO at h1;omega
   ·have:aY (ns.getD k .zero)=true:=by
     have:=iQ.1 hb (ns.getD k .zero) (by
      rw[bP,dh (show k<ns.length by omega)];exact kg _)
     exact this
    rw[h]at this;cases this
theorem XY(ns:List aL)(hk:jP ns=true)(ha:∀i,i<ns.length->bC (bO ns i)<=(aK ns i).length)(hb:ns.all aY=true):0<ns.length/\tZ ns=zb (eJ ns (ns.length-1)):=by
 have h1:=zhQ ns ha hb ns.length (aj _);rw[sI (aj _),mG]at h1;have h2:=(Xj ns [] _ h1).1;have h3:(fR ns ns.length).length=1:=by
  unfold jP at hk;have:=eq_of_beq hk;simp only[oJ]at h2;rw[h2]at this;exact Option.some.inj this
 have gz:0<ns.length:=by
  rcases Ea ns.length with h0|h0
  ·rw[h0]at h3;simp[fR]at h3
  ·exact h0
 refine⟨gz,?_⟩;obtain⟨m,hm⟩:∃m,ns.length=m+1:=⟨ns.length-1,by omega⟩;rw[hm]at h1 h3 ⊢;unfold tZ;rw[h1];have h4:=Rh ns (m+1);have h5:aK ns (m+1)=[m]:=by
  have hl:=Nt ns (m+1);rw[h3]at hl;rw[aK]at hl ⊢
  match (aK ns m).take ((aK ns m).length-bC (bO ns m)),hl with
  |[],_=>rfl
  |_::_,hl=>simp at hl
 rw[h5]at h4;rw[<-h4]
 rfl
theorem zrq(ns:List aL)(h:jP ns=false\/ns.all aY=false):tZ ns=zc:=by
 unfold tZ;cases hq:mG ns [] with
 |none=>rfl
 |some st=>
  obtain⟨h1,h2⟩:=Xj ns [] st hq;rcases h with h|h
  ·unfold jP at h;simp only[oJ]at h1;rw[h1]at h
   match st with
   |[]=>rfl
   |[a]=>simp at h
   |_::_::_=>rfl
  ·rw[h2]at h;cases h
theorem BR(ns:List aL)(ha:∀i,i<ns.length->bC (bO ns i)<=(aK ns i).length)(hb:ns.all aY=true):∀n i,i<n->i<ns.length->1<=eJ ns i/\eJ ns i<=2001
 |0,_,h,_=>absurd h (cR _)
 |n+1,i,_,hi=>by
  have jI:aY (ns.getD i .zero)=true:=iQ.1 hb (ns.getD i .zero) (by
   rw[bP,dh hi];exact kg _)
  have eu:=ha i hi;have Iy:∀j,j<(aK ns i).length->1<=(fR ns i).getD j 0/\(fR ns i).getD j 0<=2001:=by
   intro j hj;rw[QW ns i j hj];have zA:(aK ns i).getD j 0∈aK ns i:=by
    rw[bP,dh hj];exact kg _
   have hlt:=NI ns i _ zA;exact BR ns ha hb n _ (by omega) (by omega)
  unfold eJ;generalize wi:ns.getD i .zero=nd at *;obtain⟨k,rs,mn,mx,g⟩:=nd;have cC:bO ns i=k:=by unfold bO;rw[wi]
  rw[cC]at eu ⊢;have zwD:=QJ (fR ns i) ((fR ns i).length-bC k);have hl:=Nt ns i;rcases XI jI with rfl|rfl|rfl|rfl|rfl
  ·simp[oI]
  ·have e:=Jy (fR ns i) ((fR ns i).length-bC 2);have a2:bC 2=2:=rfl;unfold oI;rw[ak (by simp),aC (by simp),e.1,e.2];have p:=Iy ((fR ns i).length-bC 2) (by omega);have q:=Iy ((fR ns i).length-bC 2+1) (by omega);exact BM (by omega)
  ·have e:=Jy (fR ns i) ((fR ns i).length-bC 3);have a2:bC 3=2:=rfl;unfold oI;rw[ak (by simp),aC (by simp),e.1,e.2];have p:=Iy ((fR ns i).length-bC 3) (by omega);have q:=Iy ((fR ns i).length-bC 3+1) (by omega);exact BM (by omega)
  ·have a2:bC 4=1:=rfl;unfold oI;rw[ak (by simp),ak (by simp),aC (by simp),zwD];have p:=Iy ((fR ns i).length-bC 4) (by omega);have c:=FY (XH jI).2.1;have hm:1*1<=(fR ns i).getD ((fR ns i).length-bC 4) 0*ed mn mx:=Int.mul_le_mul p.1 c.1 (by omega) (by omega);exact BM (by simpa using hm)
  ·have a2:bC 5=1:=rfl;unfold oI;rw[ak (by simp),ak (by simp),ak (by simp),zwD];exact Iy ((fR ns i).length-bC 5) (by omega)
section
variable {B gl cl gr cr g k:Nat}{w0 wr:World}{ns:List aL}
structure il(B:Nat)(w0 wr:World)(ns:List aL)(gl cl gr cr g k:Nat):Prop where
 below:Below B w0 wr
 left:wr.ownsRow B 3 1 (zd (zb ⟨gl,0,zc⟩) ns.length cl) ns.length (sf ns ns.length)
 right:wr.ownsRow B 3 1 (zd (zb ⟨gr,0,zc⟩) ns.length cr) ns.length (sg ns ns.length)
 Jg:∃xs,wr.ownsRow B 3 1 (zd (zb ⟨g,0,zc⟩) ns.length ns.length) ns.length xs/\∀j,j<k->xs[j]?=zb (za .i64 (eJ ns j))
 ME:gl≠g
 MQ:gr≠g
 base:B<=wr.heap.size
theorem il.same{w1:World}(h:il B w0 wr ns gl cl gr cr g k)(hb:Below wr.heap.size wr w1):il B w0 w1 ns gl cl gr cr g k:=
 ⟨aq h.below h.base hb,dQ h.left hb,dQ h.right hb,by obtain⟨xs,h1,h2⟩:=h.Jg;exact⟨xs,dQ h1 hb,h2⟩,h.ME,h.MQ,aW h.base hb.size⟩
theorem il.alloc(h:il B w0 wr ns gl cl gr cr g k)(o:Obj):il B w0 (wr.alloc o) ns gl cl gr cr g k:=h.same (aw)
theorem il.drew(h:il B w0 wr ns gl cl gr cr g k):il B w0 wr.drew ns gl cl gr cr g k:=h.same (Below.refl _ _).drew
theorem il.store(h:il B w0 wr ns gl cl gr cr g k)(u:Value):il B w0 (wr.setCell ⟨g,k,zc⟩ u) ns gl cl gr cr g k:=by
 obtain⟨xs,h1,h2⟩:=h.Jg;obtain⟨s1,s2⟩:=h1.stored k u;refine⟨h.below.setCell (qn h1).1 _,qZ h.left s2 h.ME,qZ h.right s2 h.MQ,⟨_,s1,λj hj=>?_⟩,h.ME,h.MQ,by simpa [World.setCell]using h.base⟩;rw[List.getElem?_set_ne (by omega)];exact h2 j hj
theorem il.put(h:il B w0 wr ns gl cl gr cr g k)(hk:k<ns.length){u:Int}(hu:u=eJ ns k):il B w0 (wr.setCell ⟨g,k,zc⟩ (za .i64 u)) ns gl cl gr cr g (k+1):=by
 subst hu;obtain⟨xs,h1,h2⟩:=h.Jg;obtain⟨s1,s2⟩:=h1.stored k (za .i64 (eJ ns k));refine⟨h.below.setCell (qn h1).1 _,qZ h.left s2 h.ME,qZ h.right s2 h.MQ,⟨_,s1,λj hj=>?_⟩,h.ME,h.MQ,by simpa [World.setCell]using h.base⟩
 by_cases e:j=k
 ·subst e;rw[List.getElem?_set_self (by have:=h1.1;omega)]
 ·rw[List.getElem?_set_ne (by omega)];exact h2 j (by omega)
theorem il.uy(h:il B w0 wr ns gl cl gr cr g k){j:Nat}(hj:j<k)(hn:j<ns.length):wr.cell? ⟨g,j,zc⟩=zb (za .i64 (eJ ns j)):=by
 obtain⟨xs,h1,h2⟩:=h.Jg;rw[h1.cellAt j (by omega)];exact h2 j hj
theorem il.zv9(h:il B w0 wr ns gl cl gr cr g k)(hn:k<ns.length):(∃u,wr.cell? ⟨g,k,zc⟩=zb u)/\wr.frozen? ⟨g,k,zc⟩=false:=by
 obtain⟨xs,h1,h2⟩:=h.Jg;exact⟨sw h1 (by omega),h1.frozenAt k⟩
theorem il.KJ(h:il B w0 wr ns gl cl gr cr g k)(hn:k<ns.length):wr.cell? ⟨gl,k,zc⟩=zb (za .i64 (lm ns k)):=by
 rw[h.left.cellAt k (by omega)];simp[sf,hn]
theorem il.Tm(h:il B w0 wr ns gl cl gr cr g k)(hn:k<ns.length):wr.cell? ⟨gr,k,zc⟩=zb (za .i64 (oD ns k)):=by
 rw[h.right.cellAt k (by omega)];simp[sg,hn]
theorem il.lt(h:il B w0 wr ns gl cl gr cr g k):gl<wr.heap.size/\gr<wr.heap.size/\g<wr.heap.size:=by
 obtain⟨xs,h1,h2⟩:=h.Jg;exact⟨pE h.left,pE h.right,pE h1⟩
theorem zml(ha:bC (bO ns k)=2)(hl:2<=(aK ns k).length):∃x y:Nat,lm ns k=x/\oD ns k=y/\x<k/\y<k/\(fR ns k).drop ((fR ns k).length-2)=[eJ ns x,eJ ns y]:=by
 have hm:∀j,j<(aK ns k).length->(aK ns k).getD j 0<k:=λj hj=>NI ns k _ (by
  rw[bP,dh hj];exact kg _)
 refine⟨(aK ns k).getD ((aK ns k).length-2) 0,(aK ns k).getD ((aK ns k).length-1) 0,?_,?_,hm _ (by omega),hm _ (by omega),?_⟩
 ·rw[lm,ha,ak (by omega)]
 ·rw[oD,aC ha]
 ·have hw:=Nt ns k;have e1:=QW ns k ((aK ns k).length-2) (by omega);have e2:=QW ns k ((aK ns k).length-1) (by omega);rw[<-e1,<-e2];apply DY;intro i;rw[RA]
  match i with
  |0=>rw[hw,uf,dh (by omega)];simp[List.getD_eq_getElem?_getD,List.getElem?_eq_getElem (show (aK ns k).length-2<(fR ns k).length by omega)]
  |1=>rw[hw,show (aK ns k).length-2+1=(aK ns k).length-1 by omega,dh (by omega)];simp[List.getD_eq_getElem?_getD,List.getElem?_eq_getElem (show (aK ns k).length-1<(fR ns k).length by omega)]
  |i+2=>rw[qw (by omega)];simp
theorem zmk(ha:bC (bO ns k)=1)(hl:1<=(aK ns k).length):∃x:Nat,lm ns k=x/\x<k/\((fR ns k).drop ((fR ns k).length-1)).getD 0 0=eJ ns x:=by
 have hm:∀j,j<(aK ns k).length->(aK ns k).getD j 0<k:=λj hj=>NI ns k _ (by
  rw[bP,dh hj];exact kg _)
 refine⟨(aK ns k).getD ((aK ns k).length-1) 0,?_,hm _ (by omega),?_⟩
 ·rw[lm,ha,ak (by omega)]
 ·rw[QJ,Nt];exact QW ns k ((aK ns k).length-1) (by omega)
end
theorem zrD{ns:List aL}(h:ns.all aY=true){k:Nat}(hk:k<ns.length):aY (ns.getD k .zero)=true:=
 iQ.1 h _ (by
  rw[bP,dh hk];exact kg _)
theorem Yo{n:Int}(h:2000<n):cM n=2001:=by unfold cM;split<;>omega
theorem zqv{lo:Nat}(v:Value)(ns:List aL)(w:World)(hs:dZ lo w v ns)(hn:ns.length<=1048576)(gH:jP ns=true)(io:ns.all aY=true):
  Calls prog 111 #[v] w λe w'=>e=.returned (za .i64 (eJ ns (ns.length-1)))/\Below w.heap.size w w':=by
 have dD:=hs;obtain⟨ao,cap,rfl,hm,hc⟩:=hs;have s6:Hid _:=io;have ZO:Hid _:=gH;clear io gH;obtain⟨i0,hi,bI,aO,aQ⟩:=info_parts Tryz.P0
 go_enter func111,ntmps111
 go_wp2_with fail
 refine(YB _ ns _ dD hn).mono ?_;rintro e w1 ⟨ag,⟨hf,_⟩|⟨_,gl,cl,gr,cr,rfl,hL,hR,eu⟩⟩
 ·exact absurd (hf.symm.trans ZO.out) (by decide)
 have Al:Hid _:=eu;clear eu;obtain⟨gz,zw4⟩:=XY ns ZO.out Al.out s6.out;have zAT:Hid _:=zw4;clear zw4
 go_wp2_with (refine wpList_make_full _ rfl _ _ 23 rfl w.heap.size 3 i0 _ 1 underlying23 hi bI aO _ _ _ _ ns.length rfl rfl rfl rfl (by rw[aQ];omega) (by unfold maxLen;omega) ag.size ?_;intro w2 aB ez)
 have fO:Below w1.heap.size w1 w2:=(Below.refl _ _).grown ez (aj _) (by intro k h;cases h);clear ez;have hinv:il w.heap.size w w2 ns gl cl gr cr w1.heap.size 0:=⟨aq ag ag.size fO,dQ hL fO,dQ hR fO,⟨_,aB,λj hj=>absurd hj (cR _)⟩,by have:=pE hL;omega,by have:=pE hR;omega,aW ag.size fO.size⟩;clear hL hR aB;generalize w1.heap.size=g at *
 go_loopw [22] (λi wr=>∃k:Nat,k<=ns.length/\i=za .i64 k/\il w.heap.size w wr ns gl cl gr cr g k)
  (λi _=>ns.length-(intOf i).toNat)
 case atStart=>exact⟨0,aR _,rfl,hinv⟩
 case round=>
  clear hinv fO ag;obtain⟨k,hk,rfl,hinv⟩:=hrel;obtain⟨IH,kX,fD⟩:=hinv.lt;have hb:=hinv.below
  by_cases hlt:k<ns.length
  ·obtain⟨b,o,sv,nd,rfl,Hn,aZ,c0,c1,c2,c3,c4,dr⟩:=hc.elem hb hlt;have iV:aY nd=true:=by have:=zrD s6.out hlt;rw[Hn.out]at this;exact this
   have aD:b<wr.heap.size:=bA aZ hinv.base;have Kb:Hid (bC nd.kind<=(aK ns k).length):=by have:=Al.out k hlt;unfold bO at this;rw[Hn.out]at this;exact this
   have vC:Hid (bO ns k=nd.kind):=by show _=_;unfold bO;rw[Hn.out]
   have HW:Hid (eJ ns k=oI nd ((fR ns k).drop ((fR ns k).length-bC nd.kind))):=by show _=_;rw[eJ,vC.out,Hn.out]
   have tO:=BR ns Al.out s6.out (k+1) k (by omega) hlt;obtain⟨⟨u0,t0⟩,t1⟩:=hinv.zv9 hlt;have tl:=hinv.KJ hlt;have tr:=hinv.Tm hlt;obtain⟨kd,rs,mn,mx,gp⟩:=nd;simp only at c0 c2 c3 c4 dr Kb vC;obtain⟨bZ,cd,rfl,hsm,jJ⟩:=dr;have kk0:(0:Int)<=(k:Int):=by omega
   have kk1:(k:Int)<(ns.length:Int):=by omega
   rcases XI iV with h1|h2|h3|h4|h5
   ·subst h1;go_wp2
    go_roundw
    case rel=>exact⟨k+1,by omega,by go_num,(hinv.put hlt (by rw[HW.out];rfl)).alloc _⟩
    case measure=>simp[intOf];omega
   ·subst h2;obtain⟨x,y,hx,hy,xO,Fv,gA⟩:=zml (ns:=ns) (k:=k) (by rw[vC.out];rfl) Kb.out;have cx:=hinv.uy xO (by omega);have cy:=hinv.uy Fv (by omega);have bx:=BR ns Al.out s6.out (x+1) x (by omega) (by omega);have uI:=BR ns Al.out s6.out (y+1) y (by omega) (by omega);have oO:Hid (∀w',il w.heap.size w w' ns gl cl gr cr g k->w'.cell? ⟨gl,k,zc⟩=zb (za .i64 (x:Int))/\w'.cell? ⟨gr,k,zc⟩=zb (za .i64 (y:Int))/\w'.cell? ⟨g,x,zc⟩=zb (za .i64 (eJ ns x))/\w'.cell? ⟨g,y,zc⟩=zb (za .i64 (eJ ns y))):=λw' h=>⟨(h.KJ hlt).trans (by rw[hx]),(h.Tm hlt).trans (by rw[hy]),h.uy xO (by omega),h.uy Fv (by omega)⟩
    rw[hx]at tl;rw[hy]at tr;have HV:Hid (eJ ns k=cM (eJ ns x+eJ ns y)):=by
     show _=_;rw[HW.out];unfold oI;rw[ak (by simp),aC (by simp),show bC (aL.kind ⟨2,rs,mn,mx,gp⟩)=2 from rfl,gA]
     rfl
    clear hx hy gA tO;generalize eJ ns x=a at *;generalize eJ ns y=b' at *;have jo:IntKind.i64.wrap (a+b')=a+b':=by rw[IntKind.wrap_i64];omega
    have j0:(0:Int)<=(x:Int):=by omega
    have j1:(x:Int)<(ns.length:Int):=by omega
    have j2:(0:Int)<=(y:Int):=by omega
    have j3:(y:Int)<(ns.length:Int):=by omega
    by_cases rO:2000<a+b'
    ·go_wp2
     go_region_held3 (λw'=>w'.cell? ⟨gl,k,zc⟩=zb (za .i64 (x:Int))/\w'.cell? ⟨gr,k,zc⟩=zb (za .i64 (y:Int))/\w'.cell? ⟨g,x,zc⟩=zb (za .i64 (a))/\w'.cell? ⟨g,y,zc⟩=zb (za .i64 (b'))) ((first|exact oO.out _ ((hinv.alloc _).drew)|exact oO.out _ (((hinv.store _).alloc _).drew))) (fail)
     go_wp2
     go_roundw
     case rel=>exact⟨k+1,by omega,by go_num,((((hinv.store _).put hlt (by rw[HV.out,Yo rO])).alloc _).drew)⟩
     case measure=>simp[intOf];omega
    ·go_wp2
     go_region_held3 (λw'=>w'.cell? ⟨gl,k,zc⟩=zb (za .i64 (x:Int))/\w'.cell? ⟨gr,k,zc⟩=zb (za .i64 (y:Int))/\w'.cell? ⟨g,x,zc⟩=zb (za .i64 (a))/\w'.cell? ⟨g,y,zc⟩=zb (za .i64 (b'))) ((first|exact oO.out _ ((hinv.alloc _).drew)|exact oO.out _ (((hinv.store _).alloc _).drew))) (fail)
     go_wp2
     go_roundw
     case rel=>exact⟨k+1,by omega,by go_num,((hinv.put hlt (by rw[HV.out,Gj (by omega)])).alloc _).drew⟩
     case measure=>simp[intOf];omega
   ·subst h3;obtain⟨x,y,hx,hy,xO,Fv,gA⟩:=zml (ns:=ns) (k:=k) (by rw[vC.out];rfl) Kb.out;have cx:=hinv.uy xO (by omega);have cy:=hinv.uy Fv (by omega);have bx:=BR ns Al.out s6.out (x+1) x (by omega) (by omega);have uI:=BR ns Al.out s6.out (y+1) y (by omega) (by omega);have oO:Hid (∀w',il w.heap.size w w' ns gl cl gr cr g k->w'.cell? ⟨gl,k,zc⟩=zb (za .i64 (x:Int))/\w'.cell? ⟨gr,k,zc⟩=zb (za .i64 (y:Int))/\w'.cell? ⟨g,x,zc⟩=zb (za .i64 (eJ ns x))/\w'.cell? ⟨g,y,zc⟩=zb (za .i64 (eJ ns y))):=λw' h=>⟨(h.KJ hlt).trans (by rw[hx]),(h.Tm hlt).trans (by rw[hy]),h.uy xO (by omega),h.uy Fv (by omega)⟩
    rw[hx]at tl;rw[hy]at tr;have HV:Hid (eJ ns k=cM (eJ ns x+eJ ns y)):=by
     show _=_;rw[HW.out];unfold oI;rw[ak (by simp),aC (by simp),show bC (aL.kind ⟨3,rs,mn,mx,gp⟩)=2 from rfl,gA]
     rfl
    clear hx hy gA tO;generalize eJ ns x=a at *;generalize eJ ns y=b' at *;have jo:IntKind.i64.wrap (a+b')=a+b':=by rw[IntKind.wrap_i64];omega
    have j0:(0:Int)<=(x:Int):=by omega
    have j1:(x:Int)<(ns.length:Int):=by omega
    have j2:(0:Int)<=(y:Int):=by omega
    have j3:(y:Int)<(ns.length:Int):=by omega
    by_cases rO:2000<a+b'
    ·go_wp2
     go_region_held3 (λw'=>w'.cell? ⟨gl,k,zc⟩=zb (za .i64 (x:Int))/\w'.cell? ⟨gr,k,zc⟩=zb (za .i64 (y:Int))/\w'.cell? ⟨g,x,zc⟩=zb (za .i64 (a))/\w'.cell? ⟨g,y,zc⟩=zb (za .i64 (b'))) ((first|exact oO.out _ ((hinv.alloc _).drew)|exact oO.out _ (((hinv.store _).alloc _).drew))) (fail)
     go_wp2
     go_roundw
     case rel=>exact⟨k+1,by omega,by go_num,((((hinv.store _).put hlt (by rw[HV.out,Yo rO])).alloc _).drew)⟩
     case measure=>simp[intOf];omega
    ·go_wp2
     go_region_held3 (λw'=>w'.cell? ⟨gl,k,zc⟩=zb (za .i64 (x:Int))/\w'.cell? ⟨gr,k,zc⟩=zb (za .i64 (y:Int))/\w'.cell? ⟨g,x,zc⟩=zb (za .i64 (a))/\w'.cell? ⟨g,y,zc⟩=zb (za .i64 (b'))) ((first|exact oO.out _ ((hinv.alloc _).drew)|exact oO.out _ (((hinv.store _).alloc _).drew))) (fail)
     go_wp2
     go_roundw
     case rel=>exact⟨k+1,by omega,by go_num,((hinv.put hlt (by rw[HV.out,Gj (by omega)])).alloc _).drew⟩
     case measure=>simp[intOf];omega
   ·subst h4;obtain⟨x,hx,xO,gA⟩:=zmk (ns:=ns) (k:=k) (by rw[vC.out];rfl) Kb.out;have cx:=hinv.uy xO (by omega);have bx:=BR ns Al.out s6.out (x+1) x (by omega) (by omega);have oO:Hid (∀w',il w.heap.size w w' ns gl cl gr cr g k->w'.cell? ⟨gl,k,zc⟩=zb (za .i64 (x:Int))/\w'.cell? ⟨g,x,zc⟩=zb (za .i64 (eJ ns x))):=λw' h=>⟨(h.KJ hlt).trans (by rw[hx]),h.uy xO (by omega)⟩
    rw[hx]at tl;have dV:=(XH iV).2.1;have pY:0<=mn/\mn<=255:=by simp[fj]at dV;omega
    have nV:=FY dV;have eQ:1*1<=eJ ns x*ed mn mx:=Int.mul_le_mul bx.1 nV.1 (by omega) (by omega);have dw:eJ ns x*ed mn mx<=2001*256:=Int.mul_le_mul bx.2 nV.2 (by omega) (by omega);have HV:Hid (eJ ns k=cM (eJ ns x*ed mn mx)):=by
     show _=_;rw[HW.out];unfold oI;rw[ak (by simp),ak (by simp),aC (by simp),show bC (aL.kind ⟨4,rs,mn,mx,gp⟩)=1 from rfl,gA]
    clear hx gA tO dV iV;generalize eJ ns x=a at *;have jo:IntKind.i64.wrap (a*ed mn mx)=a*ed mn mx:=by rw[IntKind.wrap_i64];omega
    have zBN:wrap64 (a*ed mn mx)=a*ed mn mx:=by unfold wrap64;omega
    have j0:(0:Int)<=(x:Int):=by omega
    have j1:(x:Int)<(ns.length:Int):=by omega
    have cm:=(hinv.alloc (.cells #[za .i64 4,.slice bZ rs.length cd,za .i64 mn,za .i64 mx,za .i64 gp] 149)).drew;have zwm:∀w',Below (wr.alloc (.cells #[za .i64 4,.slice bZ rs.length cd,za .i64 mn,za .i64 mx,za .i64 gp] 149)).drew.heap.size (wr.alloc (.cells #[za .i64 4,.slice bZ rs.length cd,za .i64 mn,za .i64 mx,za .i64 gp] 149)).drew w'->w'.cell? ⟨wr.heap.size,0,zc⟩=zb (za .i64 4)/\w'.cell? ⟨wr.heap.size,1,zc⟩=zb (.slice bZ rs.length cd)/\w'.cell? ⟨wr.heap.size,2,zc⟩=zb (za .i64 mn)/\w'.cell? ⟨wr.heap.size,3,zc⟩=zb (za .i64 mx)/\w'.cell? ⟨wr.heap.size,4,zc⟩=zb (za .i64 gp):=λw' h=>⟨(h.cell (by simp)).trans (by simp),(h.cell (by simp)).trans (by simp),(h.cell (by simp)).trans (by simp),(h.cell (by simp)).trans (by simp),(h.cell (by simp)).trans (by simp)⟩
    have Eg:Hid _:=zwm;clear zwm;have LD:¬g=wr.heap.size:=by omega
    by_cases rO:2000<a*ed mn mx
    all_goals
     go_wp2
     go_region_held3 (λw'=>w'.cell? ⟨gl,k,zc⟩=zb (za .i64 (x:Int))/\w'.cell? ⟨g,x,zc⟩=zb (za .i64 (a))/\w'.cell? ⟨wr.heap.size,0,zc⟩=zb (za .i64 4)/\w'.cell? ⟨wr.heap.size,1,zc⟩=zb (.slice bZ rs.length cd)/\w'.cell? ⟨wr.heap.size,2,zc⟩=zb (za .i64 mn)/\w'.cell? ⟨wr.heap.size,3,zc⟩=zb (za .i64 mx)/\w'.cell? ⟨wr.heap.size,4,zc⟩=zb (za .i64 gp)) ((first|exact⟨(oO.out _ cm).1,(oO.out _ cm).2,Eg.out _ (Below.refl _ _)⟩|exact⟨(oO.out _ (cm.same bD)).1,(oO.out _ (cm.same bD)).2,Eg.out _ bD⟩|exact⟨(oO.out _ ((cm.same bD).store _)).1,(oO.out _ ((cm.same bD).store _)).2,(World.cell?_of_block (cH _ _ _ _ (λe=>LD e.symm))).trans (Eg.out _ bD).1,(World.cell?_of_block (cH _ _ _ _ (λe=>LD e.symm))).trans (Eg.out _ bD).2.1,(World.cell?_of_block (cH _ _ _ _ (λe=>LD e.symm))).trans (Eg.out _ bD).2.2.1,(World.cell?_of_block (cH _ _ _ _ (λe=>LD e.symm))).trans (Eg.out _ bD).2.2.2.1,(World.cell?_of_block (cH _ _ _ _ (λe=>LD e.symm))).trans (Eg.out _ bD).2.2.2.2⟩)) ((go_at_call 135;refine(zoD _ _ _ _ _ _ pY.1 pY.2).mono ?_;rintro e w5 ⟨rfl,bD⟩;obtain⟨⟨u5,t5⟩,t6⟩:=(cm.same bD).zv9 hlt))
     go_wp2
     go_roundw
     case rel=>
      first
       |exact⟨k+1,by omega,by go_num,((cm.same bD).store _).put hlt (by rw[HV.out,Yo rO])⟩
       |exact⟨k+1,by omega,by go_num,(cm.same bD).put hlt (by rw[HV.out,Gj (by omega)])⟩
     case measure=>simp[intOf];omega
   ·subst h5;obtain⟨x,hx,xO,gA⟩:=zmk (ns:=ns) (k:=k) (by rw[vC.out];rfl) Kb.out;have cx:=hinv.uy xO (by omega);have bx:=BR ns Al.out s6.out (x+1) x (by omega) (by omega);have oO:Hid (∀w',il w.heap.size w w' ns gl cl gr cr g k->w'.cell? ⟨gl,k,zc⟩=zb (za .i64 (x:Int))/\w'.cell? ⟨g,x,zc⟩=zb (za .i64 (eJ ns x))):=λw' h=>⟨(h.KJ hlt).trans (by rw[hx]),h.uy xO (by omega)⟩
    rw[hx]at tl;have HV:Hid (eJ ns k=eJ ns x):=by
     show _=_;rw[HW.out];unfold oI;rw[ak (by simp),ak (by simp),ak (by simp),show bC (aL.kind ⟨5,rs,mn,mx,gp⟩)=1 from rfl,gA]
    clear hx gA tO oO;generalize eJ ns x=a at *;have j0:(0:Int)<=(x:Int):=by omega
    have j1:(x:Int)<(ns.length:Int):=by omega
    by_cases rO:2000<a
    ·go_wp2
     go_roundw
     case rel=>exact⟨k+1,by omega,by go_num,((hinv.store _).put hlt (by rw[HV.out];omega)).alloc _⟩
     case measure=>simp[intOf];omega
    ·go_wp2
     go_roundw
     case rel=>exact⟨k+1,by omega,by go_num,(hinv.put hlt HV.out.symm).alloc _⟩
     case measure=>simp[intOf];omega
  ·have bK:k=ns.length:=by omega
   obtain⟨m,kx⟩:∃m,ns.length=m+1:=⟨ns.length-1,by omega⟩;have cl':=hinv.uy (show m<k by omega) (by omega);have Hm:Hid _:=kx;have HR:Hid (eJ ns m=eJ ns (ns.length-1)):=by show _=_;rw[kx];rfl
   have IG:¬((k:Int)<(m:Int)+1):=by omega
   rw[kx];clear bK;go_wp2;go_ret;exact⟨gh (by rw[HR.out,Hm.out]),hb⟩
end Go.Proofs.YtdimhpfiieepiaaGreatDoor
