import Derived.Test.YtfajjdgkiilhfaaC21
namespace Go.Proofs.Ytfajjdgkiilhfaa
open Proofs.Try
open Option renaming none->za,some->zh
open Value renaming int->zi,slice->zp,agg->zD
open RowKit renaming Hid->zn,Below->zw
open Obj renaming cells->zx
open Go renaming World->zy,Value->zB,Calls->zG
set_option maxHeartbeats 4000000
set_option maxRecDepth 100000
open Go.RowKit
def qM(bs:List cX):Prop:=∀i,i<bs.length->kP (bs.getD i .zero).nodes=true/\(bs.getD i .zero).nodes.all bG=true
def JM(b:cX):Int:=fh b.nodes (b.nodes.length-1)
def gE:List cX->Int
 |[]=>0
 |b::bs=>JM b+gE bs
theorem ziJ(bs:List cX)(k:Nat)(hk:k<bs.length):gE (bs.take (k+1))=gE (bs.take k)+JM (bs.getD k .zero):=by
 induction bs generalizing k with
 |nil=>exact absurd hk (dP _)
 |cons b bs ih=>
  cases k with
  |zero=>simp[gE,List.getD]
  |succ k=>
   have:=ih k (by simpa using hk);simp only[gG,gE,List.getD_cons_succ]at this ⊢;omega
theorem zmZ{b:cX}(hk:kP b.nodes=true)(pM:∀i,i<b.nodes.length->aV (dK b.nodes i)<=(aQ b.nodes i).length)(hb:b.nodes.all bG=true):1<=JM b/\JM b<=2001:=by
 obtain⟨hp,_⟩:=zmA b.nodes hk pM hb;exact Ed b.nodes pM hb (b.nodes.length) (b.nodes.length-1) (by omega) (by omega)
theorem zmv:∀(ns pre:List aI) (d:Nat),gD ns (aQ (pre++ns) pre.length).length=zh d->∀i,pre.length<=i->i<pre.length+ns.length->aV (dK (pre++ns) i)<=(aQ (pre++ns) i).length
 |[],pre,_,_,i,h1,h2=>by simp at h2;omega
 |n::ns,pre,d,h,i,h1,h2=>by
  have zxo:dK (pre++n::ns) pre.length=n.kind:=by simp[dK,List.getD_eq_getElem?_getD]
  unfold gD at h
  by_cases hc:(aQ (pre++n::ns) pre.length).length<aV n.kind
  ·rw[ae hc]at h;cases h
  ·rw[ab hc]at h
   by_cases e:i=pre.length
   ·subst e;rw[zxo];omega
   ·have e1:pre++n::ns=(pre++[n])++ns:=by simp
    have hl:=zpR (pre++n::ns) pre.length;rw[zxo]at hl;rw[<-hl]at h;have:=zmv ns (pre++[n]) d (by rw[<-e1];simpa using h) i (by simp;omega) (by simp at h2 ⊢;omega);rwa[<-e1]at this
theorem Ui{ns:List aI}(h:kP ns=true):∀i,i<ns.length->aV (dK ns i)<=(aQ ns i).length:=by
 intro i hi;unfold kP at h;exact zmv ns [] 1 (eq_of_beq h) i (bH _) (by simpa using hi)
theorem P8{bs:List cX}(h:qM bs):∀k,k<=bs.length->0<=gE (bs.take k)/\gE (bs.take k)<=k*2001
 |0,_=>by simp[gE]
 |k+1,hk=>by
  have h1:=P8 h k (by omega);obtain⟨h2,h3⟩:=h k (by omega);have h4:=zmZ h2 (Ui h2) h3;rw[ziJ bs k (by omega)];omega
theorem PH{lo:Nat}(G:Int)(v:zB)(bs:List cX)(w:zy)(hs:jd lo w v bs)(hsm:Small bs)(lQ:qM bs):
  zG prog 46 #[zD #[v,zi .i64 G]] w λe w'=>e=.returned (zi .i64 (gE bs))/\zw w.heap.size w w':=by
 obtain⟨ao,cap,rfl,hm,hc⟩:=hs;have hn:=hsm.1;have VV:zn _:=lQ;clear lQ
 go_enter func46,ntmps46
 go_wp2
 go_loopw [3,9] (λs i wr=>∃k:Nat,k<=bs.length/\i=zi .i64 k/\s=zi .i64 (gE (bs.take k))/\zw w.heap.size w wr)
  (λ_ i _=>bs.length-(intOf i).toNat)
 case atStart=>exact⟨0,bH _,rfl,rfl,aC⟩
 case round=>
  obtain⟨k,hk,rfl,rfl,hb⟩:=hrel;have hrb:=P8 VV.out k hk
  by_cases hlt:k<bs.length
  ·obtain⟨b,o,nv,bd,rfl,Hn,cQ,c0,c1,c2,IW⟩:=hc.elem hb hlt;have il:bd.nodes.length<=1048576:=by have:=(hsm.2 k hlt).1;rw[Hn.out]at this;exact this
   have wE:kP bd.nodes=true:=by have:=(VV.out k hlt).1;rw[Hn.out]at this;exact this
   have Fl:bd.nodes.all bG=true:=by have:=(VV.out k hlt).2;rw[Hn.out]at this;exact this
   have sG:=zmZ wE (Ui wE) Fl;obtain⟨oG,oH,rfl,pU,ry⟩:=IW;have gP:zw w.heap.size w (wr.alloc (zx #[.bool bd.bol,.bool bd.eol,.slice oG bd.nodes.length oH] 107)):=hb.alloc hb.size _;have SZ:nX lo (wr.alloc (zx #[.bool bd.bol,.bool bd.eol,.slice oG bd.nodes.length oH] 107)) (.slice oG bd.nodes.length oH) bd.nodes:=nX.below ⟨_,_,rfl,pU,ry⟩ (aC);have HT:zn _:=ziJ bs k hlt;rw[Hn.out]at HT;generalize gE (bs.take k)=s at *;have HL:zn (fh bd.nodes (bd.nodes.length-1)=JM bd):=rfl
   go_wp2_with fail
   refine(zp8 _ bd.nodes _ SZ il wE Fl).mono ?_;rintro e w2 ⟨rfl,aL⟩;rw[HL.out];clear wE Fl;generalize JM bd=wl at *;have BZ:IntKind.i64.wrap (s+wl)=s+wl:=by rw[IntKind.wrap_i64];omega
   go_wp2
   go_roundw
   case rel=>exact⟨k+1,by omega,by go_num,by rw[HT.out],bi gP gP.size aL⟩
   case measure=>simp[intOf];omega
  ·go_wp2;go_ret;exact⟨gq (by rw[tj (by omega)]),hb⟩
section
variable {w wr w1:zy}{v:zB}{G:Int}{gg cc:Nat}{gs:List Int}
def BB(bs:List cX):Bool:=bs.all λb=>kP b.nodes&&b.nodes.all bG
def MG(G:Int)(gs:List Int):Bool:=(List.range G.toNat).all λi=>gs.count ((i:Int)+1)==1
def td(G:Int)(bs:List cX):Bool:=
 decide (1<=bs.length/\bs.length<=2000)&&decide (0<=G/\G<=500)&&decide (lU bs<=5000)&&BB bs&&(((qK bs).length:Int)==G)&&MG G (qK bs)&&decide (gE bs<=2000)
theorem zqJ(ns:List aI)(j:Nat)(hj:j<ns.length)(nd:aI)(h:ns.getD j .zero=nd):aH (ns.take (j+1))=aH (ns.take j)++(if nd.kind=5 then [nd.group] else []):=by
 induction ns generalizing j with
 |nil=>exact absurd hj (dP _)
 |cons n ns ih=>
  cases j with
  |zero=>
   have:n=nd:=by simpa [List.getD]using h
   subst this;simp only[gG,kQ,aH,List.nil_append]
  |succ j=>
   have:=ih j (by simpa using hj) (by simpa [List.getD]using h);simp only[gG,aH]at this ⊢;rw[this];split<;>simp
theorem zla(bs:List cX)(k:Nat)(hk:k<bs.length)(bd:cX)(h:bs.getD k .zero=bd):qK (bs.take (k+1))=qK (bs.take k)++aH bd.nodes:=by
 induction bs generalizing k with
 |nil=>exact absurd hk (dP _)
 |cons b bs ih=>
  cases k with
  |zero=>
   have:b=bd:=by simpa [List.getD]using h
   subst this;simp[qK]
  |succ k=>
   have:=ih k (by simpa using hk) (by simpa [List.getD]using h);simp only[gG,qK]at this ⊢;rw[this,jA]
theorem zlB:∀ns:List aI,(aH ns).length<=ns.length
 |[]=>ax _
 |n::ns=>by have:=zlB ns;unfold aH;split<;>simp<;>omega
theorem zfs:∀bs:List cX,(qK bs).length<=lU bs
 |[]=>ax _
 |b::bs=>by have:=zfs bs;have:=zlB b.nodes;unfold qK lU;simp;omega
theorem zkt(bs:List cX)(k:Nat):lU (bs.take k)<=lU bs:=by
 induction bs generalizing k with
 |nil=>simp
 |cons b bs ih=>
  cases k with
  |zero=>simp[lU]
  |succ k=>have:=ih k;simp only[gG,lU];omega
theorem zn3(bs:List cX)(k:Nat)(hk:k<bs.length)(bd:cX)(h:bs.getD k .zero=bd)(hf:(kP bd.nodes&&bd.nodes.all bG)=false):BB bs=false:=by
 unfold BB;rw[List.all_eq_false];refine⟨bs[k],gy _,?_⟩;have:bs[k]=bd:=by rw[<-h];simp[List.getD,hk]
 rw[this,hf];simp
theorem zn5(bs:List cX)(k:Nat)(hk:k<bs.length)(bd:cX)(h:bs.getD k .zero=bd)(ht:BB (bs.take k)=true)(hf:(kP bd.nodes&&bd.nodes.all bG)=true):BB (bs.take (k+1))=true:=by
 unfold BB at *;rw[vD hk,vG,ht];have:bs[k]=bd:=by rw[<-h];simp[List.getD,hk]
 simp only[List.all_cons,List.all_nil,this,hf,Bool.and_true]
theorem zlN(ns:List aI)(j:Nat)(hj:j<ns.length)(nd:aI)(h:ns.getD j .zero=nd)(hf:bG nd=false):ns.all bG=false:=by
 rw[List.all_eq_false];refine⟨ns[j],gy _,?_⟩;have:ns[j]=nd:=by rw[<-h];simp[List.getD,hj]
 rw[this,hf];simp
theorem znN(ns:List aI)(j:Nat)(hj:j<ns.length)(nd:aI)(h:ns.getD j .zero=nd)(ht:(ns.take j).all bG=true)(hf:bG nd=true):(ns.take (j+1)).all bG=true:=by
 rw[vD hj,vG,ht];have:ns[j]=nd:=by rw[<-h];simp[List.getD,hj]
 simp only[List.all_cons,List.all_nil,this,hf,Bool.and_true]
theorem zn4{bs:List cX}(h:BB bs=true):qM bs:=by
 intro i hi;have:=qQ.1 h (bs.getD i .zero) (by
  rw[bI,bE hi];exact gy _)
 simpa using this
theorem znp(gs:List Int)(j:Nat)(hj:j<gs.length)(x:Int):(gs.take (j+1)).count x=(gs.take j).count x+(if gs.getD j 0=x then 1 else 0):=by
 rw[vD hj,List.count_append];simp[List.getD,hj,List.count_cons]
def F0(gs:List Int):List zB:=gs.map (Value.int .i64)
theorem zpE(gs:List Int)(x:Int):F0 (gs++[x])=F0 gs++[zi .i64 x]:=by simp[F0]
theorem zrg(gs:List Int)(i:Nat)(h:i<gs.length):(F0 gs)[i]?=zh (zi .i64 (gs.getD i 0)):=by simp[F0,h,List.getD]
structure tI(w wr:zy)(v:zB)(G:Int)(gg cc:Nat)(gs:List Int):Prop where
 below:zw w.heap.size w wr
 Kv:wr.cell? ⟨w.heap.size,0,za⟩=zh v
 Rt:wr.cell? ⟨w.heap.size,1,za⟩=zh (zi .i64 G)
 row:wr.ownsRow (w.heap.size+1) 3 1 (zp (zh ⟨gg,0,za⟩) gs.length cc) gs.length (F0 gs)
 size:w.heap.size+1<=wr.heap.size
theorem tI.same(h:tI w wr v G gg cc gs)(hb:zw wr.heap.size wr w1):tI w w1 v G gg cc gs:=
 ⟨bi h.below (cM (Nat.le_succ _) h.size) hb,(hb.cell (by have:=h.size;simp;omega)).trans h.Kv,(hb.cell (by have:=h.size;simp;omega)).trans h.Rt,jy h.row hb,cM h.size hb.size⟩
theorem tI.alloc(h:tI w wr v G gg cc gs)(o:Obj):tI w (wr.alloc o) v G gg cc gs:=h.same (aC)
theorem tI.grown{g' c':Nat}{x:Int}(h:tI w wr v G gg cc gs)(hg:wr.grownBy w1 (zh gg))(ho:w1.ownsRow (w.heap.size+1) 3 1 (zp (zh ⟨g',0,za⟩) (gs.length+1) c') (gs.length+1) (F0 gs++[zi .i64 x])):tI w w1 v G g' c' (gs++[x]):=by
 have hgg:=(nW h.row).1;have hs:=h.size;refine⟨h.below.grown hg (by omega) (by intro q hq;cases hq;omega),?_,?_,by simpa [zpE]using ho,cM h.size hg.size⟩
 ·exact(hg.cell_far _ (by simp;omega) (by simp;omega)).trans h.Kv
 ·exact(hg.cell_far _ (by simp;omega) (by simp;omega)).trans h.Rt
end
theorem zjz{lo:Nat}(G:Int)(v:zB)(bs:List cX)(w:zy)(hs:jd lo w v bs)(hsm:Small bs):
  zG prog 52 #[zD #[v,zi .i64 G]] w λe w'=>e=.returned (.bool (td G bs))/\zw w.heap.size w w':=by
 have hn:=hsm.1;have kI:=hs;obtain⟨ao,cap,rfl,hm,hc⟩:=hs;have aG:zw w.heap.size w (w.alloc (zx #[.slice ao bs.length cap,zi .i64 G] 89)):=aC
 by_cases h1:aT (bs.length:Int) 1 2000=false
 ·have H:zn (td G bs=false):=by
   show _=_;have:decide (1<=bs.length/\bs.length<=2000)=false:=by simp[aT]at h1;simp;omega
   simp[td,this]
  go_enter func52,ntmps52
  go_wp2_with (go_at_call 12;refine(lp _ _ _ _).mono ?_;rintro e w' ⟨rfl,rfl⟩)
  go_ret
  exact⟨dD H.out.symm,aG⟩
 have zZ:aT (bs.length:Int) 1 2000=true:=by simpa using h1
 clear h1
 by_cases h2:aT G 0 500=false
 ·have H:zn (td G bs=false):=by
   show _=_;have:decide (0<=G/\G<=500)=false:=by simp[aT]at h2;simp;omega
   simp[td,this]
  go_enter func52,ntmps52
  go_wp2_with (go_at_call 12;refine(lp _ _ _ _).mono ?_;rintro e w' ⟨rfl,rfl⟩)
  go_ret
  exact⟨dD H.out.symm,aG⟩
 have h2':aT G 0 500=true:=by simpa using h2
 clear h2;have hlen:1<=bs.length/\bs.length<=2000:=by simp[aT]at zZ;omega
 have hG:0<=G/\G<=500:=by simp[aT]at h2';omega
 obtain⟨Ab,Xw⟩:=hG;have HA:zn (td G bs=(decide (lU bs<=5000)&&BB bs&&(((qK bs).length:Int)==G)&&MG G (qK bs)&&decide (gE bs<=2000))):=by
  show _=_;have e1:decide (1<=bs.length/\bs.length<=2000)=true:=by simp;omega
  have e2:decide (0<=G/\G<=500)=true:=by simp;omega
  unfold td;rw[e1,e2,Cu,Cu]
 obtain⟨i0,hi,eQ,eR,dR⟩:=info_parts Try.wP
 go_enter func52,ntmps52
 go_wp2_with (go_at_call 12;refine(lp _ _ _ _).mono ?_;rintro e w' ⟨rfl,rfl⟩)
 have zxl:tI w ((w.alloc (zx #[.slice ao bs.length cap,zi .i64 G] 89)).alloc (zx #[] 3)) (.slice ao bs.length cap) G (w.heap.size+1) 0 []:=⟨aG.alloc aG.size _,by simp,by simp,zdw _ _ _ _ (by omega) (by simp),by simp⟩
 go_loopw [3,33] (λs i wr=>∃k:Nat,k<=bs.length/\i=zi .i64 k/\s=zi .i64 (lU (bs.take k))/\tI w wr (.slice ao bs.length cap) G (w.heap.size+1) 0 [])
  (λ_ i _=>bs.length-(intOf i).toNat)
 case atStart=>exact⟨0,bH _,rfl,rfl,zxl⟩
 case round=>
  clear zxl;obtain⟨k,hk,rfl,rfl,hinv⟩:=hrel;have kH:=zfY hsm k hk
  by_cases hlt:k<bs.length
  ·obtain⟨b,o,nv,bd,rfl,Hn,cQ,c0,c1,c2,IW⟩:=hc.elem hinv.below hlt;have il:bd.nodes.length<=1048576:=by have:=(hsm.2 k hlt).1;rw[Hn.out]at this;exact this
   obtain⟨oG,oH,rfl,pU,ry⟩:=IW;have HT:zn _:=zdv bs k hlt;rw[Hn.out]at HT;generalize lU (bs.take k)=s at *;go_wp2
   go_roundw
   case rel=>exact⟨k+1,by omega,by go_num,by rw[HT.out];go_num,hinv.alloc _⟩
   case measure=>simp[intOf];omega
  have cI:bs.take k=bs:=tj (by omega);rw[cI]at kH ⊢;clear cI
  by_cases h5:5000<(lU bs:Int)
  ·have H:zn (td G bs=false):=by
    show _=_;have:decide (lU bs<=5000)=false:=by simp;omega
    rw[HA.out,this];simp
   have eB:=hinv.below;have gz:=hinv.Kv;clear HA;go_wp2;go_ret;exact⟨dD H.out.symm,eB⟩
  have h5':lU bs<=5000:=by omega
  have e5:decide (lU bs<=5000)=true:=by simpa using h5'
  rw[e5,Cu]at HA;clear e5 kH;have gz:=hinv.Kv;go_wp2;generalize nL:lU bs=cn at *;have Hcn:zn _:=nL;clear nL
  go_loopw [4,48] (λs i wr=>∃(k gg cc:Nat),k<=bs.length/\i=zi .i64 k/\s=zp (zh ⟨gg,0,za⟩) (qK (bs.take k)).length cc/\tI w wr (.slice ao bs.length cap) G gg cc (qK (bs.take k))/\zn (BB (bs.take k)=true))
   (λ_ i _=>bs.length-(intOf i).toNat)
  case atStart=>exact⟨0,w.heap.size+1,0,bH _,rfl,rfl,hinv,rfl⟩
  case round=>
   clear hinv gz;obtain⟨k2,gg,cc,bJ,rfl,rfl,hinv,qn⟩:=hrel
   by_cases yG:k2<bs.length
   ·obtain⟨b,o,nv,bd,rfl,Hn,cQ,q0,q1,q2,IW⟩:=hc.elem (Below.refl _ _) yG;have c0:=(hinv.below.cell (p:=⟨b,o+k2*3,za⟩) cQ).trans q0;have c1:=(hinv.below.cell (p:=⟨b,o+k2*3+1,za⟩) cQ).trans q1;have c2:=(hinv.below.cell (p:=⟨b,o+k2*3+2,za⟩) cQ).trans q2;clear q0 q1 q2;have il:bd.nodes.length<=1048576:=by have:=(hsm.2 k2 yG).1;rw[Hn.out]at this;exact this
    have jU:(qK (bs.take k2)).length+bd.nodes.length<=5000:=by
     have e1:=zfs (bs.take k2);have e2:=zdv bs k2 yG;have e3:=zkt bs (k2+1);rw[Hn.out]at e2;rw[Hcn.out]at e3;omega
    obtain⟨oG,oH,rfl,pU,ry⟩:=IW;have SI:=hinv.alloc (zx #[.bool bd.bol,.bool bd.eol,.slice oG bd.nodes.length oH] 107);have SZ:nX lo (wr.alloc (zx #[.bool bd.bol,.bool bd.eol,.slice oG bd.nodes.length oH] 107)) (.slice oG bd.nodes.length oH) bd.nodes:=nX.below ⟨_,_,rfl,pU,ry⟩ SI.below;generalize yD:qK (bs.take k2)=E0 at *;have Hgs:zn _:=yD;clear yD
    go_wp2_with fail
    refine(zlH _ bd.nodes _ SZ il).mono ?_;rintro e w2 ⟨aL,⟨hkf,lv,rv,rfl⟩|⟨hkt,gl,cl,gr,cr,rfl,_,_,_⟩⟩
    ·have H:zn (td G bs=false):=by
      show _=_;rw[HA.out,zn3 bs k2 yG bd Hn.out (by rw[hkf];rfl)];simp
     have eB:=(SI.same aL).below;clear HA hkf;go_wp2;go_ret;exact⟨dD H.out.symm,eB⟩
    have Hkt:zn _:=hkt;clear hkt;have d2:w2.cell? ⟨wr.heap.size,2,za⟩=zh (.slice oG bd.nodes.length oH):=(aL.cell (by simp)).trans (by simp);have zxm:=SI.same aL;clear hinv SI SZ aL c0 c1 c2;go_wp2
    go_loopw [4,64] (λs i wr=>∃(j gg cc:Nat),j<=bd.nodes.length/\i=zi .i64 j/\s=zp (zh ⟨gg,0,za⟩) (E0++aH (bd.nodes.take j)).length cc/\tI w wr (zp (zh ⟨b,o,za⟩) bs.length cap) G gg cc (E0++aH (bd.nodes.take j))/\zn ((bd.nodes.take j).all bG=true))
     (λ_ i _=>bd.nodes.length-(intOf i).toNat)
    case atStart=>exact⟨0,gg,cc,bH _,rfl,by simp[aH],by simpa [aH]using zxm,rfl⟩
    case round=>
     clear zxm d2;obtain⟨j,g3,c3,hj,rfl,rfl,OH,VA⟩:=hrel;have SQ:(E0++aH (bd.nodes.take j)).length<=5000:=by
      have:=zlB (bd.nodes.take j);simp at this ⊢;omega
     by_cases SR:j<bd.nodes.length
     ·obtain⟨b2,o2,sv,nd,rfl,qV,Og,d0,d1,d2,d3,d4,jr⟩:=ry.elem OH.below SR;have Va:zn _:=zqJ bd.nodes j SR nd qV.out;obtain⟨kd,rs,mn,mx,gp⟩:=nd;simp only at d0 d2 d3 d4 jr Va;obtain⟨dU,dV,rfl,zAV,wH⟩:=jr;have YH:=OH.alloc (zx #[zi .i64 kd,.slice dU rs.length dV,zi .i64 mn,zi .i64 mx,zi .i64 gp] 125);have zxW:nk lo (wr.alloc (zx #[zi .i64 kd,.slice dU rs.length dV,zi .i64 mn,zi .i64 mx,zi .i64 gp] 125)) (.slice dU rs.length dV) rs:=nk.below ⟨_,_,rfl,zAV,wH⟩ (aC);generalize Lj:E0++aH (bd.nodes.take j)=RY at *;have zvV:zn _:=Lj;clear Lj
      by_cases lP:bG ⟨kd,rs,mn,mx,gp⟩=false
      ·have H:zn (td G bs=false):=by
        show _=_;rw[HA.out,zn3 bs k2 yG bd Hn.out (by rw[zlN bd.nodes j SR _ qV.out lP];simp)];simp
       clear HA
       go_wp2_with (go_at_call 76;refine(zku _ _ _ _ _ _ _ zxW).mono ?_;rintro e w4 ⟨rfl,bZ⟩)
       go_ret
       exact⟨dD H.out.symm,(YH.same bZ).below⟩
      have OR:bG ⟨kd,rs,mn,mx,gp⟩=true:=by simpa using lP
      have zvP:zn ((bd.nodes.take (j+1)).all bG=true):=znN bd.nodes j SR _ qV.out VA.out OR;clear lP
      go_wp2_with fail
      refine(zku _ _ _ _ _ _ _ zxW).mono ?_;rintro e w4 ⟨rfl,bZ⟩;have y0:w4.cell? ⟨wr.heap.size,0,za⟩=zh (zi .i64 kd):=(bZ.cell (by simp)).trans (by simp);have y4:w4.cell? ⟨wr.heap.size,4,za⟩=zh (zi .i64 gp):=(bZ.cell (by simp)).trans (by simp);have SH:=YH.same bZ;have zAX:=SH.size;clear OH YH bZ
      by_cases R2:kd=5
      ·subst R2
       go_wp2_with (refine F9 w4 rfl (.tmp 74) (.tmp 77) 23 rfl (w.heap.size+1) 3 i0 _ 8 underlying23 hi eQ eR dR rfl g3 c3 RY.length (F0 RY) _ rfl SH.row rfl rfl (by omega) (by omega) zAX ?_;intro g5 c5 w5 zBi zzI at5)
       go_roundw
       case rel=>
        have he:E0++aH (bd.nodes.take (j+1))=RY++[gp]:=by rw[Va.out,ae (by trivial),<-jA,zvV.out]
        exact⟨j+1,g5,c5,by omega,by go_num,by rw[he];simp,by rw[he];exact SH.grown zzI zBi,zvP⟩
       case measure=>simp[intOf];omega
      ·have zBM:(kd==5)=false:=lX.2 R2;have H55:zn _:=R2;clear R2;go_wp2
       go_roundw
       case rel=>
        have he:E0++aH (bd.nodes.take (j+1))=RY:=by rw[Va.out,ab H55.out,Gx,zvV.out]
        exact⟨j+1,g3,c3,by omega,by go_num,by rw[he],by rw[he];exact SH,zvP⟩
       case measure=>simp[intOf];omega
     ·have jH:bd.nodes.take j=bd.nodes:=tj (by omega);rw[jH]at OH VA SQ ⊢;have vK:zn (qK (bs.take (k2+1))=E0++aH bd.nodes):=by show _=_;rw[zla bs k2 yG bd Hn.out,Hgs.out]
      have n6:zn (BB (bs.take (k2+1))=true):=zn5 bs k2 yG bd Hn.out qn.out (by rw[Hkt.out,VA.out];rfl);clear jH;generalize E0++aH bd.nodes=gs4 at *;go_wp2
      go_roundw
      case rel=>exact⟨k2+1,g3,c3,by omega,by go_num,by rw[vK.out],by rw[vK.out];exact OH,n6⟩
      case measure=>simp[intOf];omega
   ·have jH:bs.take k2=bs:=tj (by omega);rw[jH]at hinv qn ⊢;have jU:(qK bs).length<=5000:=by have:=zfs bs;rw[Hcn.out]at this;omega
    rw[qn.out,Cu]at HA;clear jH;have Ly:=zn4 qn.out;have zvY:zn _:=Ly;clear Ly;generalize yD:qK bs=gs at *;have pZ:=hinv.Rt;have gz:=hinv.Kv
    by_cases tW:((gs.length:Int)==G)=false
    ·have H:zn (td G bs=false):=by show _=_;rw[HA.out,tW];simp
     have zAm:(((gs.length:Nat):Int) != G)=true:=by simp at tW ⊢;exact tW
     have eB:=hinv.below;clear HA tW;go_wp2;go_ret;exact⟨dD H.out.symm,eB⟩
    have iV:((gs.length:Int)==G)=true:=by simpa using tW
    rw[iV,Cu]at HA;have zAm:(((gs.length:Nat):Int) != G)=false:=by simp at iV ⊢;exact iV
    have hGe:G=gs.length:=(eq_of_beq iV).symm;clear tW iV;obtain⟨Gn,rfl⟩:=Int.eq_ofNat_of_zero_le Ab;have HGe:zn _:=hGe;clear hGe;have hGn:Gn<=500:=by omega
    go_wp2
    go_loopw [14] (λgv wr=>∃q:Nat,q<=Gn/\gv=zi .i64 ((q:Int)+1)/\tI w wr (.slice ao bs.length cap) (Gn:Int) gg cc gs/\zn (∀i,i<q->gs.count ((i:Int)+1)=1))
     (λgv _=>Gn+1-(intOf gv).toNat)
    case atStart=>exact⟨0,bH _,rfl,hinv,λi hi=>absurd hi (dP _)⟩
    case round=>
     clear hinv pZ gz;obtain⟨q,hq,rfl,hinv,QZ⟩:=hrel;have pZ:=hinv.Rt;have gz:=hinv.Kv
     by_cases zAG:q<Gn
     ·have hle:(q:Int)+1<=(Gn:Int):=by omega
      go_wp2
      go_loopw [15,94] (λt i wr=>∃j:Nat,j<=gs.length/\i=zi .i64 j/\t=zi .i64 ((gs.take j).count ((q:Int)+1):Nat)/\tI w wr (.slice ao bs.length cap) (Gn:Int) gg cc gs)
       (λ_ i _=>gs.length-(intOf i).toNat)
      case atStart=>exact⟨0,bH _,rfl,rfl,hinv⟩
      case round=>
       clear hinv pZ gz;obtain⟨j,hj,rfl,rfl,hinv⟩:=hrel;have bn:(gs.take j).count ((q:Int)+1)<=j:=by
        have:=List.count_le_length (a:=(q:Int)+1) (l:=gs.take j);simp at this;omega
       by_cases OL:j<gs.length
       ·have y0:wr.cell? ⟨gg,j,za⟩=zh (zi .i64 (gs.getD j 0)):=(hinv.row.cellAt j (by omega)).trans (zrg gs j OL);have HC:zn _:=znp gs j OL ((q:Int)+1);generalize (gs.take j).count ((q:Int)+1)=ct at *;generalize gs.getD j 0=h0 at *
        by_cases uZ:h0=(q:Int)+1
        ·have zAu:(h0==(q:Int)+1)=true:=beq_iff_eq.2 uZ;have CF:zn _:=uZ;clear uZ;go_wp2
         go_roundw
         case rel=>exact⟨j+1,by omega,by go_num,by rw[HC.out,ae CF.out];go_num,hinv⟩
         case measure=>simp[intOf];omega
        ·have zAu:(h0==(q:Int)+1)=false:=lX.2 uZ;have CF:zn _:=uZ;clear uZ;go_wp2
         go_roundw
         case rel=>exact⟨j+1,by omega,by go_num,by rw[HC.out,ab CF.out,xJ],hinv⟩
         case measure=>simp[intOf];omega
       ·have Ta:gs.take j=gs:=tj (by omega);rw[Ta]at bn ⊢;clear Ta
        by_cases ud:gs.count ((q:Int)+1)=1
        ·have xL:zn (∀i,i<q+1->gs.count ((i:Int)+1)=1):=by
          intro i hi
          by_cases e:i=q
          ·subst e;exact ud
          ·exact QZ.out i (by omega)
         have zAK:(((gs.count ((q:Int)+1):Nat):Int) != 1)=false:=by rw[ud];rfl
         clear ud;generalize gs.count ((q:Int)+1)=ct at *;go_wp2
         go_roundw
         case rel=>exact⟨q+1,by omega,by go_num,hinv,xL⟩
         case measure=>simp[intOf];omega
        ·have zAK:(((gs.count ((q:Int)+1):Nat):Int) != 1)=true:=by rw[bne_iff_ne];omega
         have H:zn (td (Gn:Int) bs=false):=by
          show _=_;have:MG (Gn:Int) gs=false:=by
           unfold MG;rw[List.all_eq_false];exact⟨q,by simpa using zAG,by simpa using ud⟩
          rw[HA.out,this];simp
         have eB:=hinv.below;clear HA ud;generalize gs.count ((q:Int)+1)=ct at *;go_wp2;go_ret;exact⟨dD H.out.symm,eB⟩
     ·have iV:¬((q:Int)+1<=(Gn:Int)):=by omega
      have ho:MG (Gn:Int) gs=true:=by
       unfold MG;rw[qQ];intro i hi;have:=QZ.out i (by simp at hi;omega);rw[this];rfl
      rw[ho,Cu]at HA;have qC:=P8 zvY.out bs.length (ax _);rw[th]at qC;have eB:=hinv.below;have qx:=kI.below eB;clear ho
      go_wp2_with fail
      refine(PH (Gn:Int) _ bs _ qx hsm zvY.out).mono ?_;rintro e w7 ⟨rfl,iC⟩;have zz3:=bi eB eB.size iC;go_wp2;go_ret;exact⟨dD (by rw[HA.out]),zz3⟩
section
attribute [local go_sem ↓] wp_at_zero wp_at_succ
section
variable {lo:Nat}{w w':zy}{v:zB}{rs:List dC}
def zgy(lo:Nat)(w:zy)(ao:Option Addr)(rs:List dC):Prop:=
 0<rs.length->∃b o,ao=zh ⟨b,o,za⟩/\lo<=b/\b<w.heap.size/\
  ∀i,i<rs.length->(∃bv,w.cell? ⟨b,o+i*2,za⟩=zh bv/\jd lo w bv (rs.getD i .zero).branches)/\w.cell? ⟨b,o+i*2+1,za⟩=zh (zi .i64 (rs.getD i .zero).jT)
def qJ(lo:Nat)(w:zy)(v:zB)(rs:List dC):Prop:=∃ao cap,v=.slice ao rs.length cap/\rs.length<=9223372036854775807/\zgy lo w ao rs
theorem qJ.same(h:qJ lo w v rs)(hb:Same lo w w'):qJ lo w' v rs:=by
 obtain⟨ao,cap,rfl,hm,h⟩:=h;refine⟨ao,cap,rfl,hm,λh0=>?_⟩;obtain⟨b,o,rfl,eK,hlt,hc⟩:=h h0;refine⟨b,o,rfl,eK,fR hlt hb.size,λi hi=>?_⟩;obtain⟨⟨bv,c0,hn⟩,c1⟩:=hc i hi;have hcell:∀off,w'.cell? ⟨b,off,za⟩=w.cell? ⟨b,off,za⟩:=λoff=>hb.cell (by exact eK) (by exact hlt)
 exact⟨⟨bv,(hcell _).trans c0,hn.same hb⟩,(hcell _).trans c1⟩
theorem qJ.below(h:qJ lo w v rs)(hb:zw w.heap.size w w'):qJ lo w' v rs:=h.same (.wT hb)
theorem qJ.mono{p6:Nat}(h:qJ lo w v rs)(hl:p6<=lo):qJ p6 w v rs:=by
 obtain⟨ao,cap,rfl,hm,h⟩:=h;refine⟨ao,cap,rfl,hm,λh0=>?_⟩;obtain⟨b,o,rfl,eK,hlt,hc⟩:=h h0;refine⟨b,o,rfl,by omega,hlt,λi hi=>?_⟩;obtain⟨⟨bv,c0,hn⟩,c1⟩:=hc i hi;exact⟨⟨bv,c0,hn.mono hl⟩,c1⟩
theorem zgy.elem{wr:zy}{ao:Option Addr}(h:zgy lo w ao rs)(hb:zw w.heap.size w wr){k:Nat}(hk:k<rs.length):
  ∃(b o:Nat) (bv:zB) (rd:dC),ao=zh ⟨b,o,za⟩/\zn (rs.getD k .zero=rd)/\b<w.heap.size/\wr.cell? ⟨b,o+k*2,za⟩=zh bv/\wr.cell? ⟨b,o+k*2+1,za⟩=zh (zi .i64 rd.jT)/\jd lo w bv rd.branches:=by
 obtain⟨b,o,rfl,_,hlt,hc⟩:=h (by omega);obtain⟨⟨bv,c0,hn⟩,c1⟩:=hc k hk;exact⟨b,o,bv,_,rfl,rfl,hlt,(hb.cell (by exact hlt)).trans c0,(hb.cell (by exact hlt)).trans c1,hn⟩
def JG(rs:List dC):Prop:=rs.length<=1048576/\∀k,k<rs.length->Small (rs.getD k .zero).branches
def vl(r:dC):Bool:=td r.jT r.branches
def vu:List dC->Int
 |[]=>0
 |r::rs=>gE r.branches+vu rs
theorem zp5(rs:List dC)(k:Nat)(hk:k<rs.length):vu (rs.take (k+1))=vu (rs.take k)+gE (rs.getD k .zero).branches:=by
 induction rs generalizing k with
 |nil=>exact absurd hk (dP _)
 |cons r rs ih=>
  cases k with
  |zero=>simp[vu]
  |succ k=>
   have:=ih k (by simpa using hk);simp only[gG,vu,this,List.getD_cons_succ];omega
def qf(rs:List dC):Bool:=decide (rs.length<=100)&&rs.all vl&&decide (vu rs<=4000)
theorem UE{r:dC}(h:vl r=true):qM r.branches/\0<=gE r.branches/\gE r.branches<=2000:=by
 unfold vl td at h;simp only[fQ,pF]at h;obtain⟨⟨⟨⟨⟨⟨h1,h2⟩,h3⟩,h4⟩,h5⟩,h6⟩,h7⟩:=h;have ha:=zn4 h4;have:=P8 ha r.branches.length (ax _);rw[th]at this;exact⟨ha,by omega,h7⟩
theorem zha(v:zB)(rs:List dC)(w:zy)(hs:qJ lo w v rs)(hsm:JG rs):
  zG prog 38 #[v] w λe W=>e=.returned (.bool (qf rs))/\zw w.heap.size w W:=by
 obtain⟨ao,cap,rfl,hm,hc⟩:=hs;have hl:=hsm.1
 by_cases Sr:rs.length<=100
 ·have aP:¬(100:Int)<(rs.length:Int):=by omega
  have HC:=ag hc;have M8:=ag hsm;clear hc hsm hl
  go_enter func38,ntmps38
  go_wp2_with fail
  go_loopw [3,11] (λsv i wr=>∃k:Nat,k<=rs.length/\i=zi .i64 k/\sv=zi .i64 (vu (rs.take k))/\zw w.heap.size w wr/\(rs.take k).all vl=true/\0<=vu (rs.take k)/\vu (rs.take k)<=2000*k) (λ_ i _=>rs.length-(intOf i).toNat)
  case atStart=>exact⟨0,bH _,rfl,by simp[vu],Below.refl _ _,rfl,by simp[vu],by simp[vu]⟩
  case round=>
   obtain⟨k,hk,rfl,rfl,hb,cj,yP,qD⟩:=hrel
   by_cases hlt:k<rs.length
   ·obtain⟨b,o,bv,rd,rfl,Ki,cQ,c0,c1,qx⟩:=HC.out.elem hb hlt;have fg:=zp5 rs k hlt;rw[Ki.out]at fg;have FK:=M8.out.2 k hlt;rw[Ki.out]at FK;obtain⟨bo,bc,rfl,re,tS⟩:=qx;have fk:(0:Int)<=(k:Int):=by omega
    have cG:(k:Int)<(rs.length:Int):=by omega
    have iU:b<wr.heap.size:=fR cQ hb.size;have bY:jd lo w (.slice bo rd.branches.length bc) rd.branches:=⟨bo,bc,rfl,re,tS⟩;obtain⟨W2,dY⟩:∃W2,wr.alloc (zx #[.slice bo rd.branches.length bc,zi .i64 rd.jT] 89)=W2:=⟨_,rfl⟩;have b2:zw wr.heap.size wr W2:=by rw[<-dY];exact aC
    have x2:W2.heap[wr.heap.size]?=zh (zx #[.slice bo rd.branches.length bc,zi .i64 rd.jT] 89 (0,0)):=by rw[<-dY];exact aU _ _
    have Wz:=bi hb hb.size b2;have cr:=zjz rd.jT (.slice bo rd.branches.length bc) rd.branches W2 (bY.below Wz) FK;have cw:∀W3,zw w.heap.size w W3->vl rd=true->zG prog 46 #[zD #[.slice bo rd.branches.length bc,zi .i64 rd.jT]] W3 λe W4=>e=.returned (zi .i64 (gE rd.branches))/\zw W3.heap.size W3 W4:=λW3 h3 h4=>PH rd.jT (.slice bo rd.branches.length bc) rd.branches W3 (bY.below h3) FK (UE h4).1
    obtain⟨q0,q1⟩:=dM x2;have od:=ag x2;have nB:=ag dY;have Vw:=ag fg;have uD:=ag Wz;have zwF:(rs.take (k+1)).all vl=vl rd:=by
     rw[List.take_add_one,vG,cj,bE hlt,<-Ki.out];simp[List.getD,hlt]
    have GL:=ag zwF;have hno:vl rd=false->qf rs=false:=λh=>by
     have:rs.all vl=false:=by
      rw[Bool.eq_false_iff];intro h2;have h3:=qQ.1 h2 rd (by rw[<-Ki.out];simp[List.getD,hlt]);rw[h]at h3;cases h3
     unfold qf;rw[this];simp
    have zL:=ag hno;have Lw:vl rd=td rd.jT rd.branches:=rfl;rw[<-Lw]at cr;have zxF:vl rd=true->0<=gE rd.branches/\gE rd.branches<=2000:=λh=>(UE h).2
    have HOB:=ag zxF;generalize lQ:vl rd=ok at *;generalize qC:gE rd.branches=rw1 at *;clear tS bY dY x2 fg Wz b2 hb cj zwF hno Lw lQ FK re zxF
    go_upto_region 7 with fail
    rw[nB.out];clear nB c0 c1;cases ok
    ·go_wp2_with fail
     refine cr.mono ?_;rintro e W3 ⟨rfl,b3⟩;go_wp2;go_ret;exact⟨by rw[zL.out (by simp)];rfl,bi uD.out uD.out.size b3⟩
    ·go_wp2_with fail
     refine cr.mono ?_;rintro e W3 ⟨rfl,b3⟩;have WC:=bi uD.out uD.out.size b3;obtain⟨q0,q1⟩:=dM ((b3.block _ (az od.out)).trans od.out);have cw3:=cw W3 WC (by simp);have CD:=ag WC;obtain⟨OV,iX⟩:=HOB.out (by simp);generalize OY:vu (rs.take k)=ss at *;have BZ:IntKind.i64.wrap (ss+rw1)=ss+rw1:=by rw[IntKind.wrap_i64];omega
     clear cr cw WC b3 OY
     go_wp2_with fail
     refine cw3.mono ?_;rintro e W4 ⟨rfl,b4⟩;clear cw3;go_wp2
     go_roundw
     case rel=>exact⟨k+1,by omega,by go_num,by rw[Vw.out],bi CD.out CD.out.size b4,GL.out,by rw[Vw.out];omega,by rw[Vw.out];omega⟩
     case measure=>simp[intOf];omega
   ·have cI:k=rs.length:=by omega
    rw[cI,th]at cj yP qD ⊢;have hne:¬(rs.length:Int)<(rs.length:Int):=by omega
    have HB:=ag hb;have fV:qf rs=decide (vu rs<=4000):=by unfold qf;rw[cj];simp[Sr]
    have HLB:=ag fV;clear hb fV;go_wp2;go_ret;exact⟨by rw[HLB.out];rfl,HB.out⟩
 ·have aP:(100:Int)<(rs.length:Int):=by omega
  have:qf rs=false:=by unfold qf;simp[Sr]
  rw[this];clear this hc hsm
  go_enter func38,ntmps38
  go_wp2;go_ret;exact⟨rfl,Below.refl _ _⟩
end
section
variable {n:Nat}
theorem ziB{w:zy}{B:Nat}{e:TypeId}{g cap:Nat}{xs:List zB}(h:w.ownsRow B e 1 (zp (zh ⟨g,0,za⟩) n cap) n xs):B<=g/\∃cs,w.heap[g]?=zh (zx cs e (0,0))/\∀i,i<n->cs[i]?=xs[i]?:=by
 rcases h.2 with ⟨h,_⟩|⟨g',cap',cr,h,hg,ff,_,_,hsz,jH⟩
 ·cases h
 ·cases h
  refine⟨hg,cr,ff,λi hi=>?_⟩;rw[<-jH];rw[List.getElem?_take,ae (by omega)];simp
theorem zpr(w0:zy)(bol eol:Bool)(ao:Option Addr)(c:Nat)(ns:List aI)(w:zy)(hs:nX 0 w0 (.slice ao ns.length c) ns)(aG:zw w0.heap.size w0 w)(hn:ns.length<=1048576)(hk:kP ns=true):
  zG prog 54 #[zD #[.bool bol,.bool eol,.slice ao ns.length c],.string ⟨#[]⟩] w λr w'=>zw w.heap.size w w'/\∃gl cl gr cr,r=.returned (zD #[.slice ao ns.length c,zp (zh ⟨gl,0,za⟩) ns.length cl,zp (zh ⟨gr,0,za⟩) ns.length cr,.string ⟨#[]⟩])/\Bf w0 w' ns (.slice ao ns.length c) gl gr:=by
 obtain⟨W0,ay⟩:∃W0,(w.alloc (zx #[.bool bol,.bool eol,.slice ao ns.length c] 107)).alloc (zx #[zp za 0 0,zp za 0 0,zp za 0 0,.string ⟨#[]⟩] 110)=W0:=⟨_,rfl⟩;have hb:zw w.heap.size w W0:=by rw[<-ay];exact(aC).alloc (by simp) _
 have k0:W0.heap[w.heap.size]?=zh (zx #[.bool bol,.bool eol,.slice ao ns.length c] 107 (0,0)):=by rw[<-ay];exact JA (aU _ _)
 have k1:W0.heap[w.heap.size+1]?=zh (zx #[zp za 0 0,zp za 0 0,zp za 0 0,.string ⟨#[]⟩] 110 (0,0)):=by rw[<-ay];exact UD _ _ _
 have q2:W0.cell? ⟨w.heap.size,2,za⟩=zh (.slice ao ns.length c):=(dt _ _ _ _ _ _ k0:W0.cell? ⟨w.heap.size,2,za⟩=_);have ck:=zlH _ ns W0 (hs.below (bi aG aG.size hb)) hn;have bQ:=ag ay;have HB:=ag hb;have HK0:=ag k0;have Ve:=ag k1;have HS:=ag hs;clear ay hb k0 k1 hs aG
 go_enter func54,ntmps54
 go_upto_region 1 with fail
 rw[bQ.out];clear bQ
 go_wp2_with fail
 refine ck.mono ?_;rintro e w1 ⟨aP,h|⟨-,gl,cl,gr,cr,rfl,ol,or_,-⟩⟩
 ·rw[hk]at h;cases h.1
 have p0:=(aP.block _ (az HK0.out)).trans HK0.out;have p1:=(aP.block _ (az Ve.out)).trans Ve.out;have q2:w1.cell? ⟨w.heap.size,2,za⟩=zh (.slice ao ns.length c):=(dt _ _ _ _ _ _ p0:w1.cell? ⟨w.heap.size,2,za⟩=_);obtain⟨d0,d1,d2,d3⟩:=eu p1;obtain⟨f0,f1,f2,f3⟩:=zoF p1;obtain⟨jU,cs,oA,dT⟩:=ziB ol;obtain⟨kZ,uT,iX,sF⟩:=ziB or_;have yP:=az Ve.out;have Ll:∀(g:Nat) (o:Obj),w1.heap[g]?=zh o->W0.heap.size<=g->((((w1.setCell ⟨w.heap.size+1,0,za⟩ (.slice ao ns.length c)).setCell ⟨w.heap.size+1,1,za⟩ (zp (zh ⟨gl,0,za⟩) ns.length cl)).setCell ⟨w.heap.size+1,2,za⟩ (zp (zh ⟨gr,0,za⟩) ns.length cr)).setCell ⟨w.heap.size+1,3,za⟩ (.string ⟨#[]⟩)).heap[g]?=zh o:=λg o e hg=>by
  have hne:g≠w.heap.size+1:=by omega
  rw[Below.heap_setCell _ _ _ _ hne,Below.heap_setCell _ _ _ _ hne,Below.heap_setCell _ _ _ _ hne,Below.heap_setCell _ _ _ _ hne];exact e
 have jQ:=ag (Ll _ _ oA jU);have HR1:=ag (Ll _ _ iX kZ);have jD:=ag dT;have vO:=ag sF;have bl1:=bi HB.out HB.out.size aP;have eB:zw w.heap.size w ((((w1.setCell ⟨w.heap.size+1,0,za⟩ (.slice ao ns.length c)).setCell ⟨w.heap.size+1,1,za⟩ (zp (zh ⟨gl,0,za⟩) ns.length cl)).setCell ⟨w.heap.size+1,2,za⟩ (zp (zh ⟨gr,0,za⟩) ns.length cr)).setCell ⟨w.heap.size+1,3,za⟩ (.string ⟨#[]⟩)):=by
  iterate 4 refine Below.setCell ?_ (by simp) _
  exact bl1
 have zF:=ag eB;clear Ll oA iX dT sF bl1 eB ol or_ p0 p1 ck aP;go_wp2;refine bw (v:=zD #[.slice ao ns.length c,zp (zh ⟨gl,0,za⟩) ns.length cl,zp (zh ⟨gr,0,za⟩) ns.length cr,.string ⟨#[]⟩]) (by simp[results,results54,go_sem,d0,d1,d2,d3]) rfl ⟨zF.out,gl,cl,gr,cr,rfl,HS.out,⟨cs,jQ.out,λi hi=>?_⟩,uT,HR1.out,λi hi=>?_⟩
 ·rw[jD.out i hi];simp[ui,hi]
 ·rw[vO.out i hi];simp[uj,hi]
def xy(b:cX):Pt:=cd b.nodes (b.nodes.length-1)
def xF(i:Nat)(bs:List cX):List dm:=bs.map λb=>⟨i,b.bol,b.eol,iL (xy b)⟩
def fw(i:Nat):List dC->List dm
 |[]=>[]
 |r::rs=>xF i r.branches++fw (i+1) rs
def pJ:List cX->Nat
 |[]=>0
 |b::bs=>eI (xy b)+pJ bs
def oZ:List dC->Nat
 |[]=>0
 |r::rs=>pJ r.branches+oZ rs
theorem zqq(rs:List dC)(r:dC):∀i,fw i (rs++[r])=fw i rs++xF (i+rs.length) r.branches:=by
 induction rs with
 |nil=>intro i;simp[fw]
 |cons x rs ih=>intro i;simp only[List.cons_append,fw,ih,jA,iG];rw[show i+1+rs.length=i+(rs.length+1) by omega]
theorem zqr(rs:List dC){k:Nat}(hk:k<rs.length):fw 0 (rs.take (k+1))=fw 0 (rs.take k)++xF k (rs.getD k .zero).branches:=by
 rw[List.take_add_one,bE hk,Option.toList_some,zqq,nr,Nat.min_eq_left (by omega),jB];simp[List.getD,hk]
theorem zm8(i:Nat)(bs:List cX){j:Nat}(hj:j<bs.length):(xF i bs).take (j+1)=(xF i bs).take j++[⟨i,(bs.getD j .zero).bol,(bs.getD j .zero).eol,iL (xy (bs.getD j .zero))⟩]:=by
 unfold xF;rw[List.take_add_one];simp[List.getD,hj]
theorem zjO:∀(bs:List cX) {j:Nat},j<bs.length->pJ (bs.take (j+1))=pJ (bs.take j)+eI (xy (bs.getD j .zero))
 |[],j,h=>absurd h (dP _)
 |b::bs,0,_=>by simp[pJ]
 |b::bs,j+1,h=>by
  have:=zjO bs (j:=j) (by simpa using h);simp only[gG,pJ,this,List.getD_cons_succ];omega
theorem zjP:∀(rs:List dC) {k:Nat},k<rs.length->oZ (rs.take (k+1))=oZ (rs.take k)+pJ (rs.getD k .zero).branches
 |[],j,h=>absurd h (dP _)
 |b::bs,0,_=>by simp[oZ]
 |b::bs,j+1,h=>by
  have:=zjP bs (k:=j) (by simpa using h);simp only[gG,oZ,this,List.getD_cons_succ];omega
theorem zok:∀(bs:List cX) (j:Nat),pJ (bs.take j)<=pJ bs
 |[],j=>by simp[pJ]
 |b::bs,0=>by simp[pJ]
 |b::bs,j+1=>by have:=zok bs j;simp only[gG,pJ];omega
theorem zom:∀(rs:List dC) (k:Nat),oZ (rs.take k)<=oZ rs
 |[],j=>by simp[oZ]
 |b::bs,0=>by simp[oZ]
 |b::bs,j+1=>by have:=zom bs j;simp only[gG,oZ];omega
structure EI(w0:zy)(Ns:List bO)(X:Xs):Prop where
 tr:∀(k:Nat) (x:nw×GT),X[k]?=zh x->mC w0 Ns x.2 x.1.jc
 cR:Gm X Ns.length
 al:zvD Ns X
theorem EI.nil(w0:zy):EI w0 [] []:=⟨λk x h=>by simp at h,⟨λk k' x x' i i' h=>by simp at h,λk x i h=>by simp at h⟩,λi x h=>by simp at h⟩
theorem EI.snoc{w0:zy}{Ns Ms:List bO}{X:Xs}{M:GA}{T:GT}(h:EI w0 Ns X)(t:j8 w0 Ns Ms M n T)(b:nw)(hb:b.jc=Ns.length+Ms.length-1):EI w0 (Ns++Ms) (X++[(b,T)]):=by
 have get:∀(k:Nat) (x:nw×GT),(X++[(b,T)])[k]?=zh x->(k<X.length/\X[k]?=zh x)\/(k=X.length/\x=(b,T)):=λk x hx=>by
  rcases jP k X.length with q|q
  ·rw[rU q]at hx;exact .inl ⟨q,hx⟩
  ·rw[vH q]at hx;have:k-X.length<1:=by
    have:=(n5.1 hx).1
    simpa using this
   have e:k=X.length:=by omega
   subst e;simp at hx;exact .inr ⟨rfl,hx.symm⟩
 refine⟨λk x hx=>?_,⟨λk k' x x' i i' hx FO hi qy he=>?_,λk x i hx hi=>?_⟩,λi x hx=>?_⟩
 ·rcases get k x hx with ⟨_,h1⟩|⟨_,rfl⟩
  ·exact(h.tr k x h1).more Ms
  ·show mC w0 (Ns++Ms) T b.jc;rw[hb];exact t.at_
 ·rcases get k x hx with ⟨_,h1⟩|⟨rfl,rfl⟩<;>rcases get k' x' FO with ⟨_,zZ⟩|⟨rfl,rfl⟩
  ·exact h.cR.inj k k' x x' i i' h1 zZ hi qy he
  ·have:=h.cR.lt k x i h1 hi;have:=(t.lb.AW i' qy).1;have he:x.2.at i=T.at i':=he;omega
  ·have:=h.cR.lt k' x' i' zZ qy;have:=(t.lb.AW i hi).1;have he:T.at i=x'.2.at i':=he;omega
  ·exact⟨rfl,t.lb.inj i i' hi qy he⟩
 ·rw[a6];rcases get k x hx with ⟨_,h1⟩|⟨rfl,rfl⟩
  ·have:=h.cR.lt k x i h1 hi;omega
  ·exact(t.lb.AW i hi).2
 ·rcases jP i Ns.length with q|q
  ·rw[rU q]at hx;rcases h.al i x hx with ⟨e,k,y,j,h1,h2,h3⟩|e
   ·exact .inl ⟨e,k,y,j,by rw[rU (n5.1 h1).1];exact h1,h2,h3⟩
   ·exact .inr e
  ·have hl:=(n5.1 hx).1;rw[a6]at hl;rcases t.lb.all i x q hl hx with ⟨e,j,h2,h3⟩|e
   ·exact .inl ⟨e,X.length,(b,T),j,by simp,h2,h3⟩
   ·exact .inr e
end
end
end Go.Proofs.Ytfajjdgkiilhfaa
