import Derived.Test.YtfajjdgkiilhfaaGreatDoorC18
namespace Go.Proofs.YtfajjdgkiilhfaaGreatDoor
open Proofs.Tryz
open Option renaming none->za,some->zb
open Value renaming int->zc,slice->zf,agg->zk
open RowKit renaming Hid->ze,Below->zg
open Obj renaming cells->zh
open Go renaming World->zi,Value->zj,Calls->zm
set_option maxHeartbeats 4000000
set_option maxRecDepth 100000
open Go.RowKit
def qP(bs:List dc):Prop:=∀i,i<bs.length->kL (bs.getD i .zero).nodes=true/\(bs.getD i .zero).nodes.all bk=true
def IH(b:dc):Int:=fp b.nodes (b.nodes.length-1)
def gG:List dc->Int
 |[]=>0
 |b::bs=>IH b+gG bs
theorem zjq(bs:List dc)(k:Nat)(hk:k<bs.length):gG (bs.take (k+1))=gG (bs.take k)+IH (bs.getD k .zero):=by
 induction bs generalizing k with
 |nil=>exact absurd hk (fw _)
 |cons b bs ih=>
  cases k with
  |zero=>simp[gG,List.getD]
  |succ k=>
   have:=ih k (by simpa using hk);simp only[mz,gG,List.getD_cons_succ]at this ⊢;omega
theorem zom{b:dc}(hk:kL b.nodes=true)(pN:∀i,i<b.nodes.length->aP (dT b.nodes i)<=(aN b.nodes i).length)(hb:b.nodes.all bk=true):1<=IH b/\IH b<=2001:=by
 obtain⟨hp,_⟩:=znU b.nodes hk pN hb;exact De b.nodes pN hb (b.nodes.length) (b.nodes.length-1) (by omega) (by omega)
theorem znM:∀(ns pre:List aC) (d:Nat),gF ns (aN (pre++ns) pre.length).length=zb d->∀i,pre.length<=i->i<pre.length+ns.length->aP (dT (pre++ns) i)<=(aN (pre++ns) i).length
 |[],pre,_,_,i,h1,h2=>by simp at h2;omega
 |n::ns,pre,d,h,i,h1,h2=>by
  have zy5:dT (pre++n::ns) pre.length=n.kind:=by simp[dT,List.getD_eq_getElem?_getD]
  unfold gF at h
  by_cases hc:(aN (pre++n::ns) pre.length).length<aP n.kind
  ·rw[af hc]at h;cases h
  ·rw[ab hc]at h
   by_cases e:i=pre.length
   ·subst e;rw[zy5];omega
   ·have e1:pre++n::ns=(pre++[n])++ns:=by simp
    have hl:=zrH (pre++n::ns) pre.length;rw[zy5]at hl;rw[<-hl]at h;have:=znM ns (pre++[n]) d (by rw[<-e1];simpa using h) i (by simp;omega) (by simp at h2 ⊢;omega);rwa[<-e1]at this
theorem TH{ns:List aC}(h:kL ns=true):∀i,i<ns.length->aP (dT ns i)<=(aN ns i).length:=by
 intro i hi;unfold kL at h;exact znM ns [] 1 (eq_of_beq h) i (dz _) (by simpa using hi)
theorem OS{bs:List dc}(h:qP bs):∀k,k<=bs.length->0<=gG (bs.take k)/\gG (bs.take k)<=k*2001
 |0,_=>by simp[gG]
 |k+1,hk=>by
  have h1:=OS h k (by omega);obtain⟨h2,h3⟩:=h k (by omega);have h4:=zom h2 (TH h2) h3;rw[zjq bs k (by omega)];omega
theorem Oq{lo:Nat}(G:Int)(v:zj)(bs:List dc)(w:zi)(hs:iQ lo w v bs)(hsm:Small bs)(nL:qP bs):
  zm prog 61 #[zk #[v,zc .i64 G]] w λe w'=>e=.returned (zc .i64 (gG bs))/\zg w.heap.size w w':=by
 obtain⟨ao,cap,rfl,hm,hc⟩:=hs;have hn:=hsm.1;have Vy:ze _:=nL;clear nL
 go_enter func61,ntmps61
 go_wp2
 go_loopw [3,9] (λs i wr=>∃k:Nat,k<=bs.length/\i=zc .i64 k/\s=zc .i64 (gG (bs.take k))/\zg w.heap.size w wr)
  (λ_ i _=>bs.length-(intOf i).toNat)
 case atStart=>exact⟨0,dz _,rfl,rfl,ax⟩
 case round=>
  obtain⟨k,hk,rfl,rfl,hb⟩:=hrel;have hrb:=OS Vy.out k hk
  by_cases hlt:k<bs.length
  ·obtain⟨b,o,nv,bd,rfl,Hn,bF,c0,c1,c2,GZ⟩:=hc.elem hb hlt;have jp:bd.nodes.length<=1048576:=by have:=(hsm.2 k hlt).1;rw[Hn.out]at this;exact this
   have vW:kL bd.nodes=true:=by have:=(Vy.out k hlt).1;rw[Hn.out]at this;exact this
   have JN:bd.nodes.all bk=true:=by have:=(Vy.out k hlt).2;rw[Hn.out]at this;exact this
   have CB:=zom vW (TH vW) JN;obtain⟨oL,oM,rfl,pi,sj⟩:=GZ;have fW:zg w.heap.size w (wr.alloc (zh #[.bool bd.bol,.bool bd.eol,.slice oL bd.nodes.length oM] 115)):=hb.alloc hb.size _;have Sb:og lo (wr.alloc (zh #[.bool bd.bol,.bool bd.eol,.slice oL bd.nodes.length oM] 115)) (.slice oL bd.nodes.length oM) bd.nodes:=og.below ⟨_,_,rfl,pi,sj⟩ (ax);have HT:ze _:=zjq bs k hlt;rw[Hn.out]at HT;generalize gG (bs.take k)=s at *;have HL:ze (fp bd.nodes (bd.nodes.length-1)=IH bd):=rfl
   go_wp2_with fail
   refine(zrX _ bd.nodes _ Sb jp vW JN).mono ?_;rintro e w2 ⟨rfl,aB⟩;rw[HL.out];clear vW JN;generalize IH bd=wl at *;have AW:IntKind.i64.wrap (s+wl)=s+wl:=by rw[IntKind.wrap_i64];omega
   go_wp2
   go_roundw
   case rel=>exact⟨k+1,by omega,by go_num,by rw[HT.out],aH fW fW.size aB⟩
   case measure=>simp[intOf];omega
  ·go_wp2;go_ret;exact⟨ew (by rw[sX (by omega)]),hb⟩
section
variable {w wr w1:zi}{v:zj}{G:Int}{gg cc:Nat}{gs:List Int}
def AC(bs:List dc):Bool:=bs.all λb=>kL b.nodes&&b.nodes.all bk
def LD(G:Int)(gs:List Int):Bool:=(List.range G.toNat).all λi=>gs.count ((i:Int)+1)==1
def sV(G:Int)(bs:List dc):Bool:=
 decide (1<=bs.length/\bs.length<=2000)&&decide (0<=G/\G<=500)&&decide (lT bs<=5000)&&AC bs&&(((qO bs).length:Int)==G)&&LD G (qO bs)&&decide (gG bs<=2000)
theorem zsC(ns:List aC)(j:Nat)(hj:j<ns.length)(nd:aC)(h:ns.getD j .zero=nd):dX (ns.take (j+1))=dX (ns.take j)++(if nd.kind=5 then [nd.group] else []):=by
 induction ns generalizing j with
 |nil=>exact absurd hj (fw _)
 |cons n ns ih=>
  cases j with
  |zero=>
   have:n=nd:=by simpa [List.getD]using h
   subst this;simp only[mz,vk,dX,List.nil_append]
  |succ j=>
   have:=ih j (by simpa using hj) (by simpa [List.getD]using h);simp only[mz,dX]at this ⊢;rw[this];split<;>simp
theorem zml(bs:List dc)(k:Nat)(hk:k<bs.length)(bd:dc)(h:bs.getD k .zero=bd):qO (bs.take (k+1))=qO (bs.take k)++dX bd.nodes:=by
 induction bs generalizing k with
 |nil=>exact absurd hk (fw _)
 |cons b bs ih=>
  cases k with
  |zero=>
   have:b=bd:=by simpa [List.getD]using h
   subst this;simp[qO]
  |succ k=>
   have:=ih k (by simpa using hk) (by simpa [List.getD]using h);simp only[mz,qO]at this ⊢;rw[this,gJ]
theorem zmO:∀ns:List aC,(dX ns).length<=ns.length
 |[]=>aq _
 |n::ns=>by have:=zmO ns;unfold dX;split<;>simp<;>omega
theorem ZO:∀bs:List dc,(qO bs).length<=lT bs
 |[]=>aq _
 |b::bs=>by have:=ZO bs;have:=zmO b.nodes;unfold qO lT;simp;omega
theorem zlx(bs:List dc)(k:Nat):lT (bs.take k)<=lT bs:=by
 induction bs generalizing k with
 |nil=>simp
 |cons b bs ih=>
  cases k with
  |zero=>simp[lT]
  |succ k=>have:=ih k;simp only[mz,lT];omega
theorem zpx(bs:List dc)(k:Nat)(hk:k<bs.length)(bd:dc)(h:bs.getD k .zero=bd)(hf:(kL bd.nodes&&bd.nodes.all bk)=false):AC bs=false:=by
 unfold AC;rw[List.all_eq_false];refine⟨bs[k],gA _,?_⟩;have:bs[k]=bd:=by rw[<-h];simp[List.getD,hk]
 rw[this,hf];simp
theorem zpz(bs:List dc)(k:Nat)(hk:k<bs.length)(bd:dc)(h:bs.getD k .zero=bd)(ht:AC (bs.take k)=true)(hf:(kL bd.nodes&&bd.nodes.all bk)=true):AC (bs.take (k+1))=true:=by
 unfold AC at *;rw[oh hk,vo,ht];have:bs[k]=bd:=by rw[<-h];simp[List.getD,hk]
 simp only[List.all_cons,List.all_nil,this,hf,Bool.and_true]
theorem zm5(ns:List aC)(j:Nat)(hj:j<ns.length)(nd:aC)(h:ns.getD j .zero=nd)(hf:bk nd=false):ns.all bk=false:=by
 rw[List.all_eq_false];refine⟨ns[j],gA _,?_⟩;have:ns[j]=nd:=by rw[<-h];simp[List.getD,hj]
 rw[this,hf];simp
theorem zpg(ns:List aC)(j:Nat)(hj:j<ns.length)(nd:aC)(h:ns.getD j .zero=nd)(ht:(ns.take j).all bk=true)(hf:bk nd=true):(ns.take (j+1)).all bk=true:=by
 rw[oh hj,vo,ht];have:ns[j]=nd:=by rw[<-h];simp[List.getD,hj]
 simp only[List.all_cons,List.all_nil,this,hf,Bool.and_true]
theorem zpy{bs:List dc}(h:AC bs=true):qP bs:=by
 intro i hi;have:=jR.1 h (bs.getD i .zero) (by
  rw[bJ,bE hi];exact gA _)
 simpa using this
theorem zoJ(gs:List Int)(j:Nat)(hj:j<gs.length)(x:Int):(gs.take (j+1)).count x=(gs.take j).count x+(if gs.getD j 0=x then 1 else 0):=by
 rw[oh hj,List.count_append];simp[List.getD,hj,List.count_cons]
def EW(gs:List Int):List zj:=gs.map (Value.int .i64)
theorem zrp(gs:List Int)(x:Int):EW (gs++[x])=EW gs++[zc .i64 x]:=by simp[EW]
theorem zta(gs:List Int)(i:Nat)(h:i<gs.length):(EW gs)[i]?=zb (zc .i64 (gs.getD i 0)):=by simp[EW,h,List.getD]
structure tn(w wr:zi)(v:zj)(G:Int)(gg cc:Nat)(gs:List Int):Prop where
 below:zg w.heap.size w wr
 Jk:wr.cell? ⟨w.heap.size,0,za⟩=zb v
 Qx:wr.cell? ⟨w.heap.size,1,za⟩=zb (zc .i64 G)
 row:wr.ownsRow (w.heap.size+1) 3 1 (zf (zb ⟨gg,0,za⟩) gs.length cc) gs.length (EW gs)
 size:w.heap.size+1<=wr.heap.size
theorem tn.same(h:tn w wr v G gg cc gs)(hb:zg wr.heap.size wr w1):tn w w1 v G gg cc gs:=
 ⟨aH h.below (cY (Nat.le_succ _) h.size) hb,(hb.cell (by have:=h.size;simp;omega)).trans h.Jk,(hb.cell (by have:=h.size;simp;omega)).trans h.Qx,vb h.row hb,cY h.size hb.size⟩
theorem tn.alloc(h:tn w wr v G gg cc gs)(o:Obj):tn w (wr.alloc o) v G gg cc gs:=h.same (ax)
theorem tn.grown{g' c':Nat}{x:Int}(h:tn w wr v G gg cc gs)(hg:wr.grownBy w1 (zb gg))(ho:w1.ownsRow (w.heap.size+1) 3 1 (zf (zb ⟨g',0,za⟩) (gs.length+1) c') (gs.length+1) (EW gs++[zc .i64 x])):tn w w1 v G g' c' (gs++[x]):=by
 have hgg:=(qd h.row).1;have hs:=h.size;refine⟨h.below.grown hg (by omega) (by intro q hq;cases hq;omega),?_,?_,by simpa [zrp]using ho,cY h.size hg.size⟩
 ·exact(hg.cell_far _ (by simp;omega) (by simp;omega)).trans h.Jk
 ·exact(hg.cell_far _ (by simp;omega) (by simp;omega)).trans h.Qx
end
theorem zkn{lo:Nat}(G:Int)(v:zj)(bs:List dc)(w:zi)(hs:iQ lo w v bs)(hsm:Small bs):
  zm prog 66 #[zk #[v,zc .i64 G]] w λe w'=>e=.returned (.bool (sV G bs))/\zg w.heap.size w w':=by
 have hn:=hsm.1;have pj:=hs;obtain⟨ao,cap,rfl,hm,hc⟩:=hs;have aD:zg w.heap.size w (w.alloc (zh #[.slice ao bs.length cap,zc .i64 G] 101)):=ax
 by_cases h1:aG (bs.length:Int) 1 2000=false
 ·have H:ze (sV G bs=false):=by
   show _=_;have:decide (1<=bs.length/\bs.length<=2000)=false:=by simp[aG]at h1;simp;omega
   simp[sV,this]
  go_enter func66,ntmps66
  go_wp2_with (go_at_call 45;refine(ln _ _ _ _).mono ?_;rintro e w' ⟨rfl,rfl⟩)
  go_ret
  exact⟨cU H.out.symm,aD⟩
 have BX:aG (bs.length:Int) 1 2000=true:=by simpa using h1
 clear h1
 by_cases h2:aG G 0 500=false
 ·have H:ze (sV G bs=false):=by
   show _=_;have:decide (0<=G/\G<=500)=false:=by simp[aG]at h2;simp;omega
   simp[sV,this]
  go_enter func66,ntmps66
  go_wp2_with (go_at_call 45;refine(ln _ _ _ _).mono ?_;rintro e w' ⟨rfl,rfl⟩)
  go_ret
  exact⟨cU H.out.symm,aD⟩
 have Wj:aG G 0 500=true:=by simpa using h2
 clear h2;have hlen:1<=bs.length/\bs.length<=2000:=by simp[aG]at BX;omega
 have hG:0<=G/\G<=500:=by simp[aG]at Wj;omega
 obtain⟨zd,WJ⟩:=hG;have HA:ze (sV G bs=(decide (lT bs<=5000)&&AC bs&&(((qO bs).length:Int)==G)&&LD G (qO bs)&&decide (gG bs<=2000))):=by
  show _=_;have e1:decide (1<=bs.length/\bs.length<=2000)=true:=by simp;omega
  have e2:decide (0<=G/\G<=500)=true:=by simp;omega
  unfold sV;rw[e1,e2,Ag,Ag]
 obtain⟨i0,hi,da,dt,cR⟩:=info_parts Tryz.pX
 go_enter func66,ntmps66
 go_wp2_with (go_at_call 45;refine(ln _ _ _ _).mono ?_;rintro e w' ⟨rfl,rfl⟩)
 have zyZ:tn w ((w.alloc (zh #[.slice ao bs.length cap,zc .i64 G] 101)).alloc (zh #[] 3)) (.slice ao bs.length cap) G (w.heap.size+1) 0 []:=⟨aD.alloc aD.size _,by simp,by simp,KH _ _ _ _ (by omega) (by simp),by simp⟩
 go_loopw [3,33] (λs i wr=>∃k:Nat,k<=bs.length/\i=zc .i64 k/\s=zc .i64 (lT (bs.take k))/\tn w wr (.slice ao bs.length cap) G (w.heap.size+1) 0 [])
  (λ_ i _=>bs.length-(intOf i).toNat)
 case atStart=>exact⟨0,dz _,rfl,rfl,zyZ⟩
 case round=>
  clear zyZ;obtain⟨k,hk,rfl,rfl,hinv⟩:=hrel;have mP:=zgw hsm k hk
  by_cases hlt:k<bs.length
  ·obtain⟨b,o,nv,bd,rfl,Hn,bF,c0,c1,c2,GZ⟩:=hc.elem hinv.below hlt;have jp:bd.nodes.length<=1048576:=by have:=(hsm.2 k hlt).1;rw[Hn.out]at this;exact this
   obtain⟨oL,oM,rfl,pi,sj⟩:=GZ;have HT:ze _:=Zv bs k hlt;rw[Hn.out]at HT;generalize lT (bs.take k)=s at *;go_wp2
   go_roundw
   case rel=>exact⟨k+1,by omega,by go_num,by rw[HT.out];go_num,hinv.alloc _⟩
   case measure=>simp[intOf];omega
  have cC:bs.take k=bs:=sX (by omega);rw[cC]at mP ⊢;clear cC
  by_cases h5:5000<(lT bs:Int)
  ·have H:ze (sV G bs=false):=by
    show _=_;have:decide (lT bs<=5000)=false:=by simp;omega
    rw[HA.out,this];simp
   have bW:=hinv.below;have lM:=hinv.Jk;clear HA;go_wp2;go_ret;exact⟨cU H.out.symm,bW⟩
  have h5':lT bs<=5000:=by omega
  have e5:decide (lT bs<=5000)=true:=by simpa using h5'
  rw[e5,Ag]at HA;clear e5 mP;have lM:=hinv.Jk;go_wp2;generalize nH:lT bs=cn at *;have Hcn:ze _:=nH;clear nH
  go_loopw [4,48] (λs i wr=>∃(k gg cc:Nat),k<=bs.length/\i=zc .i64 k/\s=zf (zb ⟨gg,0,za⟩) (qO (bs.take k)).length cc/\tn w wr (.slice ao bs.length cap) G gg cc (qO (bs.take k))/\ze (AC (bs.take k)=true))
   (λ_ i _=>bs.length-(intOf i).toNat)
  case atStart=>exact⟨0,w.heap.size+1,0,dz _,rfl,rfl,hinv,rfl⟩
  case round=>
   clear hinv lM;obtain⟨k2,gg,cc,bu,rfl,rfl,hinv,qs⟩:=hrel
   by_cases ry:k2<bs.length
   ·obtain⟨b,o,nv,bd,rfl,Hn,bF,q0,q1,q2,GZ⟩:=hc.elem (Below.refl _ _) ry;have c0:=(hinv.below.cell (p:=⟨b,o+k2*3,za⟩) bF).trans q0;have c1:=(hinv.below.cell (p:=⟨b,o+k2*3+1,za⟩) bF).trans q1;have c2:=(hinv.below.cell (p:=⟨b,o+k2*3+2,za⟩) bF).trans q2;clear q0 q1 q2;have jp:bd.nodes.length<=1048576:=by have:=(hsm.2 k2 ry).1;rw[Hn.out]at this;exact this
    have iK:(qO (bs.take k2)).length+bd.nodes.length<=5000:=by
     have e1:=ZO (bs.take k2);have e2:=Zv bs k2 ry;have e3:=zlx bs (k2+1);rw[Hn.out]at e2;rw[Hcn.out]at e3;omega
    obtain⟨oL,oM,rfl,pi,sj⟩:=GZ;have RI:=hinv.alloc (zh #[.bool bd.bol,.bool bd.eol,.slice oL bd.nodes.length oM] 115);have Sb:og lo (wr.alloc (zh #[.bool bd.bol,.bool bd.eol,.slice oL bd.nodes.length oM] 115)) (.slice oL bd.nodes.length oM) bd.nodes:=og.below ⟨_,_,rfl,pi,sj⟩ RI.below;generalize RF:qO (bs.take k2)=Ea at *;have Hgs:ze _:=RF;clear RF
    go_wp2_with fail
    refine(zmX _ bd.nodes _ Sb jp).mono ?_;rintro e w2 ⟨aB,⟨hkf,lv,rv,rfl⟩|⟨hkt,gl,cl,gr,cr,rfl,_,_,_⟩⟩
    ·have H:ze (sV G bs=false):=by
      show _=_;rw[HA.out,zpx bs k2 ry bd Hn.out (by rw[hkf];rfl)];simp
     have bW:=(RI.same aB).below;clear HA hkf;go_wp2;go_ret;exact⟨cU H.out.symm,bW⟩
    have Hkt:ze _:=hkt;clear hkt;have d2:w2.cell? ⟨wr.heap.size,2,za⟩=zb (.slice oL bd.nodes.length oM):=(aB.cell (by simp)).trans (by simp);have zy0:=RI.same aB;clear hinv RI Sb aB c0 c1 c2;go_wp2
    go_loopw [4,64] (λs i wr=>∃(j gg cc:Nat),j<=bd.nodes.length/\i=zc .i64 j/\s=zf (zb ⟨gg,0,za⟩) (Ea++dX (bd.nodes.take j)).length cc/\tn w wr (zf (zb ⟨b,o,za⟩) bs.length cap) G gg cc (Ea++dX (bd.nodes.take j))/\ze ((bd.nodes.take j).all bk=true))
     (λ_ i _=>bd.nodes.length-(intOf i).toNat)
    case atStart=>exact⟨0,gg,cc,dz _,rfl,by simp[dX],by simpa [dX]using zy0,rfl⟩
    case round=>
     clear zy0 d2;obtain⟨j,g3,c3,hj,rfl,rfl,Nm,Vi⟩:=hrel;have RW:(Ea++dX (bd.nodes.take j)).length<=5000:=by
      have:=zmO (bd.nodes.take j);simp at this ⊢;omega
     by_cases Nt:j<bd.nodes.length
     ·obtain⟨b2,o2,sv,nd,rfl,pH,zl,d0,d1,d2,d3,d4,jF⟩:=sj.elem Nm.below Nt;have UQ:ze _:=zsC bd.nodes j Nt nd pH.out;obtain⟨kd,rs,mn,mx,gp⟩:=nd;simp only at d0 d2 d3 d4 jF UQ;obtain⟨eA,eB,rfl,zB9,wj⟩:=jF;have XR:=Nm.alloc (zh #[zc .i64 kd,.slice eA rs.length eB,zc .i64 mn,zc .i64 mx,zc .i64 gp] 135);have zzv:nr lo (wr.alloc (zh #[zc .i64 kd,.slice eA rs.length eB,zc .i64 mn,zc .i64 mx,zc .i64 gp] 135)) (.slice eA rs.length eB) rs:=nr.below ⟨_,_,rfl,zB9,wj⟩ (ax);generalize JY:Ea++dX (bd.nodes.take j)=QQ at *;have zxM:ze _:=JY;clear JY
      by_cases pU:bk ⟨kd,rs,mn,mx,gp⟩=false
      ·have H:ze (sV G bs=false):=by
        show _=_;rw[HA.out,zpx bs k2 ry bd Hn.out (by rw[zm5 bd.nodes j Nt _ pH.out pU];simp)];simp
       clear HA
       go_wp2_with (go_at_call 87;refine(zly _ _ _ _ _ _ _ zzv).mono ?_;rintro e w4 ⟨rfl,de⟩)
       go_ret
       exact⟨cU H.out.symm,(XR.same de).below⟩
      have NE:bk ⟨kd,rs,mn,mx,gp⟩=true:=by simpa using pU
      have zxI:ze ((bd.nodes.take (j+1)).all bk=true):=zpg bd.nodes j Nt _ pH.out Vi.out NE;clear pU
      go_wp2_with fail
      refine(zly _ _ _ _ _ _ _ zzv).mono ?_;rintro e w4 ⟨rfl,de⟩;have y0:w4.cell? ⟨wr.heap.size,0,za⟩=zb (zc .i64 kd):=(de.cell (by simp)).trans (by simp);have y4:w4.cell? ⟨wr.heap.size,4,za⟩=zb (zc .i64 gp):=(de.cell (by simp)).trans (by simp);have RH:=XR.same de;have zCb:=RH.size;clear Nm XR de
      by_cases QS:kd=5
      ·subst QS
       go_wp2_with (refine E9 w4 rfl (.tmp 74) (.tmp 77) 23 rfl (w.heap.size+1) 3 i0 _ 8 underlying23 hi da dt cR rfl g3 c3 QQ.length (EW QQ) _ rfl RH.row rfl rfl (by omega) (by omega) zCb ?_;intro g5 c5 w5 zCs zA1 at5)
       go_roundw
       case rel=>
        have he:Ea++dX (bd.nodes.take (j+1))=QQ++[gp]:=by rw[UQ.out,af (by trivial),<-gJ,zxM.out]
        exact⟨j+1,g5,c5,by omega,by go_num,by rw[he];simp,by rw[he];exact RH.grown zA1 zCs,zxI⟩
       case measure=>simp[intOf];omega
      ·have zCM:(kd==5)=false:=lY.2 QS;have H55:ze _:=QS;clear QS;go_wp2
       go_roundw
       case rel=>
        have he:Ea++dX (bd.nodes.take (j+1))=QQ:=by rw[UQ.out,ab H55.out,List.append_nil,zxM.out]
        exact⟨j+1,g3,c3,by omega,by go_num,by rw[he],by rw[he];exact RH,zxI⟩
       case measure=>simp[intOf];omega
     ·have eV:bd.nodes.take j=bd.nodes:=sX (by omega);rw[eV]at Nm Vi RW ⊢;have vu:ze (qO (bs.take (k2+1))=Ea++dX bd.nodes):=by show _=_;rw[zml bs k2 ry bd Hn.out,Hgs.out]
      have jB:ze (AC (bs.take (k2+1))=true):=zpz bs k2 ry bd Hn.out qs.out (by rw[Hkt.out,Vi.out];rfl);clear eV;generalize Ea++dX bd.nodes=gs4 at *;go_wp2
      go_roundw
      case rel=>exact⟨k2+1,g3,c3,by omega,by go_num,by rw[vu.out],by rw[vu.out];exact Nm,jB⟩
      case measure=>simp[intOf];omega
   ·have eV:bs.take k2=bs:=sX (by omega);rw[eV]at hinv qs ⊢;have iK:(qO bs).length<=5000:=by have:=ZO bs;rw[Hcn.out]at this;omega
    rw[qs.out,Ag]at HA;clear eV;have Ke:=zpy qs.out;have zxP:ze _:=Ke;clear Ke;generalize RF:qO bs=gs at *;have kC:=hinv.Qx;have lM:=hinv.Jk
    by_cases zt:((gs.length:Int)==G)=false
    ·have H:ze (sV G bs=false):=by show _=_;rw[HA.out,zt];simp
     have zBz:(((gs.length:Nat):Int) != G)=true:=by simp at zt ⊢;exact zt
     have bW:=hinv.below;clear HA zt;go_wp2;go_ret;exact⟨cU H.out.symm,bW⟩
    have dN:((gs.length:Int)==G)=true:=by simpa using zt
    rw[dN,Ag]at HA;have zBz:(((gs.length:Nat):Int) != G)=false:=by simp at dN ⊢;exact dN
    have hGe:G=gs.length:=(eq_of_beq dN).symm;clear zt dN;obtain⟨Gn,rfl⟩:=Int.eq_ofNat_of_zero_le zd;have HGe:ze _:=hGe;clear hGe;have hGn:Gn<=500:=by omega
    go_wp2
    go_loopw [14] (λgv wr=>∃q:Nat,q<=Gn/\gv=zc .i64 ((q:Int)+1)/\tn w wr (.slice ao bs.length cap) (Gn:Int) gg cc gs/\ze (∀i,i<q->gs.count ((i:Int)+1)=1))
     (λgv _=>Gn+1-(intOf gv).toNat)
    case atStart=>exact⟨0,dz _,rfl,hinv,λi hi=>absurd hi (fw _)⟩
    case round=>
     clear hinv kC lM;obtain⟨q,hq,rfl,hinv,zxL⟩:=hrel;have kC:=hinv.Qx;have lM:=hinv.Jk
     by_cases zBS:q<Gn
     ·have hle:(q:Int)+1<=(Gn:Int):=by omega
      go_wp2
      go_loopw [15,94] (λt i wr=>∃j:Nat,j<=gs.length/\i=zc .i64 j/\t=zc .i64 ((gs.take j).count ((q:Int)+1):Nat)/\tn w wr (.slice ao bs.length cap) (Gn:Int) gg cc gs)
       (λ_ i _=>gs.length-(intOf i).toNat)
      case atStart=>exact⟨0,dz _,rfl,rfl,hinv⟩
      case round=>
       clear hinv kC lM;obtain⟨j,hj,rfl,rfl,hinv⟩:=hrel;have aV:(gs.take j).count ((q:Int)+1)<=j:=by
        have:=List.count_le_length (a:=(q:Int)+1) (l:=gs.take j);simp at this;omega
       by_cases GR:j<gs.length
       ·have y0:wr.cell? ⟨gg,j,za⟩=zb (zc .i64 (gs.getD j 0)):=(hinv.row.cellAt j (by omega)).trans (zta gs j GR);have HC:ze _:=zoJ gs j GR ((q:Int)+1);generalize (gs.take j).count ((q:Int)+1)=ct at *;generalize gs.getD j 0=h0 at *
        by_cases uJ:h0=(q:Int)+1
        ·have zBI:(h0==(q:Int)+1)=true:=beq_iff_eq.2 uJ;have Bz:ze _:=uJ;clear uJ;go_wp2
         go_roundw
         case rel=>exact⟨j+1,by omega,by go_num,by rw[HC.out,af Bz.out];go_num,hinv⟩
         case measure=>simp[intOf];omega
        ·have zBI:(h0==(q:Int)+1)=false:=lY.2 uJ;have Bz:ze _:=uJ;clear uJ;go_wp2
         go_roundw
         case rel=>exact⟨j+1,by omega,by go_num,by rw[HC.out,ab Bz.out,Aq],hinv⟩
         case measure=>simp[intOf];omega
       ·have Sn:gs.take j=gs:=sX (by omega);rw[Sn]at aV ⊢;clear Sn
        by_cases tO:gs.count ((q:Int)+1)=1
        ·have qX:ze (∀i,i<q+1->gs.count ((i:Int)+1)=1):=by
          intro i hi
          by_cases e:i=q
          ·subst e;exact tO
          ·exact zxL.out i (by omega)
         have zBX:(((gs.count ((q:Int)+1):Nat):Int) != 1)=false:=by rw[tO];rfl
         clear tO;generalize gs.count ((q:Int)+1)=ct at *;go_wp2
         go_roundw
         case rel=>exact⟨q+1,by omega,by go_num,hinv,qX⟩
         case measure=>simp[intOf];omega
        ·have zBX:(((gs.count ((q:Int)+1):Nat):Int) != 1)=true:=by rw[bne_iff_ne];omega
         have H:ze (sV (Gn:Int) bs=false):=by
          show _=_;have:LD (Gn:Int) gs=false:=by
           unfold LD;rw[List.all_eq_false];exact⟨q,by simpa using zBS,by simpa using tO⟩
          rw[HA.out,this];simp
         have bW:=hinv.below;clear HA tO;generalize gs.count ((q:Int)+1)=ct at *;go_wp2;go_ret;exact⟨cU H.out.symm,bW⟩
     ·have dN:¬((q:Int)+1<=(Gn:Int)):=by omega
      have ho:LD (Gn:Int) gs=true:=by
       unfold LD;rw[jR];intro i hi;have:=zxL.out i (by simp at hi;omega);rw[this];rfl
      rw[ho,Ag]at HA;have qE:=OS zxP.out bs.length (aq _);rw[sW]at qE;have bW:=hinv.below;have nG:=pj.below bW;clear ho
      go_wp2_with fail
      refine(Oq (Gn:Int) _ bs _ nG hsm zxP.out).mono ?_;rintro e w7 ⟨rfl,ij⟩;have Xu:=aH bW bW.size ij;go_wp2;go_ret;exact⟨cU (by rw[HA.out]),Xu⟩
section
attribute [local go_sem ↓] wp_at_zero wp_at_succ
section
variable {lo:Nat}{w w':zi}{v:zj}{rs:List dL}
def zhe(lo:Nat)(w:zi)(ao:Option Addr)(rs:List dL):Prop:=
 0<rs.length->∃b o,ao=zb ⟨b,o,za⟩/\lo<=b/\b<w.heap.size/\
  ∀i,i<rs.length->(∃bv,w.cell? ⟨b,o+i*2,za⟩=zb bv/\iQ lo w bv (rs.getD i .zero).branches)/\w.cell? ⟨b,o+i*2+1,za⟩=zb (zc .i64 (rs.getD i .zero).jC)
def qJ(lo:Nat)(w:zi)(v:zj)(rs:List dL):Prop:=∃ao cap,v=.slice ao rs.length cap/\rs.length<=9223372036854775807/\zhe lo w ao rs
theorem qJ.same(h:qJ lo w v rs)(hb:Same lo w w'):qJ lo w' v rs:=by
 obtain⟨ao,cap,rfl,hm,h⟩:=h;refine⟨ao,cap,rfl,hm,λh0=>?_⟩;obtain⟨b,o,rfl,fX,hlt,hc⟩:=h h0;refine⟨b,o,rfl,fX,dR hlt hb.size,λi hi=>?_⟩;obtain⟨⟨bv,c0,hn⟩,c1⟩:=hc i hi;have hcell:∀off,w'.cell? ⟨b,off,za⟩=w.cell? ⟨b,off,za⟩:=λoff=>hb.cell (by exact fX) (by exact hlt)
 exact⟨⟨bv,(hcell _).trans c0,hn.same hb⟩,(hcell _).trans c1⟩
theorem qJ.below(h:qJ lo w v rs)(hb:zg w.heap.size w w'):qJ lo w' v rs:=h.same (.k8 hb)
theorem qJ.mono{rC:Nat}(h:qJ lo w v rs)(hl:rC<=lo):qJ rC w v rs:=by
 obtain⟨ao,cap,rfl,hm,h⟩:=h;refine⟨ao,cap,rfl,hm,λh0=>?_⟩;obtain⟨b,o,rfl,fX,hlt,hc⟩:=h h0;refine⟨b,o,rfl,by omega,hlt,λi hi=>?_⟩;obtain⟨⟨bv,c0,hn⟩,c1⟩:=hc i hi;exact⟨⟨bv,c0,hn.mono hl⟩,c1⟩
theorem zhe.elem{wr:zi}{ao:Option Addr}(h:zhe lo w ao rs)(hb:zg w.heap.size w wr){k:Nat}(hk:k<rs.length):
  ∃(b o:Nat) (bv:zj) (rd:dL),ao=zb ⟨b,o,za⟩/\ze (rs.getD k .zero=rd)/\b<w.heap.size/\wr.cell? ⟨b,o+k*2,za⟩=zb bv/\wr.cell? ⟨b,o+k*2+1,za⟩=zb (zc .i64 rd.jC)/\iQ lo w bv rd.branches:=by
 obtain⟨b,o,rfl,_,hlt,hc⟩:=h (by omega);obtain⟨⟨bv,c0,hn⟩,c1⟩:=hc k hk;exact⟨b,o,bv,_,rfl,rfl,hlt,(hb.cell (by exact hlt)).trans c0,(hb.cell (by exact hlt)).trans c1,hn⟩
def Iy(rs:List dL):Prop:=rs.length<=1048576/\∀k,k<rs.length->Small (rs.getD k .zero).branches
def uT(r:dL):Bool:=sV r.jC r.branches
def uZ:List dL->Int
 |[]=>0
 |r::rs=>gG r.branches+uZ rs
theorem zrU(rs:List dL)(k:Nat)(hk:k<rs.length):uZ (rs.take (k+1))=uZ (rs.take k)+gG (rs.getD k .zero).branches:=by
 induction rs generalizing k with
 |nil=>exact absurd hk (fw _)
 |cons r rs ih=>
  cases k with
  |zero=>simp[uZ]
  |succ k=>
   have:=ih k (by simpa using hk);simp only[mz,uZ,this,List.getD_cons_succ];omega
def qg(rs:List dL):Bool:=decide (rs.length<=100)&&rs.all uT&&decide (uZ rs<=4000)
theorem Ug{r:dL}(h:uT r=true):qP r.branches/\0<=gG r.branches/\gG r.branches<=2000:=by
 unfold uT sV at h;simp only[fI,lZ]at h;obtain⟨⟨⟨⟨⟨⟨h1,h2⟩,h3⟩,h4⟩,h5⟩,h6⟩,h7⟩:=h;have ha:=zpy h4;have:=OS ha r.branches.length (aq _);rw[sW]at this;exact⟨ha,by omega,h7⟩
theorem zhJ(v:zj)(rs:List dL)(w:zi)(hs:qJ lo w v rs)(hsm:Iy rs):
  zm prog 53 #[v] w λe W=>e=.returned (.bool (qg rs))/\zg w.heap.size w W:=by
 obtain⟨ao,cap,rfl,hm,hc⟩:=hs;have hl:=hsm.1
 by_cases Ep:rs.length<=100
 ·have aO:¬(100:Int)<(rs.length:Int):=by omega
  have HC:=ag hc;have DI:=ag hsm;clear hc hsm hl
  go_enter func53,ntmps53
  go_wp2_with fail
  go_loopw [3,11] (λsv i wr=>∃k:Nat,k<=rs.length/\i=zc .i64 k/\sv=zc .i64 (uZ (rs.take k))/\zg w.heap.size w wr/\(rs.take k).all uT=true/\0<=uZ (rs.take k)/\uZ (rs.take k)<=2000*k) (λ_ i _=>rs.length-(intOf i).toNat)
  case atStart=>exact⟨0,dz _,rfl,by simp[uZ],Below.refl _ _,rfl,by simp[uZ],by simp[uZ]⟩
  case round=>
   obtain⟨k,hk,rfl,rfl,hb,bm,Sr,xU⟩:=hrel
   by_cases hlt:k<rs.length
   ·obtain⟨b,o,bv,rd,rfl,ux,bF,c0,c1,nG⟩:=HC.out.elem hb hlt;have fG:=zrU rs k hlt;rw[ux.out]at fG;have EI:=DI.out.2 k hlt;rw[ux.out]at EI;obtain⟨bo,bc,rfl,GD,tJ⟩:=nG;have eC:(0:Int)<=(k:Int):=by omega
    have dg:(k:Int)<(rs.length:Int):=by omega
    have fP:b<wr.heap.size:=dR bF hb.size;have bS:iQ lo w (.slice bo rd.branches.length bc) rd.branches:=⟨bo,bc,rfl,GD,tJ⟩;obtain⟨W2,fe⟩:∃W2,wr.alloc (zh #[.slice bo rd.branches.length bc,zc .i64 rd.jC] 101)=W2:=⟨_,rfl⟩;have b2:zg wr.heap.size wr W2:=by rw[<-fe];exact ax
    have x2:W2.heap[wr.heap.size]?=zb (zh #[.slice bo rd.branches.length bc,zc .i64 rd.jC] 101 (0,0)):=by rw[<-fe];exact aJ _ _
    have VR:=aH hb hb.size b2;have cr:=zkn rd.jC (.slice bo rd.branches.length bc) rd.branches W2 (bS.below VR) EI;have cw:∀W3,zg w.heap.size w W3->uT rd=true->zm prog 61 #[zk #[.slice bo rd.branches.length bc,zc .i64 rd.jC]] W3 λe W4=>e=.returned (zc .i64 (gG rd.branches))/\zg W3.heap.size W3 W4:=λW3 h3 h4=>Oq rd.jC (.slice bo rd.branches.length bc) rd.branches W3 (bS.below h3) EI (Ug h4).1
    obtain⟨q0,q1⟩:=dV x2;have vx:=ag x2;have lI:=ag fe;have Vg:=ag fG;have ul:=ag VR;have zyq:(rs.take (k+1)).all uT=uT rd:=by
     rw[List.take_add_one,vo,bm,bE hlt,<-ux.out];simp[List.getD,hlt]
    have LI:=ag zyq;have hno:uT rd=false->qg rs=false:=λh=>by
     have:rs.all uT=false:=by
      rw[Bool.eq_false_iff];intro h2;have h3:=jR.1 h2 rd (by rw[<-ux.out];simp[List.getD,hlt]);rw[h]at h3;cases h3
     unfold qg;rw[this];simp
    have yN:=ag hno;have zzj:uT rd=sV rd.jC rd.branches:=rfl;rw[<-zzj]at cr;have zzh:uT rd=true->0<=gG rd.branches/\gG rd.branches<=2000:=λh=>(Ug h).2
    have HOB:=ag zzh;generalize nL:uT rd=ok at *;generalize qE:gG rd.branches=rw1 at *;clear tJ bS fe x2 fG VR b2 hb bm zyq hno zzj nL EI GD zzh
    go_upto_region 7 with fail
    rw[lI.out];clear lI c0 c1;cases ok
    ·go_wp2_with fail
     refine cr.mono ?_;rintro e W3 ⟨rfl,b3⟩;go_wp2;go_ret;exact⟨by rw[yN.out (by simp)];rfl,aH ul.out ul.out.size b3⟩
    ·go_wp2_with fail
     refine cr.mono ?_;rintro e W3 ⟨rfl,b3⟩;have VS:=aH ul.out ul.out.size b3;obtain⟨q0,q1⟩:=dV ((b3.block _ (ay vx.out)).trans vx.out);have cw3:=cw W3 VS (by simp);have yI:=ag VS;obtain⟨NN,iL⟩:=HOB.out (by simp);generalize NS:uZ (rs.take k)=ss at *;have AW:IntKind.i64.wrap (ss+rw1)=ss+rw1:=by rw[IntKind.wrap_i64];omega
     clear cr cw VS b3 NS
     go_wp2_with fail
     refine cw3.mono ?_;rintro e W4 ⟨rfl,b4⟩;clear cw3;go_wp2
     go_roundw
     case rel=>exact⟨k+1,by omega,by go_num,by rw[Vg.out],aH yI.out yI.out.size b4,LI.out,by rw[Vg.out];omega,by rw[Vg.out];omega⟩
     case measure=>simp[intOf];omega
   ·have cC:k=rs.length:=by omega
    rw[cC,sW]at bm Sr xU ⊢;have hne:¬(rs.length:Int)<(rs.length:Int):=by omega
    have HB:=ag hb;have fY:qg rs=decide (uZ rs<=4000):=by unfold qg;rw[bm];simp[Ep]
    have HLB:=ag fY;clear hb fY;go_wp2;go_ret;exact⟨by rw[HLB.out];rfl,HB.out⟩
 ·have aO:(100:Int)<(rs.length:Int):=by omega
  have:qg rs=false:=by unfold qg;simp[Ep]
  rw[this];clear this hc hsm
  go_enter func53,ntmps53
  go_wp2;go_ret;exact⟨rfl,Below.refl _ _⟩
end
section
variable {n:Nat}
theorem zjj{w:zi}{B:Nat}{e:TypeId}{g cap:Nat}{xs:List zj}(h:w.ownsRow B e 1 (zf (zb ⟨g,0,za⟩) n cap) n xs):B<=g/\∃cs,w.heap[g]?=zb (zh cs e (0,0))/\∀i,i<n->cs[i]?=xs[i]?:=by
 rcases h.2 with ⟨h,_⟩|⟨g',cap',cr,h,hg,et,_,_,hsz,eV⟩
 ·cases h
 ·cases h
  refine⟨hg,cr,et,λi hi=>?_⟩;rw[<-eV];rw[List.getElem?_take,af (by omega)];simp
theorem zrf(w0:zi)(bol eol:Bool)(ao:Option Addr)(c:Nat)(ns:List aC)(w:zi)(hs:og 0 w0 (.slice ao ns.length c) ns)(aD:zg w0.heap.size w0 w)(hn:ns.length<=1048576)(hk:kL ns=true):
  zm prog 68 #[zk #[.bool bol,.bool eol,.slice ao ns.length c],.string ⟨#[]⟩] w λr w'=>zg w.heap.size w w'/\∃gl cl gr cr,r=.returned (zk #[.slice ao ns.length c,zf (zb ⟨gl,0,za⟩) ns.length cl,zf (zb ⟨gr,0,za⟩) ns.length cr,.string ⟨#[]⟩])/\Ar w0 w' ns (.slice ao ns.length c) gl gr:=by
 obtain⟨W0,aw⟩:∃W0,(w.alloc (zh #[.bool bol,.bool eol,.slice ao ns.length c] 115)).alloc (zh #[zf za 0 0,zf za 0 0,zf za 0 0,.string ⟨#[]⟩] 118)=W0:=⟨_,rfl⟩;have hb:zg w.heap.size w W0:=by rw[<-aw];exact(ax).alloc (by simp) _
 have k0:W0.heap[w.heap.size]?=zb (zh #[.bool bol,.bool eol,.slice ao ns.length c] 115 (0,0)):=by rw[<-aw];exact qK (aJ _ _)
 have k1:W0.heap[w.heap.size+1]?=zb (zh #[zf za 0 0,zf za 0 0,zf za 0 0,.string ⟨#[]⟩] 118 (0,0)):=by rw[<-aw];exact Ui _ _ _
 have q2:W0.cell? ⟨w.heap.size,2,za⟩=zb (.slice ao ns.length c):=(iY _ _ _ _ _ _ k0:W0.cell? ⟨w.heap.size,2,za⟩=_);have ck:=zmX _ ns W0 (hs.below (aH aD aD.size hb)) hn;have bD:=ag aw;have HB:=ag hb;have HK0:=ag k0;have UW:=ag k1;have HS:=ag hs;clear aw hb k0 k1 hs aD
 go_enter func68,ntmps68
 go_upto_region 1 with fail
 rw[bD.out];clear bD
 go_wp2_with fail
 refine ck.mono ?_;rintro e w1 ⟨aO,h|⟨-,gl,cl,gr,cr,rfl,ol,or_,-⟩⟩
 ·rw[hk]at h;cases h.1
 have p0:=(aO.block _ (ay HK0.out)).trans HK0.out;have p1:=(aO.block _ (ay UW.out)).trans UW.out;have q2:w1.cell? ⟨w.heap.size,2,za⟩=zb (.slice ao ns.length c):=(iY _ _ _ _ _ _ p0:w1.cell? ⟨w.heap.size,2,za⟩=_);obtain⟨d0,d1,d2,d3⟩:=eG p1;obtain⟨f0,f1,f2,f3⟩:=zqh p1;obtain⟨iK,cs,oH,eE⟩:=zjj ol;obtain⟨mR,D6,iL,sq⟩:=zjj or_;have Sr:=ay UW.out;have XZ:∀(g:Nat) (o:Obj),w1.heap[g]?=zb o->W0.heap.size<=g->((((w1.setCell ⟨w.heap.size+1,0,za⟩ (.slice ao ns.length c)).setCell ⟨w.heap.size+1,1,za⟩ (zf (zb ⟨gl,0,za⟩) ns.length cl)).setCell ⟨w.heap.size+1,2,za⟩ (zf (zb ⟨gr,0,za⟩) ns.length cr)).setCell ⟨w.heap.size+1,3,za⟩ (.string ⟨#[]⟩)).heap[g]?=zb o:=λg o e hg=>by
  have hne:g≠w.heap.size+1:=by omega
  rw[Below.heap_setCell _ _ _ _ hne,Below.heap_setCell _ _ _ _ hne,Below.heap_setCell _ _ _ _ hne,Below.heap_setCell _ _ _ _ hne];exact e
 have l6:=ag (XZ _ _ oH iK);have HR1:=ag (XZ _ _ iL mR);have l7:=ag eE;have yO:=ag sq;have bl1:=aH HB.out HB.out.size aO;have bW:zg w.heap.size w ((((w1.setCell ⟨w.heap.size+1,0,za⟩ (.slice ao ns.length c)).setCell ⟨w.heap.size+1,1,za⟩ (zf (zb ⟨gl,0,za⟩) ns.length cl)).setCell ⟨w.heap.size+1,2,za⟩ (zf (zb ⟨gr,0,za⟩) ns.length cr)).setCell ⟨w.heap.size+1,3,za⟩ (.string ⟨#[]⟩)):=by
  iterate 4 refine Below.setCell ?_ (by simp) _
  exact bl1
 have yJ:=ag bW;clear XZ oH iL eE sq bl1 bW ol or_ p0 p1 ck aO;go_wp2;refine aW (v:=zk #[.slice ao ns.length c,zf (zb ⟨gl,0,za⟩) ns.length cl,zf (zb ⟨gr,0,za⟩) ns.length cr,.string ⟨#[]⟩]) (by simp[results,results68,go_sem,d0,d1,d2,d3]) rfl ⟨yJ.out,gl,cl,gr,cr,rfl,HS.out,⟨cs,l6.out,λi hi=>?_⟩,D6,HR1.out,λi hi=>?_⟩
 ·rw[l7.out i hi];simp[tV,hi]
 ·rw[yO.out i hi];simp[tW,hi]
def wT(b:dc):Pt:=bV b.nodes (b.nodes.length-1)
def wN(i:Nat)(bs:List dc):List dn:=bs.map λb=>⟨i,b.bol,b.eol,iG (wT b)⟩
def fA(i:Nat):List dL->List dn
 |[]=>[]
 |r::rs=>wN i r.branches++fA (i+1) rs
def pK:List dc->Nat
 |[]=>0
 |b::bs=>dO (wT b)+pK bs
def oZ:List dL->Nat
 |[]=>0
 |r::rs=>pK r.branches+oZ rs
theorem zsh(rs:List dL)(r:dL):∀i,fA i (rs++[r])=fA i rs++wN (i+rs.length) r.branches:=by
 induction rs with
 |nil=>intro i;simp[fA]
 |cons x rs ih=>intro i;simp only[List.cons_append,fA,ih,gJ,lW];rw[show i+1+rs.length=i+(rs.length+1) by omega]
theorem zsi(rs:List dL){k:Nat}(hk:k<rs.length):fA 0 (rs.take (k+1))=fA 0 (rs.take k)++wN k (rs.getD k .zero).branches:=by
 rw[List.take_add_one,bE hk,Option.toList_some,zsh,rP,Nat.min_eq_left (by omega),iH];simp[List.getD,hk]
theorem zot(i:Nat)(bs:List dc){j:Nat}(hj:j<bs.length):(wN i bs).take (j+1)=(wN i bs).take j++[⟨i,(bs.getD j .zero).bol,(bs.getD j .zero).eol,iG (wT (bs.getD j .zero))⟩]:=by
 unfold wN;rw[List.take_add_one];simp[List.getD,hj]
theorem zkH:∀(bs:List dc) {j:Nat},j<bs.length->pK (bs.take (j+1))=pK (bs.take j)+dO (wT (bs.getD j .zero))
 |[],j,h=>absurd h (fw _)
 |b::bs,0,_=>by simp[pK]
 |b::bs,j+1,h=>by
  have:=zkH bs (j:=j) (by simpa using h);simp only[mz,pK,this,List.getD_cons_succ];omega
theorem zkI:∀(rs:List dL) {k:Nat},k<rs.length->oZ (rs.take (k+1))=oZ (rs.take k)+pK (rs.getD k .zero).branches
 |[],j,h=>absurd h (fw _)
 |b::bs,0,_=>by simp[oZ]
 |b::bs,j+1,h=>by
  have:=zkI bs (k:=j) (by simpa using h);simp only[mz,oZ,this,List.getD_cons_succ];omega
theorem zpU:∀(bs:List dc) (j:Nat),pK (bs.take j)<=pK bs
 |[],j=>by simp[pK]
 |b::bs,0=>by simp[pK]
 |b::bs,j+1=>by have:=zpU bs j;simp only[mz,pK];omega
theorem zpW:∀(rs:List dL) (k:Nat),oZ (rs.take k)<=oZ rs
 |[],j=>by simp[oZ]
 |b::bs,0=>by simp[oZ]
 |b::bs,j+1=>by have:=zpW bs j;simp only[mz,oZ];omega
structure DN(w0:zi)(Ns:List bB)(X:Xs):Prop where
 tr:∀(k:Nat) (x:nu×GT),X[k]?=zb x->mB w0 Ns x.2 x.1.gz
 cK:Fv X Ns.length
 al:zxA Ns X
theorem DN.nil(w0:zi):DN w0 [] []:=⟨λk x h=>by simp at h,⟨λk k' x x' i i' h=>by simp at h,λk x i h=>by simp at h⟩,λi x h=>by simp at h⟩
theorem DN.snoc{w0:zi}{Ns Ms:List bB}{X:Xs}{M:GA}{T:GT}(h:DN w0 Ns X)(t:jU w0 Ns Ms M n T)(b:nu)(hb:b.gz=Ns.length+Ms.length-1):DN w0 (Ns++Ms) (X++[(b,T)]):=by
 have get:∀(k:Nat) (x:nu×GT),(X++[(b,T)])[k]?=zb x->(k<X.length/\X[k]?=zb x)\/(k=X.length/\x=(b,T)):=λk x hx=>by
  rcases iX k X.length with q|q
  ·rw[vp q]at hx;exact .inl ⟨q,hx⟩
  ·rw[Ap q]at hx;have:k-X.length<1:=by
    have:=(mA.1 hx).1
    simpa using this
   have e:k=X.length:=by omega
   subst e;simp at hx;exact .inr ⟨rfl,hx.symm⟩
 refine⟨λk x hx=>?_,⟨λk k' x x' i i' hx EN hi lJ he=>?_,λk x i hx hi=>?_⟩,λi x hx=>?_⟩
 ·rcases get k x hx with ⟨_,h1⟩|⟨_,rfl⟩
  ·exact(h.tr k x h1).more Ms
  ·show mB w0 (Ns++Ms) T b.gz;rw[hb];exact t.at_
 ·rcases get k x hx with ⟨_,h1⟩|⟨rfl,rfl⟩<;>rcases get k' x' EN with ⟨_,BX⟩|⟨rfl,rfl⟩
  ·exact h.cK.inj k k' x x' i i' h1 BX hi lJ he
  ·have:=h.cK.lt k x i h1 hi;have:=(t.lb.zN i' lJ).1;have he:x.2.at i=T.at i':=he;omega
  ·have:=h.cK.lt k' x' i' BX lJ;have:=(t.lb.zN i hi).1;have he:T.at i=x'.2.at i':=he;omega
  ·exact⟨rfl,t.lb.inj i i' hi lJ he⟩
 ·rw[aQ];rcases get k x hx with ⟨_,h1⟩|⟨rfl,rfl⟩
  ·have:=h.cK.lt k x i h1 hi;omega
  ·exact(t.lb.zN i hi).2
 ·rcases iX i Ns.length with q|q
  ·rw[vp q]at hx;rcases h.al i x hx with ⟨e,k,y,j,h1,h2,h3⟩|e
   ·exact .inl ⟨e,k,y,j,by rw[vp (mA.1 h1).1];exact h1,h2,h3⟩
   ·exact .inr e
  ·have hl:=(mA.1 hx).1;rw[aQ]at hl;rcases t.lb.all i x q hl hx with ⟨e,j,h2,h3⟩|e
   ·exact .inl ⟨e,X.length,(b,T),j,by simp,h2,h3⟩
   ·exact .inr e
end
end
end Go.Proofs.YtfajjdgkiilhfaaGreatDoor
