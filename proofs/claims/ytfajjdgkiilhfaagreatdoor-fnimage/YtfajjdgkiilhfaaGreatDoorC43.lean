import Derived.Test.YtfajjdgkiilhfaaGreatDoorC42
import Derived.ArgAppend
import Derived.Lib.SmallJoins
import Derived.Laws.IdiomStrings
import Derived.Deep.RegionHeld3
import Derived.Deep.DrawnRows
import Derived.Deep.QuietTactic
import Derived.BigQuiet
namespace Go.Proofs.YtfajjdgkiilhfaaGreatDoor
open Proofs.Tryz
open Option renaming none->za,some->zc
open Value renaming slice->zb,int->zd,agg->zh
open RowKit renaming Hid->ze,Below->zj
open Obj renaming cells->zf
open Go renaming Value->zg,World->zi,Calls->zk
set_option maxHeartbeats 8000000
set_option maxRecDepth 100000
open Go.RowKit
attribute [local go_sem ↓] wp_at_zero wp_at_succ
section
variable {W:zi}{gt wd s n lo k:Nat}{v:Nat -> zg}{l:Nat -> List Int}{d:aL}{nx row:List Int}{dv:Int}
def zpG:zg->Bool
 |.bool b=>b
 |_=>false
def uR(w:zi)(a:Addr):Nat:=
 match w.cell? a with
 |some (.slice _ n _)=>n
 |_=>0
theorem fh.uR{w:zi}{D:Array zg}{width:Int}(S:fh w D gt width W v l):Go.Proofs.YtfajjdgkiilhfaaGreatDoor.uR W ⟨gt,7,za⟩=(l 6).length:=by
 obtain⟨⟨ca,Gd⟩,hv⟩:=nX (S.au.own 6 (by omega));unfold Go.Proofs.YtfajjdgkiilhfaaGreatDoor.uR;rw[(iV S.row).2.2.2.2.2.2.2,hv]
def yu(d:aL):Option pI:=mW d.next d.width.toNat d.tag.length
def jO(d:aL):Int:=if dH d=false then 1 else if yu d=za then 2 else 0
def yv(d:aL):Int:=if jO d=0 then d.width else 0
def wK(d:aL):Nat->List Int:=if jO d=0 then bU d.ai d.tag d.fin ((yu d).getD ⟨[],[],[],[]⟩) [] else λ_=>[]
theorem OO{c:Int}(h:jO d=c)(hc:¬c=0):yv d=0/\wK d=λ_=>[]:=by
 unfold yv wK;rw[h,ab hc,ab hc];exact⟨rfl,rfl⟩
theorem Z8{L:pI}(h0:dH d=true)(h:yu d=zc L):jO d=0/\yv d=d.width/\wK d=bU d.ai d.tag d.fin L []:=by
 have e:jO d=0:=by unfold jO;rw[ab (by simp[h0]),ab (by simp[h])]
 refine⟨e,by unfold yv;rw[af e],by unfold wK;rw[af e,h];rfl⟩
theorem zhM(h:mW nx wd (s+1)=za):∀n,s<n->mW nx wd n=za
 |0,hn=>by omega
 |n+1,hn=>by
  by_cases e:n=s
  ·subst e;exact h
  ·have:=zhM h n (by omega);show (mW nx wd n).bind _=za;rw[this];rfl
theorem aI.take{m:Nat}(h:aI gt n W v l)(hm:m<=n):aI gt m W v l:=
 ⟨λi hi=>h.own i (by omega),λi j hi hj=>h.apart i j (by omega) (by omega)⟩
theorem aI.zAX{l':Nat->List Int}(h:aI gt n W v l)(he:∀i,i<n->l i=l' i):aI gt n W v l':=
 ⟨λi hi=>by rw[<-he i hi];exact h.own i hi,h.apart⟩
theorem zlZ(cv nv tv ev:zg)(d:aL)(w:zi)(hs:dP lo w cv nv tv ev d)(hB:dH d=false):
  zk prog 5 #[zh #[cv,zd .i64 d.width,nv,tv,ev]] w λe w'=>yi w 0 1 (λ_=>[]) e w':=by
 have aD:zj w.heap.size w ((w.alloc (zf #[cv,zd .i64 d.width,nv,tv,ev] 25)).alloc (zf cO 28)):=(ax).alloc (by simp) _;have r0:((w.alloc (zf #[cv,zd .i64 d.width,nv,tv,ev] 25)).alloc (zf cO 28)).heap[w.heap.size+1]?=zc (zf cO 28 (0,0)):=by
  have:=aJ (w.alloc (zf #[cv,zd .i64 d.width,nv,tv,ev] 25)) (zf cO 28)
  simpa using this
 have hT:=S8 cv nv tv ev d _ (hs.below aD);rw[hB]at hT
 go_enter func5,ntmps5
 go_wp2_with fail
 refine hT.mono ?_;rintro e w1 ⟨rfl,aO⟩;have r1:=aT r0 aO;have aB:=aH aD aD.size aO;clear r0 aD aO hT;have fr:∀o,w1.frozen? ⟨w.heap.size+1,o,za⟩=false:=λ_=>aM _ _ _ _ _ r1
 unfold cO at r1;obtain⟨y0,y1,y2,y3,y4,y5,y6,y7⟩:=kH r1;clear r1;go_wp2;refine aW (v:=.tuple #[zh #[zb za 0 0,zd .i64 0,zb za 0 0,zb za 0 0,zb za 0 0,zb za 0 0,zb za 0 0,zb za 0 0],zd .i64 1]) (by simp[results,results5,go_sem,y0,y1,y2,y3,y4,y5,y6,y7]) rfl ?_;have h8:=A5 aB (show w.heap.size<=w.heap.size+1 by omega) (zb za 0 0) (zd .i64 0) (zb za 0 0) (zb za 0 0) (zb za 0 0) (zb za 0 0) (zb za 0 0) (zb za 0 0);exact⟨w.heap.size,λ_=>zb za 0 0,rfl,aq _,aI.nil _ _ _,h8⟩
theorem zof{j:Nat}(hj:j<wd):(a8 nx wd s).getD j 0=nx.getD (s*wd+j) 0:=by
 unfold a8;simp[List.getD,hj]
theorem zog(hl:nx.length=n*wd)(hs:s<n):(a8 nx wd s).length=wd:=by
 unfold a8;rw[rP,FD,hl];have h1:s*wd+wd<=n*wd:=by
  have:=IM wd (show s+1<=n by omega);rw[Bp]at this;exact this
 omega
def cj(row:List Int)(dv:Int)(k:Nat):List Int:=(aK row dv k).map λc:Nat=>(c:Int)
theorem vd(row:List Int)(dv:Int)(k:Nat):(cj row dv k).length=(aK row dv k).length:=by simp[cj]
theorem TJ(row:List Int)(dv:Int)(k:Nat):(aK row dv k).length<=k:=by
 have:=List.length_filter_le (λc=>row.getD c 0 != dv) (List.range k)
 simpa [aK]using this
theorem zn0(h:¬row.getD k 0=dv):cj row dv (k+1)=cj row dv k++[(k:Int)]:=by
 unfold cj;rw[zlD,af (by simpa using h)];simp
theorem zqY(h:row.getD k 0=dv):cj row dv (k+1)=cj row dv k:=by
 unfold cj;rw[zlD,ab (by simpa using h)];simp
theorem zpt(cv nv tv ev:zg)(d:aL)(wd:Nat)(w:zi)(hs:dP lo w cv nv tv ev d)(hwd:d.width=wd)(iz:∃ao cap,nv=.slice ao d.next.length cap/\d.next.length<=cap)(hB:dH d=true):
  zk prog 5 #[zh #[cv,zd .i64 d.width,nv,tv,ev]] w λe w'=>yi w (yv d) (jO d) (wK d) e w':=by
 have hf:=C6 hB;have DK:ze (d.width=wd):=hwd;have aD:zj w.heap.size w ((w.alloc (zf #[cv,zd .i64 d.width,nv,tv,ev] 25)).alloc (zf cO 28)):=(ax).alloc (by simp) _;have r0:((w.alloc (zf #[cv,zd .i64 d.width,nv,tv,ev] 25)).alloc (zf cO 28)).heap[w.heap.size+1]?=zc (zf cO 28 (0,0)):=by
  have:=aJ (w.alloc (zf #[cv,zd .i64 d.width,nv,tv,ev] 25)) (zf cO 28)
  simpa using this
 have q0:((w.alloc (zf #[cv,zd .i64 d.width,nv,tv,ev] 25)).alloc (zf cO 28)).heap[w.heap.size]?=zc (zf #[cv,zd .i64 d.width,nv,tv,ev] 25 (0,0)):=qK (aJ _ _);have hT:=S8 cv nv tv ev d _ (hs.below aD);rw[hB]at hT;have j7:=hf.n1;have kA:=hf.n2;have xU:=hf.w1;have kY:=hf.w2;rw[hwd]at xU kY hT q0 r0 aD ⊢;have pO:0<d.ai.length/\d.ai.length<=256:=by have:=hf.cl;omega
 have r9:0<d.fin.length/\d.fin.length<=4000:=by have:=hf.fl;omega
 have tQ:0<d.tag.length:=by omega
 have GW:d.next.length=d.tag.length*wd:=by
  have:=hf.nl;rw[hwd]at this;exact Int.ofNat.inj this
 have iw:0<d.next.length:=by rw[GW];exact Nat.mul_pos tQ (by omega)
 have Mb:ze (d.next.length=d.tag.length*wd):=GW;clear GW hwd;obtain⟨⟨a0,p0,rfl,m0,y0⟩,⟨na,np,rfl,nm,ny⟩,⟨ta,tp,rfl,tm,ty⟩,⟨ea,ep,rfl,em,ey⟩⟩:=hs;obtain⟨na',np',he,iz⟩:=iz;cases he;obtain⟨cb,co,rfl,_,cl,cq⟩:=y0 pO.1;obtain⟨nb,no,rfl,_,nl,nq⟩:=ny iw;obtain⟨tb,tq,rfl,_,tl,Ol⟩:=ty tQ;obtain⟨eb,eq,rfl,_,el,Mz⟩:=ey r9.1;have Cq:ze (∀i,i<d.ai.length->w.cell? ⟨cb,co+i,za⟩=zc (zd .i64 (d.ai.getD i 0))):=cq;have Nq:ze (∀i,i<d.next.length->w.cell? ⟨nb,no+i,za⟩=zc (zd .i64 (d.next.getD i 0))):=nq;have Tq:ze (∀i,i<d.tag.length->w.cell? ⟨tb,tq+i,za⟩=zc (zd .i64 (d.tag.getD i 0))):=Ol;have Eq:ze (∀i,i<d.fin.length->w.cell? ⟨eb,eq+i,za⟩=zc (zd .i64 (d.fin.getD i 0))):=Mz;clear cq Ol Mz nq y0 ty ey ny iw
 go_enter func5,ntmps5
 go_wp2_with fail
 refine hT.mono ?_;rintro e w1 ⟨rfl,aO⟩;have r1:=aT r0 aO;have q1:=aT q0 aO;have aB:=aH aD aD.size aO;clear r0 aD aO hT q0;obtain⟨x0,x1,x2,x3,x4⟩:=dM q1;have uP:w.heap.size+1<w1.heap.size:=ay r1;have S0:fh w #[zb (zc ⟨cb,co,za⟩) d.ai.length p0,zd .i64 wd,zb (zc ⟨nb,no,za⟩) d.next.length np,zb (zc ⟨tb,tq,za⟩) d.tag.length tp,zb (zc ⟨eb,eq,za⟩) d.fin.length ep] w1.heap.size wd (w1.alloc (zf (fR wd (λ_=>zb za 0 0)) 28)) (λ_=>zb za 0 0) (λ_=>[]):=
  ⟨aB.alloc aB.size _,uP,by simp,qK q1,qK r1,aJ _ _,aI.nil _ _ _⟩
 go_upto_region 4 with fail
 generalize aw:w1.alloc (zf #[zb za 0 0,zd .i64 wd,zb za 0 0,zb za 0 0,zb za 0 0,zb za 0 0,zb za 0 0,zb za 0 0] 28)=W0;have Jf:fh w #[zb (zc ⟨cb,co,za⟩) d.ai.length p0,zd .i64 wd,zb (zc ⟨nb,no,za⟩) d.next.length np,zb (zc ⟨tb,tq,za⟩) d.tag.length tp,zb (zc ⟨eb,eq,za⟩) d.fin.length ep] w1.heap.size wd W0 (λ_=>zb za 0 0) (λ_=>[]):=by rw[<-aw];exact S0
 clear S0 aw x0 x1 x2 x3 x4 r1 q1 aB;generalize w1.heap.size=gt at *;have EG:w.heap.size<gt:=by have:=Jf.over;omega
 have zDV:w.heap.size≠gt:=by omega
 go_cut [] from 24 to 41 (λwx=>∃v,fh w #[zb (zc ⟨cb,co,za⟩) d.ai.length p0,zd .i64 wd,zb (zc ⟨nb,no,za⟩) d.next.length np,zb (zc ⟨tb,tq,za⟩) d.tag.length tp,zb (zc ⟨eb,eq,za⟩) d.fin.length ep] gt wd wx v (bG (λ_=>[]) 0 d.ai))
 case first=>
  obtain⟨x0,x1,x2,x3,x4⟩:=dM Jf.box;obtain⟨a0,a1,a2,a3,a4,a5,a6,a7⟩:=iV Jf.row;have cells:ze (∀j,j<d.ai.length->W0.cell? ⟨cb,co+j,za⟩=zc (zd .i64 (d.ai.getD j 0))):=λj hj=>(Jf.below.cell (by exact cl)).trans (Cq.out j hj)
  go_wp2_with (refine ZH Jf rfl (.tmp 25) (.tmp 27) rfl 0 (by omega) 0 rfl rfl rfl d.ai cb co p0 d.ai.length rfl rfl cells.out pO.1 (by omega) ?_;intro g1 mL V1 rr bb xx SN;clear a0 a1 a2 a3 a4 a5 a6 a7;obtain⟨a0,a1,a2,a3,a4,a5,a6,a7⟩:=iV rr;have xC:=aM _ _ 0 _ _ rr)
  go_meet
  exact⟨_,SN⟩
 case rest=>
  obtain⟨v1,S1⟩:=hcut;clear Jf
  go_upto_region 5 with fail
  go_cut [] from 24 to 41 (λwx=>∃v,fh w #[zb (zc ⟨cb,co,za⟩) d.ai.length p0,zd .i64 wd,zb (zc ⟨nb,no,za⟩) d.next.length np,zb (zc ⟨tb,tq,za⟩) d.tag.length tp,zb (zc ⟨eb,eq,za⟩) d.fin.length ep] gt wd wx v (bG (bG (λ_=>[]) 0 d.ai) 3 d.tag))
  case first=>
   obtain⟨x0,x1,x2,x3,x4⟩:=dM S1.box;obtain⟨a0,a1,a2,a3,a4,a5,a6,a7⟩:=iV S1.row;have cells:ze (∀j,j<d.tag.length->wc.cell? ⟨tb,tq+j,za⟩=zc (zd .i64 (d.tag.getD j 0))):=λj hj=>(S1.below.cell (by exact tl)).trans (Tq.out j hj)
   go_wp2_with (refine ZH S1 rfl (.tmp 31) (.tmp 33) rfl 3 (by omega) 4 rfl rfl rfl d.tag tb tq tp d.tag.length rfl rfl cells.out tQ (by omega) ?_;intro g1 mL V1 rr bb xx SN;clear a0 a1 a2 a3 a4 a5 a6 a7;obtain⟨a0,a1,a2,a3,a4,a5,a6,a7⟩:=iV rr;have xC:=aM _ _ 4 _ _ rr)
   go_meet
   exact⟨_,SN⟩
  case rest=>
   obtain⟨v2,S2⟩:=hcut;clear S1
   go_upto_region 6 with fail
   go_cut [] from 24 to 41 (λwx=>∃v,fh w #[zb (zc ⟨cb,co,za⟩) d.ai.length p0,zd .i64 wd,zb (zc ⟨nb,no,za⟩) d.next.length np,zb (zc ⟨tb,tq,za⟩) d.tag.length tp,zb (zc ⟨eb,eq,za⟩) d.fin.length ep] gt wd wx v (bU d.ai d.tag d.fin ⟨[],[],[],[]⟩ []))
   case first=>
    obtain⟨x0,x1,x2,x3,x4⟩:=dM S2.box;obtain⟨a0,a1,a2,a3,a4,a5,a6,a7⟩:=iV S2.row;have cells:ze (∀j,j<d.fin.length->wc.cell? ⟨eb,eq+j,za⟩=zc (zd .i64 (d.fin.getD j 0))):=λj hj=>(S2.below.cell (by exact el)).trans (Eq.out j hj)
    go_wp2_with (refine ZH S2 rfl (.tmp 37) (.tmp 39) rfl 4 (by omega) 5 rfl rfl rfl d.fin eb eq ep d.fin.length rfl rfl cells.out r9.1 (by omega) ?_;intro g1 mL V1 rr bb xx SN;clear a0 a1 a2 a3 a4 a5 a6 a7;obtain⟨a0,a1,a2,a3,a4,a5,a6,a7⟩:=iV rr;have xC:=aM _ _ 5 _ _ rr)
    rw[zq8]at SN
    go_meet
    exact⟨_,SN⟩
   case rest=>
    obtain⟨v3,S3⟩:=hcut;clear S2;obtain⟨x0,x1,x2,x3,x4⟩:=dM S3.box;go_wp2;clear x0 x1 x2 x3 x4
    go_loopw [45] (λi wr=>∃(k:Nat) (L:pI) (v:Nat->zg) (aU:List Int),k<=d.tag.length/\i=zd .i64 k/\ze (mW d.next wd k=zc L)/\fh w #[zb (zc ⟨cb,co,za⟩) d.ai.length p0,zd .i64 wd,zb (zc ⟨nb,no,za⟩) d.next.length np,zb (zc ⟨tb,tq,za⟩) d.tag.length tp,zb (zc ⟨eb,eq,za⟩) d.fin.length ep] gt wd wr v (bU d.ai d.tag d.fin L aU)/\ze (L.next.length=L.az.length/\L.base.length=k/\L.bA.length=k)/\L.az.length<=60000/\L.base.length<=4000/\L.bA.length<=4000)
     (λi _=>d.tag.length-(intOf i).toNat)
    case atStart=>exact⟨0,_,_,_,by omega,rfl,rfl,S3,⟨rfl,rfl,rfl⟩,by simp,by simp,by simp⟩
    case round=>
     clear S3;obtain⟨k,L,v,aU,hk,rfl,HL,S,mE,zm,bF,hdl⟩:=hrel
     by_cases hlt:k<d.tag.length
     ·obtain⟨x0,x1,x2,x3,x4⟩:=dM S.box;have HM:ze (k*wd+wd<=d.next.length):=by
       have:=IM wd (show k+1<=d.tag.length by omega);rw[Bp]at this;show _<=_;rw[Mb.out];exact this
      have hkw:k*wd<=4000*256:=oU (by omega) (by omega);have e1:(k:Int)*(wd:Int)=((k*wd:Nat):Int):=by simp
      have e2:((k:Int)+1)*(wd:Int)=((k*wd+wd:Nat):Int):=by rw[Int.add_mul];simp
      have hM:k*wd+wd<=np:=by have:=HM.out;omega
      generalize EA:k*wd=km at *;have Vt:ze (k*wd=km):=EA;clear EA;have F6:ze (∀j,j<wd->w.cell? ⟨nb,no+km+j,za⟩=zc (zd .i64 ((a8 d.next wd k).getD j 0))):=λj hj=>by
       rw[zof hj,Vt.out,yC];exact Nq.out (km+j) (by have:=HM.out;omega)
      have cD:∀wx,zj w.heap.size w wx->zk prog 21 #[zb (zc ⟨nb,no+km,za⟩) wd (np-km)] wx λe w'=>e=.returned (zd .i64 (dW (a8 d.next wd k)))/\w'=wx:=λwx hb=>by
       have sw:=zog (s:=k) Mb.out hlt;have h:=zln (lo:=0) (zb (zc ⟨nb,no+km,za⟩) (a8 d.next wd k).length (np-km)) (a8 d.next wd k) wx ⟨_,_,rfl,by omega,λ_=>⟨nb,no+km,rfl,dz _,dR nl hb.size,λj hj=>(hb.cell (by exact nl)).trans (F6.out j (by omega))⟩⟩ (by omega) (by omega);rw[sw]at h;exact h
      have HF:ze (mW d.next wd (k+1)=AY d.next wd k L):=by show (mW d.next wd k).bind _=_;rw[HL.out];rfl
      have e3:km+wd-km=wd:=by omega
      go_upto_region 11 with fail
      rw[e3];clear e3 e1 e2 hM x0 x1 x2 x3 x4;have cDk:=cD wr S.below;have xf:ze (AY d.next wd k L=if aK (a8 d.next wd k) (dW (a8 d.next wd k)) wd=[] then zc ⟨L.base++[0],L.bA++[dW (a8 d.next wd k)],L.next,L.az⟩ else if (aK (a8 d.next wd k) (dW (a8 d.next wd k)) wd).all (λc=>decide (oz L.az (aK (a8 d.next wd k) (dW (a8 d.next wd k)) wd)+c<60000)) then zc ⟨L.base++[(oz L.az (aK (a8 d.next wd k) (dW (a8 d.next wd k)) wd):Int)],L.bA++[dW (a8 d.next wd k)],di 0 L.next (oz L.az (aK (a8 d.next wd k) (dW (a8 d.next wd k)) wd)) (λc=>(a8 d.next wd k).getD c 0) (aK (a8 d.next wd k) (dW (a8 d.next wd k)) wd),di (-1) L.az (oz L.az (aK (a8 d.next wd k) (dW (a8 d.next wd k)) wd)) (λ_=>(k:Int)) (aK (a8 d.next wd k) (dW (a8 d.next wd k)) wd)⟩ else za):=rfl;clear cD;generalize dW (a8 d.next wd k)=dv at *;generalize a8 d.next wd k=row at *
      go_upto_region 12 with (go_at_call 21;refine cDk.mono ?_;rintro e wy ⟨rfl,rfl⟩)
      clear cDk
      go_cut [] from 62 to 67 (λwx=>∃v',fh w #[zb (zc ⟨cb,co,za⟩) d.ai.length p0,zd .i64 wd,zb (zc ⟨nb,no,za⟩) d.next.length np,zb (zc ⟨tb,tq,za⟩) d.tag.length tp,zb (zc ⟨eb,eq,za⟩) d.fin.length ep] gt wd wx v' (bU d.ai d.tag d.fin ⟨L.base,L.bA++[dv],L.next,L.az⟩ aU))
      case first=>
       obtain⟨a0,a1,a2,a3,a4,a5,a6,a7⟩:=iV S.row
       go_wp2_with (refine Ot S wy.heap.size rfl rfl (.tmp 63) (.tmp 65) rfl 2 (by omega) 3 rfl L.bA rfl L.bA.length rfl rfl dv rfl (by omega) ?_;intro g1 mL V1 rr SN;clear a0 a1 a2 a3 a4 a5 a6 a7;obtain⟨a0,a1,a2,a3,a4,a5,a6,a7⟩:=iV rr;have xC:=aM _ _ 3 _ _ rr)
       rw[zoa]at SN
       go_meet
       exact⟨_,SN⟩
      case rest=>
       obtain⟨v',S2⟩:=hcut;clear S;have S4:=S2.fresh;rw[zob]at S4;go_wp2;generalize Ha:upd v' 7 (zb (zc ⟨wc.heap.size,0,za⟩) 0 0)=v4 at *;have Kj:v4 7=zb (zc ⟨wc.heap.size,0,za⟩) 0 0:=by rw[<-Ha];rfl
       clear S2 Ha
       go_loopw [8,71] (λov i wr=>∃(j:Nat) (v5:Nat->zg),j<=wd/\i=zd .i64 j/\ov=v5 7/\fh w #[zb (zc ⟨cb,co,za⟩) d.ai.length p0,zd .i64 wd,zb (zc ⟨nb,no,za⟩) d.next.length np,zb (zc ⟨tb,tq,za⟩) d.tag.length tp,zb (zc ⟨eb,eq,za⟩) d.fin.length ep] gt wd wr v5 (bU d.ai d.tag d.fin ⟨L.base,L.bA++[dv],L.next,L.az⟩ (cj row dv j)))
        (λ_ i _=>wd-(intOf i).toNat)
       case atStart=>exact⟨0,v4,by omega,rfl,Kj.symm,S4⟩
       case round=>
        clear S4 Kj;obtain⟨j,v5,hj,rfl,rfl,S⟩:=hrel
        by_cases mc:j<wd
        ·have c0:wr.cell? ⟨nb,no+km+j,za⟩=zc (zd .i64 (row.getD j 0)):=(S.below.cell (by exact nl)).trans (F6.out j mc);have HY:ze (¬row.getD j 0=dv->cj row dv (j+1)=cj row dv j++[(j:Int)]):=zn0;have U0:ze (row.getD j 0=dv->cj row dv (j+1)=cj row dv j):=zqY;have AV:(cj row dv j).length<=256:=by rw[vd];have:=TJ row dv j;omega
         have zy1:(j:Int)<(wd:Int):=by omega
         generalize row.getD j 0=x at *
         by_cases hx:x=dv
         ·have HR:ze (cj row dv (j+1)=cj row dv j):=U0.out hx;have aO:(x != dv)=false:=by simp[hx]
          clear hx HY U0;go_wp2
          go_roundw
          case rel=>exact⟨j+1,v5,by omega,by go_num,rfl,by rw[HR.out];exact S⟩
          case measure=>simp[intOf];omega
         ·have HR:ze (cj row dv (j+1)=cj row dv j++[(j:Int)]):=HY.out hx;have aO:(x != dv)=true:=by simp[hx]
          clear hx HY U0
          go_wp2_with (refine zku S wr.heap.size rfl rfl (.tmp 79) (.tmp 81) rfl (cj row dv j) rfl (cj row dv j).length rfl rfl (j:Int) rfl (by omega) ?_;intro g1 mL V1 SN)
          rw[zob,<-HR.out]at SN
          go_roundw
          case rel=>exact⟨j+1,_,by omega,by go_num,rfl,SN⟩
          case measure=>simp[intOf];omega
        ·have hjw:j=wd:=by omega
         rw[hjw]at S;clear hjw;obtain⟨⟨oa,Oc⟩,ho⟩:=nX (S.au.own 7 (by omega));have wh:v5 7=.slice oa (cj row dv wd).length Oc:=ho;rw[wh];clear ho
         by_cases zE:aK row dv wd=[]
         ·have UK:ze (mW d.next wd (k+1)=zc ⟨L.base++[0],L.bA++[dv],L.next,L.az⟩):=by show _=_;rw[HF.out,xf.out,af zE]
          have AV:((cj row dv wd).length:Int)=0:=by rw[vd,zE];rfl
          have aO:(((cj row dv wd).length:Int)==0)=true:=by simp[AV]
          clear AV zE HF xf;obtain⟨a0,a1,a2,a3,a4,a5,a6,a7⟩:=iV S.row
          go_wp2_with (refine Ot S wr.heap.size rfl rfl (.tmp 88) (.tmp 89) rfl 1 (by omega) 2 rfl L.base rfl L.base.length rfl rfl 0 rfl (by omega) ?_;intro g1 mL V1 rr SN;clear a0 a1 a2 a3 a4 a5 a6 a7;obtain⟨a0,a1,a2,a3,a4,a5,a6,a7⟩:=iV rr;have xC:=aM _ _ 2 _ _ rr)
          rw[zj9]at SN
          go_roundw
          case rel=>exact⟨k+1,_,_,_,by omega,by go_num,UK.out,SN,⟨mE.out.1,by simp[mE.out.2.1],by simp[mE.out.2.2]⟩,zm,by have:=mE.out.2.1;simp;omega,by have:=mE.out.2.2;simp;omega⟩
          case measure=>simp[intOf];omega
         ·have hop:0<(cj row dv wd).length:=by rw[vd];exact pC.2 zE
          have AV:(cj row dv wd).length<=256:=by rw[vd];have:=TJ row dv wd;omega
          have aO:(((cj row dv wd).length:Int)==0)=false:=by rw[lY];omega
          have HOd:ze (¬aK row dv wd=[]):=zE;clear zE;obtain⟨ob,cp7,e7,hog,NF,_⟩:=S.at (i:=7) (xs:=cj row dv wd) (by omega) rfl hop (by omega);rw[wh]at e7;cases e7;have zxU:ze (∀i,i<(cj row dv wd).length->wr.cell? ⟨ob,i,za⟩=zc (zd .i64 ((cj row dv wd).getD i 0))):=NF;have zyE:=(S.au.own 6 (by omega)).at (show L.az.length<=9223372036854775807 by omega);have zyF:dD (gt+1) wr (v5 6) L.az:=zyE;clear NF zyE;obtain⟨a0,a1,a2,a3,a4,a5,a6,a7⟩:=iV S.row;go_wp2
          go_loop [11,12] (λkv fv=>∃(q:Nat) (fb:Bool),kv=zd .i64 q/\fv=.bool fb/\q<=L.az.length/\ze (∀j,j<q->qM L.az (aK row dv wd) j=false)/\ze (fb=true->qM L.az (aK row dv wd) q=true))
           (λkv fv=>if zpG fv then 0 else L.az.length+1-(intOf kv).toNat)
          case atStart=>exact⟨0,false,rfl,rfl,by omega,λj hj=>absurd hj (fw _),λh=>by cases h⟩
          case round=>
           obtain⟨q,fb,rfl,rfl,hq,HQ,UJ⟩:=hrel;cases fb
           ·clear UJ;go_wp2
            go_loop [12,96] (λfv i=>∃mm:Nat,mm<=(cj row dv wd).length/\i=zd .i64 mm/\fv=.bool true/\ze (∀c∈(aK row dv wd).take mm,im L.az (q+c)=true))
             (λ_ i=>(cj row dv wd).length-(intOf i).toNat)
            case atStart=>exact⟨0,by omega,rfl,rfl,λc hc=>by simp at hc⟩
            case round=>
             obtain⟨mm,xO,rfl,rfl,HA⟩:=hrel
             by_cases uM:mm<(cj row dv wd).length
             ·have c0:wr.cell? ⟨ob,mm,za⟩=zc (zd .i64 ((cj row dv wd).getD mm 0)):=zxU.out mm uM;have Ka:mm<(aK row dv wd).length:=by rw[<-vd];exact uM
              obtain⟨cc,hcc⟩:∃cc:Nat,(aK row dv wd)[mm]=cc:=⟨_,rfl⟩;have LO:ze ((cj row dv wd).getD mm 0=(cc:Int)):=by show _=_;unfold cj;simp[List.getD,Ka,hcc]
              have zn:cc<wd:=Lj (row:=row) (d:=dv) (by rw[<-hcc];exact gA _);rw[LO.out]at c0;have cF:=zqD (v5 6) L.az (q+cc) ((q:Int)+(cc:Int)) wr zyF (by simp);have HT:ze ((aK row dv wd).take (mm+1)=(aK row dv wd).take mm++[cc]):=by show _=_;rw[oh Ka,hcc]
              have PR:ze (cc∈aK row dv wd):=by show _∈_;rw[<-hcc];exact gA _
              have zBW:(mm:Int)<((cj row dv wd).length:Int):=by omega
              clear hcc LO;cases JV:im L.az (q+cc)
              ·rw[JV]at cF;have zxC:ze (qM L.az (aK row dv wd) q=false):=by
                show _=_;cases hX:qM L.az (aK row dv wd) q
                ·rfl
                ·unfold qM at hX;rw[jR]at hX;have:=hX cc PR.out;rw[JV]at this;exact absurd this (by simp)
               have HLt:ze (q<L.az.length):=by
                show _<_
                by_cases fX:q<L.az.length
                ·exact fX
                ·have:=zjI L.az (aK row dv wd) (k:=q) (by omega);rw[zxC.out]at this;cases this
               have HQ2:ze (∀j,j<q+1->qM L.az (aK row dv wd) j=false):=λj hj=>by
                by_cases e:j=q
                ·rw[e];exact zxC.out
                ·exact HQ.out j (by omega)
               clear JV
               go_wp2_with (go_at_call 22;refine cF.mono ?_;rintro e wy ⟨rfl,rfl⟩)
               go_round
               case rel=>exact⟨q+1,false,by go_num,rfl,by have:=HLt.out;omega,HQ2.out,λh=>by cases h⟩
               case measure=>have:=HLt.out;simp[intOf,zpG];omega
              ·rw[JV]at cF;have wX:ze (∀c∈(aK row dv wd).take (mm+1),im L.az (q+c)=true):=λc hc=>by
                rw[HT.out]at hc;rcases gH.1 hc with h1|h1
                ·exact HA.out c h1
                ·rw[sZ.1 h1];exact JV
               clear JV
               go_wp2_with (go_at_call 22;refine cF.mono ?_;rintro e wy ⟨rfl,rfl⟩)
               go_round
               case rel=>exact⟨mm+1,by omega,by go_num,rfl,wX.out⟩
               case measure=>simp[intOf];omega
             ·have zzZ:ze (qM L.az (aK row dv wd) q=true):=by
               show _=_;unfold qM;rw[jR];intro c hc;refine HA.out c ?_;rw[sX (by rw[<-vd];omega)];exact hc
              go_wp2
              go_round
              case rel=>exact⟨q,true,rfl,rfl,hq,HQ.out,λ_=>zzZ.out⟩
              case measure=>simp[intOf,zpG];omega
           ·have IW:ze (oz L.az (aK row dv wd)=q):=zqc (UJ.out rfl) HQ.out;clear UJ HQ
            go_upto_region 34 with fail
            go_cut [] from 112 to 117 (λwx=>∃v',ze (v' 7=zb (zc ⟨ob,0,za⟩) (cj row dv wd).length Oc)/\fh w #[zb (zc ⟨cb,co,za⟩) d.ai.length p0,zd .i64 wd,zb (zc ⟨nb,no,za⟩) d.next.length np,zb (zc ⟨tb,tq,za⟩) d.tag.length tp,zb (zc ⟨eb,eq,za⟩) d.fin.length ep] gt wd wx v' (bU d.ai d.tag d.fin ⟨L.base++[(q:Int)],L.bA++[dv],L.next,L.az⟩ (cj row dv wd)))
            case first=>
             go_wp2_with (refine Ot S wr.heap.size rfl rfl (.tmp 113) (.tmp 115) rfl 1 (by omega) 2 rfl L.base rfl L.base.length rfl rfl (q:Int) rfl (by omega) ?_;intro g1 mL V1 rr SN;clear a0 a1 a2 a3 a4 a5 a6 a7;obtain⟨a0,a1,a2,a3,a4,a5,a6,a7⟩:=iV rr;have xC:=aM _ _ 2 _ _ rr)
             rw[zj9]at SN
             go_meet
             exact⟨upd v5 1 (zb (zc ⟨g1,0,za⟩) (L.base.length+1) mL),wh,SN⟩
            case rest=>
             obtain⟨v6,Qn,S5⟩:=hcut;clear S a0 a1 a2 a3 a4 a5 a6 a7 zxU zyF wh;go_wp2
             go_loopw [120] (λi wr=>∃(m:Nat) (v7:Nat->zg),m<=(cj row dv wd).length/\i=zd .i64 m/\ze (v7 7=zb (zc ⟨ob,0,za⟩) (cj row dv wd).length Oc)/\fh w #[zb (zc ⟨cb,co,za⟩) d.ai.length p0,zd .i64 wd,zb (zc ⟨nb,no,za⟩) d.next.length np,zb (zc ⟨tb,tq,za⟩) d.tag.length tp,zb (zc ⟨eb,eq,za⟩) d.fin.length ep] gt wd wr v7 (bU d.ai d.tag d.fin ⟨L.base++[(q:Int)],L.bA++[dv],di 0 L.next q (λc=>row.getD c 0) ((aK row dv wd).take m),di (-1) L.az q (λ_=>(k:Int)) ((aK row dv wd).take m)⟩ (cj row dv wd))/\ze (∀c∈(aK row dv wd).take m,q+c<60000))
              (λi _=>(cj row dv wd).length-(intOf i).toNat)
             case atStart=>exact⟨0,v6,by omega,rfl,Qn,S5,λc hc=>by simp at hc⟩
             case round=>
              clear S5 Qn;obtain⟨m,v7,hm,rfl,H7,S,FR⟩:=hrel
              by_cases uM:m<(cj row dv wd).length
              ·obtain⟨g7,cp7,e7,_,c7,_⟩:=S.at (i:=7) (xs:=cj row dv wd) (by omega) rfl hop (by omega);rw[H7.out]at e7;cases e7;have c0:wr.cell? ⟨ob,m,za⟩=zc (zd .i64 ((cj row dv wd).getD m 0)):=c7 m uM;clear c7;have Ka:m<(aK row dv wd).length:=by rw[<-vd];exact uM
               obtain⟨cc,hcc⟩:∃cc:Nat,(aK row dv wd)[m]=cc:=⟨_,rfl⟩;have LO:ze ((cj row dv wd).getD m 0=(cc:Int)):=by show _=_;unfold cj;simp[List.getD,Ka,hcc]
               have PR:ze (cc∈aK row dv wd):=by show _∈_;rw[<-hcc];exact gA _
               have zn:cc<wd:=Lj PR.out;rw[LO.out]at c0;have HT:ze ((aK row dv wd).take (m+1)=(aK row dv wd).take m++[cc]):=by show _=_;rw[oh Ka,hcc]
               have zBW:(m:Int)<((cj row dv wd).length:Int):=by omega
               clear hcc LO
               by_cases Ep:q+cc<60000
               ·have zBj:¬60000<=(q:Int)+(cc:Int):=by omega
                have Uv:ze (q+cc<60000):=Ep;have zz2:ze (∀c∈(aK row dv wd).take (m+1),q+c<60000):=λc hc=>by
                 rw[HT.out]at hc;rcases gH.1 hc with h1|h1
                 ·exact FR.out c h1
                 ·rw[sZ.1 h1];exact Ep
                have qo:ze (di 0 L.next q (λc=>row.getD c 0) ((aK row dv wd).take (m+1))=sB 0 (di 0 L.next q (λc=>row.getD c 0) ((aK row dv wd).take m)) (q+cc) (row.getD cc 0)):=by show _=_;rw[HT.out,zhL]
                have qX:ze (di (-1) L.az q (λ_=>(k:Int)) ((aK row dv wd).take (m+1))=sB (-1) (di (-1) L.az q (λ_=>(k:Int)) ((aK row dv wd).take m)) (q+cc) (k:Int)):=by show _=_;rw[HT.out,zhL]
                have I0:ze ((di 0 L.next q (λc=>row.getD c 0) ((aK row dv wd).take m)).length=(di (-1) L.az q (λ_=>(k:Int)) ((aK row dv wd).take m)).length):=OE _ _ _ _ _ _ _ _ mE.out.1;have zC0:(di 0 L.next q (λc=>row.getD c 0) ((aK row dv wd).take m)).length<=60000:=by rw[I0.out];exact Iq _ _ _ _ _ _ zm FR.out
                have zye:(di (-1) L.az q (λ_=>(k:Int)) ((aK row dv wd).take m)).length<=60000:=Iq _ _ _ _ _ _ zm FR.out;generalize di 0 L.next q (λc=>row.getD c 0) ((aK row dv wd).take m)=N0 at *;generalize di (-1) L.az q (λ_=>(k:Int)) ((aK row dv wd).take m)=C0 at *;clear Ep;go_wp2;clear c0
                go_loopw [] (λwr=>∃(n:Nat) (v8:Nat->zg),C0.length<=n/\n<=max C0.length (q+cc+1)/\ze (v8 7=zb (zc ⟨ob,0,za⟩) (cj row dv wd).length Oc)/\fh w #[zb (zc ⟨cb,co,za⟩) d.ai.length p0,zd .i64 wd,zb (zc ⟨nb,no,za⟩) d.next.length np,zb (zc ⟨tb,tq,za⟩) d.tag.length tp,zb (zc ⟨eb,eq,za⟩) d.fin.length ep] gt wd wr v8 (bU d.ai d.tag d.fin ⟨L.base++[(q:Int)],L.bA++[dv],bP 0 n N0,bP (-1) n C0⟩ (cj row dv wd)))
                 (λwr=>q+cc+1-uR wr ⟨gt,7,za⟩)
                case atStart=>exact⟨C0.length,v7,aq _,by omega,H7,by rw[K7 (aq _),K7 (by rw[I0.out];exact aq _)];exact S⟩
                case round=>
                 clear S H7;obtain⟨n,v8,NA,Yc,H8,S⟩:=hrel;have uL:(bP (-1) n C0).length=n:=by rw[pq];omega
                 obtain⟨⟨ca,Gd⟩,hv6⟩:=nX (S.au.own 6 (by omega));have zzE:v8 6=.slice ca n Gd:=by rw[hv6];show Value.slice ca (bP (-1) n C0).length Gd=_;rw[uL]
                 have LY:ze (uR wr ⟨gt,7,za⟩=n):=by show _=_;unfold uR;rw[(iV S.row).2.2.2.2.2.2.2,zzE]
                 clear hv6 uL;obtain⟨a0,a1,a2,a3,a4,a5,a6,a7⟩:=iV S.row;have Qs:=a7;rw[zzE]at Qs
                 by_cases ND:n<=q+cc
                 ·have Sa:(n:Int)<=(q:Int)+(cc:Int):=by omega
                  have WT:N0.length<=n:=by rw[I0.out];exact NA
                  have hn9:n<=60000:=by have:=Uv.out;omega
                  have X8:(bP 0 n N0).length<=2000000:=by rw[pq];omega
                  have X6:(bP (-1) n C0).length<=2000000:=by rw[pq];omega
                  have LM:ze (n<=q+cc):=ND;clear ND a7
                  go_upto_region 41 with fail
                  go_cut [] from 136 to 140 (λwx=>∃v9,ze (v9 7=zb (zc ⟨ob,0,za⟩) (cj row dv wd).length Oc)/\fh w #[zb (zc ⟨cb,co,za⟩) d.ai.length p0,zd .i64 wd,zb (zc ⟨nb,no,za⟩) d.next.length np,zb (zc ⟨tb,tq,za⟩) d.tag.length tp,zb (zc ⟨eb,eq,za⟩) d.fin.length ep] gt wd wx v9 (bU d.ai d.tag d.fin ⟨L.base++[(q:Int)],L.bA++[dv],bP 0 (n+1) N0,bP (-1) n C0⟩ (cj row dv wd)))
                  case first=>
                   go_wp2_with (refine Ot S wr.heap.size rfl rfl (.tmp 137) (.tmp 138) rfl 5 (by omega) 6 rfl (bP 0 n N0) rfl (bP 0 n N0).length rfl rfl 0 rfl X8 ?_;intro g1 mL V1 rr SN;clear a0 a1 a2 a3 a4 a5 a6 Qs;obtain⟨a0,a1,a2,a3,a4,a5,a6,a7⟩:=iV rr;have xC:=aM _ _ 6 _ _ rr)
                   rw[zka,<-Ox WT]at SN
                   go_meet
                   exact⟨upd v8 5 (zb (zc ⟨g1,0,za⟩) ((bP 0 n N0).length+1) mL),H8,SN⟩
                  case rest=>
                   obtain⟨v9,H9,S9⟩:=hcut;clear a0 a1 a2 a3 a4 a5 a6 Qs S H8;obtain⟨a0,a1,a2,a3,a4,a5,a6,a7⟩:=iV S9.row
                   go_wp2_with (refine Ot S9 wc.heap.size rfl rfl (.tmp 142) (.tmp 143) rfl 6 (by omega) 7 rfl (bP (-1) n C0) rfl (bP (-1) n C0).length rfl rfl (-1) rfl X6 ?_;intro g1 mL V1 rr SN;clear a0 a1 a2 a3 a4 a5 a6 a7;obtain⟨a0,a1,a2,a3,a4,a5,a6,a7⟩:=iV rr;have xC:=aM _ _ 7 _ _ rr)
                   rw[zkb,<-Ox NA]at SN;have DB:ze _:=SN.uR
                   go_roundw
                   case rel=>exact⟨n+1,upd v9 6 (zb (zc ⟨g1,0,za⟩) ((bP (-1) n C0).length+1) mL),by omega,by have:=LM.out;omega,H9,SN⟩
                   case measure=>
                    rw[LY.out,DB.out];show q+cc+1-(bP (-1) (n+1) C0).length<_;rw[pq];have:=LM.out;omega
                 ·have Sa:¬(n:Int)<=(q:Int)+(cc:Int):=by omega
                  have SX:fh w #[zb (zc ⟨cb,co,za⟩) d.ai.length p0,zd .i64 wd,zb (zc ⟨nb,no,za⟩) d.next.length np,zb (zc ⟨tb,tq,za⟩) d.tag.length tp,zb (zc ⟨eb,eq,za⟩) d.fin.length ep] gt wd wr v8 (bU d.ai d.tag d.fin ⟨L.base++[(q:Int)],L.bA++[dv],bP 0 (q+cc+1) N0,bP (-1) (q+cc+1) C0⟩ (cj row dv wd)):=by
                   have Nw:n=max C0.length (q+cc+1):=by omega
                   have e1:bP (-1) n C0=bP (-1) (q+cc+1) C0:=by rw[Nw,To]
                   have e2:bP 0 n N0=bP 0 (q+cc+1) N0:=by rw[Nw,<-I0.out,To]
                   rw[<-e1,<-e2];exact S
                  have hXl:(bP 0 (q+cc+1) N0).length=max N0.length (q+cc+1):=pq _ _ _;have Rk:(bP (-1) (q+cc+1) C0).length=max C0.length (q+cc+1):=pq _ _ _;have iu:=Uv.out;obtain⟨g5,cp5,e5,kV,c5,f5⟩:=SX.at (i:=5) (xs:=bP 0 (q+cc+1) N0) (by omega) rfl (by omega) (by omega);have d5:=c5 (q+cc) (by omega);have f5':=f5 (q+cc);rw[e5]at a6;have JZ:(q:Int)+(cc:Int)<((bP 0 (q+cc+1) N0).length:Int):=by omega
                  have rc:wr.cell? ⟨nb,no+km+cc,za⟩=zc (zd .i64 (row.getD cc 0)):=(S.below.cell (by exact nl)).trans (F6.out cc zn);have zDf:(cc:Int)<(wd:Int):=by omega
                  have SP:fh w #[zb (zc ⟨cb,co,za⟩) d.ai.length p0,zd .i64 wd,zb (zc ⟨nb,no,za⟩) d.next.length np,zb (zc ⟨tb,tq,za⟩) d.tag.length tp,zb (zc ⟨eb,eq,za⟩) d.fin.length ep] gt wd (wr.setCell ⟨g5,q+cc,za⟩ (zd .i64 (row.getD cc 0))) v8 (bU d.ai d.tag d.fin ⟨L.base++[(q:Int)],L.bA++[dv],sB 0 N0 (q+cc) (row.getD cc 0),bP (-1) (q+cc+1) C0⟩ (cj row dv wd)):=by
                   have:=SX.put (i:=5) (by omega) rfl e5 (q+cc) (row.getD cc 0);rw[zka]at this;exact this
                  have HXm:ze ((bP (-1) (q+cc+1) C0).length=max C0.length (q+cc+1)):=Rk;clear hXl Rk iu c5 f5 S SX
                  go_upto_region 43 with fail
                  go_cut [] from 146 to 155 (λwx=>fh w #[zb (zc ⟨cb,co,za⟩) d.ai.length p0,zd .i64 wd,zb (zc ⟨nb,no,za⟩) d.next.length np,zb (zc ⟨tb,tq,za⟩) d.tag.length tp,zb (zc ⟨eb,eq,za⟩) d.fin.length ep] gt wd wx v8 (bU d.ai d.tag d.fin ⟨L.base++[(q:Int)],L.bA++[dv],sB 0 N0 (q+cc) (row.getD cc 0),bP (-1) (q+cc+1) C0⟩ (cj row dv wd)))
                  case first=>
                   go_region
                   all_goals
                    go_wp2
                    go_meet
                    first|exact SP|exact SP.drew
                  case rest=>
                   clear a0 a1 a2 a3 a4 a5 a6 a7 Qs SP d5 f5' rc e5;have Rk:=HXm.out;have iu:=Uv.out;obtain⟨g6,cp6,e6,XK,c6,f6⟩:=hcut.at (i:=6) (xs:=bP (-1) (q+cc+1) C0) (by omega) rfl (by omega) (by omega);obtain⟨a0,a1,a2,a3,a4,a5,a6,a7⟩:=iV hcut.row;have d6:=c6 (q+cc) (by omega);have f6':=f6 (q+cc);rw[e6]at a7;have Nl:(q:Int)+(cc:Int)<((bP (-1) (q+cc+1) C0).length:Int):=by omega
                   have SP2:fh w #[zb (zc ⟨cb,co,za⟩) d.ai.length p0,zd .i64 wd,zb (zc ⟨nb,no,za⟩) d.next.length np,zb (zc ⟨tb,tq,za⟩) d.tag.length tp,zb (zc ⟨eb,eq,za⟩) d.fin.length ep] gt wd (wc.setCell ⟨g6,q+cc,za⟩ (zd .i64 (k:Int))) v8 (bU d.ai d.tag d.fin ⟨L.base++[(q:Int)],L.bA++[dv],di 0 L.next q (λc=>row.getD c 0) ((aK row dv wd).take (m+1)),di (-1) L.az q (λ_=>(k:Int)) ((aK row dv wd).take (m+1))⟩ (cj row dv wd)):=by
                    have:=hcut.put (i:=6) (by omega) rfl e6 (q+cc) (k:Int);rw[zkb]at this;rw[qo.out,qX.out];exact this
                   clear Rk iu c6 f6 hcut;go_wp2
                   go_roundw
                   case rel=>exact⟨m+1,v8,by omega,by go_num,H8,SP2,zz2.out⟩
                   case measure=>simp[intOf];omega
               ·have zBj:60000<=(q:Int)+(cc:Int):=by omega
                have Mc:ze (mW d.next wd (k+1)=za):=by
                 show _=_;rw[HF.out,xf.out,ab HOd.out,IW.out,ab];intro bm;rw[jR]at bm;have:=bm cc PR.out;simp at this;omega
                have vr:ze (jO d=2):=by
                 show _=_;have e1:yu d=za:=by
                  unfold yu;rw[show d.width.toNat=wd by rw[DK.out];rfl];exact zhM Mc.out _ hlt
                 unfold jO;rw[ab (by simp[hB]),af e1]
                have hr:=S.bw;have fr:∀o,wr.frozen? ⟨w.heap.size+1,o,za⟩=false:=λ_=>aM _ _ _ _ _ hr
                unfold cO at hr;obtain⟨y0,y1,y2,y3,y4,y5,y6,y7⟩:=kH hr;have h8:=A5 S.below (show w.heap.size<=w.heap.size+1 by omega) (zb za 0 0) (zd .i64 0) (zb za 0 0) (zb za 0 0) (zb za 0 0) (zb za 0 0) (zb za 0 0) (zb za 0 0);have H8:ze (zj w.heap.size w (lR wr (w.heap.size+1) (zb za 0 0) (zd .i64 0) (zb za 0 0) (zb za 0 0) (zb za 0 0) (zb za 0 0) (zb za 0 0) (zb za 0 0))):=h8;clear h8 hr Mc HF xf S;go_wp2;refine aW (v:=.tuple #[zh #[zb za 0 0,zd .i64 0,zb za 0 0,zb za 0 0,zb za 0 0,zb za 0 0,zb za 0 0,zb za 0 0],zd .i64 2]) (by simp[results,results5,go_sem,y0,y1,y2,y3,y4,y5,y6,y7]) rfl ?_;obtain⟨e1,e2⟩:=OO vr.out (by decide);rw[e1,e2,vr.out];exact⟨w.heap.size,λ_=>zb za 0 0,rfl,aq _,aI.nil _ _ _,H8.out⟩
              ·have xO:m=(cj row dv wd).length:=by omega
               have eV:(aK row dv wd).take m=aK row dv wd:=sX (by rw[<-vd];omega);rw[eV]at S FR;have UK:ze (mW d.next wd (k+1)=zc ⟨L.base++[(q:Int)],L.bA++[dv],di 0 L.next q (λc=>row.getD c 0) (aK row dv wd),di (-1) L.az q (λ_=>(k:Int)) (aK row dv wd)⟩):=by
                show _=_;rw[HF.out,xf.out,ab HOd.out,IW.out,af];rw[jR];intro c hc;simp only[lZ];exact FR.out c hc
               have I0:ze ((di 0 L.next q (λc=>row.getD c 0) (aK row dv wd)).length=(di (-1) L.az q (λ_=>(k:Int)) (aK row dv wd)).length):=OE _ _ _ _ _ _ _ _ mE.out.1;have zye:(di (-1) L.az q (λ_=>(k:Int)) (aK row dv wd)).length<=60000:=Iq _ _ _ _ _ _ zm FR.out;clear eV xO FR HF xf IW;go_wp2
               go_roundw
               case rel=>exact⟨k+1,_,v7,_,by omega,by go_num,UK.out,S,⟨I0.out,by simp[mE.out.2.1],by simp[mE.out.2.2]⟩,zye,by have:=mE.out.2.1;simp;omega,by have:=mE.out.2.2;simp;omega⟩
               case measure=>simp[intOf];omega
     ·have kz:k=d.tag.length:=by omega
      have HP:=Z8 (d:=d) (L:=L) hB (by unfold yu;rw[show d.width.toNat=wd by rw[DK.out];rfl,<-kz];exact HL.out);have Va:ze (jO d=0/\yv d=wd/\wK d=bU d.ai d.tag d.fin L []):=⟨HP.1,HP.2.1.trans DK.out,HP.2.2⟩;clear HP kz HL;have F7:aI gt 7 wr v (bU d.ai d.tag d.fin L []):=(S.au.take (by omega)).zAX λi hi=>by
       match i,hi with
       |0,_=>rfl
       |1,_=>rfl
       |2,_=>rfl
       |3,_=>rfl
       |4,_=>rfl
       |5,_=>rfl
       |6,_=>rfl
      obtain⟨⟨b0,z0⟩,e0⟩:=nX (F7.own 0 (by omega));obtain⟨⟨b1,z1⟩,e1⟩:=nX (F7.own 1 (by omega));obtain⟨⟨b2,z2⟩,e2⟩:=nX (F7.own 2 (by omega));obtain⟨⟨b3,z3⟩,e3⟩:=nX (F7.own 3 (by omega));obtain⟨⟨b4,z4⟩,e4⟩:=nX (F7.own 4 (by omega));obtain⟨⟨b5,z5⟩,e5⟩:=nX (F7.own 5 (by omega));obtain⟨⟨b6,z6⟩,e6⟩:=nX (F7.own 6 (by omega));have et:=S.row;have dK:=S.bw;have zl:=S.below;have zB0:=S.over;clear S;have fr:∀o,wr.frozen? ⟨w.heap.size+1,o,za⟩=false:=λ_=>aM _ _ _ _ _ dK
      have E:ze (fR wd v=#[.slice b0 (bU d.ai d.tag d.fin L [] 0).length z0,zd .i64 wd,.slice b1 (bU d.ai d.tag d.fin L [] 1).length z1,.slice b2 (bU d.ai d.tag d.fin L [] 2).length z2,.slice b3 (bU d.ai d.tag d.fin L [] 3).length z3,.slice b4 (bU d.ai d.tag d.fin L [] 4).length z4,.slice b5 (bU d.ai d.tag d.fin L [] 5).length z5,.slice b6 (bU d.ai d.tag d.fin L [] 6).length z6]):=by show _=_;unfold fR;rw[e0,e1,e2,e3,e4,e5,e6]
      rw[E.out]at et;unfold cO at dK;obtain⟨x0,x1,x2,x3,x4,x5,x6,x7⟩:=kH et;obtain⟨y0,y1,y2,y3,y4,y5,y6,y7⟩:=kH dK;have h8:=A5 zl (show w.heap.size<=w.heap.size+1 by omega) (.slice b0 (bU d.ai d.tag d.fin L [] 0).length z0) (zd .i64 wd) (.slice b1 (bU d.ai d.tag d.fin L [] 1).length z1) (.slice b2 (bU d.ai d.tag d.fin L [] 2).length z2) (.slice b3 (bU d.ai d.tag d.fin L [] 3).length z3) (.slice b4 (bU d.ai d.tag d.fin L [] 4).length z4) (.slice b5 (bU d.ai d.tag d.fin L [] 5).length z5) (.slice b6 (bU d.ai d.tag d.fin L [] 6).length z6);have f8:=aI.lR F7 (b:=w.heap.size+1) (by omega) (.slice b0 (bU d.ai d.tag d.fin L [] 0).length z0) (zd .i64 wd) (.slice b1 (bU d.ai d.tag d.fin L [] 1).length z1) (.slice b2 (bU d.ai d.tag d.fin L [] 2).length z2) (.slice b3 (bU d.ai d.tag d.fin L [] 3).length z3) (.slice b4 (bU d.ai d.tag d.fin L [] 4).length z4) (.slice b5 (bU d.ai d.tag d.fin L [] 5).length z5) (.slice b6 (bU d.ai d.tag d.fin L [] 6).length z6);have H8:ze _:=And.intro h8 f8;clear h8 f8 e0 e1 e2 e3 e4 e5 e6 et dK F7;go_wp2;refine aW (v:=.tuple #[zh (fR wd v),zd .i64 0]) (by rw[E.out];simp[results,results5,go_sem,y0,y1,y2,y3,y4,y5,y6,y7]) rfl ?_;obtain⟨q1,q2,q3⟩:=Va.out;rw[q1,q2,q3];exact⟨gt,v,rfl,by omega,H8.out.2,H8.out.1⟩
theorem znj(cv nv tv ev:zg)(d:aL)(w:zi)(hs:dP lo w cv nv tv ev d)(iz:∃ao cap,nv=.slice ao d.next.length cap/\d.next.length<=cap):
  zk prog 5 #[zh #[cv,zd .i64 d.width,nv,tv,ev]] w λe w'=>yi w (yv d) (jO d) (wK d) e w':=by
 cases hB:dH d
 ·have h:jO d=1:=by unfold jO;rw[af hB]
  obtain⟨e1,e2⟩:=OO h (by decide);rw[e1,e2,h];exact zlZ cv nv tv ev d w hs hB
 ·have hw:=(C6 hB).w1;exact zpt cv nv tv ev d d.width.toNat w hs (by omega) iz hB
end
theorem Tryz.zCm:(prog.info? 5).map (λi=>(i.zero,i.size,i.bytes))=zc (zc (.int .u8 0),1,1):=by kernel_rfl
def Pj(b:UInt8):zg:=.int .u8 (b.toNat:Int)
def rI(n:Int):Nat:=if n<0 then 65535 else n.toNat
def jJ(n:Int):List UInt8:=[UInt8.ofNat (rI n/256),UInt8.ofNat (rI n%256)]
theorem zX(n:Int):(jJ n).length=2:=rfl
theorem zvY{n:Int}(h0:0<=n)(h1:n<=1000000000000000000):IntKind.i64.wrap n=n:=by
 simp[IntKind.wrap,IntKind.bits,IntKind.signed];omega
def nU(l:List UInt8):Nat:=l.foldl (λs b=>(s+b.toNat)%65536) 0
theorem znn(l:List UInt8):nU l<65536:=by
 unfold nU;have:∀(l:List UInt8) (s:Nat),s<65536->l.foldl (λs b=>(s+b.toNat)%65536) s<65536:=by
  intro l
  induction l with
  |nil=>intro s h;exact h
  |cons b l ih=>intro s h;exact ih _ (Nat.mod_lt _ (by omega))
 exact this l 0 (by omega)
def wO:List Int->List Int->Bool
 |k::ks,n::ns=>(!(k == -1&&n != 0))&&wO ks ns
 |_,_=>true
theorem zoP(ks ns:List Int)(k:Nat)(hk:k<ks.length)(hn:k<ns.length)(x y:Int)(hx:ks.getD k 0=x)(hy:ns.getD k 0=y):wO (ks.drop k) (ns.drop k)=((!(x == -1&&y != 0))&&wO (ks.drop (k+1)) (ns.drop (k+1))):=by
 rw[Dn hk,Dn hn];have h1:ks[k]=x:=by rw[<-hx];simp[List.getD,hk]
 have h2:ns[k]=y:=by rw[<-hy];simp[List.getD,hn]
 rw[wO,h1,h2]
theorem zqi(ks ns:List Int)(k:Nat)(hk:ks.length<=k):wO (ks.drop k) (ns.drop k)=true:=by
 rw[Bn hk];rfl
def mZ(d:cg):Bool:=
 decide (d.ai.length=256)&&aG d.width 1 256&&cd 0 (d.width-1) d.ai&&aG d.base.length 1 4000&&decide (d.bA.length=d.base.length)&&decide (d.tag.length=d.base.length)&&decide (d.fin.length=d.base.length) &&
 decide (d.next.length=d.az.length)&&decide (d.next.length<=60000)&&(wO d.az d.next&&(cd 0 59999 d.base&&cd 0 (d.base.length-1) d.bA&&cd (-1) 99 d.tag&&cd (-1) 99 d.fin&&cd (-1) (d.base.length-1) d.az&&cd 0 (d.base.length-1) d.next))
end Go.Proofs.YtfajjdgkiilhfaaGreatDoor
