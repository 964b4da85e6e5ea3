import Derived.Test.YtfajjdgkiilhfaaGreatDoorC5
import Derived.Test.YtfajjdgkiilhfaaGreatDoorC20
namespace Go.Proofs.YtfajjdgkiilhfaaGreatDoor
open Proofs.Tryz
open Option renaming none->za,some->zd
open Value renaming slice->zb,int->ze
open Obj renaming cells->zc
open Go renaming Value->zf,World->zg
set_option maxHeartbeats 1000000
set_option maxRecDepth 100000
open Go.RowKit
attribute [local go_sem ↓] wp_at_zero wp_at_succ
section
variable {gt:Nat}{v:Nat -> zf}{l:Nat -> List Int}
def xY(cl nx tg en hd:List Int):Nat->List Int:=λi=>if i=0 then cl else if i=1 then nx else if i=2 then tg else if i=3 then en else if i=4 then hd else []
theorem zvv(cl nx tg en hd x:List Int):bG (xY cl nx tg en hd) 1 x=xY cl x tg en hd:=by
 funext i
 by_cases h:i=1
 ·subst h;rw[jj];rfl
 ·rw[eO _ _ h];unfold xY;rw[ab h,ab h]
theorem zvV(cl nx tg en hd x:List Int):bG (xY cl nx tg en hd) 2 x=xY cl nx x en hd:=by
 funext i
 by_cases h:i=2
 ·subst h;rw[jj];rfl
 ·rw[eO _ _ h];unfold xY;rw[ab h,ab h]
theorem zvW(cl nx tg en hd x:List Int):bG (xY cl nx tg en hd) 3 x=xY cl nx tg x hd:=by
 funext i
 by_cases h:i=3
 ·subst h;rw[jj];rfl
 ·rw[eO _ _ h];unfold xY;rw[ab h,ab h]
def vC(a b:zf):Nat->zf:=λi=>if i=0 then a else if i=4 then b else zb za 0 0
theorem zsw{W:zg}(h:aI gt 2 W v l):aI gt 5 W (vC (v 0) (v 1)) (xY (l 0) [] [] [] (l 1)):=by
 have nil:∀B,bX B W (zb za 0 0) []:=λB=>⟨rfl,.inl ⟨rfl,rfl⟩⟩
 have nb:∀b,(Value.slice za 0 0).ownBlock≠zd b:=λb=>by simp[Value.ownBlock]
 refine⟨λi hi=>?_,λi j hi hj hij b hb=>?_⟩
 ·match i,hi with
  |0,_=>exact h.own 0 (by omega)
  |1,_=>exact nil _
  |2,_=>exact nil _
  |3,_=>exact nil _
  |4,_=>exact h.own 1 (by omega)
 ·have cl:∀i,i<5->i≠0->i≠4->vC (v 0) (v 1) i=zb za 0 0:=λi _ h0 h4=>by unfold vC;rw[ab h0,ab h4]
  by_cases i0:i=0
  ·subst i0
   by_cases j4:j=4
   ·subst j4;exact h.apart 0 1 (by omega) (by omega) (by omega) b hb
   ·rw[cl j hj (by omega) j4];exact nb b
  ·by_cases i4:i=4
   ·subst i4
    by_cases j0:j=0
    ·subst j0;exact h.apart 1 0 (by omega) (by omega) (by omega) b hb
    ·rw[cl j hj j0 (by omega)];exact nb b
   ·rw[cl i hi i0 i4]at hb;exact absurd hb (nb b)
theorem lE.start{We Wf W1:zg}{X:Xs}{N:Nat}{width:Int}(EJ:We.heap.size=gt)(hf:aI gt 2 Wf v l)(hb:Below gt We Wf)(hle:gt<=Wf.heap.size)
  (hg:(Wf.alloc (zc (iF width (vC (v 0) (v 1))) 25)).grownBy W1 za) (hm:gZ W1 (Wf.heap.size+1) N (λ_=>false)):
  lE We gt Wf.heap.size (W1.alloc (zc #[zb (zd ⟨Wf.heap.size+1,0,za⟩) N N] 93)) X N width (vC (v 0) (v 1)) (xY (l 0) [] [] [] (l 1)) (zb (zd ⟨W1.heap.size,0,za⟩) 1 1) (λ_=>Wf.heap.size+1) [fT]:=by
 have b1:Below Wf.heap.size Wf (Wf.alloc (zc (iF width (vC (v 0) (v 1))) 25)):=ax;have b2:Below (Wf.alloc (zc (iF width (vC (v 0) (v 1))) 25)).heap.size (Wf.alloc (zc (iF width (vC (v 0) (v 1))) 25)) W1:=(Below.refl _ _).grown hg (aq _) (by intro k h;cases h);have b3:Below W1.heap.size W1 (W1.alloc (zc #[zb (zd ⟨Wf.heap.size+1,0,za⟩) N N] 93)):=ax;have s1:Wf.heap.size+1=(Wf.alloc (zc (iF width (vC (v 0) (v 1))) 25)).heap.size:=by simp
 have s2:=b2.size;have d0:(Wf.alloc (zc (iF width (vC (v 0) (v 1))) 25)).heap[Wf.heap.size]?=zd (zc (iF width (vC (v 0) (v 1))) 25 (0,0)):=aJ _ _;have bb:Below Wf.heap.size Wf (W1.alloc (zc #[zb (zd ⟨Wf.heap.size+1,0,za⟩) N N] 93)):=(b1.trans (b2.mono (by omega))).trans (b3.mono (by omega));refine⟨EJ,hb.trans (bb.mono hle),hle,(b3.block _ (by omega)).trans ((b2.block _ (ay d0)).trans d0),(zsw hf).below bb,?_,λk hk=>?_⟩
 ·refine⟨rfl,.inr ⟨W1.heap.size,1,_,rfl,by omega,aJ _ _,aq _,by unfold maxLen;omega,rfl,rfl⟩⟩
 ·have hk:k<1:=hk;obtain rfl:k=0:=by omega
  exact⟨by omega,_,hm.below b3,zsL X N,zrL X⟩
end
section
variable {w W:zg}{g:Nat}
def vg(w:zg)(code width:Int)(l:Nat->List Int)(e:Ending)(w':zg):Prop:=∃(gt:Nat) (v:Nat->zf),e=.returned (.tuple #[.agg (iF width v),ze .i64 code])/\w.heap.size<=gt/\aI gt 4 w' v l/\Below w.heap.size w w'
theorem vg.E6{code:Int}(h:Below w.heap.size w W):vg w code 0 (λ_=>[]) (.returned (.tuple #[.agg bI,ze .i64 code])) W:=⟨w.heap.size,λ_=>zb za 0 0,rfl,aq _,aI.nil _ _ _,h⟩
theorem Tl{t:TypeId}(h:w.heap[g]?=zd (zc bI t (0,0))):w.cell? ⟨g,0,za⟩=zd (zb za 0 0)/\w.cell? ⟨g,1,za⟩=zd (ze .i64 0)/\w.cell? ⟨g,2,za⟩=zd (zb za 0 0)/\w.cell? ⟨g,3,za⟩=zd (zb za 0 0)/\w.cell? ⟨g,4,za⟩=zd (zb za 0 0):=by
 have:∀o,w.cell? ⟨g,o,za⟩=bI[o]?:=λ_=>iY _ _ _ _ _ _ h
 exact⟨this 0,this 1,this 2,this 3,this 4⟩
theorem TA{a b c d e:zf}{t:TypeId}(h:W.heap[g]?=zd (zc #[a,b,c,d,e] t (0,0))):W.frozen? ⟨g,0,za⟩=false/\W.frozen? ⟨g,1,za⟩=false/\W.frozen? ⟨g,2,za⟩=false/\W.frozen? ⟨g,3,za⟩=false/\W.frozen? ⟨g,4,za⟩=false:=
 ⟨aM _ _ 0 _ _ h,aM _ _ 1 _ _ h,aM _ _ 2 _ _ h,aM _ _ 3 _ _ h,aM _ _ 4 _ _ h⟩
theorem zgO(v:zf)(most:Int)(w:zg)(h:¬(1<=most/\most<=4000)):
  Calls prog 41 #[v,ze .i64 most] w (vg w 1 0 (λ_=>[])):=by
 have hb:aG most 1 4000=false:=by unfold aG;simp;omega
 obtain⟨W0,aw⟩:∃W0,w.alloc (zc bI 25)=W0:=⟨_,rfl⟩;have b0:Below w.heap.size w W0:=by rw[<-aw];exact ax
 have x0:W0.heap[w.heap.size]?=zd (zc bI 25 (0,0)):=by rw[<-aw];exact aJ _ _
 obtain⟨p0,p1,p2,p3,p4⟩:=Tl x0;obtain⟨f0,f1,f2,f3,f4⟩:=TA x0;have cb:=ln most 1 4000 W0;rw[hb]at cb;unfold bI at aw;have bD:=ag aw;have HB:=ag b0;have HX:=ag x0;clear hb x0 b0 h aw
 go_enter func41,ntmps41
 go_upto_region 1 with fail
 rw[bD.out];clear bD
 go_wp2_with fail
 refine cb.mono ?_;rintro e W1 ⟨rfl,cZ⟩;subst W1;clear cb;go_wp2;refine aW (v:=.tuple #[.agg #[zb za 0 0,ze .i64 0,zb za 0 0,zb za 0 0,zb za 0 0],ze .i64 1]) (by simp[results,results41,go_sem,p0,p1,p2,p3,p4]) rfl ?_;exact vg.E6 (Ig HB.out (aq _) _ _ _ _ _)
theorem zgN(v:zf)(rs:List dL)(most:Int)(w:zg)(hs:qJ 0 w v rs)(hsm:Iy rs)(h:1<=most/\most<=4000)(hl:qg rs=false):
  Calls prog 41 #[v,ze .i64 most] w (vg w 2 0 (λ_=>[])):=by
 have hb:aG most 1 4000=true:=kK.2 h;obtain⟨W0,aw⟩:∃W0,w.alloc (zc bI 25)=W0:=⟨_,rfl⟩;have b0:Below w.heap.size w W0:=by rw[<-aw];exact ax
 have x0:W0.heap[w.heap.size]?=zd (zc bI 25 (0,0)):=by rw[<-aw];exact aJ _ _
 have cb:=ln most 1 4000 W0;rw[hb]at cb;have cl:=zhJ v rs W0 (hs.below b0) hsm;rw[hl]at cl;unfold bI at aw;have bD:=ag aw;have HB:=ag b0;have HX:=ag x0;clear hb x0 b0 h aw hs hsm hl
 go_enter func41,ntmps41
 go_upto_region 1 with fail
 rw[bD.out];clear bD
 go_wp2_with fail
 refine cb.mono ?_;rintro e W1 ⟨rfl,cZ⟩;subst W1;clear cb
 go_wp2_with fail
 refine cl.mono ?_;rintro e W2 ⟨rfl,b2⟩;have x2:=(b2.block _ (ay HX.out)).trans HX.out;obtain⟨p0,p1,p2,p3,p4⟩:=Tl x2;obtain⟨f0,f1,f2,f3,f4⟩:=TA x2;have jB:=ag (aH HB.out HB.out.size b2);clear cl x2 b2;go_wp2;refine aW (v:=.tuple #[.agg #[zb za 0 0,ze .i64 0,zb za 0 0,zb za 0 0,zb za 0 0],ze .i64 2]) (by simp[results,results41,go_sem,p0,p1,p2,p3,p4]) rfl ?_;exact vg.E6 (Ig jB.out (aq _) _ _ _ _ _)
end

section
variable {gt:Nat} {W W':zg} {p:Nat} {mv:zf} {m:Nat} {mi:Nat->Nat} {v:Nat->zf} {l:Nat->List Int} {N:Nat} {o wk:List Nat} {mem:Nat->List Nat}
end
end Go.Proofs.YtfajjdgkiilhfaaGreatDoor
