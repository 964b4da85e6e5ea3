import Derived.Test.YtfajjdgkiilhfaaC0
import Derived.Deep.RegionHeld3
namespace Go.Proofs.Ytfajjdgkiilhfaa
open Proofs.Try
open Value renaming int->za,agg->zy,pointer->zF
open RowKit renaming Hid->zh,Below->zn
open Go renaming World->zi,Value->zp,Calls->zw
open Option renaming none->zx,some->zB
open Obj renaming cells->zD
set_option maxHeartbeats 1000000
set_option maxRecDepth 100000
open Go.RowKit
section
attribute [local go_sem ↓] wp_at_zero wp_at_succ
section
variable {p a:Nat}{b w:zi}{c:List UInt8}{room:Int}
def lA(c:List UInt8)(a:Nat):Nat×Nat:=if a<c.length then ((c.getD a 0).toNat,a+1) else (0,a)
def af(c:List UInt8)(n:Int)(a:Nat):Int×Nat:=
 if n<=1 then (0,a) else if n<=256 then (((lA c a).1:Int)%n,(lA c a).2)
 else ((((lA c a).1:Int)*256+((lA c (lA c a).2).1:Int))%n,(lA c (lA c a).2).2)
structure a7(w:zi)(p:Nat)(c:List UInt8)(a:Nat)(room:Int):Prop where
 box:∃ao cap,w.heap[p]?=zB (zD #[.slice ao c.length cap,za .i64 a,za .i64 room] 34 (0,0))/\(0<c.length->∃b o,ao=zB ⟨b,o,zx⟩/\b<p/\∀k,k<c.length->w.cell? ⟨b,o+k,zx⟩=zB (.int .u8 ((c.getD k 0).toNat:Int)))
 len:c.length<=1048576
 le:a<=c.length
structure aJ(p:Nat)(w w':zi):Prop where
 os:w'.os=w.os
 tape:w'.tape=w.tape
 output:w'.output=w.output
 size:w.heap.size<=w'.heap.size
 block:∀k,k<w.heap.size->k≠p->w'.heap[k]?=w.heap[k]?
theorem aJ.refl(p:Nat)(w:zi):aJ p w w:=⟨rfl,rfl,rfl,ax _,λ_ _ _=>rfl⟩
theorem aJ.trans{a c:zi}(h:aJ p a b)(k:aJ p b c):aJ p a c:=
 ⟨k.os.trans h.os,k.tape.trans h.tape,k.output.trans h.output,cM h.size k.size,λi hi hs=>(k.block i (fR hi h.size) hs).trans (h.block i hi hs)⟩
theorem aJ.of{a:zi}(h:zn a.heap.size a b):aJ p a b:=⟨h.os,h.tape,h.output,h.size,λk hk _=>h.block k hk⟩
theorem aJ.set(w:zi)(i:Nat)(u:zp):aJ p w (w.setCell ⟨p,i,zx⟩ u):=
 ⟨rfl,rfl,rfl,by simp[World.setCell],λk _ hs=>cS _ _ _ _ hs⟩
theorem a7.lt(h:a7 w p c a room):p<w.heap.size:=by
 obtain⟨ao,cap,hp,_⟩:=h.box;exact(gF.1 hp).1
theorem a7.keep{w':zi}(h:a7 w p c a room)(hs:∀k,k<=p->w'.heap[k]?=w.heap[k]?):a7 w' p c a room:=by
 obtain⟨ao,cap,hp,hc⟩:=h.box;refine⟨⟨ao,cap,(hs p (ax _)).trans hp,λh0=>?_⟩,h.len,h.le⟩;obtain⟨b,o,e,hb,hk⟩:=hc h0;exact⟨b,o,e,hb,λk hl=>(World.cell?_of_block (hs b (by omega))).trans (hk k hl)⟩
theorem a7.step(h:a7 w p c a room){a':Nat}(ha:a'<=c.length):a7 (w.setCell ⟨p,1,zx⟩ (za .i64 a')) p c a' room:=by
 obtain⟨ao,cap,hp,hc⟩:=h.box;refine⟨⟨ao,cap,by simpa using dx w p 1 _ _ (za .i64 a') hp,λh0=>?_⟩,h.len,ha⟩;obtain⟨b,o,e,hb,hk⟩:=hc h0;exact⟨b,o,e,hb,λk hl=>(World.cell?_of_block (cS _ _ _ _ (Nat.ne_of_lt hb))).trans (hk k hl)⟩
theorem T9(h:a<=c.length):(lA c a).2<=c.length/\(lA c a).1<=255:=by
 unfold lA;split
 ·exact⟨by show a+1<=_;omega,by have:=(c.getD a 0).toNat_lt;show (c.getD a 0).toNat<=255;omega⟩
 ·exact⟨h,bH _⟩
theorem zmh(w:zi)(p:Nat)(c:List UInt8)(a:Nat)(room:Int)(h:a7 w p c a room):
  zw prog 37 #[zF (zB ⟨p,0,zx⟩)] w λe w'=>e=.returned (za .i64 (lA c a).1)/\a7 w' p c (lA c a).2 room/\aJ p w w':=by
 obtain⟨ao,cap,hp,hc⟩:=h.box;have hlen:=h.len;have hle:=h.le;have dz:=h.lt;have c0:w.cell? ⟨p,0,zx⟩=zB (.slice ao c.length cap):=kr hp 0;have c1:w.cell? ⟨p,1,zx⟩=zB (za .i64 a):=kr hp 1
 by_cases ha:a<c.length
 ·obtain⟨b,o,rfl,hb,hk⟩:=hc (by omega);have Hb:zh (lA c a=((c.getD a 0).toNat,a+1)):=ae ha;have hn:¬((c.length:Int)<=(a:Int)):=by omega
  have f1:w.frozen? ⟨p,1,zx⟩=false:=aR _ _ _ _ _ hp;have Hh:zh _:=h;have Hk:zh _:=hk;clear hk hc h
  go_enter func37,ntmps37
  go_wp2
  go_quiet (fail)
  go_wp2;obtain⟨W,hW⟩:∃W,(w.drewN nq).setCell ⟨p,1,zx⟩ (za .i64 ((a+1:Nat):Int))=W:=⟨_,rfl⟩;have hD:=(Hh.out.keep (w':=w.drewN nq) (λ_ _=>by simp)).step (a':=a+1) (by omega);have hK:=(aJ.of (p:=p) (below_drewN (Below.refl _ w) nq)).trans (aJ.set _ 1 (za .i64 ((a+1:Nat):Int)));simp only[show ((a:Int)+1)=((a+1:Nat):Int) from rfl];rw[hW]at hD hK ⊢;have hp':W.heap[p]?=zB (zD #[.slice (zB ⟨b,o,zx⟩) c.length cap,za .i64 ((a+1:Nat):Int),za .i64 room] 34 (0,0)):=by
   rw[<-hW];exact dx (w.drewN nq) p 1 _ _ (za .i64 ((a+1:Nat):Int)) (show (w.drewN nq).heap[p]?=_ by simpa using hp)
  have d0:W.cell? ⟨p,0,zx⟩=zB (.slice (zB ⟨b,o,zx⟩) c.length cap):=kr hp' 0;have d1:W.cell? ⟨p,1,zx⟩=zB (za .i64 ((a+1:Nat):Int)):=kr hp' 1;have k1:W.cell? ⟨b,o+a,zx⟩=zB (.int .u8 ((c.getD a 0).toNat:Int)):=by
   rw[<-Hk.out a ha];exact World.cell?_of_block (hK.block b (by omega) (Nat.ne_of_lt hb))
  obtain⟨x,hx⟩:∃x,(c.getD a 0).toNat=x:=⟨_,rfl⟩;have pZ:x<256:=by have:=(c.getD a 0).toNat_lt;omega
  have Bq:zh (lA c a=(x,a+1)):=by rw[<-hx];exact Hb.out
  rw[hx]at k1;have i1:(0:Int)<=(a:Int):=by omega
  have i2:(a:Int)<(c.length:Int):=by omega
  clear c0 c1 hW
  go_quiet (fail)
  go_wp2;go_ret;exact⟨gq (by rw[Bq.out]),by rw[Hb.out];exact hD.keep λ_ _=>by simp,hK.trans (.of (below_drewN (Below.refl _ W) _))⟩
 ·have Hb:zh (lA c a=(0,a)):=ab ha;have hn:(c.length:Int)<=(a:Int):=by omega
  have Hh:zh _:=h;clear h hc hp ha
  go_enter func37,ntmps37
  go_wp2
  go_quiet (fail)
  go_wp2;go_ret;exact⟨gq (by rw[Hb.out];rfl),by rw[Hb.out];exact Hh.out.keep λ_ _=>by simp,.of (below_drewN (Below.refl _ w) _)⟩
theorem uq(w:zi)(p:Nat)(c:List UInt8)(a:Nat)(room:Int)(h:a7 w p c a room)(n:Int)(hn:n<=65536):
  zw prog 27 #[zF (zB ⟨p,0,zx⟩),za .i64 n] w λe w'=>e=.returned (za .i64 (af c n a).1)/\a7 w' p c (af c n a).2 room/\aJ p w w':=by
 have hb:=zmh w p c a room h;have hl:=T9 h.le
 by_cases h1:n<=1
 ·have Hp:zh (af c n a=(0,a)):=ae h1
  go_enter func27,ntmps27
  go_wp2;go_ret;exact⟨gq (by rw[Hp.out]),by rw[Hp.out];exact h,.refl _ _⟩
 by_cases h2:n<=256
 ·have Hp:zh (af c n a=(((lA c a).1:Int)%n,(lA c a).2)):=by unfold af;rw[ab h1,ae h2];rfl
  obtain⟨x,y,hx⟩:∃x y,lA c a=(x,y):=⟨_,_,rfl⟩;rw[hx]at hb hl Hp;have h3:¬n=0:=by omega
  go_enter func27,ntmps27
  go_wp2_with (go_at_call 37;refine hb.mono ?_;rintro e w' ⟨rfl,hd,hk⟩)
  go_ret
  exact⟨gq (by rw[Hp.out]),by rw[Hp.out];exact hd,hk⟩
 have Hp:zh (af c n a=((((lA c a).1:Int)*256+((lA c (lA c a).2).1:Int))%n,(lA c (lA c a).2).2)):=by show _=_;unfold af;rw[ab h1,ab h2]
 have aL:=λ(W:zi) hW=>zmh W p c (lA c a).2 room hW
 have dT:=T9 hl.1;obtain⟨x,y,hx⟩:∃x y,lA c a=(x,y):=⟨_,_,rfl⟩;rw[hx]at hb aL hl dT Hp;obtain⟨x2,y2,mR⟩:∃x y',lA c y=(x,y'):=⟨_,_,rfl⟩;rw[mR]at aL dT Hp;have h3:¬n=0:=by omega
 have j1:x<=255:=hl.2;have j2:x2<=255:=dT.2;clear hl dT
 go_enter func27,ntmps27
 go_wp2_with (go_at_call 37;first|(refine hb.mono ?_;rintro e w' ⟨rfl,hd,hk⟩;clear hb)|(refine(aL _ hd).mono ?_;rintro e w2 ⟨rfl,fF,bJ⟩))
 go_ret
 exact⟨gq (by rw[Hp.out]),by rw[Hp.out];exact fF,hk.trans bJ⟩
theorem ku(h:a<=c.length)(n:Int):(af c n a).2<=c.length/\0<=(af c n a).1/\((af c n a).1<n\/(af c n a).1=0):=by
 unfold af;have h1:=T9 h;have h2:=T9 h1.1;split
 ·exact⟨h,Int.le_refl _,.inr rfl⟩
 ·split
  ·exact⟨h1.1,Int.emod_nonneg _ (by omega),.inl (Int.emod_lt_of_pos _ (by omega))⟩
  ·exact⟨h2.1,Int.emod_nonneg _ (by omega),.inl (Int.emod_lt_of_pos _ (by omega))⟩
def rQ(c:List UInt8)(a:Nat):Int×Nat:=(if (af c 10 a).1=9 then 2 else if (af c 10 a).1=7\/(af c 10 a).1=8 then 1 else 0,(af c 10 a).2)
theorem zqw(w:zi)(p:Nat)(c:List UInt8)(a:Nat)(room:Int)(h:a7 w p c a room):
  zw prog 15 #[zF (zB ⟨p,0,zx⟩)] w λe w'=>e=.returned (za .i64 (rQ c a).1)/\a7 w' p c (rQ c a).2 room/\aJ p w w':=by
 have hb:=uq w p c a room h 10 (by omega);have Hm:zh (rQ c a=(if (af c 10 a).1=9 then 2 else if (af c 10 a).1=7\/(af c 10 a).1=8 then 1 else 0,(af c 10 a).2)):=rfl;obtain⟨x,y,hx⟩:∃x y,af c 10 a=(x,y):=⟨_,_,rfl⟩;rw[hx]at hb Hm;have Ol:x=9\/x=7\/x=8\/(x≠9/\x≠7/\x≠8):=by omega
 rcases Ol with rfl|rfl|rfl|⟨n9,n7,n8⟩
 all_goals
  try have m9:(x==9)=false:=by simp[n9]
  try have m7:(x==7)=false:=by simp[n7]
  try have m8:(x==8)=false:=by simp[n8]
  go_enter func15,ntmps15
  go_wp2_with (go_at_call 27;refine hb.mono ?_;rintro e w' ⟨rfl,hd,hk⟩)
  go_ret
  exact⟨gq (by rw[Hm.out];simp<;>omega),by rw[Hm.out];exact hd,hk⟩
end
end
structure aE where
 aD:List Int
 width:Int
 next:List Int
 tag:List Int
 fin:List Int
structure dk(lo:Nat)(w:zi)(cv nv tv ev:zp)(d:aE):Prop where
 aD:dW lo w cv d.aD
 next:dW lo w nv d.next
 tag:dW lo w tv d.tag
 fin:dW lo w ev d.fin
theorem dk.below{lo:Nat}{w w':zi}{cv nv tv ev:zp}{d:aE}(h:dk lo w cv nv tv ev d)(hb:zn w.heap.size w w'):dk lo w' cv nv tv ev d:=
 ⟨h.aD.below hb,h.next.below hb,h.tag.below hb,h.fin.below hb⟩
def Ce(d:aE):Prop:=d.aD.length<=1048576/\d.next.length<=1048576/\d.tag.length<=1048576/\d.fin.length<=1048576
theorem mq{l:Nat}(lo hi:Int)(v:zp)(xs:List Int)(w:zi)(hs:dW l w v xs):
  zw prog 13 #[v,za .i64 lo,za .i64 hi] w λe w'=>e=.returned (.bool (fO lo hi xs))/\w'=w:=by
 obtain⟨ao,cap,rfl,hm,hc⟩:=hs
 go_enter func13,ntmps13
 go_wp2
 go_loop [11] (λi=>∃k:Nat,k<=xs.length/\i=za .i64 k/\zh (fO lo hi xs=fO lo hi (xs.drop k)))
  (λi=>xs.length-(intOf i).toNat)
 case atStart=>exact⟨0,bH _,rfl,rfl⟩
 case round=>
  obtain⟨k,hk,rfl,HS⟩:=hrel
  by_cases hlt:k<xs.length
  ·obtain⟨b,o,x,rfl,Hn,cQ,c0⟩:=hc.elem (Below.refl _ _) hlt;have HD:zh _:=zh3 lo hi xs k hlt x Hn.out
   by_cases hb:aT x lo hi=true
   ·go_wp2_with (go_at_call 12;refine(lp _ _ _ _).mono ?_;rintro e w' ⟨rfl,rfl⟩)
    go_round
    case rel=>exact⟨k+1,by omega,by go_num,by show _=_;rw[HS.out,HD.out,hb,Cu]⟩
    case measure=>simp[intOf];omega
   ·have iQ:aT x lo hi=false:=by simpa using hb
    clear hb
    go_wp2_with (go_at_call 12;refine(lp _ _ _ _).mono ?_;rintro e w' ⟨rfl,rfl⟩)
    go_ret
    exact⟨dD (by rw[HS.out,HD.out,iQ,Bool.false_and]),rfl⟩
  ·go_wp2;go_ret;exact⟨dD (by rw[HS.out,Em (by omega)];rfl),rfl⟩
section
variable {lo:Nat}
def dX(d:aE):Bool:=
 decide (d.aD.length=256)&&aT d.width 1 256&&aT d.tag.length 1 4000&&decide (d.fin.length=d.tag.length)&&decide ((d.next.length:Int)=d.tag.length*d.width) &&
 fO 0 (d.width-1) d.aD&&fO 0 (d.tag.length-1) d.next&&fO (-1) 99 d.tag&&fO (-1) 99 d.fin
theorem vz{x a b:Int}:aT x a b=true↔a<=x/\x<=b:=by simp[aT]
theorem zkO(cv nv tv ev:zp)(d:aE)(w:zi)(hs:dk lo w cv nv tv ev d)(h:¬d.aD.length=256):
  zw prog 6 #[zy #[cv,za .i64 d.width,nv,tv,ev]] w λe w'=>e=.returned (.bool (dX d))/\zn w.heap.size w w':=by
 have aG:zn w.heap.size w (w.alloc (zD #[cv,za .i64 d.width,nv,tv,ev] 25)):=aC;have bT:=hs.below aG;clear aG;obtain⟨⟨ca,cc,rfl,cm,cx⟩,⟨na,nc,rfl,nm,nx⟩,⟨ta,tc,rfl,tm,tx⟩,⟨ea,ec,rfl,em,ex⟩⟩:=hs;clear cx nx tx ex;have H:zh (dX d=false):=by show _=_;simp[dX, *]
 go_enter func6,ntmps6
 go_wp2_with (first|(go_at_call 12;refine(lp _ _ _ _).mono ?_;rintro e w' ⟨rfl,rfl⟩)|(go_at_call 13;(first|refine(mq _ _ _ d.aD _ bT.aD).mono ?_|refine(mq _ _ _ d.next _ bT.next).mono ?_|refine(mq _ _ _ d.tag _ bT.tag).mono ?_|refine(mq _ _ _ d.fin _ bT.fin).mono ?_);rintro e w' ⟨rfl,rfl⟩))
 go_ret
 exact⟨dD H.out.symm,aC⟩
theorem zkP(cv nv tv ev:zp)(d:aE)(w:zi)(hs:dk lo w cv nv tv ev d)(g1:d.aD.length=256)(h:aT d.width 1 256=false):
  zw prog 6 #[zy #[cv,za .i64 d.width,nv,tv,ev]] w λe w'=>e=.returned (.bool (dX d))/\zn w.heap.size w w':=by
 have aG:zn w.heap.size w (w.alloc (zD #[cv,za .i64 d.width,nv,tv,ev] 25)):=aC;have bT:=hs.below aG;clear aG;obtain⟨⟨ca,cc,rfl,cm,cx⟩,⟨na,nc,rfl,nm,nx⟩,⟨ta,tc,rfl,tm,tx⟩,⟨ea,ec,rfl,em,ex⟩⟩:=hs;clear cx nx tx ex;have H:zh (dX d=false):=by show _=_;simp[dX, *]
 go_enter func6,ntmps6
 go_wp2_with (first|(go_at_call 12;refine(lp _ _ _ _).mono ?_;rintro e w' ⟨rfl,rfl⟩)|(go_at_call 13;(first|refine(mq _ _ _ d.aD _ bT.aD).mono ?_|refine(mq _ _ _ d.next _ bT.next).mono ?_|refine(mq _ _ _ d.tag _ bT.tag).mono ?_|refine(mq _ _ _ d.fin _ bT.fin).mono ?_);rintro e w' ⟨rfl,rfl⟩))
 go_ret
 exact⟨dD H.out.symm,aC⟩
theorem zkQ(cv nv tv ev:zp)(d:aE)(w:zi)(hs:dk lo w cv nv tv ev d)(g1:d.aD.length=256)(g2:aT d.width 1 256=true)(h:aT d.tag.length 1 4000=false):
  zw prog 6 #[zy #[cv,za .i64 d.width,nv,tv,ev]] w λe w'=>e=.returned (.bool (dX d))/\zn w.heap.size w w':=by
 have aG:zn w.heap.size w (w.alloc (zD #[cv,za .i64 d.width,nv,tv,ev] 25)):=aC;have bT:=hs.below aG;clear aG;obtain⟨⟨ca,cc,rfl,cm,cx⟩,⟨na,nc,rfl,nm,nx⟩,⟨ta,tc,rfl,tm,tx⟩,⟨ea,ec,rfl,em,ex⟩⟩:=hs;clear cx nx tx ex;have H:zh (dX d=false):=by show _=_;simp[dX, *]
 go_enter func6,ntmps6
 go_wp2_with (first|(go_at_call 12;refine(lp _ _ _ _).mono ?_;rintro e w' ⟨rfl,rfl⟩)|(go_at_call 13;(first|refine(mq _ _ _ d.aD _ bT.aD).mono ?_|refine(mq _ _ _ d.next _ bT.next).mono ?_|refine(mq _ _ _ d.tag _ bT.tag).mono ?_|refine(mq _ _ _ d.fin _ bT.fin).mono ?_);rintro e w' ⟨rfl,rfl⟩))
 go_ret
 exact⟨dD H.out.symm,aC⟩
theorem zkR(cv nv tv ev:zp)(d:aE)(w:zi)(hs:dk lo w cv nv tv ev d)(g1:d.aD.length=256)(g2:aT d.width 1 256=true)(g3:aT d.tag.length 1 4000=true)(h:¬d.fin.length=d.tag.length):
  zw prog 6 #[zy #[cv,za .i64 d.width,nv,tv,ev]] w λe w'=>e=.returned (.bool (dX d))/\zn w.heap.size w w':=by
 have aG:zn w.heap.size w (w.alloc (zD #[cv,za .i64 d.width,nv,tv,ev] 25)):=aC;have bT:=hs.below aG;clear aG;obtain⟨⟨ca,cc,rfl,cm,cx⟩,⟨na,nc,rfl,nm,nx⟩,⟨ta,tc,rfl,tm,tx⟩,⟨ea,ec,rfl,em,ex⟩⟩:=hs;clear cx nx tx ex;have hw:=vz.1 g2;have ht:=vz.1 g3;have hmul:(d.tag.length:Int)*d.width<=4000*256:=xH (by omega) (by omega) (by omega) (by omega);have OP:0<=(d.tag.length:Int)*d.width:=Bd (by omega) (by omega);have H:zh (dX d=false):=by show _=_;simp[dX, *]
 go_enter func6,ntmps6
 go_wp2_with (first|(go_at_call 12;refine(lp _ _ _ _).mono ?_;rintro e w' ⟨rfl,rfl⟩)|(go_at_call 13;(first|refine(mq _ _ _ d.aD _ bT.aD).mono ?_|refine(mq _ _ _ d.next _ bT.next).mono ?_|refine(mq _ _ _ d.tag _ bT.tag).mono ?_|refine(mq _ _ _ d.fin _ bT.fin).mono ?_);rintro e w' ⟨rfl,rfl⟩))
 go_ret
 exact⟨dD H.out.symm,aC⟩
theorem zkS(cv nv tv ev:zp)(d:aE)(w:zi)(hs:dk lo w cv nv tv ev d)(g1:d.aD.length=256)(g2:aT d.width 1 256=true)(g3:aT d.tag.length 1 4000=true)(g4:d.fin.length=d.tag.length)(h:¬(d.next.length:Int)=d.tag.length*d.width):
  zw prog 6 #[zy #[cv,za .i64 d.width,nv,tv,ev]] w λe w'=>e=.returned (.bool (dX d))/\zn w.heap.size w w':=by
 have aG:zn w.heap.size w (w.alloc (zD #[cv,za .i64 d.width,nv,tv,ev] 25)):=aC;have bT:=hs.below aG;clear aG;obtain⟨⟨ca,cc,rfl,cm,cx⟩,⟨na,nc,rfl,nm,nx⟩,⟨ta,tc,rfl,tm,tx⟩,⟨ea,ec,rfl,em,ex⟩⟩:=hs;clear cx nx tx ex;have hw:=vz.1 g2;have ht:=vz.1 g3;have hmul:(d.tag.length:Int)*d.width<=4000*256:=xH (by omega) (by omega) (by omega) (by omega);have OP:0<=(d.tag.length:Int)*d.width:=Bd (by omega) (by omega);have H:zh (dX d=false):=by show _=_;simp[dX, *]
 go_enter func6,ntmps6
 go_wp2_with (first|(go_at_call 12;refine(lp _ _ _ _).mono ?_;rintro e w' ⟨rfl,rfl⟩)|(go_at_call 13;(first|refine(mq _ _ _ d.aD _ bT.aD).mono ?_|refine(mq _ _ _ d.next _ bT.next).mono ?_|refine(mq _ _ _ d.tag _ bT.tag).mono ?_|refine(mq _ _ _ d.fin _ bT.fin).mono ?_);rintro e w' ⟨rfl,rfl⟩))
 go_ret
 exact⟨dD H.out.symm,aC⟩
theorem zl3(cv nv tv ev:zp)(d:aE)(w:zi)(hs:dk lo w cv nv tv ev d)(g1:d.aD.length=256)(g2:aT d.width 1 256=true)(g3:aT d.tag.length 1 4000=true)(g4:d.fin.length=d.tag.length)(g5:(d.next.length:Int)=d.tag.length*d.width):
  zw prog 6 #[zy #[cv,za .i64 d.width,nv,tv,ev]] w λe w'=>e=.returned (.bool (dX d))/\zn w.heap.size w w':=by
 have aG:zn w.heap.size w (w.alloc (zD #[cv,za .i64 d.width,nv,tv,ev] 25)):=aC;have bT:=hs.below aG;clear aG;obtain⟨⟨ca,cc,rfl,cm,cx⟩,⟨na,nc,rfl,nm,nx⟩,⟨ta,tc,rfl,tm,tx⟩,⟨ea,ec,rfl,em,ex⟩⟩:=hs;clear cx nx tx ex;have hw:=vz.1 g2;have ht:=vz.1 g3;have hmul:(d.tag.length:Int)*d.width<=4000*256:=xH (by omega) (by omega) (by omega) (by omega);have OP:0<=(d.tag.length:Int)*d.width:=Bd (by omega) (by omega);have b1:((d.aD.length:Int) != 256)=false:=by simp[g1]
 have b4:((d.fin.length:Int) != d.tag.length)=false:=by simp[g4]
 have b5:((d.next.length:Int) != d.tag.length*d.width)=false:=by simp[g5]
 have H:zh (dX d=(fO 0 (d.width-1) d.aD&&fO 0 (d.tag.length-1) d.next&&fO (-1) 99 d.tag&&fO (-1) 99 d.fin)):=by show _=_;simp[dX, *]
 clear g1 g4 g5
 go_enter func6,ntmps6
 go_wp2_with (go_at_call 12;refine(lp _ _ _ _).mono ?_;rintro e w' ⟨rfl,rfl⟩)
 refine(mq _ _ _ d.aD _ bT.aD).mono ?_;rintro e w' ⟨rfl,rfl⟩;cases g6:fO 0 (d.width-1) d.aD
 case false=>
  rw[g6]at H;go_wp2;go_ret;exact⟨dD (by rw[H.out];simp),aC⟩
 rw[g6]at H
 go_wp2_with fail
 refine(mq _ _ _ d.next _ bT.next).mono ?_;rintro e w' ⟨rfl,rfl⟩;cases g7:fO 0 (d.tag.length-1) d.next
 case false=>
  rw[g7]at H;go_wp2;go_ret;exact⟨dD (by rw[H.out];simp),aC⟩
 rw[g7]at H
 go_wp2_with fail
 refine(mq _ _ _ d.tag _ bT.tag).mono ?_;rintro e w' ⟨rfl,rfl⟩;cases g8:fO (-1) 99 d.tag
 case false=>
  rw[g8]at H;go_wp2;go_ret;exact⟨dD (by rw[H.out];simp),aC⟩
 rw[g8]at H
 go_wp2_with fail
 refine(mq _ _ _ d.fin _ bT.fin).mono ?_;rintro e w' ⟨rfl,rfl⟩;go_wp2;go_ret;exact⟨dD (by rw[H.out];simp),aC⟩
theorem TC(cv nv tv ev:zp)(d:aE)(w:zi)(hs:dk lo w cv nv tv ev d):
  zw prog 6 #[zy #[cv,za .i64 d.width,nv,tv,ev]] w λe w'=>e=.returned (.bool (dX d))/\zn w.heap.size w w':=by
 by_cases g1:d.aD.length=256
 case neg=>exact zkO cv nv tv ev d w hs g1
 cases g2:aT d.width 1 256
 case false=>exact zkP cv nv tv ev d w hs g1 g2
 cases g3:aT d.tag.length 1 4000
 case false=>exact zkQ cv nv tv ev d w hs g1 g2 g3
 by_cases g4:d.fin.length=d.tag.length
 case neg=>exact zkR cv nv tv ev d w hs g1 g2 g3 g4
 by_cases g5:(d.next.length:Int)=d.tag.length*d.width
 case neg=>exact zkS cv nv tv ev d w hs g1 g2 g3 g4 g5
 exact zl3 cv nv tv ev d w hs g1 g2 g3 g4 g5
end
section
variable {l:Nat}
theorem zhF(lo hi:Int)(v:zp)(xs:List Int)(w:zi)(hs:dW l w v xs):
  zw prog 20 #[v,za .i64 lo,za .i64 hi] w λe w'=>e=.returned (.bool (fO lo hi xs))/\w'=w:=by
 obtain⟨ao,cap,rfl,hm,hc⟩:=hs
 go_enter func20,ntmps20
 go_wp2
 go_loop [11] (λi=>∃k:Nat,k<=xs.length/\i=za .i64 k/\zh (fO lo hi xs=fO lo hi (xs.drop k)))
  (λi=>xs.length-(intOf i).toNat)
 case atStart=>exact⟨0,bH _,rfl,rfl⟩
 case round=>
  obtain⟨k,hk,rfl,HS⟩:=hrel
  by_cases hlt:k<xs.length
  ·obtain⟨b,o,x,rfl,Hn,cQ,c0⟩:=hc.elem (Below.refl _ _) hlt;have HD:zh _:=zh3 lo hi xs k hlt x Hn.out
   by_cases h1:x<lo
   ·have hb:zh (aT x lo hi=false):=by show _=_;simp[aT];omega
    go_wp2;go_ret;exact⟨dD (by rw[HS.out,HD.out,hb.out,Bool.false_and]),rfl⟩
   by_cases h2:hi<x
   ·have hb:zh (aT x lo hi=false):=by show _=_;simp[aT];omega
    go_wp2;go_ret;exact⟨dD (by rw[HS.out,HD.out,hb.out,Bool.false_and]),rfl⟩
   have hb:zh (aT x lo hi=true):=by show _=_;simp[aT];omega
   go_wp2
   go_round
   case rel=>exact⟨k+1,by omega,by go_num,by show _=_;rw[HS.out,HD.out,hb.out,Cu]⟩
   case measure=>simp[intOf];omega
  ·go_wp2;go_ret;exact⟨dD (by rw[HS.out,Em (by omega)];rfl),rfl⟩
theorem zfM(v:zp)(xs:List Int)(w:zi)(hs:dW l w v xs):
  zw prog 21 #[v] w λe w'=>e=.returned (.bool (fO (-1) 99 xs))/\w'=w:=by
 go_enter func21,ntmps21
 go_wp2_with fail
 refine(zhF (-1) 99 _ xs _ hs).mono ?_;rintro e w' ⟨rfl,rfl⟩;go_wp2;go_ret;exact⟨rfl,rfl⟩
def oY(xs:List Int)(wd:Int):Bool:=decide (xs.length=256)&&aT wd 1 256&&fO 0 (wd-1) xs
theorem LV(v:zp)(xs:List Int)(wd:Int)(w:zi)(hs:dW l w v xs):
  zw prog 19 #[v,za .i64 wd] w λe w'=>e=.returned (.bool (oY xs wd))/\w'=w:=by
 by_cases h1:xs.length=256
 case neg=>
  have H:zh (oY xs wd=false):=by show _=_;simp[oY,h1]
  obtain⟨ao,cap,rfl,hm,hc⟩:=hs;clear hc;have b1:((xs.length:Int)==256)=false:=by simp;omega
  clear h1
  go_enter func19,ntmps19
  go_wp2;go_ret;exact⟨dD H.out.symm,rfl⟩
 have b1:((xs.length:Int)==256)=true:=by simp[h1]
 have bT:=hs;obtain⟨ao,cap,rfl,hm,hc⟩:=hs;clear hc
 by_cases h2:1<=wd
 case neg=>
  have H:zh (oY xs wd=false):=by show _=_;simp[oY,aT,h2]
  clear h1
  go_enter func19,ntmps19
  go_wp2;go_ret;exact⟨dD H.out.symm,rfl⟩
 by_cases h3:wd<=256
 case neg=>
  have H:zh (oY xs wd=false):=by show _=_;simp[oY,aT,h3]
  clear h1
  go_enter func19,ntmps19
  go_wp2;go_ret;exact⟨dD H.out.symm,rfl⟩
 have H:zh (oY xs wd=fO 0 (wd-1) xs):=by show _=_;simp[oY,aT,h1,h2,h3]
 clear h1
 go_enter func19,ntmps19
 go_wp2_with fail
 refine(zhF _ _ _ xs _ bT).mono ?_;rintro e w' ⟨rfl,rfl⟩;go_wp2;go_ret;exact⟨dD H.out.symm,rfl⟩
end
variable {lo:Nat}
theorem Mg(d:aE):dX d=(oY d.aD d.width&&(aT d.tag.length 1 4000&&decide (d.fin.length=d.tag.length)&&decide ((d.next.length:Int)=d.tag.length*d.width)&&(fO 0 (d.tag.length-1) d.next&&fO (-1) 99 d.tag&&fO (-1) 99 d.fin))):=by
 simp only[dX,oY,Bool.and_assoc,Bool.and_comm,Bool.and_left_comm]
theorem PU{xs:List Int}{wd:Int}(h:oY xs wd=true):1<=wd/\wd<=256:=by
 simp only[oY,fQ,vz]at h;exact h.1.2
theorem zj8(cv nv tv ev:zp)(d:aE)(w:zi)(hs:dk lo w cv nv tv ev d)(h:oY d.aD d.width=false):
  zw prog 10 #[zy #[cv,za .i64 d.width,nv,tv,ev]] w λe w'=>e=.returned (.bool (dX d))/\zn w.heap.size w w':=by
 have aG:zn w.heap.size w (w.alloc (zD #[cv,za .i64 d.width,nv,tv,ev] 25)):=aC;have bT:=hs.below aG;clear aG;obtain⟨⟨ca,cc,rfl,cm,cx⟩,⟨na,nc,rfl,nm,nx⟩,⟨ta,tc,rfl,tm,tx⟩,⟨ea,ec,rfl,em,ex⟩⟩:=hs;clear cx nx tx ex;have H:zh (dX d=false):=by show _=_;rw[Mg,h,Bool.false_and]
 go_enter func10,ntmps10
 go_wp2_with fail
 refine(LV _ d.aD _ _ bT.aD).mono ?_;rintro e w' ⟨rfl,rfl⟩;rw[h];go_wp2;go_ret;exact⟨dD H.out.symm,aC⟩
theorem zj9(cv nv tv ev:zp)(d:aE)(w:zi)(hs:dk lo w cv nv tv ev d)(g1:oY d.aD d.width=true)(h:(d.tag.length:Int)<1):
  zw prog 10 #[zy #[cv,za .i64 d.width,nv,tv,ev]] w λe w'=>e=.returned (.bool (dX d))/\zn w.heap.size w w':=by
 have aG:zn w.heap.size w (w.alloc (zD #[cv,za .i64 d.width,nv,tv,ev] 25)):=aC;have bT:=hs.below aG;clear aG;obtain⟨⟨ca,cc,rfl,cm,cx⟩,⟨na,nc,rfl,nm,nx⟩,⟨ta,tc,rfl,tm,tx⟩,⟨ea,ec,rfl,em,ex⟩⟩:=hs;clear cx nx tx ex;have hw:=PU g1;have H:zh (dX d=false):=by
  show _=_;have e:aT d.tag.length 1 4000=false:=by simp[aT];omega
  rw[Mg,e];simp
 go_enter func10,ntmps10
 go_wp2_with fail
 refine(LV _ d.aD _ _ bT.aD).mono ?_;rintro e w' ⟨rfl,rfl⟩;rw[g1];go_wp2;go_ret;exact⟨dD H.out.symm,aC⟩
theorem zka(cv nv tv ev:zp)(d:aE)(w:zi)(hs:dk lo w cv nv tv ev d)(g1:oY d.aD d.width=true)(t1:¬(d.tag.length:Int)<1)(h:4000<(d.tag.length:Int)):
  zw prog 10 #[zy #[cv,za .i64 d.width,nv,tv,ev]] w λe w'=>e=.returned (.bool (dX d))/\zn w.heap.size w w':=by
 have aG:zn w.heap.size w (w.alloc (zD #[cv,za .i64 d.width,nv,tv,ev] 25)):=aC;have bT:=hs.below aG;clear aG;obtain⟨⟨ca,cc,rfl,cm,cx⟩,⟨na,nc,rfl,nm,nx⟩,⟨ta,tc,rfl,tm,tx⟩,⟨ea,ec,rfl,em,ex⟩⟩:=hs;clear cx nx tx ex;have hw:=PU g1;have H:zh (dX d=false):=by
  show _=_;have e:aT d.tag.length 1 4000=false:=by simp[aT];omega
  rw[Mg,e];simp
 go_enter func10,ntmps10
 go_wp2_with fail
 refine(LV _ d.aD _ _ bT.aD).mono ?_;rintro e w' ⟨rfl,rfl⟩;rw[g1];go_wp2;go_ret;exact⟨dD H.out.symm,aC⟩
theorem zkb(cv nv tv ev:zp)(d:aE)(w:zi)(hs:dk lo w cv nv tv ev d)(g1:oY d.aD d.width=true)(t1:¬(d.tag.length:Int)<1)(t2:¬4000<(d.tag.length:Int))(h:¬d.fin.length=d.tag.length):
  zw prog 10 #[zy #[cv,za .i64 d.width,nv,tv,ev]] w λe w'=>e=.returned (.bool (dX d))/\zn w.heap.size w w':=by
 have aG:zn w.heap.size w (w.alloc (zD #[cv,za .i64 d.width,nv,tv,ev] 25)):=aC;have bT:=hs.below aG;clear aG;obtain⟨⟨ca,cc,rfl,cm,cx⟩,⟨na,nc,rfl,nm,nx⟩,⟨ta,tc,rfl,tm,tx⟩,⟨ea,ec,rfl,em,ex⟩⟩:=hs;clear cx nx tx ex;have hw:=PU g1;have hmul:(d.tag.length:Int)*d.width<=4000*256:=xH (by omega) (by omega) (by omega) (by omega);have OP:0<=(d.tag.length:Int)*d.width:=Bd (by omega) (by omega);have H:zh (dX d=false):=by show _=_;rw[Mg];simp[h]
 have b4:((d.fin.length:Int) != d.tag.length)=true:=by simp;omega
 clear h
 go_enter func10,ntmps10
 go_wp2_with fail
 refine(LV _ d.aD _ _ bT.aD).mono ?_;rintro e w' ⟨rfl,rfl⟩;rw[g1];go_wp2;go_ret;exact⟨dD H.out.symm,aC⟩
theorem zkc(cv nv tv ev:zp)(d:aE)(w:zi)(hs:dk lo w cv nv tv ev d)(g1:oY d.aD d.width=true)(t1:¬(d.tag.length:Int)<1)(t2:¬4000<(d.tag.length:Int))(g4:d.fin.length=d.tag.length)(h:¬(d.next.length:Int)=d.tag.length*d.width):
  zw prog 10 #[zy #[cv,za .i64 d.width,nv,tv,ev]] w λe w'=>e=.returned (.bool (dX d))/\zn w.heap.size w w':=by
 have aG:zn w.heap.size w (w.alloc (zD #[cv,za .i64 d.width,nv,tv,ev] 25)):=aC;have bT:=hs.below aG;clear aG;obtain⟨⟨ca,cc,rfl,cm,cx⟩,⟨na,nc,rfl,nm,nx⟩,⟨ta,tc,rfl,tm,tx⟩,⟨ea,ec,rfl,em,ex⟩⟩:=hs;clear cx nx tx ex;have hw:=PU g1;have hmul:(d.tag.length:Int)*d.width<=4000*256:=xH (by omega) (by omega) (by omega) (by omega);have OP:0<=(d.tag.length:Int)*d.width:=Bd (by omega) (by omega);have H:zh (dX d=false):=by show _=_;rw[Mg];simp[h]
 have b4:((d.fin.length:Int) != d.tag.length)=false:=by simp[g4]
 clear g4;have b5:((d.next.length:Int) != d.tag.length*d.width)=true:=by simp[h]
 clear h
 go_enter func10,ntmps10
 go_wp2_with fail
 refine(LV _ d.aD _ _ bT.aD).mono ?_;rintro e w' ⟨rfl,rfl⟩;rw[g1];go_wp2;go_ret;exact⟨dD H.out.symm,aC⟩
theorem zlG(cv nv tv ev:zp)(d:aE)(w:zi)(hs:dk lo w cv nv tv ev d)(g1:oY d.aD d.width=true)(t1:¬(d.tag.length:Int)<1)(t2:¬4000<(d.tag.length:Int))(g4:d.fin.length=d.tag.length)(g5:(d.next.length:Int)=d.tag.length*d.width):
  zw prog 10 #[zy #[cv,za .i64 d.width,nv,tv,ev]] w λe w'=>e=.returned (.bool (dX d))/\zn w.heap.size w w':=by
 have aG:zn w.heap.size w (w.alloc (zD #[cv,za .i64 d.width,nv,tv,ev] 25)):=aC;have bT:=hs.below aG;clear aG;obtain⟨⟨ca,cc,rfl,cm,cx⟩,⟨na,nc,rfl,nm,nx⟩,⟨ta,tc,rfl,tm,tx⟩,⟨ea,ec,rfl,em,ex⟩⟩:=hs;clear cx nx tx ex;have hw:=PU g1;have hmul:(d.tag.length:Int)*d.width<=4000*256:=xH (by omega) (by omega) (by omega) (by omega);have OP:0<=(d.tag.length:Int)*d.width:=Bd (by omega) (by omega);have H:zh (dX d=(fO 0 (d.tag.length-1) d.next&&fO (-1) 99 d.tag&&fO (-1) 99 d.fin)):=by
  show _=_;have e2:aT d.tag.length 1 4000=true:=by simp[aT];omega
  rw[Mg];simp[g1,g4,g5,e2]
 have b4:((d.fin.length:Int) != d.tag.length)=false:=by simp[g4]
 clear g4;have b5:((d.next.length:Int) != d.tag.length*d.width)=false:=by simp[g5]
 clear g5
 go_enter func10,ntmps10
 go_wp2_with fail
 refine(LV _ d.aD _ _ bT.aD).mono ?_;rintro e w' ⟨rfl,rfl⟩;rw[g1]
 go_wp2_with fail
 refine(zhF _ _ _ d.next _ bT.next).mono ?_;rintro e w' ⟨rfl,rfl⟩;cases g7:fO 0 (d.tag.length-1) d.next
 case false=>
  rw[g7]at H;go_wp2;go_ret;exact⟨dD (by rw[H.out];simp),aC⟩
 rw[g7]at H
 go_wp2_with fail
 refine(zfM _ d.tag _ bT.tag).mono ?_;rintro e w' ⟨rfl,rfl⟩;cases g8:fO (-1) 99 d.tag
 case false=>
  rw[g8]at H;go_wp2;go_ret;exact⟨dD (by rw[H.out];simp),aC⟩
 rw[g8]at H
 go_wp2_with fail
 refine(zfM _ d.fin _ bT.fin).mono ?_;rintro e w' ⟨rfl,rfl⟩;go_wp2;go_ret;exact⟨dD (by rw[H.out];simp),aC⟩
theorem zfU(cv nv tv ev:zp)(d:aE)(w:zi)(hs:dk lo w cv nv tv ev d)(_:Ce d):
  zw prog 10 #[zy #[cv,za .i64 d.width,nv,tv,ev]] w λe w'=>e=.returned (.bool (dX d))/\zn w.heap.size w w':=by
 cases g1:oY d.aD d.width
 case false=>exact zj8 cv nv tv ev d w hs g1
 by_cases t1:(d.tag.length:Int)<1
 case pos=>exact zj9 cv nv tv ev d w hs g1 t1
 by_cases t2:4000<(d.tag.length:Int)
 case pos=>exact zka cv nv tv ev d w hs g1 t1 t2
 by_cases g4:d.fin.length=d.tag.length
 case neg=>exact zkb cv nv tv ev d w hs g1 t1 t2 g4
 by_cases g5:(d.next.length:Int)=d.tag.length*d.width
 case neg=>exact zkc cv nv tv ev d w hs g1 t1 t2 g4 g5
 exact zlG cv nv tv ev d w hs g1 t1 t2 g4 g5
end Go.Proofs.Ytfajjdgkiilhfaa
