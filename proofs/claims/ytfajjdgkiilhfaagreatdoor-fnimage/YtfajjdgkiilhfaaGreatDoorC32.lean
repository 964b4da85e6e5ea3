import Derived.Test.YtfajjdgkiilhfaaGreatDoorC16
import Derived.Test.YtfajjdgkiilhfaaGreatDoorC30
import Derived.Test.YtfajjdgkiilhfaaGreatDoorC31
import Derived.Deep.Cut
import Derived.Deep.CutRange
namespace Go.Proofs.YtfajjdgkiilhfaaGreatDoor
open Proofs.Tryz
open Value renaming int->za,slice->zf
open Option renaming some->zb,none->zc
open Go renaming World->zd,Value->ze
set_option maxHeartbeats 8000000
set_option maxRecDepth 100000
open Go.RowKit
attribute [local go_sem ↓] wp_at_zero wp_at_succ
section
variable {l:List Tok}{B:Nat}{W W':zd}{sv:ze}{q:Nat -> Nat}
def kB:Nat->Int
 |0=>97
 |1=>40
 |2=>41
 |3=>124
 |4=>114
 |5=>94
 |_=>36
theorem zvr{a b:Nat}(ha:a<7)(hb:b<7)(h:kB a=kB b):a=b:=by
 match a,b,ha,hb with
 |0,0,_,_=>rfl
 |1,1,_,_=>rfl
 |2,2,_,_=>rfl
 |3,3,_,_=>rfl
 |4,4,_,_=>rfl
 |5,5,_,_=>rfl
 |6,6,_,_=>rfl
 |0,1,_,_|0,2,_,_|0,3,_,_|0,4,_,_|0,5,_,_|0,6,_,_=>exact absurd h (by decide)
 |1,0,_,_|1,2,_,_|1,3,_,_|1,4,_,_|1,5,_,_|1,6,_,_=>exact absurd h (by decide)
 |2,0,_,_|2,1,_,_|2,3,_,_|2,4,_,_|2,5,_,_|2,6,_,_=>exact absurd h (by decide)
 |3,0,_,_|3,1,_,_|3,2,_,_|3,4,_,_|3,5,_,_|3,6,_,_=>exact absurd h (by decide)
 |4,0,_,_|4,1,_,_|4,2,_,_|4,3,_,_|4,5,_,_|4,6,_,_=>exact absurd h (by decide)
 |5,0,_,_|5,1,_,_|5,2,_,_|5,3,_,_|5,4,_,_|5,6,_,_=>exact absurd h (by decide)
 |6,0,_,_|6,1,_,_|6,2,_,_|6,3,_,_|6,4,_,_|6,5,_,_=>exact absurd h (by decide)
def CJ(x:Tok)(q:Nat):ze:=if x.kind=0 then zf (zb ⟨q,0,zc⟩) 256 256 else zf zc 0 0
def mS(g:Nat)(l:List Tok)(k:Nat):Int:=if aS l k=1 then ((g+dh l (k+1):Nat):Int) else (l.getD k iP).mn
def uW(g:Nat)(l:List Tok)(q:Nat->Nat)(k:Nat):List ze:=[.int .u8 (kB (aS l k)),za .i64 ((l.getD k iP).pos:Int),CJ (l.getD k iP) (q k),za .i64 (mS g l k),za .i64 (l.getD k iP).mx]
def EY(l:List Tok)(q:Nat->Nat):List ze:=(List.range l.length).flatMap (uW 0 l q)
theorem zto(l:List Tok)(q:Nat->Nat){k j:Nat}(hk:k<l.length)(hj:j<5):(EY l q)[k*5+j]?=(uW 0 l q k)[j]?:=TY (f:=uW 0 l q) (sz:=5) (λ_=>rfl) _ _ _ hk hj
theorem TF(m:List Tok){k:Nat}(h:k<l.length):(l++m).getD k iP=l.getD k iP:=by simp[List.getD,List.getElem?_append_left h]
theorem zhx(l m:List Tok)(k:Nat):(l++m).getD (l.length+k) iP=m.getD k iP:=by
 simp only[List.getD];rw[Ap (by omega),lV]
theorem zjL(l:List Tok)(x:Tok):(l++[x]).getD l.length iP=x:=by simp[List.getD]
theorem wI(m:List Tok){k:Nat}(h:k<l.length):aS (l++m) k=aS l k:=by unfold aS;rw[TF m h]
theorem Fc(l m:List Tok)(k:Nat):aS (l++m) (l.length+k)=aS m k:=by unfold aS;rw[zhx]
theorem O0(l:List Tok)(x:Tok):aS (l++[x]) l.length=x.kind:=by unfold aS;rw[zjL]
theorem Lf(m:List Tok):∀{k:Nat},k<=l.length->dh (l++m) k=dh l k
 |0,_=>rfl
 |k+1,h=>by show dh (l++m) k+_=dh l k+_;rw[Lf m (show k<=l.length by omega),wI m (by omega)]
theorem zhU(l m:List Tok):∀k,dh (l++m) (l.length+k)=dh l l.length+dh m k
 |0=>by rw[Aq,Lf m (aq _)];rfl
 |k+1=>by
  show dh (l++m) (l.length+k)+(if aS (l++m) (l.length+k)=1 then 1 else 0)=_+(dh m k+_);rw[zhU l m k,Fc];omega
theorem Uf(l:List Tok):∀k,dh l k<=k
 |0=>aq _
 |k+1=>by
  have:=Uf l k;show dh l k+(if aS l k=1 then 1 else 0)<=k+1;split<;>omega
theorem A6(m:List Tok):∀{k:Nat},k<=l.length->aX (l++m) k=aX l k
 |0,_=>rfl
 |k+1,h=>by show aX (l++m) k+_=aX l k+_;rw[A6 m (show k<=l.length by omega),wI m (by omega)]
theorem Fa(l m:List Tok):∀k,aX (l++m) (l.length+k)=aX l l.length+aX m k
 |0=>by rw[Aq,A6 m (aq _)];show _=_+0;omega
 |k+1=>by
  show aX (l++m) (l.length+k)+(if aS (l++m) (l.length+k)=1 then 1 else if aS (l++m) (l.length+k)=2 then -1 else 0)=_+(aX m k+_);rw[Fa l m k,Fc];omega
theorem zuR{g:Nat}(m:List Tok){q q':Nat->Nat}{k:Nat}(h:k<l.length)(hq:q' k=q k):uW g (l++m) q' k=uW g l q k:=by
 unfold uW mS;rw[wI m h,TF m h,Lf m (by omega),hq]
theorem ztn(l:List Tok)(x:Tok)(q q':Nat->Nat)(hq:∀k,k<l.length->q' k=q k):EY (l++[x]) q'=EY l q++uW 0 (l++[x]) q' l.length:=by
 unfold EY;rw[aQ,show [x].length=1 from rfl,KU]
 congr 1
 exact Ov _ λk hk=>zuR _ hk (hq k hk)
structure mK(B:Nat)(W:zd)(sv:ze)(l:List Tok)(q:Nat->Nat):Prop where
 row:W.ownsRow B 145 5 sv l.length (EY l q)
 set:∀k,k<l.length->aS l k=0->B<=q k/\sv.ownBlock≠zb (q k)/\a9 W (q k) (l.getD k iP).set
theorem mK.keep(h:mK B W sv l q)(hk:∀b,B<=b->b<W.heap.size->W'.heap[b]?=W.heap[b]?):mK B W' sv l q:=
 ⟨ub h.row λb hb=>hk b (dU h.row hb).1 (dU h.row hb).2,λk h1 h2=>⟨(h.set k h1 h2).1,(h.set k h1 h2).2.1,(hk _ (h.set k h1 h2).1 (ay (h.set k h1 h2).2.2)).trans (h.set k h1 h2).2.2⟩⟩
theorem mK.below(h:mK B W sv l q)(hb:Below W.heap.size W W'):mK B W' sv l q:=h.keep λb _ hl=>hb.block b hl
theorem mK.start(w:zd)(B H:Nat)(hB:B<=H)(hH:w.heap.size=H):mK B (w.alloc (.cells #[] 145)) (zf (zb ⟨H,0,zc⟩) 0 0) [] (λ_=>0):=
 ⟨KR w _ 5 B H hB hH,λk h=>absurd h (by simp)⟩
structure rU(B:Nat)(w:zd)(s:List UInt8)(i:Nat)(l:List Tok)(q:Nat->Nat)(sv:ze)(P:Nat)(v6 v10:ze)(wx:zd)(x:Tok)(j:Nat)(q0:Nat):Prop where
 tok:fS s i=.inr (x,j)
 zCB:v10=za .i64 (j:Int)
 v6e:v6=za .i64 ((dh (l++[x]) (l.length+1):Nat):Int)
 below:Below B w wx
 Zc:mK B wx sv l q
 box:wx.heap[P]?=zb (.cells (uW 0 (l++[x]) (λk=>if k=l.length then q0 else q k) l.length).toArray 145 (0,0))
 set:x.kind=0->B<=q0/\sv.ownBlock≠zb q0/\a9 wx q0 x.set
theorem zno(l:List Tok)(x:Tok)(q:Nat->Nat)(q0:Nat):uW 0 (l++[x]) (λk=>if k=l.length then q0 else q k) l.length=[.int .u8 (kB x.kind),za .i64 (x.pos:Int),CJ x q0,za .i64 (if x.kind=1 then ((dh l l.length+1:Nat):Int) else x.mn),za .i64 x.mx]:=by
 unfold uW mS;rw[O0,zjL];simp only[if_true]
 by_cases h:x.kind=1
 ·rw[af h,af h];have:0+dh (l++[x]) (l.length+1)=dh l l.length+1:=by
   show 0+(dh (l++[x]) l.length+_)=_;rw[Lf _ (aq _),O0,af h];omega
  rw[this]
 ·rw[ab h,ab h]
theorem zsW(l:List Tok)(x:Tok):dh (l++[x]) (l.length+1)=dh l l.length+(if x.kind=1 then 1 else 0):=by
 show dh (l++[x]) l.length+_=_;rw[Lf _ (aq _),O0]
theorem mK.more{w':zd}{x:Tok}{q0 g' cap':Nat}(h:mK B W sv l q)(hs:x.kind=0->B<=q0/\sv.ownBlock≠zb q0/\a9 W q0 x.set)
  (ho:w'.ownsRow B 145 5 (zf (zb ⟨g',0,zc⟩) (l.length+1) cap') (l.length+1) (EY l q++uW 0 (l++[x]) (λk=>if k=l.length then q0 else q k) l.length))
  (hg:W.grownBy w' sv.ownBlock) (fV:sv.ownBlock=zb g'\/W.heap.size<=g'):mK B w' (zf (zb ⟨g',0,zc⟩) (l.length+1) cap') (l++[x]) (λk=>if k=l.length then q0 else q k):=by
 have et:∀b f,sv.ownBlock≠zb b->a9 W b f->b≠g'/\a9 w' b f:=by
  intro b f hne hb;have hlt:=ay hb;refine⟨?_,?_⟩
  ·rintro rfl;rcases fV with h|h
   ·exact hne h
   ·omega
  ·exact(hg.block b hlt (λe=>hne e.symm)).trans hb
 refine⟨by rw[aQ,show [x].length=1 from rfl,ztn l x q _ (λk hk=>by rw[ab (by omega)])];exact ho,?_⟩;intro k hk tM
 by_cases e:k=l.length
 ·subst e;rw[O0]at tM;obtain⟨a,b,c⟩:=hs tM;obtain⟨d,f⟩:=et q0 _ b c;simp only[if_true];rw[zjL];exact⟨a,λh=>d (by simpa [Value.ownBlock]using h.symm),f⟩
 ·have bC:k<l.length:=by simp at hk;omega
  rw[wI _ bC]at tM;obtain⟨a,b,c⟩:=h.set k bC tM;obtain⟨d,f⟩:=et (q k) _ b c;simp only[ab e];rw[TF _ bC];exact⟨a,λh=>d (by simpa [Value.ownBlock]using h.symm),f⟩
def zAu(w:zd)(r:List Tok×Int×Nat)(e:Ending)(w':zd):Prop:=Below w.heap.size w w'/\∃sv q,e=.returned (.tuple #[sv,za .i64 r.2.1,za .i64 (r.2.2:Int)])/\mK w.heap.size w' sv r.1 q
end
variable {C:Array ze}{s:List UInt8}{i:Nat}
theorem zlj(t:ByteArray)(a:Nat)(w:zd)(ha:a<t.size)(hsz:t.size<=2000):
  Calls prog 93 #[.string t,za .i64 (a:Int)] w (FI w a (sP (t.data.toList.drop (a+1)))):=by
 by_cases h:aA t.data.toList (a+1)=94
 ·exact zjX t a w ha hsz h
 ·exact zli t a w ha hsz h
theorem zsK:(prog.info? 145).map (λi=>(i.zero,i.size,i.bytes))=zb (zb (.agg #[.int .u8 0,za .i64 0,zf zc 0 0,za .i64 0,za .i64 0]),5,56):=by kernel_rfl
theorem mq{W:zd}{P:Nat}{t:TypeId}(h:W.heap[P]?=zb (.cells C t (0,0)))(i:Nat)(v:ze):(W.setCell ⟨P,i,zc⟩ v).heap[P]?=zb (.cells (C.setIfInBounds i v) t (0,0)):=cJ _ _ _ _ _ _ h
theorem rU.rD{B:Nat}{w wr wx:zd}{l:List Tok}{q:Nat->Nat}{sv v6 v10:ze}{x:Tok}{j q0:Nat}(hb:Below B w wr)(hB:B<=wr.heap.size)(hS:mK B wr sv l q)(dA:Below wr.heap.size wr wx)(ht:fS s i=.inr (x,j))
  (JR:wx.heap[wr.heap.size]?=zb (.cells C 145 (0,0)))
  (hC:C=#[.int .u8 (kB x.kind),za .i64 (i:Int),CJ x q0,za .i64 (if x.kind=1 then ((dh l l.length+1:Nat):Int) else x.mn),za .i64 x.mx])
  (G8:x.kind=0->wr.heap.size<=q0/\a9 wx q0 x.set) (h6:v6=za .i64 ((dh l l.length+(if x.kind=1 then 1 else 0):Nat):Int)) (Gj:v10=za .i64 (j:Int)):
  rU B w s i l q sv wr.heap.size v6 v10 wx x j q0:=by
 refine⟨ht,Gj,by rw[zsW];exact h6,aH hb hB dA,hS.below dA,?_,?_⟩
 ·rw[JR,hC,zno,(Tv ht).2.2]
 ·intro hk;obtain⟨h1,h2⟩:=G8 hk;refine⟨cY hB h1,λe=>?_,h2⟩;have:=(dU hS.row e).2;omega
theorem zu1(h:aA s i=94):fS s i=.inr (⟨5,i,gU,0,0⟩,i+1):=by unfold fS;rw[h];rfl
theorem zuS(h:aA s i=36):fS s i=.inr (⟨6,i,gU,0,0⟩,i+1):=by unfold fS;rw[h];rfl
theorem zuT(h:aA s i=40):fS s i=.inr (⟨1,i,gU,0,0⟩,i+1):=by unfold fS;rw[h];rfl
theorem zuU(h:aA s i=41):fS s i=.inr (⟨2,i,gU,0,0⟩,i+1):=by unfold fS;rw[h];rfl
theorem ztq(h:aA s i=124):fS s i=.inr (⟨3,i,gU,0,0⟩,i+1):=by unfold fS;rw[h];rfl
theorem zuV(h:aA s i=42):fS s i=.inr (⟨4,i,gU,0,-1⟩,i+1):=by unfold fS;rw[h];rfl
theorem zuW(h:aA s i=43):fS s i=.inr (⟨4,i,gU,1,-1⟩,i+1):=by unfold fS;rw[h];rfl
theorem zuY(h:aA s i=63):fS s i=.inr (⟨4,i,gU,0,1⟩,i+1):=by unfold fS;rw[h];rfl
theorem zuX(h:aA s i=46):fS s i=.inr (⟨0,i,CH gU,0,0⟩,i+1):=by unfold fS;rw[h];rfl
theorem zu0(h:aA s i=92):fS s i=if C3 (aA s (i+1))=true then .inr (⟨0,i,iq (aA s (i+1)) (aA s (i+1)),0,0⟩,i+2) else .inl 2:=by unfold fS;rw[h];rfl
theorem ztp(h:aA s i=123):fS s i=match nW (s.drop (i+1)) with
  |none=>.inl 4
  |some (m,n,k)=>.inr (⟨4,i,gU,m,n⟩,i+1+k):=by unfold fS;rw[h];rfl
theorem zuZ(h:aA s i=91):fS s i=match sP (s.drop (i+1)) with
  |none=>.inl 3
  |some (f,k)=>.inr (⟨0,i,f,0,0⟩,i+1+k):=by unfold fS;rw[h];rfl
theorem ztr(h1:aA s i≠94)(h2:aA s i≠36)(h3:aA s i≠40)(h4:aA s i≠41)(h5:aA s i≠124)(h6:aA s i≠42)(h7:aA s i≠43)(h8:aA s i≠63)(h9:aA s i≠123)(Gj:aA s i≠91)(h11:aA s i≠46)(Eb:aA s i≠92):
  fS s i=.inr (⟨0,i,iq (aA s i) (aA s i),0,0⟩,i+1):=by
 unfold fS;rw[ab h1,ab h2,ab h3,ab h4,ab h5,ab h6,ab h7,ab h8,ab h9,ab Gj,ab h11,ab Eb]
theorem OM(t:ByteArray)(w:zd)(hsz:t.size<=2000):
  Calls prog 79 #[.string t] w (zAu w (kE t.data.toList 0 [])):=by
 obtain⟨iT,RJ,Ss,Su,Sv⟩:=info_parts zsK
 go_enter func79,ntmps79
 go_wp2
 go_loopw [5,6,7] (λsv gv iv wr=>∃(l:List Tok) (i:Nat) (q:Nat->Nat),gv=za .i64 ((dh l l.length:Nat):Int)/\iv=za .i64 (i:Int)/\l.length<=i/\Below w.heap.size w wr/\mK w.heap.size wr sv l q/\Hid (kE t.data.toList 0 []=kE t.data.toList i l))
  (λ_ _ iv _=>t.size-(intOf iv).toNat)
 case atStart=>exact⟨[],0,_,rfl,rfl,aq _,ax,mK.start w _ _ (aq _) rfl,rfl⟩
 case round=>
  obtain⟨l,i,q,rfl,rfl,EB,hb,hS,HL⟩:=hrel;have HS:Hid _:=hS;clear hS
  by_cases hlt:i<t.size
  case neg=>
   have h1:¬(i:Int)<(t.size:Int):=by omega
   go_wp2;refine aW (v:=.tuple #[u5,za .i64 0,za .i64 0]) (by simp[results,results79,go_sem]) rfl ?_;refine⟨hb,u5,q,?_,?_⟩
   ·rw[HL.out,zj3 (by rw[iW];exact hlt)];rfl
   ·rw[HL.out,zj3 (by rw[iW];exact hlt)];exact HS.out
  have h1:(i:Int)<(t.size:Int):=by omega
  have hc:t[i].toNat<256:=t[i].toNat_lt;have bi:=hb.size;have gM:Hid (aA t.data.toList i=(t[i].toNat:Int)):=TT hlt;have GS:i<t.data.toList.length:=by rw[iW];exact hlt
  have hnu:dh l l.length<=2000:=by have:=Uf l l.length;omega
  go_upto_region 8 with fail
  obtain⟨W1,cZ⟩:∃W1,W1=wr.alloc (Obj.cells #[Value.int IntKind.u8 97,Value.int IntKind.i64 (i:Int),Value.slice zc 0 0,Value.int IntKind.i64 0,Value.int IntKind.i64 0] 145):=⟨_,rfl⟩;have hP:W1.heap[wr.heap.size]?=zb (.cells #[Value.int IntKind.u8 97,Value.int IntKind.i64 (i:Int),Value.slice zc 0 0,Value.int IntKind.i64 0,Value.int IntKind.i64 0] 145 (0,0)):=by rw[cZ];exact aJ _ _
  have dA:Below wr.heap.size wr W1:=by rw[cZ];exact ax
  rw[<-cZ];clear cZ;generalize hC:(t[i].toNat:Int)=C at gM;have MG:0<=C/\C<=255:=by omega
  go_cut [29] from 18 to 28 (λv wx=>v=.int .u8 C/\wx=W1)
  case first=>
   go_wp2
   go_meet
   case rel=>exact⟨rfl,rfl⟩
  obtain⟨rfl,rfl⟩:=hcut
  rename_i Jz
  refine Jz _ _ ?_
  go_cut [6,10] from 29 to 118 (λv6 v10 wx=>∃x j q0,rU w.heap.size w t.data.toList i l q u5 wr.heap.size v6 v10 wx x j q0)
  case first=>
   have HP:Hid _:=hP;obtain⟨c0,c1,c2,c3,c4⟩:=dM hP;have fz:∀o,wc.frozen? ⟨wr.heap.size,o,zc⟩=false:=λo=>aM _ _ _ _ _ hP
   have fz0:=fz 0;have oA:=fz 2;have fz3:=fz 3;have fz4:=fz 4;clear fz hP
   by_cases QN:C=94
   case pos=>
    subst QN;go_wp2
    go_meet
    case rel=>exact⟨_,_,0,rU.rD hb bi HS.out ((dA).setCell (by simp) _) (zu1 gM.out) (mq (HP.out) 0 _) rfl (λh=>absurd h (by simp)) (by simp) (by simp)⟩
   by_cases QE:C=36
   case pos=>
    subst QE;go_wp2
    go_meet
    case rel=>exact⟨_,_,0,rU.rD hb bi HS.out ((dA).setCell (by simp) _) (zuS gM.out) (mq (HP.out) 0 _) rfl (λh=>absurd h (by simp)) (by simp) (by simp)⟩
   by_cases QG:C=41
   case pos=>
    subst QG;go_wp2
    go_meet
    case rel=>exact⟨_,_,0,rU.rD hb bi HS.out ((dA).setCell (by simp) _) (zuU gM.out) (mq (HP.out) 0 _) rfl (λh=>absurd h (by simp)) (by simp) (by simp)⟩
   by_cases QD:C=124
   case pos=>
    subst QD;go_wp2
    go_meet
    case rel=>exact⟨_,_,0,rU.rD hb bi HS.out ((dA).setCell (by simp) _) (ztq gM.out) (mq (HP.out) 0 _) rfl (λh=>absurd h (by simp)) (by simp) (by simp)⟩
   by_cases QF:C=40
   case pos=>
    subst QF;go_wp2
    go_meet
    case rel=>exact⟨_,_,0,rU.rD hb bi HS.out (((dA).setCell (by simp) _).setCell (by simp) _) (zuT gM.out) (mq (mq (HP.out) 0 _) 3 _) rfl (λh=>absurd h (by simp)) (by simp) (by simp)⟩
   by_cases QH:C=42
   case pos=>
    subst QH;go_wp2
    go_meet
    case rel=>exact⟨_,_,0,rU.rD hb bi HS.out (((dA).setCell (by simp) _).setCell (by simp) _) (zuV gM.out) (mq (mq (HP.out) 0 _) 4 _) rfl (λh=>absurd h (by simp)) (by simp) (by simp)⟩
   by_cases QI:C=43
   case pos=>
    subst QI;go_wp2
    go_meet
    case rel=>exact⟨_,_,0,rU.rD hb bi HS.out ((((dA).setCell (by simp) _).setCell (by simp) _).setCell (by simp) _) (zuW gM.out) (mq (mq (mq (HP.out) 0 _) 3 _) 4 _) rfl (λh=>absurd h (by simp)) (by simp) (by simp)⟩
   by_cases QK:C=63
   case pos=>
    subst QK;go_wp2
    go_meet
    case rel=>exact⟨_,_,0,rU.rD hb bi HS.out (((dA).setCell (by simp) _).setCell (by simp) _) (zuY gM.out) (mq (mq (HP.out) 0 _) 4 _) rfl (λh=>absurd h (by simp)) (by simp) (by simp)⟩
   by_cases QC:C=123
   case pos=>
    subst QC;have ht:=ztp gM.out;have QV:=zj0 t i wc hlt hC (by omega);cases hI:nW (t.data.toList.drop (i+1)) with
    |none=>
     rw[hI]at ht QV
     go_wp2_with fail
     refine QV.mono ?_;intro e w2 hA;obtain⟨he,rfl⟩:=hA;have he:e=.returned (.tuple #[za .i64 0,za .i64 0,za .i64 (-1)]):=he;subst he;go_wp2;refine aW (v:=.tuple #[u5,za .i64 4,za .i64 i]) (by simp[results,results79,go_sem]) rfl ?_;refine⟨aH hb bi dA,u5,q,?_,?_⟩
     ·rw[HL.out,Im GS ht]
     ·rw[HL.out,Im GS ht];exact HS.out.below dA
    |some r=>
     obtain⟨m,n,k⟩:=r;rw[hI]at ht QV;have ht:fS t.data.toList i=.inr (⟨4,i,gU,m,n⟩,i+1+k):=ht;obtain⟨J,hJ⟩:∃J,J=i+1+k:=⟨_,rfl⟩;rw[<-hJ]at ht;have tM:¬((J:Int)<0):=by omega
     go_wp2_with fail
     refine QV.mono ?_;intro e w2 hA;obtain⟨he,rfl⟩:=hA;have he:e=.returned (.tuple #[za .i64 m,za .i64 n,za .i64 (J:Int)]):=by rw[hJ];exact he
     subst he;clear hJ;go_wp2
     go_meet
     case rel=>exact⟨_,_,0,rU.rD hb bi HS.out (((dA.setCell (by simp) _).setCell (by simp) _).setCell (by simp) _) ht (mq (mq (mq HP.out 0 _) 3 _) 4 _) rfl (λh=>absurd h (by simp)) (by simp) (by simp)⟩
   by_cases QL:C=91
   case pos=>
    subst QL
    go_wp2_with fail
    refine(zlj t i _ hlt (by omega)).mono ?_;intro e w2 hA;have ht:=zuZ gM.out;obtain⟨b2,eE,hA⟩:=hA;have Ce:=aH dA dA.size b2;cases hI:sP (t.data.toList.drop (i+1)) with
    |none=>
     rw[hI]at ht hA;obtain rfl:=hA;go_wp2;refine aW (v:=.tuple #[u5,za .i64 3,za .i64 i]) (by simp[results,results79,go_sem]) rfl ?_;refine⟨aH hb bi Ce,u5,q,?_,?_⟩
     ·rw[HL.out,Im GS ht]
     ·rw[HL.out,Im GS ht];exact HS.out.below Ce
    |some r=>
     obtain⟨f,k⟩:=r;rw[hI]at ht hA;obtain⟨rfl,hR⟩:=hA;have ht:fS t.data.toList i=.inr (⟨0,i,f,0,0⟩,i+1+k):=ht;have tM:¬(((i+1+k:Nat):Int)<0):=by omega
     generalize hJ:i+1+k=J at ht tM;have fO:=aT HP.out b2;have c2:=(dM fO).2.2.1;have oA:w2.frozen? ⟨wr.heap.size,2,zc⟩=false:=aM _ _ _ _ _ fO;have qp:Hid _:=fO;have HR:Hid _:=hR;have CB:=ay HP.out;clear fO hR;go_wp2
     go_meet
     case rel=>exact⟨_,_,wc.heap.size,rU.rD hb bi HS.out (Ce.setCell (by simp) _) ht (mq qp.out 2 _) rfl (λ_=>⟨dA.size,by unfold a9;rw[Below.heap_setCell _ _ _ _ (λe=>absurd CB (by rw[e];exact Nat.lt_irrefl _))];exact HR.out⟩) (by simp) (by simp)⟩
   by_cases QJ:C=46
   case pos=>
    subst QJ
    go_wp2_with fail
    refine(ZM 0 255 _ (by omega) (by omega)).mono ?_;rintro e w2 ⟨rfl,hR,b2⟩;have ht:=zuX gM.out;have Ce:=aH dA dA.size b2;have hR:a9 w2 wc.heap.size (CH gU):=hR.congr λc hc=>by simp[iq,CH,gU];omega
    have fO:=aT HP.out b2;have c2:=(dM fO).2.2.1;have oA:w2.frozen? ⟨wr.heap.size,2,zc⟩=false:=aM _ _ _ _ _ fO;have qp:Hid _:=fO;have HR:Hid _:=hR;have CB:=ay HP.out;clear fO hR;go_wp2
    go_meet
    case rel=>exact⟨_,_,wc.heap.size,rU.rD hb bi HS.out (Ce.setCell (by simp) _) ht (mq qp.out 2 _) rfl (λ_=>⟨dA.size,by unfold a9;rw[Below.heap_setCell _ _ _ _ (λe=>absurd CB (by rw[e];exact Nat.lt_irrefl _))];exact HR.out⟩) (by simp) (by simp)⟩
   by_cases QM:C=92
   case pos=>
    subst QM;have ht:=zu0 gM.out;obtain⟨D,hD⟩:∃D,D=aA t.data.toList (i+1):=⟨_,rfl⟩;have hDb:=Iz t.data.toList (i+1);have hCA:=CV t (i+1) ((i:Int)+1) wc (by omega);rw[<-hD]at ht hCA hDb;clear hD
    go_wp2_with fail
    refine hCA.mono ?_;rintro e w3 ⟨rfl,hw⟩;rw[hw];clear hw w3
    go_wp2_with fail
    refine(ziC D _).mono ?_;rintro e w3 ⟨rfl,hw⟩;rw[hw];clear hw w3;cases hsp:C3 D with
    |false=>
     rw[hsp,ab (by decide)]at ht;go_wp2;refine aW (v:=.tuple #[u5,za .i64 2,za .i64 i]) (by simp[results,results79,go_sem]) rfl ?_;refine⟨aH hb bi dA,u5,q,?_,?_⟩
     ·rw[HL.out,Im GS ht]
     ·rw[HL.out,Im GS ht];exact HS.out.below dA
    |true=>
     rw[hsp,af rfl]at ht;have WA:0<=D:=by
      rcases Int.lt_or_le D 0 with h|h
      ·have:D=-1:=by omega
       subst this;exact absurd hsp (by decide)
      ·exact h
     go_wp2_with fail
     refine(ZM D D _ WA (by omega)).mono ?_;rintro e w2 ⟨rfl,hR,b2⟩;have Ce:=aH dA dA.size b2;have fO:=aT HP.out b2;have c2:=(dM fO).2.2.1;have oA:w2.frozen? ⟨wr.heap.size,2,zc⟩=false:=aM _ _ _ _ _ fO;have qp:Hid _:=fO;have HR:Hid _:=hR;have CB:=ay HP.out;clear fO hR;go_wp2
     go_meet
     case rel=>exact⟨_,_,wc.heap.size,rU.rD hb bi HS.out (Ce.setCell (by simp) _) ht (mq qp.out 2 _) rfl (λ_=>⟨dA.size,by unfold a9;rw[Below.heap_setCell _ _ _ _ (λe=>absurd CB (by rw[e];exact Nat.lt_irrefl _))];exact HR.out⟩) (by simp) (by simp)⟩
   have ht:=ztr (by rw[gM.out];exact QN) (by rw[gM.out];exact QE) (by rw[gM.out];exact QF) (by rw[gM.out];exact QG) (by rw[gM.out];exact QD) (by rw[gM.out];exact QH) (by rw[gM.out];exact QI) (by rw[gM.out];exact QK) (by rw[gM.out];exact QC) (by rw[gM.out];exact QL) (by rw[gM.out];exact QJ) (by rw[gM.out];exact QM);rw[gM.out]at ht;have d94:(C==94)=false:=by simpa using QN
   have d36:(C==36)=false:=by simpa using QE
   have d40:(C==40)=false:=by simpa using QF
   have d41:(C==41)=false:=by simpa using QG
   have d124:(C==124)=false:=by simpa using QD
   have d42:(C==42)=false:=by simpa using QH
   have d43:(C==43)=false:=by simpa using QI
   have d63:(C==63)=false:=by simpa using QK
   have d123:(C==123)=false:=by simpa using QC
   have d91:(C==91)=false:=by simpa using QL
   have d46:(C==46)=false:=by simpa using QJ
   have d92:(C==92)=false:=by simpa using QM
   clear QN QE QF QG QD QH QI QK QC QL QJ QM
   go_wp2_with fail
   refine(ZM C C _ MG.1 MG.2).mono ?_;rintro e w2 ⟨rfl,hR,b2⟩;have Ce:=aH dA dA.size b2;have fO:=aT HP.out b2;have c2:=(dM fO).2.2.1;have oA:w2.frozen? ⟨wr.heap.size,2,zc⟩=false:=aM _ _ _ _ _ fO;have qp:Hid _:=fO;have HR:Hid _:=hR;have CB:=ay HP.out;clear fO hR;go_wp2
   go_meet
   case rel=>exact⟨_,_,wc.heap.size,rU.rD hb bi HS.out (Ce.setCell (by simp) _) ht (mq qp.out 2 _) rfl (λ_=>⟨dA.size,by unfold a9;rw[Below.heap_setCell _ _ _ _ (λe=>absurd CB (by rw[e];exact Nat.lt_irrefl _))];exact HR.out⟩) (by simp) (by simp)⟩
  obtain⟨x,j,q0,hx⟩:=hcut;obtain⟨r,n0,c0,jF⟩:∃r n c,CJ x q0=.slice r n c:=by unfold CJ;split<;>exact⟨_,_,_,rfl⟩
  have dk:=hx.box;rw[zno,jF]at dk;have HE:=zno l x q q0;rw[jF]at HE;generalize kB x.kind=K0 at dk HE;generalize (x.pos:Int)=P0 at dk HE;generalize (if x.kind=1 then ((dh l l.length+1:Nat):Int) else x.mn)=M0 at dk HE;generalize x.mx=X0 at dk HE;have HEE:Hid _:=HE;have HX:Hid _:=hx;have hij:=(Tv hx.tok).1;have nG:w.heap.size<=wc.heap.size:=hx.below.size;obtain rfl:=hx.zCB;obtain rfl:=hx.v6e;obtain⟨k0,k1,k2,k3,k4⟩:=dM dk;clear hx HE dk
  go_wp2_with (at_builtin;refine wE rfl (.tmp 119) (.tmp 121) 140 rfl wc #[.int .u8 K0,za .i64 P0,.slice r n0 c0,za .i64 M0,za .i64 X0] 145 rfl wc.heap.size rfl w.heap.size iT _ 5 56 underlying140 RJ Ss Su Sv rfl (by omega) _ l.length (EY l q) rfl HX.out.Zc.row rfl rfl (by simp[Value.oneCell']) (by omega) (by omega) nG ?_;intro g' cap' w4 iM cX jW)
  have iM:w4.ownsRow w.heap.size 145 5 (zf (zb ⟨g',0,zc⟩) (l.length+1) cap') (l.length+1) (EY l q++uW 0 (l++[x]) (λk=>if k=l.length then q0 else q k) l.length):=by rw[HEE.out];exact iM
  have TN:=HX.out.Zc.more HX.out.set iM cX jW;have de:Below w.heap.size w w4:=HX.out.below.grown cX nG (λk hk=>(dU HX.out.Zc.row hk).1);clear iM cX jW;go_wp2
  go_roundw
  case rel=>exact⟨l++[x],j,_,by rw[aQ];rfl,rfl,by simp;omega,de,TN,by show _=_;rw[HL.out,znT GS HX.out.tok]⟩
  case measure=>simp[intOf];omega
end Go.Proofs.YtfajjdgkiilhfaaGreatDoor
