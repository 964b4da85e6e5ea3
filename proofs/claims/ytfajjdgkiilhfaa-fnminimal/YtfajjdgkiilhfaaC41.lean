import Derived.Test.YtfajjdgkiilhfaaC38
import Derived.Test.YtfajjdgkiilhfaaC39
import Derived.Test.YtfajjdgkiilhfaaC40
import Derived.Deep.Cut
import Derived.Deep.CutRange
namespace Go.Proofs.Ytfajjdgkiilhfaa
open Proofs.Try
open Value renaming int->za
set_option maxHeartbeats 8000000
set_option maxRecDepth 100000
open Go.RowKit
attribute [local go_sem ↓] wp_at_zero wp_at_succ
variable {C:Array Value}{s:List UInt8}{i:Nat}
theorem zkg(t:ByteArray)(a:Nat)(w:World)(ha:a<t.size)(hsz:t.size<=2000):
  Calls prog 82 #[.string t,za .i64 (a:Int)] w (GD w a (sV (t.data.toList.drop (a+1)))):=by
 by_cases h:aA t.data.toList (a+1)=94
 ·exact zi7 t a w ha hsz h
 ·exact zkf t a w ha hsz h
theorem zqT:(prog.info? 135).map (λi=>(i.zero,i.size,i.bytes))=some (some (.agg #[.int .u8 0,za .i64 0,.slice none 0 0,za .i64 0,za .i64 0]),5,56):=by kernel_rfl
theorem mA{W:World}{P:Nat}{t:TypeId}(h:W.heap[P]?=some (.cells C t (0,0)))(i:Nat)(v:Value):(W.setCell ⟨P,i,none⟩ v).heap[P]?=some (.cells (C.setIfInBounds i v) t (0,0)):=dx _ _ _ _ _ _ h
theorem r8.rH{B:Nat}{w wr wx:World}{l:List Tok}{q:Nat->Nat}{sv v6 v10:Value}{x:Tok}{j q0:Nat}(hb:Below B w wr)(hB:B<=wr.heap.size)(hS:mH B wr sv l q)(dh:Below wr.heap.size wr wx)(ht:fL s i=.inr (x,j))
  (Ak:wx.heap[wr.heap.size]?=some (.cells C 135 (0,0)))
  (hC:C=#[.int .u8 (kB x.kind),za .i64 (i:Int),DK x q0,za .i64 (if x.kind=1 then ((cZ l l.length+1:Nat):Int) else x.mn),za .i64 x.mx])
  (rC:x.kind=0->wr.heap.size<=q0/\bC wx q0 x.set) (h6:v6=za .i64 ((cZ l l.length+(if x.kind=1 then 1 else 0):Nat):Int)) (Ig:v10=za .i64 (j:Int)):
  r8 B w s i l q sv wr.heap.size v6 v10 wx x j q0:=by
 refine⟨ht,Ig,by rw[zq6];exact h6,bi hb hB dh,hS.below dh,?_,?_⟩
 ·rw[Ak,hC,zl9,(T6 ht).2.2]
 ·intro hk;obtain⟨h1,h2⟩:=rC hk;refine⟨cM hB h1,λe=>?_,h2⟩;have:=(dL hS.row e).2;omega
theorem zs9(h:aA s i=94):fL s i=.inr (⟨5,i,gR,0,0⟩,i+1):=by unfold fL;rw[h];rfl
theorem zs0(h:aA s i=36):fL s i=.inr (⟨6,i,gR,0,0⟩,i+1):=by unfold fL;rw[h];rfl
theorem zs1(h:aA s i=40):fL s i=.inr (⟨1,i,gR,0,0⟩,i+1):=by unfold fL;rw[h];rfl
theorem zs2(h:aA s i=41):fL s i=.inr (⟨2,i,gR,0,0⟩,i+1):=by unfold fL;rw[h];rfl
theorem zry(h:aA s i=124):fL s i=.inr (⟨3,i,gR,0,0⟩,i+1):=by unfold fL;rw[h];rfl
theorem zs3(h:aA s i=42):fL s i=.inr (⟨4,i,gR,0,-1⟩,i+1):=by unfold fL;rw[h];rfl
theorem zs4(h:aA s i=43):fL s i=.inr (⟨4,i,gR,1,-1⟩,i+1):=by unfold fL;rw[h];rfl
theorem zs6(h:aA s i=63):fL s i=.inr (⟨4,i,gR,0,1⟩,i+1):=by unfold fL;rw[h];rfl
theorem zs5(h:aA s i=46):fL s i=.inr (⟨0,i,DI gR,0,0⟩,i+1):=by unfold fL;rw[h];rfl
theorem zs8(h:aA s i=92):fL s i=if D3 (aA s (i+1))=true then .inr (⟨0,i,iu (aA s (i+1)) (aA s (i+1)),0,0⟩,i+2) else .inl 2:=by unfold fL;rw[h];rfl
theorem zrx(h:aA s i=123):fL s i=match nS (s.drop (i+1)) with
  |none=>.inl 4
  |some (m,n,k)=>.inr (⟨4,i,gR,m,n⟩,i+1+k):=by unfold fL;rw[h];rfl
theorem zs7(h:aA s i=91):fL s i=match sV (s.drop (i+1)) with
  |none=>.inl 3
  |some (f,k)=>.inr (⟨0,i,f,0,0⟩,i+1+k):=by unfold fL;rw[h];rfl
theorem zrz(h1:aA s i≠94)(h2:aA s i≠36)(h3:aA s i≠40)(h4:aA s i≠41)(h5:aA s i≠124)(h6:aA s i≠42)(h7:aA s i≠43)(h8:aA s i≠63)(h9:aA s i≠123)(Ig:aA s i≠91)(h11:aA s i≠46)(E1:aA s i≠92):
  fL s i=.inr (⟨0,i,iu (aA s i) (aA s i),0,0⟩,i+1):=by
 unfold fL;rw[ab h1,ab h2,ab h3,ab h4,ab h5,ab h6,ab h7,ab h8,ab h9,ab Ig,ab h11,ab E1]
theorem PV(t:ByteArray)(w:World)(hsz:t.size<=2000):
  Calls prog 65 #[.string t] w (zzb w (kL t.data.toList 0 [])):=by
 obtain⟨iT,FB,FT,FU,FV⟩:=info_parts zqT
 go_enter func65,ntmps65
 go_wp2
 go_loopw [5,6,7] (λsv gv iv wr=>∃(l:List Tok) (i:Nat) (q:Nat->Nat),gv=za .i64 ((cZ l l.length:Nat):Int)/\iv=za .i64 (i:Int)/\l.length<=i/\Below w.heap.size w wr/\mH w.heap.size wr sv l q/\Hid (kL t.data.toList 0 []=kL t.data.toList i l))
  (λ_ _ iv _=>t.size-(intOf iv).toNat)
 case atStart=>exact⟨[],0,_,rfl,rfl,ax _,aC,mH.start w _ _ (ax _) rfl,rfl⟩
 case round=>
  obtain⟨l,i,q,rfl,rfl,Lm,hb,hS,HL⟩:=hrel;have HS:Hid _:=hS;clear hS
  by_cases hlt:i<t.size
  case neg=>
   have h1:¬(i:Int)<(t.size:Int):=by omega
   go_wp2;refine bw (v:=.tuple #[u5,za .i64 0,za .i64 0]) (by simp[results,results65,go_sem]) rfl ?_;refine⟨hb,u5,q,?_,?_⟩
   ·rw[HL.out,zje (by rw[jf];exact hlt)];rfl
   ·rw[HL.out,zje (by rw[jf];exact hlt)];exact HS.out
  have h1:(i:Int)<(t.size:Int):=by omega
  have hc:t[i].toNat<256:=t[i].toNat_lt;have bF:=hb.size;have fK:Hid (aA t.data.toList i=(t[i].toNat:Int)):=T8 hlt;have IM:i<t.data.toList.length:=by rw[jf];exact hlt
  have hnu:cZ l l.length<=2000:=by have:=Ux l l.length;omega
  go_upto_region 8 with fail
  obtain⟨W1,bk⟩:∃W1,W1=wr.alloc (Obj.cells #[Value.int IntKind.u8 97,Value.int IntKind.i64 (i:Int),Value.slice none 0 0,Value.int IntKind.i64 0,Value.int IntKind.i64 0] 135):=⟨_,rfl⟩;have hP:W1.heap[wr.heap.size]?=some (.cells #[Value.int IntKind.u8 97,Value.int IntKind.i64 (i:Int),Value.slice none 0 0,Value.int IntKind.i64 0,Value.int IntKind.i64 0] 135 (0,0)):=by rw[bk];exact aU _ _
  have dh:Below wr.heap.size wr W1:=by rw[bk];exact aC
  rw[<-bk];clear bk;generalize hC:(t[i].toNat:Int)=C at fK;have hC0:0<=C/\C<=255:=by omega
  go_cut [29] from 18 to 28 (λv wx=>v=.int .u8 C/\wx=W1)
  case first=>
   go_wp2
   go_meet
   case rel=>exact⟨rfl,rfl⟩
  obtain⟨rfl,rfl⟩:=hcut
  rename_i Ip
  refine Ip _ _ ?_
  go_cut [6,10] from 29 to 118 (λv6 v10 wx=>∃x j q0,r8 w.heap.size w t.data.toList i l q u5 wr.heap.size v6 v10 wx x j q0)
  case first=>
   have HP:Hid _:=hP;obtain⟨c0,c1,c2,c3,c4⟩:=bL hP;have fz:∀o,wc.frozen? ⟨wr.heap.size,o,none⟩=false:=λo=>aR _ _ _ _ _ hP
   have fz0:=fz 0;have q9:=fz 2;have fz3:=fz 3;have fz4:=fz 4;clear fz hP
   by_cases RT:C=94
   case pos=>
    subst RT;go_wp2
    go_meet
    case rel=>exact⟨_,_,0,r8.rH hb bF HS.out ((dh).setCell (by simp) _) (zs9 fK.out) (mA (HP.out) 0 _) rfl (λh=>absurd h (by simp)) (by simp) (by simp)⟩
   by_cases RG:C=36
   case pos=>
    subst RG;go_wp2
    go_meet
    case rel=>exact⟨_,_,0,r8.rH hb bF HS.out ((dh).setCell (by simp) _) (zs0 fK.out) (mA (HP.out) 0 _) rfl (λh=>absurd h (by simp)) (by simp) (by simp)⟩
   by_cases RI:C=41
   case pos=>
    subst RI;go_wp2
    go_meet
    case rel=>exact⟨_,_,0,r8.rH hb bF HS.out ((dh).setCell (by simp) _) (zs2 fK.out) (mA (HP.out) 0 _) rfl (λh=>absurd h (by simp)) (by simp) (by simp)⟩
   by_cases RE:C=124
   case pos=>
    subst RE;go_wp2
    go_meet
    case rel=>exact⟨_,_,0,r8.rH hb bF HS.out ((dh).setCell (by simp) _) (zry fK.out) (mA (HP.out) 0 _) rfl (λh=>absurd h (by simp)) (by simp) (by simp)⟩
   by_cases RH:C=40
   case pos=>
    subst RH;go_wp2
    go_meet
    case rel=>exact⟨_,_,0,r8.rH hb bF HS.out (((dh).setCell (by simp) _).setCell (by simp) _) (zs1 fK.out) (mA (mA (HP.out) 0 _) 3 _) rfl (λh=>absurd h (by simp)) (by simp) (by simp)⟩
   by_cases RJ:C=42
   case pos=>
    subst RJ;go_wp2
    go_meet
    case rel=>exact⟨_,_,0,r8.rH hb bF HS.out (((dh).setCell (by simp) _).setCell (by simp) _) (zs3 fK.out) (mA (mA (HP.out) 0 _) 4 _) rfl (λh=>absurd h (by simp)) (by simp) (by simp)⟩
   by_cases RN:C=43
   case pos=>
    subst RN;go_wp2
    go_meet
    case rel=>exact⟨_,_,0,r8.rH hb bF HS.out ((((dh).setCell (by simp) _).setCell (by simp) _).setCell (by simp) _) (zs4 fK.out) (mA (mA (mA (HP.out) 0 _) 3 _) 4 _) rfl (λh=>absurd h (by simp)) (by simp) (by simp)⟩
   by_cases RP:C=63
   case pos=>
    subst RP;go_wp2
    go_meet
    case rel=>exact⟨_,_,0,r8.rH hb bF HS.out (((dh).setCell (by simp) _).setCell (by simp) _) (zs6 fK.out) (mA (mA (HP.out) 0 _) 4 _) rfl (λh=>absurd h (by simp)) (by simp) (by simp)⟩
   by_cases RD:C=123
   case pos=>
    subst RD;have ht:=zrx fK.out;have R5:=zja t i wc hlt hC (by omega);cases hI:nS (t.data.toList.drop (i+1)) with
    |none=>
     rw[hI]at ht R5
     go_wp2_with fail
     refine R5.mono ?_;intro e w2 hA;obtain⟨he,rfl⟩:=hA;have he:e=.returned (.tuple #[za .i64 0,za .i64 0,za .i64 (-1)]):=he;subst he;go_wp2;refine bw (v:=.tuple #[u5,za .i64 4,za .i64 i]) (by simp[results,results65,go_sem]) rfl ?_;refine⟨bi hb bF dh,u5,q,?_,?_⟩
     ·rw[HL.out,Ju IM ht]
     ·rw[HL.out,Ju IM ht];exact HS.out.below dh
    |some r=>
     obtain⟨m,n,k⟩:=r;rw[hI]at ht R5;have ht:fL t.data.toList i=.inr (⟨4,i,gR,m,n⟩,i+1+k):=ht;obtain⟨J,hJ⟩:∃J,J=i+1+k:=⟨_,rfl⟩;rw[<-hJ]at ht;have tY:¬((J:Int)<0):=by omega
     go_wp2_with fail
     refine R5.mono ?_;intro e w2 hA;obtain⟨he,rfl⟩:=hA;have he:e=.returned (.tuple #[za .i64 m,za .i64 n,za .i64 (J:Int)]):=by rw[hJ];exact he
     subst he;clear hJ;go_wp2
     go_meet
     case rel=>exact⟨_,_,0,r8.rH hb bF HS.out (((dh.setCell (by simp) _).setCell (by simp) _).setCell (by simp) _) ht (mA (mA (mA HP.out 0 _) 3 _) 4 _) rfl (λh=>absurd h (by simp)) (by simp) (by simp)⟩
   by_cases RQ:C=91
   case pos=>
    subst RQ
    go_wp2_with fail
    refine(zkg t i _ hlt (by omega)).mono ?_;intro e w2 hA;have ht:=zs7 fK.out;obtain⟨b2,dT,hA⟩:=hA;have Dk:=bi dh dh.size b2;cases hI:sV (t.data.toList.drop (i+1)) with
    |none=>
     rw[hI]at ht hA;obtain rfl:=hA;go_wp2;refine bw (v:=.tuple #[u5,za .i64 3,za .i64 i]) (by simp[results,results65,go_sem]) rfl ?_;refine⟨bi hb bF Dk,u5,q,?_,?_⟩
     ·rw[HL.out,Ju IM ht]
     ·rw[HL.out,Ju IM ht];exact HS.out.below Dk
    |some r=>
     obtain⟨f,k⟩:=r;rw[hI]at ht hA;obtain⟨rfl,hR⟩:=hA;have ht:fL t.data.toList i=.inr (⟨0,i,f,0,0⟩,i+1+k):=ht;have tY:¬(((i+1+k:Nat):Int)<0):=by omega
     generalize hJ:i+1+k=J at ht tY;have eJ:=aY HP.out b2;have c2:=(bL eJ).2.2.1;have q9:w2.frozen? ⟨wr.heap.size,2,none⟩=false:=aR _ _ _ _ _ eJ;have nA:Hid _:=eJ;have HR:Hid _:=hR;have sG:=az HP.out;clear eJ hR;go_wp2
     go_meet
     case rel=>exact⟨_,_,wc.heap.size,r8.rH hb bF HS.out (Dk.setCell (by simp) _) ht (mA nA.out 2 _) rfl (λ_=>⟨dh.size,by unfold bC;rw[Below.heap_setCell _ _ _ _ (λe=>absurd sG (by rw[e];exact Nat.lt_irrefl _))];exact HR.out⟩) (by simp) (by simp)⟩
   by_cases RO:C=46
   case pos=>
    subst RO
    go_wp2_with fail
    refine(zfA 0 255 _ (by omega) (by omega)).mono ?_;rintro e w2 ⟨rfl,hR,b2⟩;have ht:=zs5 fK.out;have Dk:=bi dh dh.size b2;have hR:bC w2 wc.heap.size (DI gR):=hR.congr λc hc=>by simp[iu,DI,gR];omega
    have eJ:=aY HP.out b2;have c2:=(bL eJ).2.2.1;have q9:w2.frozen? ⟨wr.heap.size,2,none⟩=false:=aR _ _ _ _ _ eJ;have nA:Hid _:=eJ;have HR:Hid _:=hR;have sG:=az HP.out;clear eJ hR;go_wp2
    go_meet
    case rel=>exact⟨_,_,wc.heap.size,r8.rH hb bF HS.out (Dk.setCell (by simp) _) ht (mA nA.out 2 _) rfl (λ_=>⟨dh.size,by unfold bC;rw[Below.heap_setCell _ _ _ _ (λe=>absurd sG (by rw[e];exact Nat.lt_irrefl _))];exact HR.out⟩) (by simp) (by simp)⟩
   by_cases RS:C=92
   case pos=>
    subst RS;have ht:=zs8 fK.out;obtain⟨D,hD⟩:∃D,D=aA t.data.toList (i+1):=⟨_,rfl⟩;have hDb:=JD t.data.toList (i+1);have hCA:=DY t (i+1) ((i:Int)+1) wc (by omega);rw[<-hD]at ht hCA hDb;clear hD
    go_wp2_with fail
    refine hCA.mono ?_;rintro e w3 ⟨rfl,hw⟩;rw[hw];clear hw w3
    go_wp2_with fail
    refine(zhT D _).mono ?_;rintro e w3 ⟨rfl,hw⟩;rw[hw];clear hw w3;cases hsp:D3 D with
    |false=>
     rw[hsp,ab (by decide)]at ht;go_wp2;refine bw (v:=.tuple #[u5,za .i64 2,za .i64 i]) (by simp[results,results65,go_sem]) rfl ?_;refine⟨bi hb bF dh,u5,q,?_,?_⟩
     ·rw[HL.out,Ju IM ht]
     ·rw[HL.out,Ju IM ht];exact HS.out.below dh
    |true=>
     rw[hsp,ae rfl]at ht;have hD0:0<=D:=by
      rcases Int.lt_or_le D 0 with h|h
      ·have:D=-1:=by omega
       subst this;exact absurd hsp (by decide)
      ·exact h
     go_wp2_with fail
     refine(zfA D D _ hD0 (by omega)).mono ?_;rintro e w2 ⟨rfl,hR,b2⟩;have Dk:=bi dh dh.size b2;have eJ:=aY HP.out b2;have c2:=(bL eJ).2.2.1;have q9:w2.frozen? ⟨wr.heap.size,2,none⟩=false:=aR _ _ _ _ _ eJ;have nA:Hid _:=eJ;have HR:Hid _:=hR;have sG:=az HP.out;clear eJ hR;go_wp2
     go_meet
     case rel=>exact⟨_,_,wc.heap.size,r8.rH hb bF HS.out (Dk.setCell (by simp) _) ht (mA nA.out 2 _) rfl (λ_=>⟨dh.size,by unfold bC;rw[Below.heap_setCell _ _ _ _ (λe=>absurd sG (by rw[e];exact Nat.lt_irrefl _))];exact HR.out⟩) (by simp) (by simp)⟩
   have ht:=zrz (by rw[fK.out];exact RT) (by rw[fK.out];exact RG) (by rw[fK.out];exact RH) (by rw[fK.out];exact RI) (by rw[fK.out];exact RE) (by rw[fK.out];exact RJ) (by rw[fK.out];exact RN) (by rw[fK.out];exact RP) (by rw[fK.out];exact RD) (by rw[fK.out];exact RQ) (by rw[fK.out];exact RO) (by rw[fK.out];exact RS);rw[fK.out]at ht;have d94:(C==94)=false:=by simpa using RT
   have d36:(C==36)=false:=by simpa using RG
   have d40:(C==40)=false:=by simpa using RH
   have d41:(C==41)=false:=by simpa using RI
   have zBH:(C==124)=false:=by simpa using RE
   have d42:(C==42)=false:=by simpa using RJ
   have d43:(C==43)=false:=by simpa using RN
   have d63:(C==63)=false:=by simpa using RP
   have zBG:(C==123)=false:=by simpa using RD
   have d91:(C==91)=false:=by simpa using RQ
   have d46:(C==46)=false:=by simpa using RO
   have d92:(C==92)=false:=by simpa using RS
   clear RT RG RH RI RE RJ RN RP RD RQ RO RS
   go_wp2_with fail
   refine(zfA C C _ hC0.1 hC0.2).mono ?_;rintro e w2 ⟨rfl,hR,b2⟩;have Dk:=bi dh dh.size b2;have eJ:=aY HP.out b2;have c2:=(bL eJ).2.2.1;have q9:w2.frozen? ⟨wr.heap.size,2,none⟩=false:=aR _ _ _ _ _ eJ;have nA:Hid _:=eJ;have HR:Hid _:=hR;have sG:=az HP.out;clear eJ hR;go_wp2
   go_meet
   case rel=>exact⟨_,_,wc.heap.size,r8.rH hb bF HS.out (Dk.setCell (by simp) _) ht (mA nA.out 2 _) rfl (λ_=>⟨dh.size,by unfold bC;rw[Below.heap_setCell _ _ _ _ (λe=>absurd sG (by rw[e];exact Nat.lt_irrefl _))];exact HR.out⟩) (by simp) (by simp)⟩
  obtain⟨x,j,q0,hx⟩:=hcut;obtain⟨r,n0,c0,jr⟩:∃r n c,DK x q0=.slice r n c:=by unfold DK;split<;>exact⟨_,_,_,rfl⟩
  have bN:=hx.box;rw[zl9,jr]at bN;have HE:=zl9 l x q q0;rw[jr]at HE;generalize kB x.kind=K0 at bN HE;generalize (x.pos:Int)=P0 at bN HE;generalize (if x.kind=1 then ((cZ l l.length+1:Nat):Int) else x.mn)=M0 at bN HE;generalize x.mx=X0 at bN HE;have HEE:Hid _:=HE;have HX:Hid _:=hx;have OG:=(T6 hx.tok).1;have qx:w.heap.size<=wc.heap.size:=hx.below.size;obtain rfl:=hx.zBt;obtain rfl:=hx.v6e;obtain⟨k0,k1,k2,k3,k4⟩:=bL bN;clear hx HE bN
  go_wp2_with (at_builtin;refine wZ rfl (.tmp 119) (.tmp 121) 130 rfl wc #[.int .u8 K0,za .i64 P0,.slice r n0 c0,za .i64 M0,za .i64 X0] 135 rfl wc.heap.size rfl w.heap.size iT _ 5 56 underlying130 FB FT FU FV rfl (by omega) _ l.length (F2 l q) rfl HX.out.zvB.row rfl rfl (by simp[Value.oneCell']) (by omega) (by omega) qx ?_;intro g' cap' w4 iZ cU kc)
  have iZ:w4.ownsRow w.heap.size 135 5 (.slice (some ⟨g',0,none⟩) (l.length+1) cap') (l.length+1) (F2 l q++vp 0 (l++[x]) (λk=>if k=l.length then q0 else q k) l.length):=by rw[HEE.out];exact iZ
  have TN:=HX.out.zvB.more HX.out.set iZ cU kc;have bZ:Below w.heap.size w w4:=HX.out.below.grown cU qx (λk hk=>(dL HX.out.zvB.row hk).1);clear iZ cU kc;go_wp2
  go_roundw
  case rel=>exact⟨l++[x],j,_,by rw[a6];rfl,rfl,by simp;omega,bZ,TN,by show _=_;rw[HL.out,zmz IM HX.out.tok]⟩
  case measure=>simp[intOf];omega
end Go.Proofs.Ytfajjdgkiilhfaa
