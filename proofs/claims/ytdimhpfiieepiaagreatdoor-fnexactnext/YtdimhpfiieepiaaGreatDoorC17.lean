import Derived.Test.YtdimhpfiieepiaaGreatDoorC16
import Derived.BigQuiet
import Derived.OrdersIn
import Derived.RangeFuncCalls
namespace Go.Proofs.YtdimhpfiieepiaaGreatDoor
open Proofs.Tryz
open Option renaming some->za,none->ze
open Go renaming World->zb
open RowKit renaming Below->zc,Hid->zd
open Value renaming slice->zf
set_option maxHeartbeats 4000000
set_option maxRecDepth 100000
section
open Go.RowKit
attribute [local go_sem ↓] wp_at_zero wp_at_succ
theorem zow(ns:List aM)(x:Nat)(hE:jB ns x)(hX:pD ns x)(t:ByteArray)(n mn:Nat)(mx:Int)(hn:n=mn+1)(hp:0<mx)(i j cut:Nat)(l1 l2:List Up)(hG:nF (λk=>Lg t.data.toList (aK ns x) i k/\Lg t.data.toList (.aw (aK ns x) ((mn:Nat):Int) (mx-1)) k j) (i) j cut)(fD:Pl t.data.toList (aK ns x) i cut l1)(ih:vr ns x t (mn) (mx-1) cut j l2):vr ns x t (n) (mx) i j (l1++l2):=by
 intro w ao c gl cl gr cr B g cap m sp aB az hsm hB fk cO dA fj ht hg mS hmx;obtain⟨W0,ah⟩:∃W0,w.alloc (.cells #[.slice ao ns.length c,zf (za ⟨gl,0,ze⟩) ns.length cl,zf (za ⟨gr,0,ze⟩) ns.length cr,.string t] 119)=W0:=⟨_,rfl⟩;have ae:zc w.heap.size w W0:=by rw[<-ah];exact au
 have k0:W0.heap[w.heap.size]?=za (sD ao ns c gl cl gr cr t):=by rw[<-ah];exact aL _ _
 have ky:0<n:=by omega
 have oV:decide (0<n)=true:=by simp[ky]
 have oZ:(n:Int)-1=(mn:Int):=by omega
 have Oi:(0:Int)<(n:Int):=by omega
 have lz:decide (0<mx)=true:=by simp[hp]
 have qq:=hG.1;have dx:=hG.2.1;have rB:=λ(kk:Nat) (W:zb) (hb:zc w.heap.size w W) (bC:kk<=t.size)=>Df ns x hE W ao c gl cl gr cr t i kk (aB.below hb) (by omega) bC ht
 have qo:=λ(kk:Nat) (W:zb) (hb:zc w.heap.size w W) (bC:kk<=t.size)=>Mh ns x hE W ao c gl cl gr cr t (mn) (mx-1) kk j (by omega) (by omega) (aB.below hb) bC fj ht
 have cV:=λ(W:zb) (hb:zc w.heap.size w W) (h1:W.ownsRow B 71 2 (zf (za ⟨g,0,ze⟩) m cap) m (pv sp))=>hX W ao c gl cl gr cr t B i cut g cap m sp l1 (aB.below hb) h1 hsm (aU hB hb.size) fk cO (by omega) (aU dx fj) ht (λz hz=>hg z (er.2 (.inl hz))) fD
 have mP:=λ(W:zb) (hb:zc w.heap.size w W) (g' cap':Nat) (h1:W.ownsRow B 71 2 (zf (za ⟨g',0,ze⟩) m cap') m (pv (dK sp l1)))=>ih W ao c gl cl gr cr B g' cap' m (dK sp l1) (aB.below hb) h1 (by rw[zv];exact hsm) (aU hB hb.size) fk cO dx fj ht (λz hz=>hg z (er.2 (.inr hz))) (by omega) (by omega)
 have oK:zd (Lg t.data.toList (aK ns x) i cut/\Lg t.data.toList (.aw (aK ns x) ((mn:Nat):Int) (mx-1)) cut j):=hG.2.2.1;have zG:zd (∀k,cut<k->k<=j->¬(Lg t.data.toList (aK ns x) i k/\Lg t.data.toList (.aw (aK ns x) ((mn:Nat):Int) (mx-1)) k j)):=hG.2.2.2;have Hu:zd (dK sp (l1++l2)=dK (dK sp l1) l2):=Iz sp l1 l2;have HB:zd (B<=w.heap.size):=hB;clear hG fD ih hE hX aB hg hB;clear hn
 go_enter func93,ntmps93
 go_wp2;clear ah
 go_loopw [18] (λk wr=>∃kk:Nat,cut<=kk/\kk<=j/\k=.int .i64 kk/\zc w.heap.size w wr/\wr.heap[w.heap.size]?=za (sD ao ns c gl cl gr cr t))
  (λk _=>(intOf k).toNat)
 case atStart=>exact⟨j,dx,ai _,rfl,ae,k0⟩
 case round=>
  clear k0;obtain⟨kk,cM,iA,rfl,aB,kr⟩:=hrel;obtain⟨a0,a1,a2,a3⟩:=gC kr;have iZ:kk<=t.size:=by omega
  have gV:(((i:Nat):Int))<=(kk:Int):=by omega
  have N4:(i:Int)<=(kk:Int):=by omega
  obtain⟨b1,ak⟩:∃b:Bool,(b=true↔Lg t.data.toList (aK ns x) i kk):=by
   by_cases h:Lg t.data.toList (aK ns x) i kk
   ·exact⟨true,⟨λ_=>h,λ_=>rfl⟩⟩
   ·exact⟨false,⟨λk=>(by cases k),λk=>absurd k h⟩⟩
  have lm:zd (b1=true↔Lg t.data.toList (aK ns x) i kk):=ak;clear ak
  go_wp2_with fail
  refine(rB kk _ aB iZ).mono ?_;rintro e w4 ⟨q,rfl,hq,aG⟩;obtain rfl:q=b1:=by
   have:=hq.trans lm.out.symm;cases q<;>cases b1<;>simp_all
  clear hq;have kB:=ia kr aG;have iK:=aj aB aB.size aG;obtain⟨c0,c1,c2,c3⟩:=gC kB;clear a0 a1 a2 a3 kr aB aG;cases q
  ·have hne:cut≠kk:=λh=>by
    have:=lm.out.2 (h ▸ oK.out.1);cases this
   go_wp2
   go_roundw
   case rel=>exact⟨kk-1,by omega,by omega,by go_num,iK,kB⟩
   case measure=>simp[intOf];omega
  ·go_wp2_with fail
   refine(qo kk _ iK iZ).mono ?_;rintro e w5 ⟨q,rfl,hq,bE⟩;have Hq:zd (q=true↔Lg t.data.toList (.aw (aK ns x) ((mn:Nat):Int) (mx-1)) kk j):=hq;clear hq;have pR:=ia kB bE;have pJ:=aj iK iK.size bE;obtain⟨d0,d1,d2,d3⟩:=gC pR;clear c0 c1 c2 c3 kB iK bE;cases q
   ·have hne:cut≠kk:=λh=>by
     have:=Hq.out.2 (h ▸ oK.out.2);cases this
    go_wp2
    go_roundw
    case rel=>exact⟨kk-1,by omega,by omega,by go_num,pJ,pR⟩
    case measure=>simp[intOf];omega
   ·have kS:kk=cut:=by
     rcases gh cut kk with h|h
     ·exact absurd ⟨lm.out.1 (by first|trivial|rfl),Hq.out.1 (by first|trivial|rfl)⟩ (zG.out kk h iA)
     ·omega
    subst kS;go_wp2;have dz:=pJ.drew;have tA:=ia pR ((Below.refl w5.heap.size w5).drew);obtain⟨e0,e1,e2,e3⟩:=gC tA;have mw:=cI az dz;clear rB qo d0 d1 d2 d3
    go_region_with (first|(go_at_call 66;refine(cV _ dz mw).mono ?_;rintro e w8 ⟨g8,fB,rfl,kD,dX⟩;clear cV;have uM:=ia tA dX;obtain⟨f0,f1,f2,f3⟩:=gC uM;have iJ:=aj dz dz.size dX)|(go_at_call 93;refine(mP _ iJ g8 fB kD).mono ?_;rintro e w9 ⟨g9,sR,rfl,tD,yM⟩))
    all_goals
     have bj:=aj iJ iJ.size yM;rw[<-Hu.out]at tD;go_wp2;exact bD (v:=zf (za ⟨g9,0,ze⟩) m sR) (by simp[results,results93,go_sem]) rfl ⟨g9,sR,rfl,tD,bj⟩
theorem zov(ns:List aM)(x:Nat)(hE:jB ns x)(hX:pD ns x)(t:ByteArray)(n mn:Nat)(hn:n=mn+1)(i j cut:Nat)(l1 l2:List Up)(hG:nF (λk=>Lg t.data.toList (aK ns x) i k/\Lg t.data.toList (.aw (aK ns x) ((mn:Nat):Int) (-1)) k j) (i) j cut)(fD:Pl t.data.toList (aK ns x) i cut l1)(ih:vr ns x t (mn) (-1) cut j l2):vr ns x t (n) (-1) i j (l1++l2):=by
 intro w ao c gl cl gr cr B g cap m sp aB az hsm hB fk cO dA fj ht hg mS hmx;obtain⟨W0,ah⟩:∃W0,w.alloc (.cells #[.slice ao ns.length c,zf (za ⟨gl,0,ze⟩) ns.length cl,zf (za ⟨gr,0,ze⟩) ns.length cr,.string t] 119)=W0:=⟨_,rfl⟩;have ae:zc w.heap.size w W0:=by rw[<-ah];exact au
 have k0:W0.heap[w.heap.size]?=za (sD ao ns c gl cl gr cr t):=by rw[<-ah];exact aL _ _
 have ky:0<n:=by omega
 have oV:decide (0<n)=true:=by simp[ky]
 have oZ:(n:Int)-1=(mn:Int):=by omega
 have Oi:(0:Int)<(n:Int):=by omega
 have qq:=hG.1;have dx:=hG.2.1;have rB:=λ(kk:Nat) (W:zb) (hb:zc w.heap.size w W) (bC:kk<=t.size)=>Df ns x hE W ao c gl cl gr cr t i kk (aB.below hb) (by omega) bC ht
 have qo:=λ(kk:Nat) (W:zb) (hb:zc w.heap.size w W) (bC:kk<=t.size)=>Mh ns x hE W ao c gl cl gr cr t (mn) (-1) kk j (by omega) (by omega) (aB.below hb) bC fj ht
 have cV:=λ(W:zb) (hb:zc w.heap.size w W) (h1:W.ownsRow B 71 2 (zf (za ⟨g,0,ze⟩) m cap) m (pv sp))=>hX W ao c gl cl gr cr t B i cut g cap m sp l1 (aB.below hb) h1 hsm (aU hB hb.size) fk cO (by omega) (aU dx fj) ht (λz hz=>hg z (er.2 (.inl hz))) fD
 have mP:=λ(W:zb) (hb:zc w.heap.size w W) (g' cap':Nat) (h1:W.ownsRow B 71 2 (zf (za ⟨g',0,ze⟩) m cap') m (pv (dK sp l1)))=>ih W ao c gl cl gr cr B g' cap' m (dK sp l1) (aB.below hb) h1 (by rw[zv];exact hsm) (aU hB hb.size) fk cO dx fj ht (λz hz=>hg z (er.2 (.inr hz))) (by omega) (by omega)
 have oK:zd (Lg t.data.toList (aK ns x) i cut/\Lg t.data.toList (.aw (aK ns x) ((mn:Nat):Int) (-1)) cut j):=hG.2.2.1;have zG:zd (∀k,cut<k->k<=j->¬(Lg t.data.toList (aK ns x) i k/\Lg t.data.toList (.aw (aK ns x) ((mn:Nat):Int) (-1)) k j)):=hG.2.2.2;have Hu:zd (dK sp (l1++l2)=dK (dK sp l1) l2):=Iz sp l1 l2;have HB:zd (B<=w.heap.size):=hB;clear hG fD ih hE hX aB hg hB;clear hn
 go_enter func93,ntmps93
 go_wp2;clear ah
 go_loopw [18] (λk wr=>∃kk:Nat,cut<=kk/\kk<=j/\k=.int .i64 kk/\zc w.heap.size w wr/\wr.heap[w.heap.size]?=za (sD ao ns c gl cl gr cr t))
  (λk _=>(intOf k).toNat)
 case atStart=>exact⟨j,dx,ai _,rfl,ae,k0⟩
 case round=>
  clear k0;obtain⟨kk,cM,iA,rfl,aB,kr⟩:=hrel;obtain⟨a0,a1,a2,a3⟩:=gC kr;have iZ:kk<=t.size:=by omega
  have gV:(((i:Nat):Int))<=(kk:Int):=by omega
  have N4:(i:Int)<=(kk:Int):=by omega
  obtain⟨b1,ak⟩:∃b:Bool,(b=true↔Lg t.data.toList (aK ns x) i kk):=by
   by_cases h:Lg t.data.toList (aK ns x) i kk
   ·exact⟨true,⟨λ_=>h,λ_=>rfl⟩⟩
   ·exact⟨false,⟨λk=>(by cases k),λk=>absurd k h⟩⟩
  have lm:zd (b1=true↔Lg t.data.toList (aK ns x) i kk):=ak;clear ak
  go_wp2_with fail
  refine(rB kk _ aB iZ).mono ?_;rintro e w4 ⟨q,rfl,hq,aG⟩;obtain rfl:q=b1:=by
   have:=hq.trans lm.out.symm;cases q<;>cases b1<;>simp_all
  clear hq;have kB:=ia kr aG;have iK:=aj aB aB.size aG;obtain⟨c0,c1,c2,c3⟩:=gC kB;clear a0 a1 a2 a3 kr aB aG;cases q
  ·have hne:cut≠kk:=λh=>by
    have:=lm.out.2 (h ▸ oK.out.1);cases this
   go_wp2
   go_roundw
   case rel=>exact⟨kk-1,by omega,by omega,by go_num,iK,kB⟩
   case measure=>simp[intOf];omega
  ·go_wp2_with fail
   refine(qo kk _ iK iZ).mono ?_;rintro e w5 ⟨q,rfl,hq,bE⟩;have Hq:zd (q=true↔Lg t.data.toList (.aw (aK ns x) ((mn:Nat):Int) (-1)) kk j):=hq;clear hq;have pR:=ia kB bE;have pJ:=aj iK iK.size bE;obtain⟨d0,d1,d2,d3⟩:=gC pR;clear c0 c1 c2 c3 kB iK bE;cases q
   ·have hne:cut≠kk:=λh=>by
     have:=Hq.out.2 (h ▸ oK.out.2);cases this
    go_wp2
    go_roundw
    case rel=>exact⟨kk-1,by omega,by omega,by go_num,pJ,pR⟩
    case measure=>simp[intOf];omega
   ·have kS:kk=cut:=by
     rcases gh cut kk with h|h
     ·exact absurd ⟨lm.out.1 (by first|trivial|rfl),Hq.out.1 (by first|trivial|rfl)⟩ (zG.out kk h iA)
     ·omega
    subst kS;go_wp2;have dz:=pJ.drew;have tA:=ia pR ((Below.refl w5.heap.size w5).drew);obtain⟨e0,e1,e2,e3⟩:=gC tA;have mw:=cI az dz;clear rB qo d0 d1 d2 d3
    go_region_with (first|(go_at_call 66;refine(cV _ dz mw).mono ?_;rintro e w8 ⟨g8,fB,rfl,kD,dX⟩;clear cV;have uM:=ia tA dX;obtain⟨f0,f1,f2,f3⟩:=gC uM;have iJ:=aj dz dz.size dX)|(go_at_call 93;refine(mP _ iJ g8 fB kD).mono ?_;rintro e w9 ⟨g9,sR,rfl,tD,yM⟩))
    all_goals
     have bj:=aj iJ iJ.size yM;rw[<-Hu.out]at tD;go_wp2;exact bD (v:=zf (za ⟨g9,0,ze⟩) m sR) (by simp[results,results93,go_sem]) rfl ⟨g9,sR,rfl,tD,bj⟩
theorem zsC(ns:List aM)(x:Nat)(hE:jB ns x)(hX:pD ns x)(t:ByteArray)(mx:Int)(hp:0<mx)(i j cut:Nat)(l1 l2:List Up)(hG:nF (λk=>Lg t.data.toList (aK ns x) i k/\Lg t.data.toList (.aw (aK ns x) ((0:Nat):Int) (mx-1)) k j) (i) j cut)(fD:Pl t.data.toList (aK ns x) i cut l1)(ih:vr ns x t (0) (mx-1) cut j l2):vr ns x t (0) (mx) i j (l1++l2):=by
 intro w ao c gl cl gr cr B g cap m sp aB az hsm hB fk cO dA fj ht hg mS hmx;obtain⟨W0,ah⟩:∃W0,w.alloc (.cells #[.slice ao ns.length c,zf (za ⟨gl,0,ze⟩) ns.length cl,zf (za ⟨gr,0,ze⟩) ns.length cr,.string t] 119)=W0:=⟨_,rfl⟩;have ae:zc w.heap.size w W0:=by rw[<-ah];exact au
 have k0:W0.heap[w.heap.size]?=za (sD ao ns c gl cl gr cr t):=by rw[<-ah];exact aL _ _
 have lz:decide (0<mx)=true:=by simp[hp]
 have AB:(mx==0)=false:=by simp;omega
 have GB:(mx == -1)=false:=by simp;omega
 have qq:=hG.1;have dx:=hG.2.1;have rB:=λ(kk:Nat) (W:zb) (hb:zc w.heap.size w W) (bC:kk<=t.size)=>Df ns x hE W ao c gl cl gr cr t i kk (aB.below hb) (by omega) bC ht
 have qo:=λ(kk:Nat) (W:zb) (hb:zc w.heap.size w W) (bC:kk<=t.size)=>Mh ns x hE W ao c gl cl gr cr t (0) (mx-1) kk j (by omega) (by omega) (aB.below hb) bC fj ht
 have cV:=λ(W:zb) (hb:zc w.heap.size w W) (h1:W.ownsRow B 71 2 (zf (za ⟨g,0,ze⟩) m cap) m (pv sp))=>hX W ao c gl cl gr cr t B i cut g cap m sp l1 (aB.below hb) h1 hsm (aU hB hb.size) fk cO (by omega) (aU dx fj) ht (λz hz=>hg z (er.2 (.inl hz))) fD
 have mP:=λ(W:zb) (hb:zc w.heap.size w W) (g' cap':Nat) (h1:W.ownsRow B 71 2 (zf (za ⟨g',0,ze⟩) m cap') m (pv (dK sp l1)))=>ih W ao c gl cl gr cr B g' cap' m (dK sp l1) (aB.below hb) h1 (by rw[zv];exact hsm) (aU hB hb.size) fk cO dx fj ht (λz hz=>hg z (er.2 (.inr hz))) (by omega) (by omega)
 have oK:zd (Lg t.data.toList (aK ns x) i cut/\Lg t.data.toList (.aw (aK ns x) ((0:Nat):Int) (mx-1)) cut j):=hG.2.2.1;have zG:zd (∀k,cut<k->k<=j->¬(Lg t.data.toList (aK ns x) i k/\Lg t.data.toList (.aw (aK ns x) ((0:Nat):Int) (mx-1)) k j)):=hG.2.2.2;have Hu:zd (dK sp (l1++l2)=dK (dK sp l1) l2):=Iz sp l1 l2;have HB:zd (B<=w.heap.size):=hB;clear hG fD ih hE hX aB hg hB;simp only[show ((0:Nat):Int)=0 from rfl]at qo mP ⊢
 go_enter func93,ntmps93
 go_wp2;clear ah
 go_loopw [18] (λk wr=>∃kk:Nat,cut<=kk/\kk<=j/\k=.int .i64 kk/\zc w.heap.size w wr/\wr.heap[w.heap.size]?=za (sD ao ns c gl cl gr cr t))
  (λk _=>(intOf k).toNat)
 case atStart=>exact⟨j,dx,ai _,rfl,ae,k0⟩
 case round=>
  clear k0;obtain⟨kk,cM,iA,rfl,aB,kr⟩:=hrel;obtain⟨a0,a1,a2,a3⟩:=gC kr;have iZ:kk<=t.size:=by omega
  have gV:(((i:Nat):Int))<=(kk:Int):=by omega
  have N4:(i:Int)<=(kk:Int):=by omega
  obtain⟨b1,ak⟩:∃b:Bool,(b=true↔Lg t.data.toList (aK ns x) i kk):=by
   by_cases h:Lg t.data.toList (aK ns x) i kk
   ·exact⟨true,⟨λ_=>h,λ_=>rfl⟩⟩
   ·exact⟨false,⟨λk=>(by cases k),λk=>absurd k h⟩⟩
  have lm:zd (b1=true↔Lg t.data.toList (aK ns x) i kk):=ak;clear ak
  go_wp2_with fail
  refine(rB kk _ aB iZ).mono ?_;rintro e w4 ⟨q,rfl,hq,aG⟩;obtain rfl:q=b1:=by
   have:=hq.trans lm.out.symm;cases q<;>cases b1<;>simp_all
  clear hq;have kB:=ia kr aG;have iK:=aj aB aB.size aG;obtain⟨c0,c1,c2,c3⟩:=gC kB;clear a0 a1 a2 a3 kr aB aG;cases q
  ·have hne:cut≠kk:=λh=>by
    have:=lm.out.2 (h ▸ oK.out.1);cases this
   go_wp2
   go_roundw
   case rel=>exact⟨kk-1,by omega,by omega,by go_num,iK,kB⟩
   case measure=>simp[intOf];omega
  ·go_wp2_with fail
   refine(qo kk _ iK iZ).mono ?_;rintro e w5 ⟨q,rfl,hq,bE⟩;have Hq:zd (q=true↔Lg t.data.toList (.aw (aK ns x) ((0:Nat):Int) (mx-1)) kk j):=hq;clear hq;have pR:=ia kB bE;have pJ:=aj iK iK.size bE;obtain⟨d0,d1,d2,d3⟩:=gC pR;clear c0 c1 c2 c3 kB iK bE;cases q
   ·have hne:cut≠kk:=λh=>by
     have:=Hq.out.2 (h ▸ oK.out.2);cases this
    go_wp2
    go_roundw
    case rel=>exact⟨kk-1,by omega,by omega,by go_num,pJ,pR⟩
    case measure=>simp[intOf];omega
   ·have kS:kk=cut:=by
     rcases gh cut kk with h|h
     ·exact absurd ⟨lm.out.1 (by first|trivial|rfl),Hq.out.1 (by first|trivial|rfl)⟩ (zG.out kk h iA)
     ·omega
    subst kS;go_wp2;have dz:=pJ.drew;have tA:=ia pR ((Below.refl w5.heap.size w5).drew);obtain⟨e0,e1,e2,e3⟩:=gC tA;have mw:=cI az dz;clear rB qo d0 d1 d2 d3
    go_region_with (first|(go_at_call 66;refine(cV _ dz mw).mono ?_;rintro e w8 ⟨g8,fB,rfl,kD,dX⟩;clear cV;have uM:=ia tA dX;obtain⟨f0,f1,f2,f3⟩:=gC uM;have iJ:=aj dz dz.size dX)|(go_at_call 93;refine(mP _ iJ g8 fB kD).mono ?_;rintro e w9 ⟨g9,sR,rfl,tD,yM⟩))
    all_goals
     have bj:=aj iJ iJ.size yM;rw[<-Hu.out]at tD;go_wp2;exact bD (v:=zf (za ⟨g9,0,ze⟩) m sR) (by simp[results,results93,go_sem]) rfl ⟨g9,sR,rfl,tD,bj⟩
theorem zqL(ns:List aM)(x:Nat)(hE:jB ns x)(hX:pD ns x)(t:ByteArray)(i j cut:Nat)(l1 l2:List Up)(hG:nF (λk=>Lg t.data.toList (aK ns x) i k/\Lg t.data.toList (.aw (aK ns x) ((0:Nat):Int) (-1)) k j) (i+1) j cut)(fD:Pl t.data.toList (aK ns x) i cut l1)(ih:vr ns x t (0) (-1) cut j l2):vr ns x t (0) (-1) i j (l1++l2):=by
 intro w ao c gl cl gr cr B g cap m sp aB az hsm hB fk cO dA fj ht hg mS hmx;obtain⟨W0,ah⟩:∃W0,w.alloc (.cells #[.slice ao ns.length c,zf (za ⟨gl,0,ze⟩) ns.length cl,zf (za ⟨gr,0,ze⟩) ns.length cr,.string t] 119)=W0:=⟨_,rfl⟩;have ae:zc w.heap.size w W0:=by rw[<-ah];exact au
 have k0:W0.heap[w.heap.size]?=za (sD ao ns c gl cl gr cr t):=by rw[<-ah];exact aL _ _
 have zAf:((i:Int)==(j:Int))=false:=by have:=hG.1;have:=hG.2.1;simp;omega
 have qq:=hG.1;have dx:=hG.2.1;have rB:=λ(kk:Nat) (W:zb) (hb:zc w.heap.size w W) (bC:kk<=t.size)=>Df ns x hE W ao c gl cl gr cr t i kk (aB.below hb) (by omega) bC ht
 have qo:=λ(kk:Nat) (W:zb) (hb:zc w.heap.size w W) (bC:kk<=t.size)=>Mh ns x hE W ao c gl cl gr cr t (0) (-1) kk j (by omega) (by omega) (aB.below hb) bC fj ht
 have cV:=λ(W:zb) (hb:zc w.heap.size w W) (h1:W.ownsRow B 71 2 (zf (za ⟨g,0,ze⟩) m cap) m (pv sp))=>hX W ao c gl cl gr cr t B i cut g cap m sp l1 (aB.below hb) h1 hsm (aU hB hb.size) fk cO (by omega) (aU dx fj) ht (λz hz=>hg z (er.2 (.inl hz))) fD
 have mP:=λ(W:zb) (hb:zc w.heap.size w W) (g' cap':Nat) (h1:W.ownsRow B 71 2 (zf (za ⟨g',0,ze⟩) m cap') m (pv (dK sp l1)))=>ih W ao c gl cl gr cr B g' cap' m (dK sp l1) (aB.below hb) h1 (by rw[zv];exact hsm) (aU hB hb.size) fk cO dx fj ht (λz hz=>hg z (er.2 (.inr hz))) (by omega) (by omega)
 have oK:zd (Lg t.data.toList (aK ns x) i cut/\Lg t.data.toList (.aw (aK ns x) ((0:Nat):Int) (-1)) cut j):=hG.2.2.1;have zG:zd (∀k,cut<k->k<=j->¬(Lg t.data.toList (aK ns x) i k/\Lg t.data.toList (.aw (aK ns x) ((0:Nat):Int) (-1)) k j)):=hG.2.2.2;have Hu:zd (dK sp (l1++l2)=dK (dK sp l1) l2):=Iz sp l1 l2;have HB:zd (B<=w.heap.size):=hB;clear hG fD ih hE hX aB hg hB;simp only[show ((0:Nat):Int)=0 from rfl]at qo mP ⊢
 go_enter func93,ntmps93
 go_wp2;clear ah
 go_loopw [18] (λk wr=>∃kk:Nat,cut<=kk/\kk<=j/\k=.int .i64 kk/\zc w.heap.size w wr/\wr.heap[w.heap.size]?=za (sD ao ns c gl cl gr cr t))
  (λk _=>(intOf k).toNat)
 case atStart=>exact⟨j,dx,ai _,rfl,ae,k0⟩
 case round=>
  clear k0;obtain⟨kk,cM,iA,rfl,aB,kr⟩:=hrel;obtain⟨a0,a1,a2,a3⟩:=gC kr;have iZ:kk<=t.size:=by omega
  have gV:(((i+1:Nat):Int))<=(kk:Int):=by omega
  have N4:(i:Int)<=(kk:Int):=by omega
  obtain⟨b1,ak⟩:∃b:Bool,(b=true↔Lg t.data.toList (aK ns x) i kk):=by
   by_cases h:Lg t.data.toList (aK ns x) i kk
   ·exact⟨true,⟨λ_=>h,λ_=>rfl⟩⟩
   ·exact⟨false,⟨λk=>(by cases k),λk=>absurd k h⟩⟩
  have lm:zd (b1=true↔Lg t.data.toList (aK ns x) i kk):=ak;clear ak
  go_wp2_with fail
  refine(rB kk _ aB iZ).mono ?_;rintro e w4 ⟨q,rfl,hq,aG⟩;obtain rfl:q=b1:=by
   have:=hq.trans lm.out.symm;cases q<;>cases b1<;>simp_all
  clear hq;have kB:=ia kr aG;have iK:=aj aB aB.size aG;obtain⟨c0,c1,c2,c3⟩:=gC kB;clear a0 a1 a2 a3 kr aB aG;cases q
  ·have hne:cut≠kk:=λh=>by
    have:=lm.out.2 (h ▸ oK.out.1);cases this
   go_wp2
   go_roundw
   case rel=>exact⟨kk-1,by omega,by omega,by go_num,iK,kB⟩
   case measure=>simp[intOf];omega
  ·go_wp2_with fail
   refine(qo kk _ iK iZ).mono ?_;rintro e w5 ⟨q,rfl,hq,bE⟩;have Hq:zd (q=true↔Lg t.data.toList (.aw (aK ns x) ((0:Nat):Int) (-1)) kk j):=hq;clear hq;have pR:=ia kB bE;have pJ:=aj iK iK.size bE;obtain⟨d0,d1,d2,d3⟩:=gC pR;clear c0 c1 c2 c3 kB iK bE;cases q
   ·have hne:cut≠kk:=λh=>by
     have:=Hq.out.2 (h ▸ oK.out.2);cases this
    go_wp2
    go_roundw
    case rel=>exact⟨kk-1,by omega,by omega,by go_num,pJ,pR⟩
    case measure=>simp[intOf];omega
   ·have kS:kk=cut:=by
     rcases gh cut kk with h|h
     ·exact absurd ⟨lm.out.1 (by first|trivial|rfl),Hq.out.1 (by first|trivial|rfl)⟩ (zG.out kk h iA)
     ·omega
    subst kS;go_wp2;have dz:=pJ.drew;have tA:=ia pR ((Below.refl w5.heap.size w5).drew);obtain⟨e0,e1,e2,e3⟩:=gC tA;have mw:=cI az dz;clear rB qo d0 d1 d2 d3
    go_region_with (first|(go_at_call 66;refine(cV _ dz mw).mono ?_;rintro e w8 ⟨g8,fB,rfl,kD,dX⟩;clear cV;have uM:=ia tA dX;obtain⟨f0,f1,f2,f3⟩:=gC uM;have iJ:=aj dz dz.size dX)|(go_at_call 93;refine(mP _ iJ g8 fB kD).mono ?_;rintro e w9 ⟨g9,sR,rfl,tD,yM⟩))
    all_goals
     have bj:=aj iJ iJ.size yM;rw[<-Hu.out]at tD;go_wp2;exact bD (v:=zf (za ⟨g9,0,ze⟩) m sR) (by simp[results,results93,go_sem]) rfl ⟨g9,sR,rfl,tD,bj⟩
end
section
open Go
section
variable {P:Program} {ops:Array Oper} {md:Region.Mode} {C:zb->Prop}
def Fu(md:Region.Mode)(ops:Array Oper)(n i:Nat):Bool:=
 match ops[n]? with
 |some o=>o.after.any λe=>Region.binds md e&&e.on==i
 |none=>false
theorem VD{n i:Nat}(h:Fu md ops n i=true)(listed:Array Bool)(hr:n∈Region.ready md ops listed):listed.getD i true=true:=by
 obtain⟨_,o,ho,db⟩:=mem_ready.1 hr;unfold Fu at h;rw[ho]at h;simp only[Array.any_eq_true,Bool.and_eq_true,beq_iff_eq]at h;obtain⟨k,hk,hb,he⟩:=h;have h1:=db _ (Array.getElem_mem hk) hb;rw[he]at h1;rcases Nat.lt_or_ge i listed.size with h'|h'
 ·simp[h']at h1 ⊢;exact h1
 ·simp[Array.getElem?_eq_none h']at h1
end
end
section
open Go
section
variable {P:Program} {ops:Array Oper} {md:Region.Mode} {C:zb->Prop}
def mF(md:Region.Mode)(ops:Array Oper)(listed:Array Bool):Prop:=∀(k:Nat) (o:Oper),ops[k]?=za o->listed.getD k true=true->∀e∈o.after,Region.binds md e=true->listed.getD e.on true=true
theorem ziE{l:Array Bool}{i j:Nat}(h:l.getD i true=true):(l.setIfInBounds j true).getD i true=true:=by
 by_cases e:j=i
 ·subst e
  by_cases hj:j<l.size
  ·simp[hj]
  ·simp[hj]
 ·rw[getD_set_ne true e];exact h
theorem mF.start(md:Region.Mode)(ops:Array Oper):mF md ops (Array.replicate ops.size false):=λk o hk h=>by
 have hlt:=(Array.getElem?_eq_some_iff.1 hk).1;simp[hlt]at h
theorem zrK{listed:Array Bool}{j:Nat}{o:Oper}(ho:ops[j]?=za o)(hj:j∈Region.ready md ops listed):∀e∈o.after,Region.binds md e=true->listed.getD e.on true=true:=λe he hb=>by
 obtain⟨_,o',CC,db⟩:=mem_ready.1 hj;rw[ho]at CC;cases CC;have h1:=db e he hb;rcases Nat.lt_or_ge e.on listed.size with h'|h'
 ·simp[h']at h1 ⊢;exact h1
 ·simp[Array.getElem?_eq_none h']at h1
theorem mF.set{listed:Array Bool}(h:mF md ops listed){j:Nat}(hj:j∈Region.ready md ops listed):mF md ops (listed.setIfInBounds j true):=λk o hk hl e he hb=>by
 refine ziE ?_
 by_cases e1:j=k
 ·subst e1;exact zrK hk hj e he hb
 ·rw[getD_set_ne true e1]at hl;exact h k o hk hl e he hb
end
end
open Go
section
variable {P:Program} {ops:Array Oper} {md:Region.Mode} {C:zb->Prop}
def Bc(md:Region.Mode)(ops:Array Oper):Nat->Nat->Array Bool->Bool
 |0,_,listed=>(Region.ready md ops listed).isEmpty
 |f+1,k,listed=>(Region.ready md ops listed == [k])&&Bc md ops f (k+1) (listed.setIfInBounds k true)
theorem zjI{f k:Nat}{listed:Array Bool}(h:Bc md ops f k listed=true):∀j∈Region.ready md ops listed,j=k/\0<f:=λj hj=>by
 cases f with
 |zero=>
  simp only[Bc,List.isEmpty_iff]at h;rw[h]at hj;cases hj
 |succ f=>
  simp only[Bc,Bool.and_eq_true,beq_iff_eq]at h;rw[h.1]at hj;exact⟨by simpa using hj,by omega⟩
theorem zgb{Q:Exit->Act->zb->Prop}:∀(l:List Oper) (k:Nat) (listed:Array Bool) (a:Act) (w:zb),(∀j,j<l.length->l[j]?=ops[k+j]?)->Bc md ops l.length k listed=true->wpList P ops Q l a w->wpAny P md ops Q l.length listed a w
 |[],_,_,_,_,_,hB,h=>by
  simp only[List.length_nil,Bc,List.isEmpty_iff]at hB;exact⟨hB,h⟩
 |o::l,k,listed,a,w,hl,hB,h=>by
  have h0:ops[k]?=za o:=by simpa using (hl 0 (by simp)).symm
  simp only[List.length_cons,Bc,Bool.and_eq_true,beq_iff_eq]at hB;have ih:=λa w h=>zgb (Q:=Q) l (k+1) (listed.setIfInBounds k true) a w (λj hj=>by have:=hl (j+1) (by simp;omega);simpa [Nat.add_assoc,Nat.add_comm 1 j]using this) hB.2 h
  refine⟨λe=>absurd e (by rw[hB.1];simp),λi hi=>?_⟩;rw[hB.1]at hi;have e:i=k:=by simpa using hi
  subst e;unfold wpOp;simp only[h0];unfold wpList at h
  by_cases hw:Region.wanted o (yielded ops a.tmps)=true
  ·rw[if_pos hw]at h ⊢;rcases h with h|h
   ·exact .inl (Oper.wp_mono (λa w h=>ih a w h) h)
   ·exact .inr h
  ·rw[if_neg hw]at h ⊢;exact ih _ _ h
def Mk(P:Program)(md:Region.Mode)(ops:Array Oper)(C:zb->Prop)(n:Nat)(Q:Act->Prop):Nat->Array Bool->Act->Prop
 |0,listed,a=>Bc md ops (ops.size-n) n listed=true/\Q a
 |fuel+1,listed,a=>Region.ready md ops listed≠[]/\∀i∈Region.ready md ops listed,qOp P ops C i (Mk P md ops C n Q fuel (listed.setIfInBounds i true)) a
theorem zfm{Q:Act->Prop}{Q':Exit->Act->zb->Prop}{n:Nat}{l:List Oper}(hl:∀j,j<l.length->l[j]?=ops[n+j]?)(hsz:ops.size-n=l.length)(hQ:∀a w,C w->Q a->wpList P ops Q' l a w):
  ∀(fuel:Nat) (listed:Array Bool) (a:Act) (w:zb),C w->Mk P md ops C n Q fuel listed a->wpAny P md ops Q' (fuel+l.length) listed a w
 |0,listed,a,w,hw,h=>by
  rw[Nat.zero_add];exact zgb l n listed a w hl (by rw[<-hsz];exact h.1) (hQ a w hw h.2)
 |fuel+1,listed,a,w,hw,h=>by
  rw[show fuel+1+l.length=fuel+l.length+1 by omega];exact⟨λh0=>absurd h0 h.1,λi hi=>wpOp_of_qOp hw (λa' w' hw'=>zfm hl hsz hQ fuel _ a' w' hw') (h.2 i hi)⟩
theorem zkH{Q:Act->Prop}{i n:Nat}{oi:Oper}{v:Value}(hi:ops[i]?=za oi)(S7:∀listed:Array Bool,mF md ops listed->n∈Region.ready md ops listed->listed.getD i true=true)(KG:∀(j:Nat) (o:Oper) cs b,ops[j]?=za o->o.op≠.select cs b):
  ∀(fuel:Nat) (listed:Array Bool) (a:Act),mF md ops listed->
   (∀j oj,ops[j]?=za oj->j≠i->listed.getD j true=false->(∀e∈oj.after,Region.binds md e=true->e.on≠i)->oi.apart ops oj=true)->
   i∈Region.ready md ops listed->YieldsIn P ops C oi v a->
   Mk P md ops C n Q fuel (listed.setIfInBounds i true) (a.put oi.dst v)->Mk P md ops C n Q (fuel+1) listed a:=by
 intro fuel
 induction fuel with
 |zero=>
  intro listed a ik _ hr hy H;refine⟨λh=>(by rw[h]at hr;cases hr),λj hj=>?_⟩
  by_cases nV:j=i
  ·subst nV;exact hy.qOp hi H
  ·have h2:=(zjI H.1 j (ready_mono hj nV)).1;subst h2;have h1:=S7 _ ik hj;rw[(mem_ready.1 hr).1]at h1;cases h1
 |succ fuel ih=>
  intro listed a ik rM hr hy H;refine⟨λh=>(by rw[h]at hr;cases hr),λj hj=>?_⟩
  by_cases nV:j=i
  ·subst nV;exact hy.qOp hi H
  ·have h1:=H.2 j (ready_mono hj nV);obtain⟨Kh,oj,qz,db⟩:=mem_ready.1 hj;have To:∀e∈oj.after,Region.binds md e=true->e.on≠i:=λe he hb kS=>by
    have h1:=db e he hb;have h0:=(mem_ready.1 hr).1;rw[kS]at h1;rcases Nat.lt_or_ge i listed.size with h'|h'
    ·simp[h']at h0 h1;rw[h0]at h1;cases h1
    ·simp[Array.getElem?_eq_none h']at h1
   have h2:=qOp_put qz (rM j oj qz nV Kh To) (λcs b=>KG i oi cs b hi) (λcs b=>KG j oj cs b qz) hy h1;have SJ:∀k ok,ops[k]?=za ok->k≠i->(listed.setIfInBounds j true).getD k true=false->
     (∀e∈ok.after,Region.binds md e=true->e.on≠i)->oi.apart ops ok=true:=λk ok hk S0 KO hno=>by
    refine rM k ok hk S0 ?_ hno
    by_cases Kg:j=k
    ·subst Kg;exact Kh
    ·rw[getD_set_ne true Kg]at KO;exact KO
   refine qOp_mono (λa' h3=>ih (listed.setIfInBounds j true) a' (ik.set hj) SJ (ready_mono hr (Ne.symm nV)) h3.1 ?_) h2;rw[Array.setIfInBounds_comm _ _ nV];exact h3.2
def og(md:Region.Mode)(ops:Array Oper):Nat->Nat->Nat->Bool
 |0,n,i=>Fu md ops n i
 |f+1,n,i=>Fu md ops n i || (List.range n).any λk=>Fu md ops n k&&og md ops f k i
theorem zqm{n i:Nat}(h:Fu md ops n i=true):∃o,ops[n]?=za o/\∃e∈o.after,Region.binds md e=true/\e.on=i:=by
 unfold Fu at h;split at h
 ·rename_i o ho
  simp only[Array.any_eq_true,Bool.and_eq_true,beq_iff_eq]at h;obtain⟨q,hq,hb,he⟩:=h;exact⟨o,ho,_,Array.getElem_mem hq,hb,he⟩
 ·cases h
theorem EO{listed:Array Bool}(hc:mF md ops listed):∀(f n i:Nat),listed.getD n true=true->og md ops f n i=true->listed.getD i true=true
 |0,n,i,hl,h=>by
  obtain⟨o,ho,e,he,hb,e2⟩:=zqm h;rw[<-e2];exact hc n o ho hl e he hb
 |f+1,n,i,hl,h=>by
  unfold og at h;rw[Bool.or_eq_true]at h;rcases h with h|h
  ·exact EO hc 0 n i hl h
  ·obtain⟨k,_,hk⟩:=List.any_eq_true.1 h;rw[Bool.and_eq_true]at hk;exact EO hc f k i (EO hc 0 n k hl hk.1) hk.2
theorem zlV{f n i:Nat}(h:og md ops f n i=true)(listed:Array Bool)(hc:mF md ops listed)(hr:n∈Region.ready md ops listed):listed.getD i true=true:=by
 cases f with
 |zero=>exact VD h listed hr
 |succ f=>
  unfold og at h;rw[Bool.or_eq_true]at h;rcases h with h|h
  ·exact VD h listed hr
  ·obtain⟨k,_,hk⟩:=List.any_eq_true.1 h;rw[Bool.and_eq_true]at hk;exact EO hc f k i (VD hk.1 listed hr) hk.2
def OD(md:Region.Mode)(ops:Array Oper)(n:Nat):Nat->Nat->Array Bool->Bool
 |0,_,listed=>Bc md ops (ops.size-n) n listed
 |fuel+1,k,listed=>(Region.ready md ops listed).contains k&&Region.free md ops listed k&&OD md ops n fuel (k+1) (listed.setIfInBounds k true)
def preB(md:Region.Mode)(ops:Array Oper)(n:Nat):Bool:=
 Region.noSelect ops&&(List.range n).all (λi=>decide (ops.size<=n) || og md ops 6 n i)&&OD md ops n n 0 (Array.replicate ops.size false)
theorem zin{Q:Act->Prop}{n:Nat}(hs:Region.noSelect ops=true)(hn:∀i,i<n->(decide (ops.size<=n) || og md ops 6 n i)=true):∀(l:List Oper) (k:Nat) (listed:Array Bool) (a:Act),mF md ops listed->(∀j,j<l.length->l[j]?=ops[k+j]?)->k+l.length=n->
  OD md ops n l.length k listed=true->wpQuiet P ops C Q l a->Mk P md ops C n Q l.length listed a
 |[],_,_,_,_,_,_,hB,h=>⟨hB,h⟩
 |o::l,k,listed,a,ik,hl,ke,hB,h=>by
  have h0:ops[k]?=za o:=by simpa using (hl 0 (by simp)).symm
  simp only[List.length_cons,OD,Bool.and_eq_true]at hB;obtain⟨⟨hr,hf⟩,Ca⟩:=hB;have hst:qOp P ops C k (wpQuiet P ops C Q l) a:=by unfold qOp;simp only[h0];exact h
  obtain⟨v,hy,hK⟩:=yieldsIn_of_qOp h0 hst;simp only[List.length_cons]at ke;have bZ:k∈Region.ready md ops listed:=by simpa using hr
  exact zkH h0 (λL hc jO=>by
    have h1:=hn k (by omega);rw[Bool.or_eq_true]at h1;rcases h1 with h1|h1
    ·have h2:=of_decide_eq_true h1;obtain⟨_,o',CC,_⟩:=mem_ready.1 jO;have:=(Array.getElem?_eq_some_iff.1 CC).1;omega
    ·exact zlV h1 L hc jO) (Region.noSelect_spec hs) l.length listed a ik (Region.free_spec h0 hf) bZ hy
   (zin hs hn l (k+1) _ _ (ik.set bZ) (λj hj=>by have:=hl (j+1) (by simp;omega);simpa [Nat.add_assoc,Nat.add_comm 1 j]using this) (by omega) Ca hK)
theorem zkJ(n:Nat){Q:Exit->Act->zb->Prop}{a:Act}{w:zb}{all:List Oper}(C:zb->Prop)(hC:C w)(hn:n<=all.length)(hB:preB md all.toArray n=true)
  (h:∀l,l=all.take n->wpQuiet P all.toArray C (λa'=>∀w',C w'->∀r,r=all.drop n->wpList P all.toArray Q r a' w') l a):wpAny P md all.toArray Q all.length (Array.replicate all.length false) a w:=by
 simp only[preB,Bool.and_eq_true,List.all_eq_true,List.mem_range]at hB;have hlt:(all.take n).length=n:=by rw[List.length_take];omega
 have Kk:(all.drop n).length=all.length-n:=by rw[List.length_drop]
 have h1:=zin (P:=P) (C:=C) hB.1.1 hB.1.2 (all.take n) 0 (Array.replicate all.toArray.size false) a (mF.start _ _) (λj hj=>by rw[hlt]at hj;simp[hj]) (by omega) (by rw[hlt];exact hB.2) (h _ rfl);have h2:=zfm (md:=md) (C:=C) (Q':=Q) (n:=n) (l:=all.drop n) (λj _=>by simp[List.getElem?_drop]) (by simp) (λa w hw hq=>hq w hw _ rfl) (all.take n).length _ a w hC h1;rw[hlt,Kk,show n+(all.length-n)=all.length by omega]at h2
 simpa using h2
theorem xM(n:Nat){id:Nat}{Q:Exit->Act->zb->Prop}{a:Act}{w:zb}{all:List Oper}(C:zb->Prop)(hm:P.follows .mixedOrders=true)(hC:C w.drew)(hn:n<=all.length)(hB:preB .any all.toArray n=true)
  (h:∀l,l=all.take n->wpQuiet P all.toArray C (λa'=>∀w',C w'->∀r,r=all.drop n->wpList P all.toArray Q r a' w') l a):(Code.region id all.toArray true).wp P Q a w:=by
 refine wp_region_any hm ?_;have:=zkJ (md:=.any) n C hC hn hB h
 simpa using this
theorem znL{o:Oper}{a:Act}{w:zb}{K:Act->zb->Prop}{Q:Exit->Act->zb->Prop}(l n:Nat)(hd:∀c,o.op≠.defer c)(h:o.wp P a w K Q):o.wpIn (Fence.wide.inRound l) n P a w K Q:=by
 refine⟨λ_ _=>trivial,?_⟩;rw[Oper.semAt_eq _ _ _ hd];unfold Oper.wp at h;generalize (execOp a.eval o).run P w=r at *;have hdp:(Fence.wide.inRound l).depth.isSome=true->1<=n:=λe=>by cases e
 cases r with
 |ok nx w'=>
  cases nx with
  |value v=>exact h
  |skip=>exact h
  |defer d=>exact h
  |enter f args=>exact⟨hdp,CallsIn.inRound l (callsIn_wide.2 h)⟩
  |row row args=>exact⟨hdp,λc cs _=>by
    obtain⟨v,w2,h1,h2⟩:=h c cs;exact⟨v,w2,h1,stepsIn_wide.2 h2⟩⟩
  |round l f tmps assign body=>exact h.elim
  |_=>exact h.elim
 |halt hh w'=>
  cases hh with
  |panic v=>exact h
  |_=>exact h.elim
theorem LC{Q:Exit->Act->zb->Prop}(l n:Nat)(hQ:¬LetsOut Q)(hd:∀(j:Nat) (o:Oper),ops[j]?=za o->∀c,o.op≠.defer c):∀(fuel:Nat) (listed:Array Bool) (a:Act) (w:zb),wpAny P md ops Q fuel listed a w->wpAnyIn (Fence.wide.inRound l) n P md ops Q fuel listed a w
 |0,_,_,_,h=>h
 |fuel+1,listed,a,w,h=>by
  refine⟨h.1,λi hi=>?_⟩;have h1:=h.2 i hi;unfold wpOp at h1;unfold wpOpIn;split
  ·rename_i e
   simp only[e]at h1;exact LC l n hQ hd fuel _ _ _ h1
  ·rename_i o e
   simp only[e]at h1
   by_cases hw:Region.wanted o (yielded ops a.tmps)=true
   ·rw[if_pos hw]at h1 ⊢;rcases h1 with h1|h1
    ·exact znL l n (hd i o e) (Oper.wp_mono (λa w h=>LC l n hQ hd fuel _ a w h) h1)
    ·exact absurd h1.2 hQ
   ·rw[if_neg hw]at h1 ⊢;exact⟨λ_ _=>trivial,LC l n hQ hd fuel _ _ _ h1⟩
def WO(ops:List Oper):Bool:=ops.all λo=>match o.op with | .defer _=>false|_=>true
theorem zf6{all:List Oper}(h:WO all=true)(j:Nat)(o:Oper)(ho:all.toArray[j]?=za o)(c:_):o.op≠.defer c:=λe=>by
 have hm:o∈all:=by
  rw[List.getElem?_toArray]at ho;exact List.mem_of_getElem? ho
 have:=List.all_eq_true.1 h o hm;rw[e]at this;cases this
theorem zhv(n:Nat){id l nn:Nat}{Q:Exit->Act->zb->Prop}{a:Act}{w:zb}{all:List Oper}(C:zb->Prop)(hm:P.follows .mixedOrders=true)(hC:C w.drew)(hQ:¬LetsOut Q)(hn:n<=all.length)(hB:preB .any all.toArray n=true)(hD:WO all=true)
  (h:∀l,l=all.take n->wpQuiet P all.toArray C (λa'=>∀w',C w'->∀r,r=all.drop n->wpList P all.toArray Q r a' w') l a):(Code.region id all.toArray true).wpIn (Fence.wide.inRound l) nn P Q a w:=by
 refine wpIn_region_any hm ?_;have:=LC l nn hQ (zf6 hD) _ _ _ _ (zkJ (md:=.any) n C hC hn hB h)
 simpa using this
end
end Go.Proofs.YtdimhpfiieepiaaGreatDoor
