import Derived.Test.YthdljcdbfmhleaaGreatDoorC35
import Derived.Deep.RegionHeld3
import Derived.Deep.DrawnRows
namespace Go.Proofs.YthdljcdbfmhleaaGreatDoor
set_option maxHeartbeats 4000000
set_option maxRecDepth 100000
open Go.RowKit
attribute [local go_sem ↓] Go.wp_at_zero Go.wp_at_succ
section
variable {w w':World}{g:Nat}{A B:List Bool}
structure BrAt(w:World)(ns:List zak)(vn:Value)(gl gr:Nat):Prop where
 nodes:zas 0 w vn ns
 ltl:gl<w.heap.size
 ltr:gr<w.heap.size
 left:∀i,i<ns.length->w.cell? ⟨gl,i,none⟩=some (.int .i64 (zbn ns i))
 right:∀i,i<ns.length->w.cell? ⟨gr,i,none⟩=some (.int .i64 (zbf ns i))
theorem BrAt.below{ns:List zak}{vn:Value}{gl gr:Nat}(h:BrAt w ns vn gl gr)(hb:Below w.heap.size w w'):BrAt w' ns vn gl gr:=
 ⟨h.nodes.below hb,zsc h.ltl hb.size,zsc h.ltr hb.size,fun i hi=>(hb.cell (p:=⟨gl,i,none⟩) h.ltl).trans (h.left i hi),fun i hi=>(hb.cell (p:=⟨gr,i,none⟩) h.ltr).trans (h.right i hi)⟩
def zl7(w:World)(t:ByteArray)(m:Nat)(P:Nat->Prop)(e:Ending)(w':World):Prop:=
 ∃(g' cap':Nat) (S':List Bool),e=.returned (.slice (some ⟨g',0,none⟩) m cap')/\zbe w' g' S'/\S'.length=m/\zcn t.size S' P/\Below w.heap.size w w'
def zbO(ns:List zak)(n:Nat):Prop:=
 ∀(w:World) (ao:Option Addr) (c gl cl gr cr:Nat) (t:ByteArray) (g cap m:Nat) (S:List Bool) (F:Nat->Prop),BrAt w ns (.slice ao ns.length c) gl gr->zbe w g S->S.length=m->zcn t.size S F->t.size<=4096->
  Calls Tryz.prog 30 #[.agg #[.slice ao ns.length c,.slice (some ⟨gl,0,none⟩) ns.length cl,.slice (some ⟨gr,0,none⟩) ns.length cr,.string t],.int .i64 n,.slice (some ⟨g,0,none⟩) m cap] w fun e w'=>zl7 w t m (zaU t.data.toList (In (tOf ns n)) F) e w'
theorem zaC{a b c d:Value}{t:TypeId}(h:w.heap[g]?=some (.cells #[a,b,c,d] t (0,0))):w.cell? ⟨g,0,none⟩=some a/\w.cell? ⟨g,1,none⟩=some b/\w.cell? ⟨g,2,none⟩=some c/\w.cell? ⟨g,3,none⟩=some d:=by
 have:∀o,w.cell? ⟨g,o,none⟩=#[a,b,c,d][o]?:=fun _=>zsm _ _ _ _ _ _ h
 exact⟨this 0,this 1,this 2,this 3⟩
def zgf(A:List Bool):Nat:=A.countP id
theorem zps(A:List Bool):zgf A<=A.length:=List.countP_le_length
theorem zkY:∀(A B:List Bool),A.length=B.length->(∀i,A.getD i false=true->B.getD i false=true)->zgf A<=zgf B/\((∃i,B.getD i false=true/\A.getD i false=false)->zgf A<zgf B)
 |[],[],_,_=>⟨zsa _,fun⟨i,h,_⟩=>by simp at h⟩
 |[],_::_,h,_=>by simp at h
 |_::_,[],h,_=>by simp at h
 |a::A,b::B,hl,h=>by
  have ih:=zkY A B (by simpa using hl) (fun i hi=>by have:=h (i+1);simpa using this (by simpa using hi));have h0:a=true->b=true:=by have:=h 0;simpa using this
  have e:∀(x:Bool) (X:List Bool),zgf (x::X)=zgf X+(if x=true then 1 else 0):=by
   intro x X;simp[zgf,List.countP_cons]
  rw[e,e];refine⟨?_,?_⟩
  ·cases a<;>cases b<;>simp at h0 ⊢<;>omega
  ·rintro ⟨i,hb,ha⟩;cases i with
   |zero=>
    have hb':b=true:=by simpa using hb
    have ha':a=false:=by simpa using ha
    subst hb' ha';simp;omega
   |succ i=>
    have:=ih.2 ⟨i,by simpa using hb,by simpa using ha⟩;cases a<;>cases b<;>simp at h0 ⊢<;>omega
theorem zpt(hl:A.length=B.length)(h:zer A B A.length=true):zgf A+1<=zgf (orL A B):=by
 refine(zkY A (orL A B) (zeD A B).symm fun i hi=>?_).2 ?_
 ·by_cases e:i<A.length
  ·rw[zho _ _ e,hi];rfl
  ·rw[zrw,zrE (by omega)] at hi;cases hi
 ·obtain⟨i,hi,h2⟩:=zrk.1 h;simp at hi h2;exact⟨i,by rw[zho _ _ hi];simp[h2.1],h2.2⟩
theorem zpP{n:Nat}{P Q:Nat->Prop}(hA:zcn n A P)(hB:zcn n B Q)(m:Nat)(hm:A.length=m)(h:zer A B m=false):∀j,Q j->P j:=by
 intro j hj;have hj':=hB.le j hj;have h1:=(hB.iff j).2 hj;rw[<-hA.iff];cases hq:A.getD j false
 ·exfalso
  have:zer A B m=true:=zrk.2 ⟨j,by simp;have:=hA.len;omega,by rw[h1,hq];rfl⟩;rw[h] at this;cases this
 ·rfl
theorem zat{o:Obj}(h:w.heap[g]?=some o)(hb:Below w.heap.size w w'):w'.heap[g]?=some o:=(hb.block g (zrc.1 h).1).trans h
structure CopS(w wr:World)(ob:Obj)(g n m:Nat)(C:List Bool)(P:Nat->Prop):Prop where
 below:Below w.heap.size w wr
 row:wr.heap[w.heap.size]?=some ob
 at_:zbe wr g C
 len:C.length=m
 set:zcn n C P
def Cop1(w:World)(ob:Obj)(t:ByteArray)(m:Nat)(b:Pt)(F:Nat->Prop)(mn:Nat)(cur k:Value)(wr:World):Prop:=
 ∃(gg cc kk:Nat) (C:List Bool),kk<=mn/\cur=.slice (some ⟨gg,0,none⟩) m cc/\k=.int .i64 kk/\CopS w wr ob gg t.size m C (zaU t.data.toList (Pow (In b) kk) F)
def Cop2(w:World)(ob:Obj)(t:ByteArray)(m:Nat)(b:Pt)(F:Nat->Prop)(kk:Nat)(mx:Int)(cur all k:Value)(wr:World):Prop:=
 ∃(gg cc ga ca k2:Nat) (C A:List Bool),kk<=k2/\(mx=-1\/(k2:Int)<=mx)/\cur=.slice (some ⟨gg,0,none⟩) m cc/\all=.slice (some ⟨ga,0,none⟩) m ca/\k=.int .i64 k2/\CopS w wr ob gg t.size m C (zaU t.data.toList (Pow (In b) k2) F)/\zbe wr ga A/\Hid (A.length=m)/\zcn t.size A (fun j=>∃i,kk<=i/\i<=k2/\zaU t.data.toList (Pow (In b) i) F j)/\Hid (k2<=kk+zgf A)
theorem zhU(ns:List zak)(x:Nat)(hE:zbO ns x)(w:World)(ao:Option Addr)(c gl cl gr cr:Nat)(t:ByteArray)(g cap m:Nat)(S:List Bool)(F:Nat->Prop)(mn:Nat)(mx:Int)
  (hbr:BrAt w ns (.slice ao ns.length c) gl gr) (hS:zbe w g S) (hSm:S.length=m) (hF:zcn t.size S F) (ht:t.size<=4096) (hmn:mn<=255) (hmx:mx=-1\/((mn:Int)<=mx/\mx<=255)):
  Calls Tryz.prog 54 #[.agg #[.slice ao ns.length c,.slice (some ⟨gl,0,none⟩) ns.length cl,.slice (some ⟨gr,0,none⟩) ns.length cr,.string t],.int .i64 x,.int .i64 mn,.int .i64 mx,.slice (some ⟨g,0,none⟩) m cap] w fun e w'=>zl7 w t m (zaU t.data.toList (In (.rep (tOf ns x) mn mx)) F) e w':=by
 have hE':=fun(W:World) (hb:Below w.heap.size w W) (g cap:Nat) (C:List Bool) (P:Nat->Prop) (h1:zbe W g C) (h2:C.length=m) (h3:zcn t.size C P)=>hE W ao c gl cl gr cr t g cap m C P (hbr.below hb) h1 h2 h3 ht
 have Hm:Hid (m=t.size+1):=by show _=_;rw[<-hSm];exact hF.len
 have hm5:m<=1048576:=by rw[Hm.out];omega
 clear hE hbr;generalize tOf ns x=b at hE' ⊢;have hb0:Below w.heap.size w (w.alloc (.cells #[.slice ao ns.length c,.slice (some ⟨gl,0,none⟩) ns.length cl,.slice (some ⟨gr,0,none⟩) ns.length cr,.string t] 46)):=(Below.refl _ _).alloc (zsa _) _
 go_enter Tryz.func54,Tryz.ntmps54
 go_wp2
 go_loopw [11,12] (fun cur k wr=>Cop1 w (.cells #[.slice ao ns.length c,.slice (some ⟨gl,0,none⟩) ns.length cl,.slice (some ⟨gr,0,none⟩) ns.length cr,.string t] 46 (0,0)) t m b F mn cur k wr)
  (fun _ k _=>mn-(intOf k).toNat)
 case atStart=>exact⟨g,cap,0,S,zsj _,rfl,rfl,hb0,zsp _ _,hS.below hb0,hSm,hF.congr fun j=>(zg9 (fun i hi=>by have:=hF.le i hi;simpa using this) j).symm⟩
 case round=>
  obtain⟨gg,cc,kk,C,hkk,rfl,rfl,hC⟩:=hrel;obtain⟨a0,a1,a2,a3⟩:=zaC hC.row
  by_cases hlt:kk<mn
  ·have hi1:(kk:Int)<(mn:Int):=by omega
   go_wp2_with fail
   refine(hE' _ hC.below gg cc C _ hC.at_ hC.len hC.set).mono ?_;rintro e w2 ⟨g2,c2,S2,rfl,hb2,hl2,hs2,hw2⟩;go_wp2
   go_roundw
   case rel=>exact⟨g2,c2,kk+1,S2,by omega,rfl,by go_num,zaa hC.below hC.below.size hw2,zat hC.row hw2,hb2,hl2,hs2.congr fun j=>(zb7 kk j).symm⟩
   case measure=>simp[intOf];omega
  ·have hkm:kk=mn:=by omega
   subst hkm;have hi1:¬(kk:Int)<(kk:Int):=by omega
   go_wp2;clear a0 a1 a2 a3
   go_loopw [11,13,14] (fun cur all k wr=>Cop2 w (.cells #[.slice ao ns.length c,.slice (some ⟨gl,0,none⟩) ns.length cl,.slice (some ⟨gr,0,none⟩) ns.length cr,.string t] 46 (0,0)) t m b F kk mx cur all k wr)
    (fun _ _ k _=>kk+m+1-(intOf k).toNat)
   case atStart=>exact⟨gg,cc,gg,cc,kk,C,C,zsa _,by omega,rfl,rfl,rfl,hC,hC.at_,hC.len,hC.set.congr fun j=>⟨fun h=>⟨kk,zsa _,zsa _,h⟩,fun⟨i,h1,h2,h⟩=>(show i=kk by omega) ▸ h⟩,Nat.le_add_right _ _⟩
   case round=>
    clear hC hi1 hkk hlt;obtain⟨gg,cc,ga,ca,k2,C,A,hk2,hkx,rfl,rfl,rfl,hC,hA,HAl,hAs,HT⟩:=hrel;obtain⟨a0,a1,a2,a3⟩:=zaC hC.row
    by_cases hgo:mx=-1\/(k2:Int)<mx
    ·have hk3:k2<=kk+m:=by have:=zps A;rw[HAl.out] at this;have:=HT.out;omega
     have hcond:(Hid (mx=-1)/\(mx == -1)=true)\/((mx == -1)=false/\(k2:Int)<mx):=by
      by_cases e:mx=-1
      ·exact .inl ⟨e,by rw[e];rfl⟩
      ·exact .inr ⟨zsk.2 e,by omega⟩
     have hw62:IntKind.i64.wrap ((k2:Int)+1)=(k2:Int)+1:=by rw[IntKind.wrap_i64];omega
     rcases hcond with ⟨hx1,hx2⟩|⟨hx1,hx2⟩
     all_goals
      go_wp2_with fail
      refine(hE' _ hC.below gg cc C _ hC.at_ hC.len hC.set).mono ?_;rintro e w2 ⟨g2,c2,S2,rfl,hb2,hl2,hs2,hw2⟩
      go_wp2_with fail
      refine(zpQ m A S2 ga g2 ca c2 _ (hA.below hw2) hb2 HAl.out hl2 hm5).mono ?_;rintro e w3 ⟨rfl,hw3⟩;have hA3:=(hA.below hw2).below hw3;have hB3:=hb2.below hw3;have hZ:=zaa (zaa hC.below hC.below.size hw2) (zaa hC.below hC.below.size hw2).size hw3;have hs2':zcn t.size S2 (zaU t.data.toList (Pow (In b) (k2+1)) F):=hs2.congr fun j=>(zb7 k2 j).symm
      have hR3:=zat (zat hC.row hw2) hw3;cases hq:zer A S2 m
      ·go_wp2;have hstop:=zmC (u:=t.data.toList) (L:=In b) (F:=F) (mn:=kk) (K:=k2) hk2 (zpP hAs hs2' m HAl.out hq);refine zsl (v:=.slice (some ⟨ga,0,none⟩) m ca) (by simp[results,Tryz.results54,go_sem]) rfl ⟨ga,ca,A,rfl,hA3,HAl.out,hAs.congr fun j=>?_,hZ⟩;rw[zkm];constructor
       ·rintro ⟨i,h1,h2,h⟩;exact⟨i,⟨h1,by omega⟩,h⟩
       ·rintro ⟨i,h1,h⟩;exact hstop i h1.1 j h
      ·go_wp2_with fail
       refine(zqQ m A S2 ga g2 ca c2 _ hA3 hB3 HAl.out hl2 hm5).mono ?_;rintro e w4 ⟨rfl,hO,hw4⟩;go_wp2
       go_roundw
       case rel=>
        refine⟨g2,c2,w3.heap.size,m,k2+1,S2,orL A S2,by omega,by omega,rfl,rfl,by go_num,⟨zaa hZ hZ.size hw4,zat hR3 hw4,hB3.below hw4,hl2,hs2'⟩,hO,by show _=_;rw[zeD];exact HAl.out,(zks hAs hs2').congr fun j=>?_,?_⟩
        ·constructor
         ·rintro (⟨i,h1,h2,h⟩|h)
          ·exact⟨i,h1,by omega,h⟩
          ·exact⟨k2+1,by omega,zsa _,h⟩
         ·rintro ⟨i,h1,h2,h⟩
          by_cases e:i<=k2
          ·exact .inl ⟨i,h1,e,h⟩
          ·obtain rfl:i=k2+1:=by omega
           exact .inr h
        ·have:=zpt (A:=A) (B:=S2) (by rw[HAl.out,hl2]) (by rw[HAl.out];exact hq);have:=HT.out;show _<=_;omega
       case measure=>simp[intOf];omega
    ·have hx1:(mx == -1)=false:=zsk.2 (by omega);have hx2:¬(k2:Int)<mx:=by omega
     go_wp2;refine zsl (v:=.slice (some ⟨ga,0,none⟩) m ca) (by simp[results,Tryz.results54,go_sem]) rfl ⟨ga,ca,A,rfl,hA,HAl.out,hAs.congr fun j=>?_,hC.below⟩;rw[zkm];constructor
     ·rintro ⟨i,h1,h2,h⟩;exact⟨i,⟨h1,by omega⟩,h⟩
     ·rintro ⟨i,h1,h⟩;exact⟨i,h1.1,by have:=h1.2;omega,h⟩
end
section
variable {m g k:Nat}{w wr:World}{ob nb:Obj}{T:List Bool}
def setL(m:Nat)(S:List Bool)(f:Nat->Bool)(u:Word):Nat->List Bool
 |0=>List.replicate m false
 |k+1=>if (S.getD k false&&f (u.getD k 0).toNat)=true then (setL m S f u k).set (k+1) true else setL m S f u k
theorem zec(m:Nat)(S:List Bool)(f:Nat->Bool)(u:Word):∀k,(setL m S f u k).length=m
 |0=>by simp[setL]
 |k+1=>by rw[setL];split<;>simp[zec m S f u k]
theorem zkR(m:Nat)(S:List Bool)(f:Nat->Bool)(u:Word):∀k,k<m->∀j,(setL m S f u k).getD j false=true↔∃i,i<k/\j=i+1/\S.getD i false=true/\f (u.getD i 0).toNat=true
 |0,_,j=>by
  rw[setL,zrw,List.getElem?_replicate];constructor
  ·intro h;split at h<;>cases h
  ·rintro ⟨i,h,_⟩;exact absurd h (zsg _)
 |k+1,hk,j=>by
  have ih:=zkR m S f u k (by omega) j;rw[setL];split
  ·rename_i hc
   rw[zrf] at hc;rw[zrw,zrH]
   by_cases e:k+1=j
   ·rw[zst e,zst (by rw[zec];omega)];exact⟨fun _=>⟨k,by omega,e.symm,hc⟩,fun _=>rfl⟩
   ·rw[zss e,<-zrw,ih];constructor
    ·rintro ⟨i,h1,h2⟩;exact⟨i,by omega,h2⟩
    ·rintro ⟨i,h1,h2,h3⟩;exact⟨i,by omega,h2,h3⟩
  ·rename_i hc
   rw[ih];constructor
   ·rintro ⟨i,h1,h2⟩;exact⟨i,by omega,h2⟩
   ·rintro ⟨i,h1,h2,h3,h4⟩;refine⟨i,?_,h2,h3,h4⟩
    by_cases e:i=k
    ·subst e;exact absurd (by rw[h3,h4];rfl) hc
    ·omega
theorem zmW{S:List Bool}{f:Nat->Bool}{u:Word}{F:Nat->Prop}(hm:m=u.length+1)(hF:zcn u.length S F):zcn u.length (setL m S f u u.length) (zaU u (In (.set f)) F):=by
 refine⟨by rw[zec,hm],fun j=>?_⟩;rw[zkR m S f u u.length (by omega),zop];constructor
 ·rintro ⟨i,h1,h2,h3,h4⟩;exact⟨i,h1,h2,(hF.iff i).1 h3,by simpa [List.getD_eq_getElem?_getD,List.getElem?_eq_getElem h1] using h4⟩
 ·rintro ⟨i,h1,h2,h3,h4⟩;exact⟨i,h1,h2,(hF.iff i).2 h3,by simpa [List.getD_eq_getElem?_getD,List.getElem?_eq_getElem h1] using h4⟩
theorem zbQ{o:Obj}(h:w.heap[g]?=some o):g<w.heap.size:=(zrc.1 h).1
structure SetI(w wr:World)(ob nb:Obj)(m k:Nat)(T:List Bool):Prop where
 below:Below w.heap.size w wr
 box:wr.heap[w.heap.size]?=some ob
 node:wr.heap[w.heap.size+1]?=some nb
 row:wr.ownsRow w.heap.size 4 1 (.slice (some ⟨w.heap.size+1+1,0,none⟩) m m) m (T.map Value.bool)
theorem SetI.call{w2:World}(h:SetI w wr ob nb m k T)(hb:Below wr.heap.size wr w2):SetI w w2 ob nb m (k+1) T:=
 ⟨zaa h.below h.below.size hb,zat h.box hb,zat h.node hb,zab h.row hb⟩
theorem SetI.drew(h:SetI w wr ob nb m k T):SetI w wr.drew ob nb m (k+1) T:=h.call (Below.refl _ _).drew
theorem SetI.put{j:Nat}(h:SetI w wr ob nb m k T):SetI w (wr.setCell ⟨w.heap.size+1+1,j,none⟩ (.bool true)) ob nb m k (T.set j true):=
 ⟨h.below.setCell (by simp;omega) _,(Below.heap_setCell _ _ _ _ (by simp;omega)).trans h.box,(Below.heap_setCell _ _ _ _ (by simp)).trans h.node,by rw[List.map_set];exact(h.row.stored j (.bool true)).1⟩
theorem zbw{a b c d e:Value}{t:TypeId}(h:w.heap[g]?=some (.cells #[a,b,c,d,e] t (0,0))):w.cell? ⟨g,0,none⟩=some a/\w.cell? ⟨g,1,none⟩=some b/\w.cell? ⟨g,2,none⟩=some c/\w.cell? ⟨g,3,none⟩=some d/\w.cell? ⟨g,4,none⟩=some e:=by
 have:∀o,w.cell? ⟨g,o,none⟩=#[a,b,c,d,e][o]?:=fun _=>zsm _ _ _ _ _ _ h
 exact⟨this 0,this 1,this 2,this 3,this 4⟩
theorem zmz(ns:List zak)(n:Nat)(hn:n<ns.length)(hk:zap ns n=1)(hT:tOf ns n=.set (hasF (ns.getD n .zero).set)):zbO ns n:=by
 intro w ao c gl cl gr cr t g cap m S F hbr hS hSm hF ht;rw[hT];obtain⟨ao2,cap2,hv,hml,hc⟩:=hbr.nodes;cases hv;obtain⟨b,o,sv,nd,rfl,Hn,hbl,c0,c1,c2,c3,c4,hsv⟩:=hc.elem (Below.refl _ _) hn;have hk1:nd.kind=1:=by rw[<-hk];unfold zap;rw[Hn.out]
 rw[hk1] at c0;rw[Hn.out];have hsv0:=hsv;obtain⟨sao,scp,rfl,hsm,hsc⟩:=hsv;have Hm:Hid (m=t.size+1):=by show _=_;rw[<-hSm];exact hF.len
 have hm5:m<=1048576:=by rw[Hm.out];omega
 have hm6:t.size<m:=by rw[Hm.out];omega
 have hHas:=fun(W:World) (hb:Below w.heap.size w W) (ch:Nat) (h8:ch<256)=>zqH _ nd.set ch W (hsv0.below hb) h8
 clear hk hT hk1 hc hsc hsv0;obtain⟨i0,hi,hz0,hz1,hz2⟩:=info_parts Tryz.infoBoolE;have hi0:(0:Int)<=(n:Int):=by omega
 have hi1:(n:Int)<(ns.length:Int):=by omega
 go_enter Tryz.func30,Tryz.ntmps30
 go_wp2_with (refine wpList_make_full _ rfl _ _ 67 rfl w.heap.size 4 i0 _ 1 Tryz.underlying67 hi hz0 hz1 _ _ _ _ m rfl rfl rfl rfl (by rw[hz2];omega) (by unfold maxLen;omega) (by simp;omega) ?_;intro w1 hown hgrow;rw[zgK] at hown)
 have hI0:SetI w w1 (.cells #[.slice (some ⟨b,o,none⟩) ns.length c,.slice (some ⟨gl,0,none⟩) ns.length cl,.slice (some ⟨gr,0,none⟩) ns.length cr,.string t] 46 (0,0)) (.cells #[.int .i64 1,.slice sao nd.set.length scp,.int .i64 nd.min,.int .i64 nd.max,.int .i64 nd.group] 72 (0,0)) m 0 (setL m S (hasF nd.set) t.data.toList 0):=by
  have hba:=((Below.refl w.heap.size w).alloc (zsa _) (.cells #[.slice (some ⟨b,o,none⟩) ns.length c,.slice (some ⟨gl,0,none⟩) ns.length cl,.slice (some ⟨gr,0,none⟩) ns.length cr,.string t] 46)).alloc (by simp) (.cells #[.int .i64 1,.slice sao nd.set.length scp,.int .i64 nd.min,.int .i64 nd.max,.int .i64 nd.group] 72);refine⟨hba.grown hgrow (by simp;omega) (by intro k h;cases h),?_,?_,?_⟩
  ·exact(hgrow.block _ (by simp;omega) (by simp)).trans (zah (zsp _ _))
  ·refine(hgrow.block _ (by simp) (by simp)).trans ?_;have:=zsp (w.alloc (.cells #[.slice (some ⟨b,o,none⟩) ns.length c,.slice (some ⟨gl,0,none⟩) ns.length cl,.slice (some ⟨gr,0,none⟩) ns.length cr,.string t] 46)) (.cells #[.int .i64 1,.slice sao nd.set.length scp,.int .i64 nd.min,.int .i64 nd.max,.int .i64 nd.group] 72)
   simpa using this
  ·simpa [setL] using hown
 clear hown hgrow c0 c1 c2 c3 c4
 go_loopw [9] (fun i wr=>∃k:Nat,k<=t.size/\i=.int .i64 k/\SetI w wr (.cells #[.slice (some ⟨b,o,none⟩) ns.length c,.slice (some ⟨gl,0,none⟩) ns.length cl,.slice (some ⟨gr,0,none⟩) ns.length cr,.string t] 46 (0,0)) (.cells #[.int .i64 1,.slice sao nd.set.length scp,.int .i64 nd.min,.int .i64 nd.max,.int .i64 nd.group] 72 (0,0)) m k (setL m S (hasF nd.set) t.data.toList k)) (fun i _=>t.size-(intOf i).toNat)
 case atStart=>exact⟨0,zsj _,rfl,hI0⟩
 case round=>
  clear hI0;obtain⟨k,hk,rfl,hI⟩:=hrel;obtain⟨a0,a1,a2,a3⟩:=zaC hI.box
  by_cases hlt:k<t.size
  ·have Hs:Hid (setL m S (hasF nd.set) t.data.toList (k+1)=if (S.getD k false&&hasF nd.set (t.data.toList.getD k 0).toNat)=true then (setL m S (hasF nd.set) t.data.toList k).set (k+1) true else setL m S (hasF nd.set) t.data.toList k):=rfl;have g0:=(hI.below.cell (p:=⟨g,k,none⟩) hS.1).trans (hS.2 k (by rw[hSm];omega));obtain⟨n0,n1,n2,n3,n4⟩:=zbw hI.node;have hj0:(0:Int)<=(k:Int):=by omega
   have hj1:(k:Int)<(m:Int):=by omega
   have hj2:(k:Int)<(t.size:Int):=by omega
   generalize S.getD k false=a at *;have hlg:g<wr.heap.size:=zsc hS.1 hI.below.size;have hlb:=zbQ hI.box;have hln:=zbQ hI.node;have hch:=fun(W:World) (hb:Below w.heap.size w W)=>hHas W hb (t[k]'hlt).toNat (UInt8.toNat_lt _)
   have HC:Hid ((t.data.toList.getD k 0).toNat=(t[k]'hlt).toNat):=by
    show _=_;rw[zrw,zrD (show k<t.data.toList.length by simpa using hlt)]
    rfl
   cases a
   ·go_wp2
    go_region
    go_wp2
    go_roundw
    case rel=>exact⟨k+1,by omega,by go_num,by rw[Hs.out,Bool.false_and,zss (by decide)];exact hI.drew⟩
    case measure=>simp[intOf];omega
   ·go_wp2
    go_region_held3 (fun w'=>w'.cell? ⟨g,k,none⟩=some (.bool true)/\w'.cell? ⟨w.heap.size,3,none⟩=some (.string t)/\w'.cell? ⟨w.heap.size+1,1,none⟩=some (.slice sao nd.set.length scp)) ((first|go_keep|exact⟨(hb2.cell (by exact hlg)).trans g0,(hb2.cell (by exact hlb)).trans a3,(hb2.cell (by exact hln)).trans n1⟩)) ((go_at_call 52;refine(hch _ hI.drew.below).mono ?_;rintro e w2 ⟨rfl,hb2⟩))
    have hbd:Below wr.heap.size wr w2:=zaa (Below.refl _ _).drew (zsa _) hb2;have hI2:=hI.call hbd;rw[<-HC.out];cases hq:hasF nd.set (t.data.toList.getD k 0).toNat
    ·go_wp2
     go_roundw
     case rel=>exact⟨k+1,by omega,by go_num,by rw[Hs.out,hq,Bool.and_false,zss (by decide)];exact hI2⟩
     case measure=>simp[intOf];omega
    ·obtain⟨u0,d0⟩:=zbk hI2.row (j:=k+1) (by omega);have f0:=hI2.row.frozenAt (k+1);have hj3:(k:Int)+1<(m:Int):=by omega
     go_wp2
     go_roundw
     case rel=>exact⟨k+1,by omega,by go_num,by rw[Hs.out,hq,Bool.and_true,zst rfl];exact hI2.put⟩
     case measure=>simp[intOf];omega
  ·have hkk:k=t.size:=by omega
   go_wp2;have hu:t.data.toList.length=t.size:=by simp
   have hs:=zmW (m:=m) (S:=S) (f:=hasF nd.set) (u:=t.data.toList) (F:=F) (by rw[hu];exact Hm.out) (by rw[hu];exact hF);rw[hu,<-hkk] at hs;refine zsl (v:=.slice (some ⟨w.heap.size+1+1,0,none⟩) m m) (by simp[results,Tryz.results30,go_sem]) rfl ⟨_,_,_,rfl,⟨zb0 hI.row,fun i hi=>?_⟩,zec _ _ _ _ _,by rw[<-hkk];exact hs,hI.below⟩;rw[hI.row.cellAt i (by rw[zec] at hi;omega),zrG,zrw,zrD hi]
   rfl
end
section
variable {w W W':World}{a0 a1 a2 a3 lv rv:Value}{gl gr n:Nat}
def EndH(w:World)(a0 a1 a2 a3:Value)(n0 n1 n2 n3 n4:Value)(gl gr n:Nat)(lv rv:Value)(W:World):Prop:=
 Below w.heap.size w W/\w.heap.size+1<W.heap.size/\W.cell? ⟨w.heap.size,0,none⟩=some a0/\W.cell? ⟨w.heap.size,1,none⟩=some a1/\W.cell? ⟨w.heap.size,2,none⟩=some a2/\W.cell? ⟨w.heap.size,3,none⟩=some a3/\
  W.cell? ⟨w.heap.size+1,0,none⟩=some n0/\W.cell? ⟨w.heap.size+1,1,none⟩=some n1/\W.cell? ⟨w.heap.size+1,2,none⟩=some n2/\W.cell? ⟨w.heap.size+1,3,none⟩=some n3/\W.cell? ⟨w.heap.size+1,4,none⟩=some n4/\
  W.cell? ⟨gl,n,none⟩=some lv/\W.cell? ⟨gr,n,none⟩=some rv/\gl<w.heap.size/\gr<w.heap.size
theorem EndH.call{n0 n1 n2 n3 n4:Value}(h:EndH w a0 a1 a2 a3 n0 n1 n2 n3 n4 gl gr n lv rv W)(hb:Below W.heap.size W W'):EndH w a0 a1 a2 a3 n0 n1 n2 n3 n4 gl gr n lv rv W':=by
 obtain⟨h1,h2,c0,c1,c2,c3,d0,d1,d2,d3,d4,l,r,lt,rt⟩:=h;have hc:∀b o,b<W.heap.size->W'.cell? ⟨b,o,none⟩=W.cell? ⟨b,o,none⟩:=fun b o hl=>hb.cell (p:=⟨b,o,none⟩) hl
 have hz:=h1.size;exact⟨zaa h1 h1.size hb,zsc h2 hb.size,(hc _ _ (by omega)).trans c0,(hc _ _ (by omega)).trans c1,(hc _ _ (by omega)).trans c2,(hc _ _ (by omega)).trans c3,(hc _ _ (by omega)).trans d0,(hc _ _ (by omega)).trans d1,(hc _ _ (by omega)).trans d2,(hc _ _ (by omega)).trans d3,(hc _ _ (by omega)).trans d4,(hc _ _ (by omega)).trans l,(hc _ _ (by omega)).trans r,lt,rt⟩
theorem zch(lt:gl<w.heap.size)(rt:gr<w.heap.size)
  (h:Below w.heap.size w W/\w.heap.size+1<W.heap.size/\W.cell? ⟨w.heap.size,0,none⟩=some a0/\W.cell? ⟨w.heap.size,1,none⟩=some a1/\W.cell? ⟨w.heap.size,2,none⟩=some a2/\W.cell? ⟨w.heap.size,3,none⟩=some a3/\W.cell? ⟨gl,n,none⟩=some lv/\W.cell? ⟨gr,n,none⟩=some rv) (hb:Below W.heap.size W W'):
  Below w.heap.size w W'/\w.heap.size+1<W'.heap.size/\W'.cell? ⟨w.heap.size,0,none⟩=some a0/\W'.cell? ⟨w.heap.size,1,none⟩=some a1/\W'.cell? ⟨w.heap.size,2,none⟩=some a2/\W'.cell? ⟨w.heap.size,3,none⟩=some a3/\W'.cell? ⟨gl,n,none⟩=some lv/\W'.cell? ⟨gr,n,none⟩=some rv:=by
 obtain⟨h1,h2,c0,c1,c2,c3,l,r⟩:=h;have hc:∀b o,b<W.heap.size->W'.cell? ⟨b,o,none⟩=W.cell? ⟨b,o,none⟩:=fun b o hl=>hb.cell (p:=⟨b,o,none⟩) hl
 have hz:=h1.size;exact⟨zaa h1 h1.size hb,zsc h2 hb.size,(hc _ _ (by omega)).trans c0,(hc _ _ (by omega)).trans c1,(hc _ _ (by omega)).trans c2,(hc _ _ (by omega)).trans c3,(hc _ _ (by omega)).trans l,(hc _ _ (by omega)).trans r⟩
theorem zmw(ns:List zak)(n x:Nat)(hn:n<ns.length)(hk:zap ns n=5)(hT:tOf ns n=.grp (tOf ns x) (ns.getD n .zero).group)(hL:zbn ns n=x)(hX:zbO ns x):zbO ns n:=by
 intro w ao c gl cl gr cr t g cap m S F hbr hS hSm hF ht;rw[hT];obtain⟨ao2,cap2,hv,hml,hc⟩:=hbr.nodes;cases hv;obtain⟨b,o,sv,nd,rfl,Hn,hbl,c0,c1,c2,c3,c4,hsv⟩:=hc.elem (Below.refl _ _) hn;have hk1:nd.kind=5:=by rw[<-hk];unfold zap;rw[Hn.out]
 rw[hk1] at c0;obtain⟨sao,scp,rfl,hsm,hsc⟩:=hsv;have hX':=fun(W:World) (hb:Below w.heap.size w W)=>hX W (some ⟨b,o,none⟩) c gl cl gr cr t g cap m S F (hbr.below hb) (hS.below hb) hSm hF ht
 have l0:=hbr.left n hn;rw[hL] at l0;have r0:=hbr.right n hn;obtain⟨ri,hri⟩:∃ri,zbf ns n=ri:=⟨_,rfl⟩;rw[hri] at r0;have hlt:=hbr.ltl;have hrt:=hbr.ltr;clear hk hT hk1 hc hsc hbr hX hF hri;have hi0:(0:Int)<=(n:Int):=by omega
 have hi1:(n:Int)<(ns.length:Int):=by omega
 have H0:EndH w (.slice (some ⟨b,o,none⟩) ns.length c) (.slice (some ⟨gl,0,none⟩) ns.length cl) (.slice (some ⟨gr,0,none⟩) ns.length cr) (.string t) (.int .i64 5) (.slice sao nd.set.length scp) (.int .i64 nd.min) (.int .i64 nd.max) (.int .i64 nd.group) gl gr n (.int .i64 x) (.int .i64 ri) ((w.alloc (.cells #[.slice (some ⟨b,o,none⟩) ns.length c,.slice (some ⟨gl,0,none⟩) ns.length cl,.slice (some ⟨gr,0,none⟩) ns.length cr,.string t] 46)).alloc (.cells #[.int .i64 5,.slice sao nd.set.length scp,.int .i64 nd.min,.int .i64 nd.max,.int .i64 nd.group] 72)).drew:=by
  have k0:(w.alloc (.cells #[.slice (some ⟨b,o,none⟩) ns.length c,.slice (some ⟨gl,0,none⟩) ns.length cl,.slice (some ⟨gr,0,none⟩) ns.length cr,.string t] 46)).heap[w.heap.size]?=_:=zsp _ _;have k1:((w.alloc (.cells #[.slice (some ⟨b,o,none⟩) ns.length c,.slice (some ⟨gl,0,none⟩) ns.length cl,.slice (some ⟨gr,0,none⟩) ns.length cr,.string t] 46)).alloc (.cells #[.int .i64 5,.slice sao nd.set.length scp,.int .i64 nd.min,.int .i64 nd.max,.int .i64 nd.group] 72)).heap[w.heap.size]?=_:=zah k0;have k2:((w.alloc (.cells #[.slice (some ⟨b,o,none⟩) ns.length c,.slice (some ⟨gl,0,none⟩) ns.length cl,.slice (some ⟨gr,0,none⟩) ns.length cr,.string t] 46)).alloc (.cells #[.int .i64 5,.slice sao nd.set.length scp,.int .i64 nd.min,.int .i64 nd.max,.int .i64 nd.group] 72)).heap[w.heap.size+1]?=some (.cells #[.int .i64 5,.slice sao nd.set.length scp,.int .i64 nd.min,.int .i64 nd.max,.int .i64 nd.group] 72 (0,0)):=by have:=zsp (w.alloc (.cells #[.slice (some ⟨b,o,none⟩) ns.length c,.slice (some ⟨gl,0,none⟩) ns.length cl,.slice (some ⟨gr,0,none⟩) ns.length cr,.string t] 46)) (.cells #[.int .i64 5,.slice sao nd.set.length scp,.int .i64 nd.min,.int .i64 nd.max,.int .i64 nd.group] 72);simpa using this
  obtain⟨p0,p1,p2,p3⟩:=zaC k1;obtain⟨q0,q1,q2,q3,q4⟩:=zbw k2;have hb:Below w.heap.size w ((w.alloc (.cells #[.slice (some ⟨b,o,none⟩) ns.length c,.slice (some ⟨gl,0,none⟩) ns.length cl,.slice (some ⟨gr,0,none⟩) ns.length cr,.string t] 46)).alloc (.cells #[.int .i64 5,.slice sao nd.set.length scp,.int .i64 nd.min,.int .i64 nd.max,.int .i64 nd.group] 72)):=((Below.refl _ _).alloc (zsa _) _).alloc (by simp) _;exact⟨hb.drew,by simp,p0,p1,p2,p3,q0,q1,q2,q3,q4,(hb.cell (p:=⟨gl,n,none⟩) hlt).trans l0,(hb.cell (p:=⟨gr,n,none⟩) hrt).trans r0,hlt,hrt⟩
 have HB0:=H0.1
 go_enter Tryz.func30,Tryz.ntmps30
 go_wp2
 go_region_held3 (fun w'=>Below w.heap.size w w'/\w.heap.size+1<w'.heap.size/\w'.cell? ⟨w.heap.size,0,none⟩=some (.slice (some ⟨b,o,none⟩) ns.length c)/\w'.cell? ⟨w.heap.size,1,none⟩=some (.slice (some ⟨gl,0,none⟩) ns.length cl)/\w'.cell? ⟨w.heap.size,2,none⟩=some (.slice (some ⟨gr,0,none⟩) ns.length cr)/\w'.cell? ⟨w.heap.size,3,none⟩=some (.string t)/\w'.cell? ⟨w.heap.size+1,0,none⟩=some (.int .i64 5)/\w'.cell? ⟨w.heap.size+1,1,none⟩=some (.slice sao nd.set.length scp)/\w'.cell? ⟨w.heap.size+1,2,none⟩=some (.int .i64 nd.min)/\w'.cell? ⟨w.heap.size+1,3,none⟩=some (.int .i64 nd.max)/\w'.cell? ⟨w.heap.size+1,4,none⟩=some (.int .i64 nd.group)/\w'.cell? ⟨gl,n,none⟩=some (.int .i64 x)/\w'.cell? ⟨gr,n,none⟩=some (.int .i64 ri)/\gl<w.heap.size/\gr<w.heap.size) ((first|exact EndH.call (show EndH w (.slice (some ⟨b,o,none⟩) ns.length c) (.slice (some ⟨gl,0,none⟩) ns.length cl) (.slice (some ⟨gr,0,none⟩) ns.length cr) (.string t) (.int .i64 5) (.slice sao nd.set.length scp) (.int .i64 nd.min) (.int .i64 nd.max) (.int .i64 nd.group) gl gr n (.int .i64 x) (.int .i64 ri) _ from by assumption) hb2|go_keep)) ((go_at_call 30;refine(hX' _ (by first|exact H0.1|exact(‹Below w.heap.size w _/\_›).1)).mono ?_;rintro e w2 ⟨g2,c2,S2,rfl,hB2,hl2,hs2,hb2⟩))
 all_goals
  have hfin:=‹Below w.heap.size w _/\_›;go_wp2;refine zsl (v:=.slice (some ⟨g2,0,none⟩) m c2) (by simp[results,Tryz.results30,go_sem]) rfl ⟨g2,c2,S2,rfl,hB2,hl2,hs2,hfin.1⟩
theorem zmx(ns:List zak)(n x mn:Nat)(hn:n<ns.length)(hk:zap ns n=4)(hT:tOf ns n=.rep (tOf ns x) mn (ns.getD n .zero).max)(hL:zbn ns n=x)(hX:zbO ns x)(hm1:(ns.getD n .zero).min=mn)(hm2:mn<=255)(hm3:(ns.getD n .zero).max=-1\/((mn:Int)<=(ns.getD n .zero).max/\(ns.getD n .zero).max<=255)):zbO ns n:=by
 intro w ao c gl cl gr cr t g cap m S F hbr hS hSm hF ht;rw[hT];obtain⟨ao2,cap2,hv,hml,hc⟩:=hbr.nodes;cases hv;obtain⟨b,o,sv,nd,rfl,Hn,hbl,c0,c1,c2,c3,c4,hsv⟩:=hc.elem (Below.refl _ _) hn;have hk1:nd.kind=4:=by rw[<-hk];unfold zap;rw[Hn.out]
 rw[hk1] at c0;obtain⟨sao,scp,rfl,hsm,hsc⟩:=hsv;rw[Hn.out] at hm1 hm3 ⊢;rw[hm1] at c2;have hX':=fun(W:World) (hb:Below w.heap.size w W)=>zhU ns x hX W (some ⟨b,o,none⟩) c gl cl gr cr t g cap m S F mn nd.max (hbr.below hb) (hS.below hb) hSm hF ht hm2 hm3
 have l0:=hbr.left n hn;rw[hL] at l0;have r0:=hbr.right n hn;obtain⟨ri,hri⟩:∃ri,zbf ns n=ri:=⟨_,rfl⟩;rw[hri] at r0;have hlt:=hbr.ltl;have hrt:=hbr.ltr;clear hk hT hk1 hc hsc hbr hX hF hri hm1 hm2 hm3;have hi0:(0:Int)<=(n:Int):=by omega
 have hi1:(n:Int)<(ns.length:Int):=by omega
 have H0:EndH w (.slice (some ⟨b,o,none⟩) ns.length c) (.slice (some ⟨gl,0,none⟩) ns.length cl) (.slice (some ⟨gr,0,none⟩) ns.length cr) (.string t) (.int .i64 4) (.slice sao nd.set.length scp) (.int .i64 (mn:Nat)) (.int .i64 nd.max) (.int .i64 nd.group) gl gr n (.int .i64 x) (.int .i64 ri) ((w.alloc (.cells #[.slice (some ⟨b,o,none⟩) ns.length c,.slice (some ⟨gl,0,none⟩) ns.length cl,.slice (some ⟨gr,0,none⟩) ns.length cr,.string t] 46)).alloc (.cells #[.int .i64 4,.slice sao nd.set.length scp,.int .i64 (mn:Nat),.int .i64 nd.max,.int .i64 nd.group] 72)).drew:=by
  have k0:(w.alloc (.cells #[.slice (some ⟨b,o,none⟩) ns.length c,.slice (some ⟨gl,0,none⟩) ns.length cl,.slice (some ⟨gr,0,none⟩) ns.length cr,.string t] 46)).heap[w.heap.size]?=_:=zsp _ _;have k1:((w.alloc (.cells #[.slice (some ⟨b,o,none⟩) ns.length c,.slice (some ⟨gl,0,none⟩) ns.length cl,.slice (some ⟨gr,0,none⟩) ns.length cr,.string t] 46)).alloc (.cells #[.int .i64 4,.slice sao nd.set.length scp,.int .i64 (mn:Nat),.int .i64 nd.max,.int .i64 nd.group] 72)).heap[w.heap.size]?=_:=zah k0;have k2:((w.alloc (.cells #[.slice (some ⟨b,o,none⟩) ns.length c,.slice (some ⟨gl,0,none⟩) ns.length cl,.slice (some ⟨gr,0,none⟩) ns.length cr,.string t] 46)).alloc (.cells #[.int .i64 4,.slice sao nd.set.length scp,.int .i64 (mn:Nat),.int .i64 nd.max,.int .i64 nd.group] 72)).heap[w.heap.size+1]?=some (.cells #[.int .i64 4,.slice sao nd.set.length scp,.int .i64 (mn:Nat),.int .i64 nd.max,.int .i64 nd.group] 72 (0,0)):=by have:=zsp (w.alloc (.cells #[.slice (some ⟨b,o,none⟩) ns.length c,.slice (some ⟨gl,0,none⟩) ns.length cl,.slice (some ⟨gr,0,none⟩) ns.length cr,.string t] 46)) (.cells #[.int .i64 4,.slice sao nd.set.length scp,.int .i64 (mn:Nat),.int .i64 nd.max,.int .i64 nd.group] 72);simpa using this
  obtain⟨p0,p1,p2,p3⟩:=zaC k1;obtain⟨q0,q1,q2,q3,q4⟩:=zbw k2;have hb:Below w.heap.size w ((w.alloc (.cells #[.slice (some ⟨b,o,none⟩) ns.length c,.slice (some ⟨gl,0,none⟩) ns.length cl,.slice (some ⟨gr,0,none⟩) ns.length cr,.string t] 46)).alloc (.cells #[.int .i64 4,.slice sao nd.set.length scp,.int .i64 (mn:Nat),.int .i64 nd.max,.int .i64 nd.group] 72)):=((Below.refl _ _).alloc (zsa _) _).alloc (by simp) _;exact⟨hb.drew,by simp,p0,p1,p2,p3,q0,q1,q2,q3,q4,(hb.cell (p:=⟨gl,n,none⟩) hlt).trans l0,(hb.cell (p:=⟨gr,n,none⟩) hrt).trans r0,hlt,hrt⟩
 have HB0:=H0.1
 go_enter Tryz.func30,Tryz.ntmps30
 go_wp2
 go_region_held3 (fun w'=>Below w.heap.size w w'/\w.heap.size+1<w'.heap.size/\w'.cell? ⟨w.heap.size,0,none⟩=some (.slice (some ⟨b,o,none⟩) ns.length c)/\w'.cell? ⟨w.heap.size,1,none⟩=some (.slice (some ⟨gl,0,none⟩) ns.length cl)/\w'.cell? ⟨w.heap.size,2,none⟩=some (.slice (some ⟨gr,0,none⟩) ns.length cr)/\w'.cell? ⟨w.heap.size,3,none⟩=some (.string t)/\w'.cell? ⟨w.heap.size+1,0,none⟩=some (.int .i64 4)/\w'.cell? ⟨w.heap.size+1,1,none⟩=some (.slice sao nd.set.length scp)/\w'.cell? ⟨w.heap.size+1,2,none⟩=some (.int .i64 (mn:Nat))/\w'.cell? ⟨w.heap.size+1,3,none⟩=some (.int .i64 nd.max)/\w'.cell? ⟨w.heap.size+1,4,none⟩=some (.int .i64 nd.group)/\w'.cell? ⟨gl,n,none⟩=some (.int .i64 x)/\w'.cell? ⟨gr,n,none⟩=some (.int .i64 ri)/\gl<w.heap.size/\gr<w.heap.size) ((first|exact EndH.call (show EndH w (.slice (some ⟨b,o,none⟩) ns.length c) (.slice (some ⟨gl,0,none⟩) ns.length cl) (.slice (some ⟨gr,0,none⟩) ns.length cr) (.string t) (.int .i64 4) (.slice sao nd.set.length scp) (.int .i64 (mn:Nat)) (.int .i64 nd.max) (.int .i64 nd.group) gl gr n (.int .i64 x) (.int .i64 ri) _ from by assumption) hb2|go_keep)) ((go_at_call 54;refine(hX' _ (by first|exact HB0|exact(‹Below w.heap.size w _/\_›).1)).mono ?_;rintro e w2 ⟨g2,c2,S2,rfl,hB2,hl2,hs2,hb2⟩))
 all_goals
  have hfin:=‹Below w.heap.size w _/\_›;go_wp2;refine zsl (v:=.slice (some ⟨g2,0,none⟩) m c2) (by simp[results,Tryz.results30,go_sem]) rfl ⟨g2,c2,S2,rfl,hB2,hl2,hs2,hfin.1⟩
theorem zmy(ns:List zak)(n x y:Nat)(hn:n<ns.length)(hk:zap ns n=2)(hT:tOf ns n=.seq (tOf ns x) (tOf ns y))(hL:zbn ns n=x)(hR:zbf ns n=y)(hX:zbO ns x)(hY:zbO ns y):zbO ns n:=by
 intro w ao c gl cl gr cr t g cap m S F hbr hS hSm hF ht;rw[hT];obtain⟨ao2,cap2,hv,hml,hc⟩:=hbr.nodes;cases hv;obtain⟨b,o,sv,nd,rfl,Hn,hbl,c0,c1,c2,c3,c4,hsv⟩:=hc.elem (Below.refl _ _) hn;have hk1:nd.kind=2:=by rw[<-hk];unfold zap;rw[Hn.out]
 rw[hk1] at c0;obtain⟨sao,scp,rfl,hsm,hsc⟩:=hsv;have hX':=fun(W:World) (hb:Below w.heap.size w W)=>hX W (some ⟨b,o,none⟩) c gl cl gr cr t g cap m S F (hbr.below hb) (hS.below hb) hSm hF ht
 have hY':=fun(W:World) (hb:Below w.heap.size w W) (g cap:Nat) (C:List Bool) (P:Nat->Prop) (h1:zbe W g C) (h2:C.length=m) (h3:zcn t.size C P)=>hY W (some ⟨b,o,none⟩) c gl cl gr cr t g cap m C P (hbr.below hb) h1 h2 h3 ht
 have l0:=hbr.left n hn;rw[hL] at l0;have r0:=hbr.right n hn;rw[hR] at r0;have hlt:=hbr.ltl;have hrt:=hbr.ltr;clear hk hT hk1 hc hsc hbr hX hY hF;have hi0:(0:Int)<=(n:Int):=by omega
 have hi1:(n:Int)<(ns.length:Int):=by omega
 have H0:EndH w (.slice (some ⟨b,o,none⟩) ns.length c) (.slice (some ⟨gl,0,none⟩) ns.length cl) (.slice (some ⟨gr,0,none⟩) ns.length cr) (.string t) (.int .i64 2) (.slice sao nd.set.length scp) (.int .i64 nd.min) (.int .i64 nd.max) (.int .i64 nd.group) gl gr n (.int .i64 x) (.int .i64 y) ((w.alloc (.cells #[.slice (some ⟨b,o,none⟩) ns.length c,.slice (some ⟨gl,0,none⟩) ns.length cl,.slice (some ⟨gr,0,none⟩) ns.length cr,.string t] 46)).alloc (.cells #[.int .i64 2,.slice sao nd.set.length scp,.int .i64 nd.min,.int .i64 nd.max,.int .i64 nd.group] 72)).drew:=by
  have k0:(w.alloc (.cells #[.slice (some ⟨b,o,none⟩) ns.length c,.slice (some ⟨gl,0,none⟩) ns.length cl,.slice (some ⟨gr,0,none⟩) ns.length cr,.string t] 46)).heap[w.heap.size]?=_:=zsp _ _;have k1:((w.alloc (.cells #[.slice (some ⟨b,o,none⟩) ns.length c,.slice (some ⟨gl,0,none⟩) ns.length cl,.slice (some ⟨gr,0,none⟩) ns.length cr,.string t] 46)).alloc (.cells #[.int .i64 2,.slice sao nd.set.length scp,.int .i64 nd.min,.int .i64 nd.max,.int .i64 nd.group] 72)).heap[w.heap.size]?=_:=zah k0;have k2:((w.alloc (.cells #[.slice (some ⟨b,o,none⟩) ns.length c,.slice (some ⟨gl,0,none⟩) ns.length cl,.slice (some ⟨gr,0,none⟩) ns.length cr,.string t] 46)).alloc (.cells #[.int .i64 2,.slice sao nd.set.length scp,.int .i64 nd.min,.int .i64 nd.max,.int .i64 nd.group] 72)).heap[w.heap.size+1]?=some (.cells #[.int .i64 2,.slice sao nd.set.length scp,.int .i64 nd.min,.int .i64 nd.max,.int .i64 nd.group] 72 (0,0)):=by have:=zsp (w.alloc (.cells #[.slice (some ⟨b,o,none⟩) ns.length c,.slice (some ⟨gl,0,none⟩) ns.length cl,.slice (some ⟨gr,0,none⟩) ns.length cr,.string t] 46)) (.cells #[.int .i64 2,.slice sao nd.set.length scp,.int .i64 nd.min,.int .i64 nd.max,.int .i64 nd.group] 72);simpa using this
  obtain⟨p0,p1,p2,p3⟩:=zaC k1;obtain⟨q0,q1,q2,q3,q4⟩:=zbw k2;have hb:Below w.heap.size w ((w.alloc (.cells #[.slice (some ⟨b,o,none⟩) ns.length c,.slice (some ⟨gl,0,none⟩) ns.length cl,.slice (some ⟨gr,0,none⟩) ns.length cr,.string t] 46)).alloc (.cells #[.int .i64 2,.slice sao nd.set.length scp,.int .i64 nd.min,.int .i64 nd.max,.int .i64 nd.group] 72)):=((Below.refl _ _).alloc (zsa _) _).alloc (by simp) _;exact⟨hb.drew,by simp,p0,p1,p2,p3,q0,q1,q2,q3,q4,(hb.cell (p:=⟨gl,n,none⟩) hlt).trans l0,(hb.cell (p:=⟨gr,n,none⟩) hrt).trans r0,hlt,hrt⟩
 have HB0:=H0.1
 go_enter Tryz.func30,Tryz.ntmps30
 go_wp2
 go_region_held3 (fun w'=>Below w.heap.size w w'/\w.heap.size+1<w'.heap.size/\w'.cell? ⟨w.heap.size,0,none⟩=some (.slice (some ⟨b,o,none⟩) ns.length c)/\w'.cell? ⟨w.heap.size,1,none⟩=some (.slice (some ⟨gl,0,none⟩) ns.length cl)/\w'.cell? ⟨w.heap.size,2,none⟩=some (.slice (some ⟨gr,0,none⟩) ns.length cr)/\w'.cell? ⟨w.heap.size,3,none⟩=some (.string t)/\w'.cell? ⟨gl,n,none⟩=some (.int .i64 x)/\w'.cell? ⟨gr,n,none⟩=some (.int .i64 y)) ((first|exact zch hlt hrt (by assumption) hb2|exact zch hlt hrt (by assumption) hb3|go_keep)) ((first|(have hgo:=hB2;go_at_call 30;refine(hY' _ (by first|exact HB0|exact(‹Below w.heap.size w _/\_›).1) g2 c2 S2 _ hgo hl2 hs2).mono ?_;rintro e w3 ⟨g3,c3,S3,rfl,hB3,hl3,hs3,hb3⟩)|(go_at_call 30;refine(hX' _ (by first|exact HB0|exact(‹Below w.heap.size w _/\_›).1)).mono ?_;rintro e w2 ⟨g2,c2,S2,rfl,hB2,hl2,hs2,hb2⟩)))
 all_goals
  have hfin:=‹Below w.heap.size w _/\_›;go_wp2;refine zsl (v:=.slice (some ⟨g3,0,none⟩) m c3) (by simp[results,Tryz.results30,go_sem]) rfl ⟨g3,c3,S3,rfl,hB3,hl3,hs3.congr fun j=>(ze8 j).symm,hfin.1⟩
theorem zmv(ns:List zak)(n x y:Nat)(hn:n<ns.length)(hk:zap ns n=3)(hT:tOf ns n=.alt (tOf ns x) (tOf ns y))(hL:zbn ns n=x)(hR:zbf ns n=y)(hX:zbO ns x)(hY:zbO ns y):zbO ns n:=by
 intro w ao c gl cl gr cr t g cap m S F hbr hS hSm hF ht;rw[hT];obtain⟨ao2,cap2,hv,hml,hc⟩:=hbr.nodes;cases hv;obtain⟨b,o,sv,nd,rfl,Hn,hbl,c0,c1,c2,c3,c4,hsv⟩:=hc.elem (Below.refl _ _) hn;have hk1:nd.kind=3:=by rw[<-hk];unfold zap;rw[Hn.out]
 rw[hk1] at c0;obtain⟨sao,scp,rfl,hsm,hsc⟩:=hsv;have hX':=fun(z:Nat) (W:World) (hb:Below w.heap.size w W) (hz:z=x)=>(hz ▸ hX:zbO ns z) W (some ⟨b,o,none⟩) c gl cl gr cr t g cap m S F (hbr.below hb) (hS.below hb) hSm hF ht
 have hY':=fun(z:Nat) (W:World) (hb:Below w.heap.size w W) (hz:z=y)=>(hz ▸ hY:zbO ns z) W (some ⟨b,o,none⟩) c gl cl gr cr t g cap m S F (hbr.below hb) (hS.below hb) hSm hF ht
 have hm5:m<=1048576:=by have:=hF.len;omega
 have l0:=hbr.left n hn;rw[hL] at l0;have r0:=hbr.right n hn;rw[hR] at r0;have hlt:=hbr.ltl;have hrt:=hbr.ltr;clear hk hT hk1 hc hsc hbr hX hY hF;have hi0:(0:Int)<=(n:Int):=by omega
 have hi1:(n:Int)<(ns.length:Int):=by omega
 have H0:EndH w (.slice (some ⟨b,o,none⟩) ns.length c) (.slice (some ⟨gl,0,none⟩) ns.length cl) (.slice (some ⟨gr,0,none⟩) ns.length cr) (.string t) (.int .i64 3) (.slice sao nd.set.length scp) (.int .i64 nd.min) (.int .i64 nd.max) (.int .i64 nd.group) gl gr n (.int .i64 x) (.int .i64 y) ((w.alloc (.cells #[.slice (some ⟨b,o,none⟩) ns.length c,.slice (some ⟨gl,0,none⟩) ns.length cl,.slice (some ⟨gr,0,none⟩) ns.length cr,.string t] 46)).alloc (.cells #[.int .i64 3,.slice sao nd.set.length scp,.int .i64 nd.min,.int .i64 nd.max,.int .i64 nd.group] 72)).drew:=by
  have k0:(w.alloc (.cells #[.slice (some ⟨b,o,none⟩) ns.length c,.slice (some ⟨gl,0,none⟩) ns.length cl,.slice (some ⟨gr,0,none⟩) ns.length cr,.string t] 46)).heap[w.heap.size]?=_:=zsp _ _;have k1:((w.alloc (.cells #[.slice (some ⟨b,o,none⟩) ns.length c,.slice (some ⟨gl,0,none⟩) ns.length cl,.slice (some ⟨gr,0,none⟩) ns.length cr,.string t] 46)).alloc (.cells #[.int .i64 3,.slice sao nd.set.length scp,.int .i64 nd.min,.int .i64 nd.max,.int .i64 nd.group] 72)).heap[w.heap.size]?=_:=zah k0;have k2:((w.alloc (.cells #[.slice (some ⟨b,o,none⟩) ns.length c,.slice (some ⟨gl,0,none⟩) ns.length cl,.slice (some ⟨gr,0,none⟩) ns.length cr,.string t] 46)).alloc (.cells #[.int .i64 3,.slice sao nd.set.length scp,.int .i64 nd.min,.int .i64 nd.max,.int .i64 nd.group] 72)).heap[w.heap.size+1]?=some (.cells #[.int .i64 3,.slice sao nd.set.length scp,.int .i64 nd.min,.int .i64 nd.max,.int .i64 nd.group] 72 (0,0)):=by have:=zsp (w.alloc (.cells #[.slice (some ⟨b,o,none⟩) ns.length c,.slice (some ⟨gl,0,none⟩) ns.length cl,.slice (some ⟨gr,0,none⟩) ns.length cr,.string t] 46)) (.cells #[.int .i64 3,.slice sao nd.set.length scp,.int .i64 nd.min,.int .i64 nd.max,.int .i64 nd.group] 72);simpa using this
  obtain⟨p0,p1,p2,p3⟩:=zaC k1;obtain⟨q0,q1,q2,q3,q4⟩:=zbw k2;have hb:Below w.heap.size w ((w.alloc (.cells #[.slice (some ⟨b,o,none⟩) ns.length c,.slice (some ⟨gl,0,none⟩) ns.length cl,.slice (some ⟨gr,0,none⟩) ns.length cr,.string t] 46)).alloc (.cells #[.int .i64 3,.slice sao nd.set.length scp,.int .i64 nd.min,.int .i64 nd.max,.int .i64 nd.group] 72)):=((Below.refl _ _).alloc (zsa _) _).alloc (by simp) _;exact⟨hb.drew,by simp,p0,p1,p2,p3,q0,q1,q2,q3,q4,(hb.cell (p:=⟨gl,n,none⟩) hlt).trans l0,(hb.cell (p:=⟨gr,n,none⟩) hrt).trans r0,hlt,hrt⟩
 have HB0:=H0.1
 go_enter Tryz.func30,Tryz.ntmps30
 go_wp2
 go_region_held3 (fun w'=>Below w.heap.size w w'/\w.heap.size+1<w'.heap.size/\w'.cell? ⟨w.heap.size,0,none⟩=some (.slice (some ⟨b,o,none⟩) ns.length c)/\w'.cell? ⟨w.heap.size,1,none⟩=some (.slice (some ⟨gl,0,none⟩) ns.length cl)/\w'.cell? ⟨w.heap.size,2,none⟩=some (.slice (some ⟨gr,0,none⟩) ns.length cr)/\w'.cell? ⟨w.heap.size,3,none⟩=some (.string t)/\w'.cell? ⟨gl,n,none⟩=some (.int .i64 x)/\w'.cell? ⟨gr,n,none⟩=some (.int .i64 y)) ((first|exact zch hlt hrt (by assumption) hb2|exact zch hlt hrt (by assumption) hb3|exact zch hlt hrt (by assumption) hb4|go_keep)) ((first|(go_at_call 53;refine(zqQ m S2 S3 g2 g3 c2 c3 _ (by first|exact hB2.below hb3|exact hB2) (by first|exact hB3|exact hB3.below hb2) hl2 hl3 hm5).mono ?_;rintro e w4 ⟨rfl,hO,hb4⟩)|(go_at_call 30;refine(hX' _ _ (by first|exact HB0|exact(‹Below w.heap.size w _/\_›).1) ?hz).mono ?_;(case hz=>exact rfl);rintro e w2 ⟨g2,c2,S2,rfl,hB2,hl2,hs2,hb2⟩)|(go_at_call 30;refine(hY' _ _ (by first|exact HB0|exact(‹Below w.heap.size w _/\_›).1) ?hz).mono ?_;(case hz=>exact rfl);rintro e w3 ⟨g3,c3,S3,rfl,hB3,hl3,hs3,hb3⟩)))
 all_goals
  have hfin:=‹Below w.heap.size w _/\_›;go_wp2;refine zsl (v:=.slice (some ⟨_,0,none⟩) m m) (by simp[results,Tryz.results30,go_sem]) rfl ⟨_,m,orL S2 S3,rfl,hO,by rw[zeD];exact hl2,(zks hs2 hs3).congr fun j=>(zoo j).symm,hfin.1⟩
theorem zfo(ns:List zak)(ha:∀i,i<ns.length->zaA (zap ns i)<=(stk ns i).length)(hb:ns.all zav=true):∀n,n<ns.length->zbO ns n:=by
 intro n
 induction n using Nat.strongRecOn with
 |ind n ih=>
  intro hn;have hnode:zav (ns.getD n .zero)=true:=zrj.1 hb (ns.getD n .zero) (by
   rw[zrw,zrD hn];exact zrJ _)
  have har:=ha n hn;have hkd:zap ns n=(ns.getD n .zero).kind:=rfl
  by_cases h1:zap ns n=1
  ·refine zmz ns n hn h1 ?_;unfold tOf zbq;rw[zst (by rw[<-hkd];exact h1)]
  by_cases h2:zap ns n=2
  ·obtain⟨x,y,hL,hR,hx,hy,hT⟩:=zcL (ns:=ns) (k:=n) (by rw[h2];rfl) (by rw[h2] at har;exact har);refine zmy ns n x y hn h2 ?_ hL hR (ih x hx (by omega)) (ih y hy (by omega));rw[hT];unfold zbq;rw[zss (by rw[<-hkd];exact h1),zst (by rw[<-hkd];exact h2)]
   rfl
  by_cases h3:zap ns n=3
  ·obtain⟨x,y,hL,hR,hx,hy,hT⟩:=zcL (ns:=ns) (k:=n) (by rw[h3];rfl) (by rw[h3] at har;exact har);refine zmv ns n x y hn h3 ?_ hL hR (ih x hx (by omega)) (ih y hy (by omega));rw[hT];unfold zbq;rw[zss (by rw[<-hkd];exact h1),zss (by rw[<-hkd];exact h2),zst (by rw[<-hkd];exact h3)]
   rfl
  by_cases h4:zap ns n=4
  ·obtain⟨x,hL,hx,hT⟩:=zcK (ns:=ns) (k:=n) (by rw[h4];rfl) (by rw[h4] at har;exact har);have hbd:zaD (ns.getD n .zero).min (ns.getD n .zero).max=true:=by
    unfold zav at hnode;rw[zss (by rw[<-hkd];exact h1),zss (by rw[<-hkd];exact fun h=>h.elim h2 h3),zst (by rw[<-hkd];exact h4)] at hnode;simp only[zrf] at hnode;exact hnode.1.2
   simp[zaD] at hbd;refine zmx ns n x (ns.getD n .zero).min.toNat hn h4 ?_ hL (ih x hx (by omega)) (by simp only[zrw];omega) (by simp only[zrw];omega) (by simp only[zrw];omega);rw[hT];unfold zbq;rw[zss (by rw[<-hkd];exact h1),zss (by rw[<-hkd];exact h2),zss (by rw[<-hkd];exact h3),zst (by rw[<-hkd];exact h4)];have:(((ns.getD n .zero).min.toNat:Nat):Int)=(ns.getD n .zero).min:=by simp only[zrw];omega
   rw[this]
   rfl
  have h5:zap ns n=5:=by
   by_cases h5:zap ns n=5
   ·exact h5
   ·exfalso
    unfold zav at hnode;rw[zss (by rw[<-hkd];exact h1),zss (by rw[<-hkd];exact fun h=>h.elim h2 h3),zss (by rw[<-hkd];exact h4),zss (by rw[<-hkd];exact h5)] at hnode;cases hnode
  obtain⟨x,hL,hx,hT⟩:=zcK (ns:=ns) (k:=n) (by rw[h5];rfl) (by rw[h5] at har;exact har);refine zmw ns n x hn h5 ?_ hL (ih x hx (by omega));rw[hT];unfold zbq;rw[zss (by rw[<-hkd];exact h1),zss (by rw[<-hkd];exact h2),zss (by rw[<-hkd];exact h3),zss (by rw[<-hkd];exact h4)]
  rfl
end
variable {B gl cl gr cr g k:Nat}{w0 wr:World}{ns:List zak}
structure WInv(B:Nat)(w0 wr:World)(ns:List zak)(gl cl gr cr g k:Nat):Prop where
 below:Below B w0 wr
 left:wr.ownsRow B 3 1 (.slice (some ⟨gl,0,none⟩) ns.length cl) ns.length (rowL ns ns.length)
 right:wr.ownsRow B 3 1 (.slice (some ⟨gr,0,none⟩) ns.length cr) ns.length (rowR ns ns.length)
 wrow:∃xs,wr.ownsRow B 3 1 (.slice (some ⟨g,0,none⟩) ns.length ns.length) ns.length xs/\∀j,j<k->xs[j]?=some (.int .i64 (wOf ns j))
 lne:gl≠g
 rne:gr≠g
 base:B<=wr.heap.size
theorem WInv.same{w1:World}(h:WInv B w0 wr ns gl cl gr cr g k)(hb:Below wr.heap.size wr w1):WInv B w0 w1 ns gl cl gr cr g k:=
 ⟨zaa h.below h.base hb,zab h.left hb,zab h.right hb,by obtain⟨xs,h1,h2⟩:=h.wrow;exact⟨xs,zab h1 hb,h2⟩,h.lne,h.rne,zsb h.base hb.size⟩
theorem WInv.alloc(h:WInv B w0 wr ns gl cl gr cr g k)(o:Obj):WInv B w0 (wr.alloc o) ns gl cl gr cr g k:=h.same ((Below.refl _ _).alloc (zsa _) _)
theorem WInv.drew(h:WInv B w0 wr ns gl cl gr cr g k):WInv B w0 wr.drew ns gl cl gr cr g k:=h.same (Below.refl _ _).drew
theorem WInv.store(h:WInv B w0 wr ns gl cl gr cr g k)(u:Value):WInv B w0 (wr.setCell ⟨g,k,none⟩ u) ns gl cl gr cr g k:=by
 obtain⟨xs,h1,h2⟩:=h.wrow;obtain⟨s1,s2⟩:=h1.stored k u;refine⟨h.below.setCell (zbb h1).1 _,zdt h.left s2 h.lne,zdt h.right s2 h.rne,⟨_,s1,fun j hj=>?_⟩,h.lne,h.rne,by simpa [World.setCell] using h.base⟩;rw[List.getElem?_set_ne (by omega)];exact h2 j hj
theorem WInv.put(h:WInv B w0 wr ns gl cl gr cr g k)(hk:k<ns.length){u:Int}(hu:u=wOf ns k):WInv B w0 (wr.setCell ⟨g,k,none⟩ (.int .i64 u)) ns gl cl gr cr g (k+1):=by
 subst hu;obtain⟨xs,h1,h2⟩:=h.wrow;obtain⟨s1,s2⟩:=h1.stored k (.int .i64 (wOf ns k));refine⟨h.below.setCell (zbb h1).1 _,zdt h.left s2 h.lne,zdt h.right s2 h.rne,⟨_,s1,fun j hj=>?_⟩,h.lne,h.rne,by simpa [World.setCell] using h.base⟩
 by_cases e:j=k
 ·subst e;rw[List.getElem?_set_self (by have:=h1.1;omega)]
 ·rw[List.getElem?_set_ne (by omega)];exact h2 j (by omega)
theorem WInv.cellW(h:WInv B w0 wr ns gl cl gr cr g k){j:Nat}(hj:j<k)(hn:j<ns.length):wr.cell? ⟨g,j,none⟩=some (.int .i64 (wOf ns j)):=by
 obtain⟨xs,h1,h2⟩:=h.wrow;rw[h1.cellAt j (by omega)];exact h2 j hj
theorem WInv.cellK(h:WInv B w0 wr ns gl cl gr cr g k)(hn:k<ns.length):(∃u,wr.cell? ⟨g,k,none⟩=some u)/\wr.frozen? ⟨g,k,none⟩=false:=by
 obtain⟨xs,h1,h2⟩:=h.wrow;exact⟨zbk h1 (by omega),h1.frozenAt k⟩
theorem WInv.cellL(h:WInv B w0 wr ns gl cl gr cr g k)(hn:k<ns.length):wr.cell? ⟨gl,k,none⟩=some (.int .i64 (zbn ns k)):=by
 rw[h.left.cellAt k (by omega)];simp[rowL,hn]
theorem WInv.cellR(h:WInv B w0 wr ns gl cl gr cr g k)(hn:k<ns.length):wr.cell? ⟨gr,k,none⟩=some (.int .i64 (zbf ns k)):=by
 rw[h.right.cellAt k (by omega)];simp[rowR,hn]
theorem WInv.lt(h:WInv B w0 wr ns gl cl gr cr g k):gl<wr.heap.size/\gr<wr.heap.size/\g<wr.heap.size:=by
 obtain⟨xs,h1,h2⟩:=h.wrow;exact⟨zb0 h.left,zb0 h.right,zb0 h1⟩
theorem zkx(ha:zaA (zap ns k)=2)(hl:2<=(stk ns k).length):∃x y:Nat,zbn ns k=x/\zbf ns k=y/\x<k/\y<k/\(wstk ns k).drop ((wstk ns k).length-2)=[wOf ns x,wOf ns y]:=by
 have hm:∀j,j<(stk ns k).length->(stk ns k).getD j 0<k:=fun j hj=>ziG ns k _ (by
  rw[zrw,zrD hj];exact zrJ _)
 refine⟨(stk ns k).getD ((stk ns k).length-2) 0,(stk ns k).getD ((stk ns k).length-1) 0,?_,?_,hm _ (by omega),hm _ (by omega),?_⟩
 ·rw[zbn,ha,zss (by omega)]
 ·rw[zbf,zst ha]
 ·have hw:=zed ns k;have e1:=zfe ns k ((stk ns k).length-2) (by omega);have e2:=zfe ns k ((stk ns k).length-1) (by omega);rw[<-e1,<-e2];apply zrt;intro i;rw[zrC]
  match i with
  |0=>rw[hw,zr9,zrD (by omega)];simp[List.getD_eq_getElem?_getD,List.getElem?_eq_getElem (show (stk ns k).length-2<(wstk ns k).length by omega)]
  |1=>rw[hw,show (stk ns k).length-2+1=(stk ns k).length-1 by omega,zrD (by omega)];simp[List.getD_eq_getElem?_getD,List.getElem?_eq_getElem (show (stk ns k).length-1<(wstk ns k).length by omega)]
  |i+2=>rw[zrE (by omega)];simp
theorem zkw(ha:zaA (zap ns k)=1)(hl:1<=(stk ns k).length):∃x:Nat,zbn ns k=x/\x<k/\((wstk ns k).drop ((wstk ns k).length-1)).getD 0 0=wOf ns x:=by
 have hm:∀j,j<(stk ns k).length->(stk ns k).getD j 0<k:=fun j hj=>ziG ns k _ (by
  rw[zrw,zrD hj];exact zrJ _)
 refine⟨(stk ns k).getD ((stk ns k).length-1) 0,?_,hm _ (by omega),?_⟩
 ·rw[zbn,ha,zss (by omega)]
 ·rw[ze7,zed];exact zfe ns k ((stk ns k).length-1) (by omega)
end Go.Proofs.YthdljcdbfmhleaaGreatDoor
