import Derived.Test.YtdimhpfiieepiaaGreatDoorC12
import Derived.Deep.QuietTactic
import Derived.Deep.RegionHeld3
import Derived.Deep.DrawnRows
import Derived.RangeFuncNested
import Derived.RangeFuncBound
import Derived.RangeFuncCalls
import Derived.RangeFuncLeaves
import Derived.Shelf.Abstract
import Derived.Shelf.RegionOpen
import Derived.WalkKit
import Derived.OwnWalkIn
import Derived.TacticsInMore
import Derived.LoopNIn
import Derived.LoopIn
namespace Go.Proofs.YtdimhpfiieepiaaGreatDoor
open Proofs.Tryz
open Option renaming some->za,none->zb
open Go renaming World->zc,Value->zd,Calls->zg
open Value renaming slice->ze,int->zf
set_option maxHeartbeats 4000000
set_option maxRecDepth 100000
open Go.RowKit
theorem zgO:∀(l:List Int),l.Nodup->∀x,l.count x<=1
 |[],_,x=>by simp
 |a::l,h,x=>by
  obtain⟨h1,h2⟩:=List.nodup_cons.1 h;have ih:=zgO l h2 x;rw[List.count_cons]
  by_cases e:a=x
  ·subst e;rw[List.count_eq_zero_of_not_mem h1];simp
  ·have:(a==x)=false:=eB.2 e;rw[this];simp;exact ih
theorem zgr:∀(l:List Int),(∀x,x∈l->l.count x<=1)->l.Nodup
 |[],_=>List.nodup_nil
 |a::l,h=>by
  refine List.nodup_cons.2 ⟨λhm=>?_,zgr l λx hx=>?_⟩
  ·have h1:=h a (B7 ..);rw[List.count_cons_self]at h1;have:=List.count_pos_iff.2 hm;omega
  ·have h1:=h x (yC _ hx);have:=List.count_le_count_cons (a:=x) (b:=a) (l:=l);omega
theorem Xf(G:Int):∀(gs done:List Int),pD G done gs=true↔(∀x,x∈gs->1<=x/\x<=G)/\(∀x,x∈gs->x∉done)/\gs.Nodup/\((done.length:Int)+gs.length=G)
 |[],done=>by simp[pD]
 |g::gs,done=>by
  unfold pD
  by_cases hc:g<1\/G<g\/g∈done
  ·rw[aC hc];constructor
   ·intro h;cases h
   ·rintro ⟨h1,h2,_,_⟩;have a1:=h1 g (B7 ..);have a2:=h2 g (B7 ..);rcases hc with h|h|h
    ·omega
    ·omega
    ·exact absurd h a2
  ·rw[ak hc,Xf G gs (g::done)];constructor
   ·rintro ⟨h1,h2,h3,h4⟩;refine⟨λx hx=>?_,λx hx=>?_,?_,?_⟩
    ·rcases pI.1 hx with rfl|hx
     ·omega
     ·exact h1 x hx
    ·rcases pI.1 hx with rfl|hx
     ·exact λh=>hc (.inr (.inr h))
     ·exact λh=>h2 x hx (yC _ h)
    ·exact List.nodup_cons.2 ⟨λhm=>h2 g hm (B7 ..),h3⟩
    ·simp at h4 ⊢;omega
   ·rintro ⟨h1,h2,h3,h4⟩;obtain⟨h5,h6⟩:=List.nodup_cons.1 h3;refine⟨λx hx=>h1 x (yC _ hx),λx hx hm=>?_,h6,?_⟩
    ·rcases pI.1 hm with rfl|hm
     ·exact h5 hx
     ·exact h2 x (yC _ hx) hm
    ·simp at h4 ⊢;omega
def AU(gs:List Int):Nat->Nat
 |0=>0
 |n+1=>AU gs n+gs.count ((n:Int)+1)
def qP(n:Nat)(x:Int):Bool:=decide (1<=x/\x<=n)
theorem zgv(n:Nat):∀gs:List Int,(gs.filter (qP (n+1))).length=(gs.filter (qP n)).length+gs.count ((n:Int)+1)
 |[]=>rfl
 |g::gs=>by
  have ih:=zgv n gs;rw[List.filter_cons,List.filter_cons,List.count_cons]
  by_cases e:g=(n:Int)+1
  ·have h1:qP (n+1) g=true:=by simp[qP];omega
   have h2:qP n g=false:=by simp[qP];omega
   have h3:(g==(n:Int)+1)=true:=beq_iff_eq.2 e;rw[h1,h2,h3];simp;omega
  ·have h3:(g==(n:Int)+1)=false:=eB.2 e;have h1:qP (n+1) g=qP n g:=by simp only[qP];rw[decide_eq_decide];omega
   rw[h1,h3]
   by_cases h2:qP n g=true
   ·rw[aC h2,aC h2];simp;omega
   ·rw[ak h2,ak h2];simp;omega
theorem YK(gs:List Int):∀n,AU gs n=(gs.filter (qP n)).length
 |0=>by
  have:gs.filter (qP 0)=[]:=List.filter_eq_nil_iff.2 λx _=>by simp[qP];omega
  rw[this];rfl
 |n+1=>by rw[AU,YK gs n,zgv]
theorem zsz(gs:List Int)(h:∀x,gs.count x<=1):∀n,AU gs n<=n
 |0=>aj _
 |n+1=>by have:=zsz gs h n;have:=h ((n:Int)+1);rw[AU];omega
theorem zoA(gs:List Int)(h:∀x,gs.count x<=1):∀n,AU gs n=n->∀i,i<n->gs.count ((i:Int)+1)=1
 |0,_,i,hi=>absurd hi (cR _)
 |n+1,he,i,hi=>by
  have h1:=zsz gs h n;have h2:=h ((n:Int)+1);rw[AU]at he
  by_cases e:i=n
  ·subst e;omega
  ·exact zoA gs h n (by omega) i (by omega)
theorem zl9(gs:List Int):∀n:Nat,(∀i:Nat,i<n->gs.count ((i:Int)+1)=1)->AU gs n=n
 |0,_=>rfl
 |n+1,h=>by rw[AU,zl9 gs n λi hi=>h i (by omega),h n (by omega)]
theorem zgC(G:Int)(hG:0<=G)(gs:List Int):pD G [] gs=(((gs.length:Int)==G)&&zW G gs):=by
 obtain⟨n,rfl⟩:=Int.eq_ofNat_of_zero_le hG;have key:pD (n:Int) [] gs=true↔(gs.length=n/\∀i,i<n->gs.count ((i:Int)+1)=1):=by
  rw[Xf];constructor
  ·rintro ⟨h1,_,h3,h4⟩;have hl:gs.length=n:=by simp at h4;omega
   refine⟨hl,?_⟩;have hc:=zgO gs h3;refine zoA gs hc n ?_;rw[YK,List.filter_eq_self.2 λx hx=>by have:=h1 x hx;simp[qP];omega];exact hl
  ·rintro ⟨hl,h1⟩;have he:=zl9 gs n h1;rw[YK]at he;have hf:gs.filter (qP n)=gs:=List.Sublist.eq_of_length_le List.filter_sublist (by omega);have hr:∀x,x∈gs->1<=x/\x<=(n:Int):=by
    intro x hx;have:=List.filter_eq_self.1 hf x hx
    simpa [qP]using this
   refine⟨hr,λ_ _ h=>by simp at h,zgr gs λx hx=>?_,by simp;omega⟩;have rY:=hr x hx;have:=h1 (x-1).toNat (by omega);rw[show (((x-1).toNat:Nat):Int)+1=x by omega]at this;omega
 have zxX:(((gs.length:Int)==(n:Int))&&zW (n:Int) gs)=true↔(gs.length=n/\∀i,i<n->gs.count ((i:Int)+1)=1):=by
  rw[de,beq_iff_eq];unfold zW;rw[iQ];constructor
  ·rintro ⟨h1,h2⟩;exact⟨by omega,λi hi=>by simpa using h2 i (by simpa using hi)⟩
  ·rintro ⟨h1,h2⟩;exact⟨by omega,λi hi=>by simpa using h2 i (by simpa using hi)⟩
 cases ha:pD (n:Int) [] gs<;>cases hb:(((gs.length:Int)==(n:Int))&&zW (n:Int) gs)
 ·rfl
 ·rw[key.2 (zxX.1 hb)]at ha;cases ha
 ·rw[zxX.2 (key.1 ha)]at hb;cases hb
 ·rfl
theorem Xi:∀bs:List aV,nQ bs=true->jq bs=za (bs.map BU)
 |[],_=>rfl
 |b::bs,h=>by
  unfold nQ at h;rw[List.all_cons,de]at h;obtain⟨h1,h2⟩:=h;rw[de]at h1;have ih:=Xi bs h2;have hl:=(XY b.nodes h1.1 (Nn h1.1) h1.2).2;unfold jq;rw[hl,ih]
  rfl
theorem Xh:∀bs:List aV,nQ bs=false->jq bs=zb
 |[],h=>by simp[nQ]at h
 |b::bs,h=>by
  unfold jq
  by_cases hb:(jP b.nodes&&b.nodes.all aY)=true
  ·have h2:nQ bs=false:=by
    unfold nQ at h ⊢;rw[List.all_cons,hb,kh]at h;exact h
   rw[Xh bs h2];cases tZ b.nodes<;>rfl
  ·rw[zrq b.nodes (by
    cases hk:jP b.nodes
    ·exact .inl rfl
    ·right
     cases ha:b.nodes.all aY
     ·rfl
     ·rw[hk,ha]at hb;exact absurd rfl hb)]
theorem Yg:∀(st:List Int) (s:Int),0<=s->s<=2001->(∀x,x∈st->0<=x)->st.foldl (λs a=>cM (s+a)) s=cM (s+st.sum)
 |[],s,h0,h1,_=>by simp[Gj h1]
 |a::st,s,h0,h1,h=>by
  have ha:=h a (B7 ..);have hc:=zgp (show 0<=s+a by omega);rw[List.foldl_cons,Yg st (cM (s+a)) hc.1 hc.2 λx hx=>h x (yC _ hx),List.sum_cons];have hs:0<=st.sum:=by
   have:∀l:List Int,(∀x,x∈l->0<=x)->0<=l.sum:=by
    intro l
    induction l with
    |nil=>intro _;simp
    |cons b l ih=>intro hl;have:=ih λx hx=>hl x (yC _ hx);have:=hl b (B7 ..);rw[List.sum_cons];omega
   exact this st λx hx=>h x (yC _ hx)
  unfold cM;split<;>split<;>split<;>omega
theorem Xx:∀bs:List aV,jM bs=(bs.map BU).sum
 |[]=>rfl
 |b::bs=>by rw[jM,Xx bs];simp
theorem zkE(bs:List aV)(h:nQ bs=true):decide (iH (bs.map BU)<=2000)=decide (jM bs<=2000):=by
 unfold iH;rw[Yg _ 0 (by omega) (by omega) (by
  intro x hx;obtain⟨b,hb,rfl⟩:=rh.1 hx;have:=iQ.1 h b hb;rw[de]at this;have:=QV this.1 (Nn this.1) this.2;omega),<-Xx,Int.zero_add,decide_eq_decide]
 unfold cM;split<;>omega
theorem zqd(G:Int)(bs:List aV):qo G bs=gC G bs:=by
 unfold qo gC
 by_cases hG:0<=G/\G<=500
 ·rw[zgC G hG.1];cases ha:nQ bs
  ·rw[Xh bs ha];simp
  ·rw[Xi bs ha];simp only[zkE bs ha,Bool.and_true];cases decide (1<=bs.length/\bs.length<=2000)<;>cases decide (0<=G/\G<=500)<;>cases decide (iz bs<=5000)<;>cases ((fT bs).length:Int)==G<;>simp
 ·have:decide (0<=G/\G<=500)=false:=by simpa using hG
  rw[this];simp
section
attribute [local go_sem ↓] wp_at_zero wp_at_succ
def AX:Pt->Int->Prop
 |.set _,_=>False
 |.seq p q,x=>AX p x\/AX q x
 |.aN p q,x=>AX p x\/AX q x
 |.az b _ _,x=>AX b x
 |.aT b g,x=>x=g\/AX b x
theorem DI{u:aJ}:∀(p:Pt) (i j:Nat) (l:List Up),Pl u p i j l->∀x∈l,AX p x.1
 |.set _,_,_,l,h,x,hx=>by have h:l=[]:=h;subst h;cases hx
 |.aT b g,i,j,l,⟨m,e,h⟩,x,hx=>by
  subst e;rcases pI.1 hx with rfl|hx
  ·exact .inl rfl
  ·exact .inr (DI b i j m h x hx)
 |.seq p q,i,j,l,⟨k,l1,l2,_,h1,h2,e⟩,x,hx=>by
  subst e;rcases fm.1 hx with hx|hx
  ·exact .inl (DI p i k l1 h1 x hx)
  ·exact .inr (DI q k j l2 h2 x hx)
 |.aN p q,i,j,l,h,x,hx=>by
  rcases h with ⟨_,h⟩|⟨_,h⟩
  ·exact .inl (DI p i j l h x hx)
  ·exact .inr (DI q i j l h x hx)
 |.az b mn mx,i,j,l,h,x,hx=>by
  replace h:ii (Lg u b) (Pl u b) (λmn mx i j=>Lg u (.az b mn mx) i j) mn.toNat mx i j l:=h;show AX b x.1;have ih:=DI (u:=u) b;generalize mn.toNat=n at h
  induction h with
  |done=>cases hx
  |pA=>cases hx
  |out=>cases hx
  |must _ _ i j k l1 l2 _ h1 _ xP=>
   rcases fm.1 hx with hx|hx
   ·exact ih i k l1 h1 x hx
   ·exact xP hx
  |may _ i j k l1 l2 _ _ h1 _ xP=>
   rcases fm.1 hx with hx|hx
   ·exact ih i k l1 h1 x hx
   ·exact xP hx
  |more i j k l1 l2 _ _ h1 _ xP=>
   rcases fm.1 hx with hx|hx
   ·exact ih i k l1 h1 x hx
   ·exact xP hx
theorem zo9:∀(ns:List aL) (n:Nat),n<ns.length->(ns.getD n .zero).kind=5->(ns.getD n .zero).group∈aT ns
 |a::ns,0,_,h=>by
  have h:a.kind=5:=h;show a.group∈aT (a::ns);rw[aT,aC h];simp
 |a::ns,n+1,hn,h=>by
  have:=zo9 ns n (by simpa using hn) h;show (ns.getD n .zero).group∈aT (a::ns);rw[aT];split
  ·exact yC _ this
  ·exact this
theorem Xp:∀(bs:List aV) (k:Nat),k<bs.length->∀x∈aT (bs.getD k .zero).nodes,x∈fT bs
 |b::bs,0,_,x,h=>fm.2 (.inl h)
 |b::bs,k+1,hk,x,h=>fm.2 (.inr (Xp bs k (by simpa using hk) x h))
theorem zg5{G:Int}{bs:List aV}(h:gC G bs=true):∀x∈fT bs,1<=x/\x<=G:=by
 unfold gC at h;simp only[de,lx]at h;obtain⟨⟨⟨⟨⟨⟨_,h2⟩,_⟩,_⟩,h5⟩,h6⟩,_⟩:=h;have:=zgC G h2.1 (fT bs);rw[h5,h6]at this;exact((Xf G (fT bs) []).1 this).1
theorem zpS(ns:List aL)(ha:∀i,i<ns.length->bC (bO ns i)<=(aK ns i).length)(hb:ns.all aY=true):∀n,n<ns.length->th ns n:=by
 intro n
 induction n using Nat.strongRecOn with
 |ind n ih=>
  intro hn;have jI:aY (ns.getD n .zero)=true:=iQ.1 hb (ns.getD n .zero) (by
   rw[bP,dh hn];exact kg _)
  have eu:=ha n hn;have cC:bO ns n=(ns.getD n .zero).kind:=rfl
  by_cases h1:bO ns n=1
  ·refine zrU ns n hn h1 ?_;unfold a8 iG;rw[aC (by rw[<-cC];exact h1)]
  by_cases h2:bO ns n=2
  ·obtain⟨x,y,hL,hR,hx,hy,hT⟩:=Jr (ns:=ns) (k:=n) (by rw[h2];rfl) (by rw[h2]at eu;exact eu);refine zrT ns n x y hn h2 ?_ hL hR (NB ns ha hb x (by omega)) (NB ns ha hb y (by omega)) (ih x hx (by omega)) (ih y hy (by omega));rw[hT];unfold iG;rw[ak (by rw[<-cC];exact h1),aC (by rw[<-cC];exact h2)]
   rfl
  by_cases h3:bO ns n=3
  ·obtain⟨x,y,hL,hR,hx,hy,hT⟩:=Jr (ns:=ns) (k:=n) (by rw[h3];rfl) (by rw[h3]at eu;exact eu);refine zrQ ns n x y hn h3 ?_ hL hR (NB ns ha hb x (by omega)) (ih x hx (by omega)) (ih y hy (by omega));rw[hT];unfold iG;rw[ak (by rw[<-cC];exact h1),ak (by rw[<-cC];exact h2),aC (by rw[<-cC];exact h3)]
   rfl
  by_cases h4:bO ns n=4
  ·obtain⟨x,hL,hx,hT⟩:=Jq (ns:=ns) (k:=n) (by rw[h4];rfl) (by rw[h4]at eu;exact eu);have dV:fj (ns.getD n .zero).min (ns.getD n .zero).max=true:=by
    unfold aY at jI;rw[ak (by rw[<-cC];exact h1),ak (by rw[<-cC];exact λh=>h.elim h2 h3),aC (by rw[<-cC];exact h4)]at jI;simp only[de]at jI;exact jI.1.2
   simp[fj]at dV;refine zrS ns n x (ns.getD n .zero).min.toNat hn h4 ?_ hL (NB ns ha hb x (by omega)) (ih x hx (by omega)) (by simp only[bP];omega) (by simp only[bP];omega) (by simp only[bP];omega);rw[hT];unfold iG;rw[ak (by rw[<-cC];exact h1),ak (by rw[<-cC];exact h2),ak (by rw[<-cC];exact h3),aC (by rw[<-cC];exact h4)];have:(((ns.getD n .zero).min.toNat:Nat):Int)=(ns.getD n .zero).min:=by simp only[bP];omega
   rw[this]
   rfl
  have h5:bO ns n=5:=by
   by_cases h5:bO ns n=5
   ·exact h5
   ·exfalso
    unfold aY at jI;rw[ak (by rw[<-cC];exact h1),ak (by rw[<-cC];exact λh=>h.elim h2 h3),ak (by rw[<-cC];exact h4),ak (by rw[<-cC];exact h5)]at jI;cases jI
  obtain⟨x,hL,hx,hT⟩:=Jq (ns:=ns) (k:=n) (by rw[h5];rfl) (by rw[h5]at eu;exact eu);refine zrR ns n x hn h5 ?_ hL (ih x hx (by omega));rw[hT];unfold iG;rw[ak (by rw[<-cC];exact h1),ak (by rw[<-cC];exact h2),ak (by rw[<-cC];exact h3),ak (by rw[<-cC];exact h4)]
  rfl
theorem Yp(ns:List aL)(ha:∀i,i<ns.length->bC (bO ns i)<=(aK ns i).length)(hb:ns.all aY=true):∀n,n<ns.length->oT (a8 ns n)/\∀x,AX (a8 ns n) x->x∈aT ns:=by
 intro n
 induction n using Nat.strongRecOn with
 |ind n ih=>
  intro hn;have jI:aY (ns.getD n .zero)=true:=iQ.1 hb (ns.getD n .zero) (by
   rw[bP,dh hn];exact kg _)
  have eu:=ha n hn;have cC:bO ns n=(ns.getD n .zero).kind:=rfl
  by_cases h1:bO ns n=1
  ·unfold a8 iG;rw[aC (by rw[<-cC];exact h1)];exact⟨trivial,λx h=>h.elim⟩
  by_cases h2:bO ns n=2
  ·obtain⟨x,y,hL,hR,hx,hy,hT⟩:=Jr (ns:=ns) (k:=n) (by rw[h2];rfl) (by rw[h2]at eu;exact eu);have i1:=ih x hx (by omega);have i2:=ih y hy (by omega);rw[hT];unfold iG;rw[ak (by rw[<-cC];exact h1),aC (by rw[<-cC];exact h2)];exact⟨⟨i1.1,i2.1⟩,λz h=>h.elim (i1.2 z) (i2.2 z)⟩
  by_cases h3:bO ns n=3
  ·obtain⟨x,y,hL,hR,hx,hy,hT⟩:=Jr (ns:=ns) (k:=n) (by rw[h3];rfl) (by rw[h3]at eu;exact eu);have i1:=ih x hx (by omega);have i2:=ih y hy (by omega);rw[hT];unfold iG;rw[ak (by rw[<-cC];exact h1),ak (by rw[<-cC];exact h2),aC (by rw[<-cC];exact h3)];exact⟨⟨i1.1,i2.1⟩,λz h=>h.elim (i1.2 z) (i2.2 z)⟩
  by_cases h4:bO ns n=4
  ·obtain⟨x,hL,hx,hT⟩:=Jq (ns:=ns) (k:=n) (by rw[h4];rfl) (by rw[h4]at eu;exact eu);have dV:fj (ns.getD n .zero).min (ns.getD n .zero).max=true:=by
    unfold aY at jI;rw[ak (by rw[<-cC];exact h1),ak (by rw[<-cC];exact λh=>h.elim h2 h3),aC (by rw[<-cC];exact h4)]at jI;simp only[de]at jI;exact jI.1.2
   simp[fj]at dV;have i1:=ih x hx (by omega);rw[hT];unfold iG;rw[ak (by rw[<-cC];exact h1),ak (by rw[<-cC];exact h2),ak (by rw[<-cC];exact h3),aC (by rw[<-cC];exact h4)];refine⟨⟨i1.1,?_,?_⟩,λz h=>i1.2 z h⟩<;>(simp only[bP];omega)
  have h5:bO ns n=5:=by
   by_cases h5:bO ns n=5
   ·exact h5
   ·exfalso
    unfold aY at jI;rw[ak (by rw[<-cC];exact h1),ak (by rw[<-cC];exact λh=>h.elim h2 h3),ak (by rw[<-cC];exact h4),ak (by rw[<-cC];exact h5)]at jI;cases jI
  obtain⟨x,hL,hx,hT⟩:=Jq (ns:=ns) (k:=n) (by rw[h5];rfl) (by rw[h5]at eu;exact eu);have i1:=ih x hx (by omega);rw[hT];unfold iG;rw[ak (by rw[<-cC];exact h1),ak (by rw[<-cC];exact h2),ak (by rw[<-cC];exact h3),ak (by rw[<-cC];exact h4)];refine⟨i1.1,λz h=>?_⟩;rcases h with rfl|h
  ·exact zo9 ns n hn (by rw[<-cC];exact h5)
  ·exact i1.2 z h
theorem iZ(W:zc)(b j:Nat)(v:zd):W.grownBy (W.setCell ⟨b,j,zb⟩ v) (za b):=
 ⟨rfl,rfl,rfl,by simp,λk _ hk=>Below.heap_setCell W _ _ k (λe=>hk (by rw[e]))⟩
theorem zhq(W:zc)(b j:Nat)(v:zd):W.grownBy (W.setCell ⟨b,j,zb⟩ v).drew (za b):=by
 have h:=iZ W b j v;exact⟨h.os,h.tape,h.output,h.size,h.block⟩
def kQ(n:Nat)(T:Nat->Nat):Array zd:=((List.range n).map λi=>Value.int .u64 (T i:Int)).toArray
theorem QN(n:Nat)(T:Nat->Nat){i:Nat}(h:i<n):(kQ n T)[i]?=za (.int .u64 (T i:Int)):=by
 simp[kQ,h]
def au(T:Nat->Nat)(s:Nat):Bool:=(T (s/64)).testBit (s%64)
theorem zsF(x y:Nat)(hx:x<18446744073709551616)(hy:y<18446744073709551616):bits BinOp.or IntKind.u64 (x:Int) (y:Int)=((x ||| y:Nat):Int):=by
 have h1:(BitVec.ofInt 64 (x:Int) ||| BitVec.ofInt 64 (y:Int)).toNat=x ||| y:=by
  rw[BitVec.ofInt_natCast,BitVec.ofInt_natCast,BitVec.toNat_or,BitVec.toNat_ofNat,BitVec.toNat_ofNat,yF (by omega),yF (by omega)]
 have h2:x ||| y<18446744073709551616:=Nat.or_lt_two_pow (n:=64) hx hy
 show IntKind.u64.wrap ((BitVec.ofInt 64 (x:Int) ||| BitVec.ofInt 64 (y:Int)).toNat:Int)=_;rw[h1];simp[IntKind.wrap,IntKind.bits,IntKind.signed];omega
theorem Yj(x:Nat):IntKind.u64.wrap (x:Int)=((x%18446744073709551616:Nat):Int):=by
 simp[IntKind.wrap,IntKind.bits,IntKind.signed]
theorem zkD(n:Nat)(T:Nat->Nat)(i x:Nat):(kQ n T).setIfInBounds i (.int .u64 (x:Int))=kQ n (λj=>if j=i then x else T j):=by
 apply Array.ext'
 unfold kQ;simp only[List.setIfInBounds_toArray];apply List.ext_getElem
 ·simp
 ·intro j h1 h2;simp only[List.getElem_set,List.getElem_map,List.getElem_range]
  by_cases e:i=j
  ·subst e;simp
  ·rw[ak e,ak (λh=>e h.symm)]
def kS(T:Nat->Nat)(p:Nat):Nat->Nat:=λj=>if j=p/64 then T (p/64) ||| 2 ^ (p%64) else T j
theorem JH(T:Nat->Nat)(hT:∀i,T i<18446744073709551616)(p:Nat):∀i,kS T p i<18446744073709551616:=λi=>by
 unfold kS;split
 ·exact Nat.or_lt_two_pow (n:=64) (hT _) (Nat.pow_lt_pow_right (by omega) (by omega))
 ·exact hT i
theorem Jv(T:Nat->Nat)(p s:Nat):au (kS T p) s=(au T s || decide (s=p)):=by
 unfold au kS
 by_cases h:s/64=p/64
 ·rw[aC h,Nat.testBit_or,Nat.testBit_two_pow,h]
  congr 1
  by_cases e:s=p
  ·subst e;simp
  ·have:¬p%64=s%64:=by omega
   simp[this,e]
 ·rw[ak h];have:¬s=p:=λe=>h (by rw[e])
  simp[this]
theorem X6:∀(n x:Nat),x<=n->0<x->∃k t,x=2 ^ k*(2*t+1)
 |0,x,h,h0=>by omega
 |n+1,x,h,h0=>by
  by_cases e:x%2=1
  ·exact⟨0,x/2,by omega⟩
  ·obtain⟨k,t,hk⟩:=X6 n (x/2) (by omega) (by omega);refine⟨k+1,t,?_⟩;rw[Nat.pow_succ,Nat.mul_assoc,Nat.mul_comm 2,<-Nat.mul_assoc,<-hk];omega
structure Low(x k:Nat):Prop where
 bit:x.testBit k=true
 low:∀j,j<k->x.testBit j=false
theorem NG(k t:Nat):Low (2 ^ k*(2*t+1)) k:=by
 constructor
 ·rw[Nat.testBit_two_pow_mul];simp
 ·intro j hj;rw[Nat.testBit_two_pow_mul];simp;omega
theorem ztd{x k t:Nat}(hx:x=2 ^ k*(2*t+1))(hl:x<2 ^ 64):x &&& (2 ^ 64-x)=2 ^ k:=by
 have hp:0<2 ^ k:=Nat.two_pow_pos k;have h0:0<x:=by rw[hx];exact Nat.mul_pos hp (by omega)
 have e1:2 ^ 64-x=2 ^ 64-((x-1)+1):=by omega
 have e2:x-1=2 ^ k*(2*t)+(2 ^ k-1):=by
  rw[hx,Nat.mul_add,Nat.mul_one];omega
 apply Nat.eq_of_testBit_eq
 intro i;rw[Nat.testBit_and,e1,Nat.testBit_two_pow_sub_succ (by omega),e2,Nat.testBit_two_pow_mul_add _ (by omega),hx,Nat.testBit_two_pow_mul,Nat.testBit_two_pow];have hk:k<64:=by
  rcases ig k 64 with h|h
  ·exact h
  ·have:2 ^ 64<=2 ^ k:=Nat.pow_le_pow_right (by omega) h;have:2 ^ k<=x:=by rw[hx];exact Nat.le_mul_of_pos_right _ (by omega)
   omega
 by_cases h1:i<k
 ·have:¬k<=i:=by omega
  have h2:¬k=i:=by omega
  simp[this,h2]
 ·by_cases h2:i=k
  ·subst h2;simp[hk]
  ·have h3:k<=i:=by omega
   have h4:¬k=i:=by omega
   have h5:¬i-k=0:=by omega
   obtain⟨m,hm⟩:∃m,i-k=m+1:=⟨i-k-1,by omega⟩;have a1:(2*t+1).testBit (m+1)=t.testBit m:=by rw[Nat.testBit_succ];congr 1;omega
   have a2:(2*t).testBit (m+1)=t.testBit m:=by rw[Nat.testBit_succ];congr 1;omega
   rw[ak h1,hm,a1,a2];cases t.testBit m<;>simp[h4]
def NJ:List Nat:=[0,1,56,2,57,49,28,3,61,58,42,50,38,29,17,4,62,47,59,36,45,43,51,22,53,39,33,30,24,18,12,5,63,55,48,27,60,41,37,16,46,35,44,21,52,32,23,11,54,26,40,15,34,20,31,10,25,14,19,9,13,8,7,6]
theorem ztO:∀k,k<64->(2 ^ k*285870213051353865%18446744073709551616)/2 ^ 58<64/\NJ.getD ((2 ^ k*285870213051353865%18446744073709551616)/2 ^ 58) 0=k:=by decide
def fS(w:zc):Prop:=∀i,i<64->w.cell? ⟨0,i,zb⟩=za (.int .u8 (NJ.getD i 0:Int))
theorem Rb(x y:Nat)(hx:x<18446744073709551616)(hy:y<18446744073709551616):bits BinOp.and IntKind.u64 (x:Int) (y:Int)=((x &&& y:Nat):Int):=by
 have h1:(BitVec.ofInt 64 (x:Int) &&& BitVec.ofInt 64 (y:Int)).toNat=x &&& y:=by
  rw[BitVec.ofInt_natCast,BitVec.ofInt_natCast,BitVec.toNat_and,BitVec.toNat_ofNat,BitVec.toNat_ofNat,yF (by omega),yF (by omega)]
 have h2:x &&& y<=x:=Nat.and_le_left;show IntKind.u64.wrap ((BitVec.ofInt 64 (x:Int) &&& BitVec.ofInt 64 (y:Int)).toNat:Int)=_;rw[h1];simp[IntKind.wrap,IntKind.bits,IntKind.signed];omega
theorem zuf(x k t:Nat)(w:zc)(hx:Hid (x=2 ^ k*(2*t+1)))(hl:x<18446744073709551616)(h0:0<x)(hk:k<64)(hB:Hid (fS w)):
  zg prog 148 #[.int .u64 x] w λe w'=>e=.returned (zf .i64 k)/\w'=w:=by
 have b0:((x:Int)==0)=false:=by simp;omega
 have hn:IntKind.u64.wrap (-(x:Int))=((18446744073709551616-x:Nat):Int):=by
  simp[IntKind.wrap,IntKind.bits,IntKind.signed];omega
 have ha:bits BinOp.and IntKind.u64 (x:Int) (IntKind.u64.wrap (-(x:Int)))=((2 ^ k:Nat):Int):=by
  rw[hn,Rb _ _ hl (by omega)];have h:=ztd hx.out (show x<2 ^ 64 by omega);rw[show (2:Nat) ^ 64=18446744073709551616 by decide]at h;rw[h]
 obtain⟨hi,ht⟩:=ztO k hk;have hE:IntKind.u64.wrap (bits BinOp.and IntKind.u64 (x:Int) (IntKind.u64.wrap (-(x:Int)))*285870213051353865)/288230376151711744=(((2 ^ k*285870213051353865%18446744073709551616)/2 ^ 58:Nat):Int):=by
  rw[ha,show ((2 ^ k:Nat):Int)*285870213051353865=((2 ^ k*285870213051353865:Nat):Int) by simp,Yj];generalize 2 ^ k*285870213051353865%18446744073709551616=y;omega
 have c0:w.cell? ⟨0,(IntKind.u64.wrap (bits BinOp.and IntKind.u64 (x:Int) (IntKind.u64.wrap (-(x:Int)))*285870213051353865)/288230376151711744).toNat,zb⟩=za (.int .u8 (k:Int)):=by rw[hE,sM,hB.out _ hi,ht]
 have q0:0<=IntKind.u64.wrap (bits BinOp.and IntKind.u64 (x:Int) (IntKind.u64.wrap (-(x:Int)))*285870213051353865)/288230376151711744:=by rw[hE];omega
 have q1:IntKind.u64.wrap (bits BinOp.and IntKind.u64 (x:Int) (IntKind.u64.wrap (-(x:Int)))*285870213051353865)/288230376151711744<64:=by rw[hE];omega
 clear hn ha ht hx hl h0 hB hi hE
 go_enter func148,ntmps148
 go_wp2;go_ret;exact⟨rfl,rfl⟩
theorem Gi(nw g cap:Nat)(T:Nat->Nat)(p:Nat)(w:zc)(hg:w.heap[g]?=za (.cells (kQ nw T) 236 (0,0)))(hp:p<64*nw)(bY:nw<=1000)(hT:Hid (∀i,T i<18446744073709551616)):
  zg prog 146 #[ze (za ⟨g,0,zb⟩) nw cap,zf .i64 p] w λe w'=>e=.returned (.tuple #[])/\w'.heap[g]?=za (.cells (kQ nw (kS T p)) 236 (0,0))/\w.grownBy w' (za g):=by
 have d0:w.cell? ⟨g,p/64,zb⟩=za (.int .u64 (T (p/64):Int)):=by rw[aM _ _ _ _ _ _ hg,QN _ _ (by omega)]
 have f0:=cT _ _ (p/64) _ _ hg;have t0:=hT.out (p/64);have e1:(p:Int)/64=((p/64:Nat):Int):=by omega
 have e2:(p:Int)%64=((p%64:Nat):Int):=by omega
 have l1:p/64<nw:=by omega
 have l2:p%64<64:=by omega
 have HN:Hid (((w.setCell ⟨g,p/64,zb⟩ (.int .u64 ((T (p/64) ||| 2 ^ (p%64):Nat):Int))).heap[g]?=za (.cells (kQ nw (kS T p)) 236 (0,0)))):=by
  have:=dE w g (p/64) _ _ (.int .u64 ((T (p/64) ||| 2 ^ (p%64):Nat):Int)) hg;rw[zkD]at this;exact this
 generalize kS T p=T' at *;generalize T (p/64)=a at *;generalize hq:p/64=q at *;generalize hr:p%64=r at *;have i1:(q:Int)<nw:=by omega
 have i3:(0:Int)<=(q:Int):=by omega
 have hv:bits BinOp.or IntKind.u64 (a:Int) (IntKind.u64.wrap (2 ^ r))=((a ||| 2 ^ r:Nat):Int):=by
  have h2:2 ^ r<18446744073709551616:=Nat.pow_lt_pow_right (a:=2) (n:=64) (by omega) l2;rw[show (2:Int) ^ r=((2 ^ r:Nat):Int) by simp,Yj,yF h2,zsF _ _ t0 h2]
 rw[<-hv]at HN;clear hv hq hr hg hT t0
 go_enter func146,ntmps146
 go_wp2
 go_region
 all_goals
  go_wp2
  go_end0
  exact⟨rfl,HN.out,zhq _ _ _ _⟩
end
section
variable {w w':zc}{nw g n:Nat}{T U:Nat -> Nat}
structure aH(w:zc)(nw g:Nat)(T:Nat->Nat):Prop where
 row:w.heap[g]?=za (.cells (kQ nw T) 236 (0,0))
 lt:∀i,T i<18446744073709551616
theorem aH.cB(h:aH w nw g T):g<w.heap.size:=(ah.1 h.row).1
theorem aH.below(h:aH w nw g T)(hb:Below w.heap.size w w'):aH w' nw g T:=⟨(hb.block g h.cB).trans h.row,h.lt⟩
theorem aH.grown{o:Option Nat}(h:aH w nw g T)(hg:w.grownBy w' o)(hne:za g≠o):aH w' nw g T:=⟨(hg.block g h.cB hne).trans h.row,h.lt⟩
theorem aH.cell(h:aH w nw g T){i:Nat}(hi:i<nw):w.cell? ⟨g,i,zb⟩=za (.int .u64 (T i:Int)):=by rw[aM _ _ _ _ _ _ h.row,QN _ _ hi]
theorem Xc(h:∀i,i<n->T i=U i):kQ n T=kQ n U:=by
 unfold kQ;rw[BV λi hi=>by rw[h i (by simpa using hi)]]
def eU(T U:Nat->Nat):Nat->Nat:=λi=>T i ||| U i
def FB(T U:Nat->Nat)(k:Nat):Nat->Nat:=λi=>if i<k then T i ||| U i else T i
theorem zsE(hT:∀i,T i<18446744073709551616)(hU:∀i,U i<18446744073709551616):∀i,eU T U i<18446744073709551616:=λi=>Nat.or_lt_two_pow (n:=64) (hT i) (hU i)
theorem JG(T U:Nat->Nat)(p:Nat):au (eU T U) p=(au T p || au U p):=by simp[au,eU]
theorem ztl(n:Nat)(T U:Nat->Nat)(k:Nat):kQ n (λj=>if j=k then T k ||| U k else FB T U k j)=kQ n (FB T U (k+1)):=Xc λi _=>by
 unfold FB
 by_cases e:i=k
 ·subst e;rw[aC rfl,aC (by omega)]
 ·rw[ak e]
  by_cases h:i<k
  ·rw[aC h,aC (by omega)]
  ·rw[ak h,ak (by omega)]
theorem zS(nw g g2 cap fB:Nat)(T U:Nat->Nat)(w:zc)(hT:aH w nw g T)(hU:aH w nw g2 U)(hne:g≠g2)(bY:nw<=1000):
  zg prog 168 #[ze (za ⟨g,0,zb⟩) nw cap,ze (za ⟨g2,0,zb⟩) nw fB] w λe w'=>e=.returned (.tuple #[])/\aH w' nw g (eU T U)/\w.grownBy w' (za g):=by
 go_enter func168,ntmps168
 go_wp2
 go_loopw [8] (λi wr=>∃k:Nat,k<=nw/\i=zf .i64 k/\wr.heap[g]?=za (.cells (kQ nw (FB T U k)) 236 (0,0))/\w.grownBy wr (za g))
  (λi _=>nw-(intOf i).toNat)
 case atStart=>exact⟨0,aR _,rfl,by rw[hT.row];rfl,World.grownBy.refl _ _⟩
 case round=>
  obtain⟨k,hk,rfl,hr,hg⟩:=hrel
  by_cases hlt:k<nw
  ·have c0:=(hU.grown hg (by simpa using hne.symm)).cell hlt;have c1:wr.cell? ⟨g,k,zb⟩=za (.int .u64 (T k:Int)):=by
    rw[aM _ _ _ _ _ _ hr,QN _ _ hlt];unfold FB;rw[ak (by omega)]
   have f1:=cT _ _ k _ _ hr;have HN:Hid ((wr.setCell ⟨g,k,zb⟩ (.int .u64 ((T k ||| U k:Nat):Int))).heap[g]?=za (.cells (kQ nw (FB T U (k+1))) 236 (0,0))):=by
    have:=dE wr g k _ _ (.int .u64 ((T k ||| U k:Nat):Int)) hr;rw[zkD,ztl]at this;exact this
   have hv:=zsF _ _ (hT.lt k) (hU.lt k);rw[<-hv]at HN;clear hv hr;have da:(0:Int)<=(k:Int):=by omega
   have cO:(k:Int)<(nw:Int):=by omega
   generalize T k=a at *;generalize U k=b at *;go_wp2
   go_roundw
   case rel=>exact⟨k+1,by omega,by go_num,HN.out,hg.trans (iZ _ _ _ _)⟩
   case measure=>simp[intOf];omega
  ·have bK:k=nw:=by omega
   subst bK;go_wp2
   go_end0
   exact⟨rfl,⟨by rw[hr,Xc (U:=eU T U) λi hi=>by unfold FB;rw[aC hi];rfl],zsE hT.lt hU.lt⟩,hg⟩
def kO(nw:Nat)(T U:Nat->Nat):Bool:=(List.range nw).any λi=>!(T i &&& U i==0)
theorem znB(k:Nat)(T U:Nat->Nat):kO (k+1) T U=(kO k T U || !(T k &&& U k==0)):=by simp[kO,List.range_succ]
theorem XG(nw:Nat)(T U:Nat->Nat)(hT:∀i,T i<18446744073709551616):kO nw T U=true↔∃p,p<64*nw/\au T p=true/\au U p=true:=by
 constructor
 ·intro h;obtain⟨i,hi,h2⟩:=D4.1 h;have dY:i<nw:=by simpa using hi
  have h3:T i &&& U i≠0:=by simpa using h2
  obtain⟨j,hj⟩:=Nat.exists_testBit_of_ne_zero h3;rw[Nat.testBit_and,de]at hj;have zBu:j<64:=by
   rcases ig j 64 with h|h
   ·exact h
   ·have:=Nat.testBit_lt_two_pow (x:=T i) (i:=j) (bA (hT i) (by rw[show (18446744073709551616:Nat)=2 ^ 64 by decide];exact Nat.pow_le_pow_right (by omega) h));rw[this]at hj;cases hj.1
  refine⟨i*64+j,by omega,?_,?_⟩
  ·unfold au;rw[show (i*64+j)/64=i by omega,show (i*64+j)%64=j by omega];exact hj.1
  ·unfold au;rw[show (i*64+j)/64=i by omega,show (i*64+j)%64=j by omega];exact hj.2
 ·rintro ⟨p,hp,h1,h2⟩;refine D4.2 ⟨p/64,by simp;omega,?_⟩;have h3:(T (p/64) &&& U (p/64)).testBit (p%64)=true:=by rw[Nat.testBit_and];unfold au at h1 h2;rw[h1,h2];rfl
  have:¬(T (p/64) &&& U (p/64))=0:=λe=>by rw[e]at h3;simp at h3
  simpa using this
theorem zmr(nw g g2 cap fB:Nat)(T U:Nat->Nat)(w:zc)(hT:aH w nw g T)(hU:aH w nw g2 U)(bY:nw<=1000):
  zg prog 195 #[ze (za ⟨g,0,zb⟩) nw cap,ze (za ⟨g2,0,zb⟩) nw fB] w λe w'=>e=.returned (.bool (kO nw T U))/\Below w.heap.size w w':=by
 go_enter func195,ntmps195
 go_wp2
 go_loopw [9] (λi wr=>∃k:Nat,k<=nw/\i=zf .i64 k/\Below w.heap.size w wr/\Hid (kO k T U=false))
  (λi _=>nw-(intOf i).toNat)
 case atStart=>exact⟨0,aR _,rfl,Below.refl _ _,rfl⟩
 case round=>
  obtain⟨k,hk,rfl,hb,HF⟩:=hrel
  by_cases hlt:k<nw
  ·have c0:=(hT.below hb).cell hlt;have c1:=(hU.below hb).cell hlt;have hv:=Rb _ _ (hT.lt k) (hU.lt k);have Ho:Hid (kO (k+1) T U=!(T k &&& U k==0)):=by show _=_;rw[znB,HF.out,Bool.false_or]
   have Hm:Hid (kO (k+1) T U=true->kO nw T U=true):=by
    intro h;unfold kO at h ⊢;obtain⟨i,hi,h2⟩:=D4.1 h;exact D4.2 ⟨i,by simp at hi ⊢;omega,h2⟩
   have da:(0:Int)<=(k:Int):=by omega
   have cO:(k:Int)<(nw:Int):=by omega
   generalize T k=a at *;generalize U k=b at *;generalize zi:a &&& b=ab at *;have HV:Hid _:=hv;clear hv zi
   by_cases h0:ab=0
   ·have hz:(bits BinOp.and IntKind.u64 (a:Int) (b:Int) != 0)=false:=by rw[HV.out,h0];rfl
    go_wp2
    go_roundw
    case rel=>exact⟨k+1,by omega,by go_num,hb,by show _=_;rw[Ho.out,h0];rfl⟩
    case measure=>simp[intOf];omega
   ·have hz:(bits BinOp.and IntKind.u64 (a:Int) (b:Int) != 0)=true:=by rw[HV.out];simp;omega
    go_wp2;go_ret;exact⟨bz (Hm.out (by rw[Ho.out];simp;omega)).symm,hb⟩
  ·have bK:k=nw:=by omega
   subst bK;go_wp2;go_ret;exact⟨bz HF.out.symm,hb⟩
def cQ:Nat->Nat:=λ_=>0
theorem BL(p:Nat):au cQ p=false:=by simp[au,cQ]
theorem WW(n:Nat):(madeCells (Value.int .u64 0).cells (n*1)).toList.toArray=kQ n cQ:=by
 apply Array.ext_getElem?
 intro i
 by_cases h:i<n
 ·simp[madeCells,kQ,cQ,Value.cells,Nat.mod_one,h]
 ·simp[madeCells,kQ,h]
theorem Tryz.VO:(prog.info? 236).map (λi=>(i.zero,i.size,i.bytes))=za (za (.int .u64 0),1,8):=by kernel_rfl
theorem QA{base:Nat}{e:TypeId}{xs:List zd}(h:w.ownsRow base e 1 (ze (za ⟨g,0,zb⟩) n n) n xs):w.heap[g]?=za (.cells xs.toArray e (0,0)):=by
 rcases h.2 with ⟨h,_⟩|⟨g',cap,cr,h,_,mV,_,_,hsz,fQ⟩
 ·cases h
 ·cases h
  rw[mV]
  congr 2
  apply Array.ext'
  rw[wZ (by simp[hsz])]at fQ;rw[fQ]
def vt(w:zc)(bt nw:Nat)(sv fv:zd):Prop:=w.heap[bt]?=za (.cells #[zf .i64 nw,sv,fv] 268 (0,0))
theorem Gk(nw bt:Nat)(sv fv:zd)(w:zc)(hb:vt w bt nw sv fv)(bY:nw<=1000):
  zg prog 164 #[.pointer (za ⟨bt,0,zb⟩)] w λe w'=>e=.returned (ze (za ⟨w.heap.size,0,zb⟩) nw nw)/\aH w' nw w.heap.size cQ/\w.grownBy w' zb:=by
 obtain⟨i0,hi,bI,aO,aQ⟩:=info_parts Tryz.VO;have c0:w.cell? ⟨bt,0,zb⟩=za (zf .i64 nw):=(aM _ _ _ _ _ _ hb:w.cell? ⟨bt,0,zb⟩=_)
 go_enter func164,ntmps164
 go_wp2_with (refine wpList_make_full _ rfl _ _ 193 rfl w.heap.size 236 i0 _ 1 underlying193 hi bI aO _ _ _ _ nw rfl rfl rfl rfl (by rw[aQ];omega) (by unfold maxLen;omega) (aj _) ?_;intro w1 aB ez)
 go_ret
 refine⟨rfl,⟨?_,λ_=>by simp[cQ]⟩,ez⟩;rw[QA aB,WW]
end
structure vu(H:Nat)(A B:zc):Prop where
 os:B.os=A.os
 tape:B.tape=A.tape
 output:B.output=A.output
 size:A.heap.size<=B.heap.size
 same:∀k o,A.heap[k]?=za o->(k<H\/o.isCells=true)->B.heap[k]?=za o
theorem vu.put{H l:Nat}{A:zc}{o:Obj}(hH:H<=l)(hl:A.heap[l]?=za o)(ho:o.isCells=false)(o':Obj):vu H A (A.putObj l o'):=
 ⟨rfl,rfl,rfl,by simp,λk o2 hk h=>by
  refine(World.putObj_heap_other ?_).trans hk;rintro rfl;rw[hl]at hk;cases hk;rcases h with h|h
  ·omega
  ·rw[ho]at h;cases h⟩
def SS{α:Type}(n:Nat)(P:Program)(g:Nat)(fb lb:Array zd)(uB:α->Array zd)(T:List Nat)(S Sp:List α->Prop)(N:Nat)(w:zc):Prop:=
 ∀(l:Nat) (J Jx:List α->zc->Prop) (W:zc),(∀k∈T,W.heap[k]?=w.heap[k]?)->
  (∀pre x W1,J pre W1->pre.length<N->YieldAt Fence.wide (n-1) P l (uB x) W1 λe W'=>
   (e=.returned (.bool true)/\J (pre++[x]) W'/\∀k∈T,W'.heap[k]?=W1.heap[k]?)\/(e=.returned (.bool false)/\Jx (pre++[x]) W'))->
  J [] W->
  CallsIn Fence.wide n P g (fb++#[.func (.yield l) #[] #[]]++lb) W λe W'=>(∃v,e=.returned v)/\((∃xs,S xs/\J xs W')\/(∃pre,Sp pre/\Jx pre W'))
theorem Jo{α:Type}{n:Nat}{P:Program}{g:Operand}{ps:Array Tmp}{assign body:Code}{Q:Exit->Act->zc->Prop}{a:Act}{w:zc}(h1:1<=n)
  {gf:Nat} {fb lb:Array zd} (hg:a.eval g=.func (.func gf) fb lb) (eg:∀args w,(callFunc gf args).run P w=.ok (.enter gf args) w)
  {uB:α->Array zd} {T:List Nat} {S Sp:List α->Prop} {N:Nat} (hT:∀k∈T,k<w.heap.size) (IW:SS (n-1) P gf fb lb uB T S Sp N w) (wm:∀x,(uB x).size=ps.size)
  (I:List α->zc->Prop) (Ix:Code->List α->zc->Prop) (hI:∀s A B,I s A->vu w.heap.size A B->I s B) (A8:∀c s A B,Ix c s A->vu w.heap.size A B->Ix c s B) (h0:I [] w) (a₁:α->Act)
  (T6:∀(l:Nat) (x:α) (W:zc) (K:Act->zc->Prop),K (a₁ x) W->
   assign.wpIn (Fence.wide.inRound l) (n-1-1) P (Exit.then K (λ_ _ _=>False)) {tmps:=(ps.zip (uB x)).foldl (λt (p,v)=>t.setIfInBounds p v) a.tmps,defers:=[]} W)
  (Ug:∀(l:Nat) (pre:List α) (x:α) (W:zc),w.heap.size<=l->I pre W->pre.length<N->body.wpIn (Fence.wide.inRound l) (n-1-1) P (ownPostG w.heap.size (λA B=>∀k∈T,B.heap[k]?=A.heap[k]?) I Ix (pre++[x]) W) (a₁ x) W)
  (hdone:∀(D:Nat) (xs:List α) (W:zc),w.heap.size<=D->S xs->I xs W->W.heap[D]?=za (.deferred (za []))->Q .normal {a with defers:={target:=.collected D,args:=#[]} :: a.defers} W)
  (Mh:∀(D:Nat) (c:Code) (pre:List α) (W:zc),w.heap.size<=D->Sp pre->Ix c pre W->W.heap[D]?=za (.deferred (za []))->c.wpIn Fence.wide n P Q {a with defers:={target:=.collected D,args:=#[]} :: a.defers} W):
  (Code.rangeFunc g ps assign body).wpIn Fence.wide n P Q a w:=by
 refine wpIn_rangeFunc λfn vV=>?_
 let rc:LoopState->Option Code->Loop:=λst pe=>{state:=st,pending:=pe,fn,tmps:=a.tmps,params:=ps,assign,body,defers:=w.heap.size}
 obtain⟨W1,cm⟩:∃W1,(w.alloc (.deferred (za []))).alloc (.loop (rc .ready zb))=W1:=⟨_,rfl⟩;have t1:vu w.heap.size w W1:=by
  rw[<-cm];refine⟨rfl,rfl,rfl,by simp;omega,λk o hk _=>?_⟩;have hlt:=(ah.1 hk).1;rw[Below.heap_alloc _ _ k (by simp;omega),Below.heap_alloc _ _ k hlt,hk]
 have Wi:W1.heap[w.heap.size+1]?=za (.loop (rc .ready zb)):=by
  rw[<-cm];have:=World.alloc_heap_new (w.alloc (.deferred (za []))) (.loop (rc .ready zb));rwa[World.size_alloc]at this
 have Tp:W1.heap[w.heap.size]?=za (.deferred (za [])):=by rw[<-cm,Below.heap_alloc _ _ _ (by simp),World.alloc_heap_new]
 refine⟨w.heap.size+1,[{target:=.collected w.heap.size,args:=#[]}],W1,{target:=.fn (.func gf) lb,args:=fb++#[.func (.yield (w.heap.size+1)) #[] #[]]},W1,gf,
  fb++#[.func (.yield (w.heap.size+1)) #[] #[]]++lb,W1,?_,?_,λ_ _=>trivial,?_,λ_=>h1,?_⟩
 ·rw[<-cm];exact run_enterLoop_outer _ _ _ _ _
 ·simp only[resolve,hg];simp[go_sem]
 ·simp[invoke,go_sem,eg]
 refine(IW (w.heap.size+1)
  (λpre W=>I pre W/\W.heap[w.heap.size+1]?=za (.loop (rc .ready zb))/\W.heap[w.heap.size]?=za (.deferred (za [])))
  (λpre W=>∃c,Ix c pre W/\W.heap[w.heap.size+1]?=za (.loop (rc .done (za c)))/\W.heap[w.heap.size]?=za (.deferred (za [])))
  W1 ?_ ?_ ⟨hI _ _ _ h0 t1,Wi,Tp⟩).mono ?_
 ·intro k hk;have:=hT k hk;rw[<-cm,Below.heap_alloc _ _ k (by simp;omega),Below.heap_alloc _ _ k this]
 ·rintro pre x W ⟨hi,hl,hk⟩ hlen;have hlt:=(ah.1 hl).1;refine⟨fn,_,assign,body,run_yield (P:=P) (args:=uB x) hl (wm x),roundIn_of_wpIn vV (T6 _ x W _ ⟨_,run_beginRound hl rfl,?_⟩)⟩;have busy:(W.putObj (w.heap.size+1) (.loop (rc .busy zb))).heap[w.heap.size+1]?=za (.loop (rc .busy zb)):=World.putObj_heap_same hlt;have held:(W.putObj (w.heap.size+1) (.loop (rc .busy zb))).heap[w.heap.size]?=za (.deferred (za [])):=(World.putObj_heap_other (by omega)).trans hk;refine wpIn_mono (Ug _ pre x _ (by omega) (hI _ _ _ hi (vu.put (by omega) hl rfl _)) hlen) ?_;have fin:∀(jump:Option Code) (W3:zc),KeepsFrom w.heap.size (W.putObj (w.heap.size+1) (.loop (rc .busy zb))) W3->
    (Instr.endRound (w.heap.size+1) jump).run P W3=.ok (.bool jump.isNone) (W3.putObj (w.heap.size+1) (.loop (rc (if jump.isNone then .ready else .done) jump)))/\
    W3.heap[w.heap.size+1]?=za (.loop (rc .busy zb))/\
    (W3.putObj (w.heap.size+1) (.loop (rc (if jump.isNone then .ready else .done) jump))).heap[w.heap.size+1]?=za (.loop (rc (if jump.isNone then .ready else .done) jump))/\
    (W3.putObj (w.heap.size+1) (.loop (rc (if jump.isNone then .ready else .done) jump))).heap[w.heap.size]?=za (.deferred (za [])):=λjump W3 k3=>by
   have l3:=k3.same _ _ (by omega) busy rfl;exact⟨run_endRound (P:=P) jump l3,l3,World.putObj_heap_same (ah.1 l3).1,(World.putObj_heap_other (by omega)).trans (k3.same _ _ (aj _) held rfl)⟩
  have bk:∀(A:zc) (o:Obj) (k:Nat),k∈T->(A.putObj (w.heap.size+1) o).heap[k]?=A.heap[k]?:=λA o k hk=>World.putObj_heap_other (by have:=hT k hk;omega)
  rintro e a3 W3 hp;cases e with
  |normal=>
   obtain⟨k3,b3,i3⟩:=hp;obtain⟨r,l3,l4,d4⟩:=fin zb W3 k3;exact⟨_,_,r,.inl ⟨rfl,⟨hI _ _ _ i3 (vu.put (by omega) l3 rfl _),l4,d4⟩,λk hk=>by rw[bk _ _ k hk,b3 k hk,bk _ _ k hk]⟩⟩
  |ret=>
   obtain⟨k3,i3⟩:=hp;obtain⟨r,l3,l4,d4⟩:=fin (za .ret) W3 k3;exact⟨_,_,r,.inr ⟨rfl,.ret,A8 _ _ _ _ i3 (vu.put (by omega) l3 rfl _),l4,d4⟩⟩
  |exit id=>
   obtain⟨k3,i3⟩:=hp;obtain⟨r,l3,l4,d4⟩:=fin (za (.exit id)) W3 k3;exact⟨_,_,r,.inr ⟨rfl,.exit id,A8 _ _ _ _ i3 (vu.put (by omega) l3 rfl _),l4,d4⟩⟩
  |goto t=>
   obtain⟨k3,i3⟩:=hp;obtain⟨r,l3,l4,d4⟩:=fin (za (.goto t)) W3 k3;exact⟨_,_,r,.inr ⟨rfl,.goto t,A8 _ _ _ _ i3 (vu.put (by omega) l3 rfl _),l4,d4⟩⟩
  |panic ch=>exact hp.elim
  |outgrown=>exact hp.elim
 ·rintro e W2 ⟨⟨v,rfl⟩,(⟨xs,hS,hi,hl,hk⟩|⟨pre,TU,c,hi,hl,hk⟩)⟩
  ·exact⟨zb,_,run_endLoop (P:=P) hl (by simp[rc]),hdone _ xs _ (aj _) hS (hI _ _ _ hi (vu.put (by omega) hl rfl _)) ((World.putObj_heap_other (by omega)).trans hk)⟩
  ·exact⟨za c,_,run_endLoop (P:=P) hl (by simp[rc]),Mh _ c pre _ (aj _) TU (A8 _ _ _ _ hi (vu.put (by omega) hl rfl _)) ((World.putObj_heap_other (by omega)).trans hk)⟩
variable {T:Nat -> Nat}{k lo x j t:Nat}{pre:List Nat}
attribute [local go_sem] Oper.semAt_some
structure Oz(T:Nat->Nat)(k:Nat)(pre:List Nat):Prop where
 mem:∀p,p∈pre↔p<64*k/\au T p=true
 len:pre.length<=64*k
structure Ct(T:Nat->Nat)(k x lo:Nat)(pre:List Nat):Prop where
 mem:∀p,p∈pre↔(p<64*k/\au T p=true)\/(p/64=k/\au T p=true/\x.testBit (p%64)=false)
 sub:∀i,x.testBit i=true->(T k).testBit i=true
 len:pre.length<=64*k+lo
 low:∀i,i<lo->x.testBit i=false
 le:lo<=64
theorem Oz.open_(h:Oz T k pre):Ct T k (T k) 0 pre:=by
 refine⟨λp=>(h.mem p).trans ⟨.inl,?_⟩,λ_ h=>h,h.len,λi hi=>absurd hi (cR _),by omega⟩;rintro (h1|⟨h1,h2,h3⟩)
 ·exact h1
 ·unfold au at h2;rw[h1,h3]at h2;cases h2
theorem Ct.close(h:Ct T k 0 lo pre):Oz T (k+1) pre:=by
 refine⟨λp=>(h.mem p).trans ⟨?_,?_⟩,by have:=h.len;have:=h.le;omega⟩
 ·rintro (⟨h1,h2⟩|⟨h1,h2,_⟩)
  ·exact⟨by omega,h2⟩
  ·exact⟨by omega,h2⟩
 ·rintro ⟨h1,h2⟩
  by_cases e:p<64*k
  ·exact .inl ⟨e,h2⟩
  ·exact .inr ⟨by omega,h2,by simp⟩
theorem WO(hx:x=2 ^ j*(2*t+1))(i:Nat):(x &&& (x-1)).testBit i=(x.testBit i&&decide (i≠j)):=by
 have hp:0<2 ^ j:=Nat.two_pow_pos j;have e1:x-1=2 ^ j*(2*t)+(2 ^ j-1):=by rw[hx,Nat.mul_add,Nat.mul_one];omega
 rw[Nat.testBit_and];rcases Ca i j with h|h|h
 ·have:=(NG j t).low i h;rw[<-hx]at this;rw[this];simp
 ·subst h;have:(x-1).testBit i=false:=by
   rw[e1,Nat.testBit_two_pow_mul_add _ (by omega),ak (by omega),Aa];simp
  rw[this];simp
 ·have:(x-1).testBit i=x.testBit i:=by
   rw[e1,Nat.testBit_two_pow_mul_add _ (by omega),ak (by omega),hx,Nat.testBit_two_pow_mul];have e3:decide (i>=j)=true:=by simp;omega
   rw[e3,kh];obtain⟨d,hd⟩:∃d,i-j=d+1:=⟨i-j-1,by omega⟩;rw[hd,Nat.testBit_succ,Nat.testBit_succ]
   congr 1
   omega
  rw[this];have e2:decide (i≠j)=true:=by simp;omega
  rw[e2,Bool.and_true,Bool.and_self]
theorem Ct.step(h:Ct T k x lo pre)(hx:x=2 ^ j*(2*t+1))(hj:j<64):Ct T k (x &&& (x-1)) (j+1) (pre++[k*64+j])/\lo<=j:=by
 have hb:x.testBit j=true:=by rw[hx];exact(NG j t).bit
 have jZ:lo<=j:=by
  rcases ig j lo with h1|h1
  ·rw[h.low j h1]at hb;cases hb
  ·exact h1
 refine⟨⟨λp=>?_,λi hi=>?_,by have:=h.len;simp;omega,λi hi=>?_,by omega⟩,jZ⟩
 ·rw[fm,h.mem p,WO hx,eK];constructor
  ·rintro ((h1|⟨h1,h2,h3⟩)|rfl)
   ·exact .inl h1
   ·exact .inr ⟨h1,h2,by rw[h3];rfl⟩
   ·refine .inr ⟨by omega,?_,?_⟩
    ·unfold au;rw[show (k*64+j)/64=k by omega,show (k*64+j)%64=j by omega];exact h.sub j hb
    ·rw[show (k*64+j)%64=j by omega];simp
  ·rintro (h1|⟨h1,h2,h3⟩)
   ·exact .inl (.inl h1)
   ·by_cases e:p%64=j
    ·exact .inr (by omega)
    ·refine .inl (.inr ⟨h1,h2,?_⟩);have e2:decide (p%64≠j)=true:=by simp;exact e
     rw[e2,Bool.and_true]at h3;exact h3
 ·rw[WO hx,de]at hi;exact h.sub i hi.1
 ·rw[WO hx]
  by_cases e:i=j
  ·subst e;simp
  ·have:x.testBit i=false:=by rw[hx];exact(NG j t).low i (by omega)
   rw[this];rfl
abbrev Mem(nw:Nat)(T:Nat->Nat):={p:Nat // p<64*nw/\au T p=true}
def jv{nw:Nat}{T:Nat->Nat}(pre:List (Mem nw T)):List Nat:=pre.map Subtype.val
theorem Dy{nw:Nat}(pre:List (Mem nw T))(x:Mem nw T):jv (pre++[x])=jv pre++[x.1]:=by simp[jv]
theorem fS.keep{w w':zc}(h:fS w)(hk:w'.heap[0]?=w.heap[0]?):fS w':=λi hi=>(show w'.cell? ⟨0,i,zb⟩=w.cell? ⟨0,i,zb⟩from World.cell?_of_block hk).trans (h i hi)
theorem znC(n l nw g cap:Nat)(T:Nat->Nat)(hn:1<=n)(bY:nw<=1000)(J Jx:List (Mem nw T)->zc->Prop)(W:zc)
  (hY:∀pre x W1,J pre W1->pre.length<64*nw->YieldAt Fence.wide (n-1) prog l #[zf .i64 (x.1:Nat)] W1 λe W'=>
   (e=.returned (.bool true)/\J (pre++[x]) W'/\∀k∈[0,g],W'.heap[k]?=W1.heap[k]?)\/(e=.returned (.bool false)/\Jx (pre++[x]) W'))
  (hT:aH W nw g T) (hB:fS W) (h0:J [] W):
  CallsIn Fence.wide n prog 165 #[ze (za ⟨g,0,zb⟩) nw cap,.func (.yield l) #[] #[]] W λe W'=>(∃v,e=.returned v)/\
   ((∃ys,(∀p,p∈jv ys↔p<64*nw/\au T p=true)/\J ys W')\/(∃pre,True/\Jx pre W')):=by
 refine callsIn_of_wp func165 rfl trivial ?_ rfl;simp only[ntmps165,yE,qu,oJ,Nat.reduceAdd,Nat.reduceSub,B4,B5,B9,BW,wX,BX];have HB:Hid (fS W):=hB;clear hB
 gi_wp2
 gi_loopw [8] (λi wr=>∃(k:Nat) (pre:List (Mem nw T)),k<=nw/\i=zf .i64 k/\Hid (Oz T k (jv pre))/\J pre wr/\aH wr nw g T/\Hid (fS wr))
  (λi _=>nw-(intOf i).toNat)
 case atStart=>exact⟨0,[],aR _,rfl,⟨λp=>by simp[jv],by simp[jv]⟩,h0,hT,HB⟩
 case round=>
  obtain⟨k,pre,hk,rfl,HM,If,rK,GG⟩:=hrel
  by_cases hlt:k<nw
  case neg=>
   have bK:k=nw:=by omega
   subst bK
   gi_wp2
   go_end0
   exact⟨⟨_,rfl⟩,.inl ⟨pre,HM.out.mem,If⟩⟩
  have c0:=rK.cell hlt;have da:(0:Int)<=(k:Int):=by omega
  have cO:(k:Int)<(nw:Int):=by omega
  gi_wp2
  gi_loopw [5] (λv wr=>∃(x lo:Nat) (pre:List (Mem nw T)),v=.int .u64 x/\x<18446744073709551616/\Hid (Ct T k x lo (jv pre))/\J pre wr/\aH wr nw g T/\Hid (fS wr))
   (λv _=>(intOf v).toNat)
  case atStart=>exact⟨T k,0,pre,rfl,rK.lt k,HM.out.open_,If,rK,GG⟩
  case round=>
   clear HM If GG c0;obtain⟨x,lo,pre,rfl,hx,HM,If,rK,GG⟩:=hrel
   by_cases h0x:x=0
   ·subst h0x
    gi_wp2
    go_roundw
    case rel=>exact⟨k+1,pre,by omega,by go_num,HM.out.close,If,rK,GG⟩
    case measure=>simp[intOf];omega
   ·obtain⟨j,t,jG⟩:=X6 x x (aj _) (by omega);have hj:j<64:=by
     rcases ig j 64 with h|h
     ·exact h
     ·have h1:2 ^ 64<=2 ^ j:=Nat.pow_le_pow_right (by omega) h;have h2:2 ^ j*1<=2 ^ j*(2*t+1):=Nat.mul_le_mul_left _ (by omega);rw[<-jG,Nat.mul_one]at h2;have:(2:Nat) ^ 64=18446744073709551616:=by decide
      omega
    have hst:=HM.out.step jG hj;have zA:k*64+j<64*nw/\au T (k*64+j)=true:=by
     refine⟨by omega,?_⟩;unfold au;rw[show (k*64+j)/64=k by omega,show (k*64+j)%64=j by omega];exact HM.out.sub j (by rw[jG];exact(NG j t).bit)
    have yJ:Hid (Ct T k (x &&& (x-1)) (j+1) (jv (pre++[(⟨k*64+j,zA⟩:Mem nw T)]))):=by rw[Dy];exact hst.1
    have hlen:pre.length<64*nw:=by have h6:=hst.2;have h5:=HM.out.len;simp only[jv,rf]at h5;omega
    have Hjt:Hid _:=jG;have hxp:0<x:=by omega
    have hne:((x:Int) != 0)=true:=by simp;omega
    have zxA:IntKind.u64.wrap ((x:Int)-1)=((x-1:Nat):Int):=by
     rw[show (x:Int)-1=((x-1:Nat):Int) by omega,Yj,yF (by omega)]
    have hand:=Rb x (x-1) hx (by omega);have hle:x &&& (x-1)<=x-1:=Nat.and_le_right;have htz:=λ(w:zc) (h:Hid (fS w))=>zuf x j t w Hjt hx hxp hj h
    have jo:IntKind.i64.wrap ((k:Int)*64)=((k*64:Nat):Int):=by rw[IntKind.wrap_i64];omega
    obtain⟨fn,tmps,assign,body,hy,hR⟩:=hY pre ⟨k*64+j,zA⟩ wr If hlen;dsimp only at hy;rw[show ((k*64+j:Nat):Int)=(k:Int)*64+(j:Int) by omega]at hy;clear jG hst hY
    gi_wp2_with (refine⟨trivial,?_⟩;gi_at_call 148;refine(callsIn_wide.2 (htz _ GG)).mono ?_;rintro e w' ⟨rfl,hw'⟩;subst w')
    refine hR.mono ?_;rintro e W3 (⟨rfl,K1,rS⟩|⟨rfl,K4⟩)
    ·have lW:aH W3 nw g T:=⟨(rS g (by simp)).trans rK.row,rK.lt⟩;have NT:Hid (fS W3):=GG.out.keep (rS 0 (by simp))
     gi_wp2
     go_roundw
     case rel=>exact⟨x &&& (x-1),j+1,_,by rw[<-hand],by omega,yJ.out,K1,lW,NT⟩
     case measure=>simp[intOf];omega
    ·gi_wp2
     refine bh (results_none rfl _ _ _) rfl ?_;exact⟨⟨_,rfl⟩,.inr ⟨_,trivial,K4⟩⟩
theorem Nd(n nw g cap:Nat)(T:Nat->Nat)(hn:1<=n)(bY:nw<=1000)(w:zc)(hT:aH w nw g T)(hB:fS w):
  SS n prog 165 #[ze (za ⟨g,0,zb⟩) nw cap] #[] (λx:Mem nw T=>#[zf .i64 (x.1:Int)]) [0,g] (λys=>∀p,p∈jv ys↔p<64*nw/\au T p=true) (λ_=>True) (64*nw) w:=
 λl J Jx W hW hY h0=>znC n l nw g cap T hn bY J Jx W hY ⟨(hW g (by simp)).trans hT.row,hT.lt⟩ (hB.keep (hW 0 (by simp))) h0
end Go.Proofs.YtdimhpfiieepiaaGreatDoor
