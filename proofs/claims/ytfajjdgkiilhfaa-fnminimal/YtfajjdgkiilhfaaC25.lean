import Derived.Test.YtfajjdgkiilhfaaC24
import Derived.MapKept
import Derived.Laws.StructEq
import Derived.Laws.Small
namespace Go.Proofs.Ytfajjdgkiilhfaa
open Proofs.Try
open RowKit renaming Hid->za,Below->zB
open Option renaming some->zh,none->zi
open Go renaming Value->zn,World->zx,TypeId->zy
open Value renaming slice->zp,int->zw
set_option maxHeartbeats 8000000
set_option maxRecDepth 100000
open Go.RowKit
attribute [local go_sem ↓] wp_at_zero wp_at_succ
section
variable {n m:Nat}{o wk:List Nat}{mem:Nat -> List Nat}
structure oU(n m:Nat)(o wk:List Nat)(mem:Nat->List Nat):Prop where
 ln:o.length=n
 lt:∀s,s<n->o.getD s 0<m
 mm:∀x,x<m->∀s,s∈mem x↔s<n/\o.getD s 0=x
 nd:∀x,x<m->(mem x).Nodup
 ne:∀x,x<m->0<(mem x).length
 wl:∀b∈wk,b<m
theorem TH:∀(l M:List Nat),l.Nodup->(∀x∈l,x∈M)->l.length<=M.length
 |[],_,_,_=>bH _
 |x::l,M,hn,hs=>by
  have hx:=hs x (by simp);have h1:∀y∈l,y∈M.erase x:=λy hy=>by
   have hne:y≠x:=λe=>by subst e;exact(List.nodup_cons.1 hn).1 hy
   exact(List.mem_erase_of_ne hne).2 (hs y (by simp[hy]))
  have ih:=TH l (M.erase x) (List.nodup_cons.1 hn).2 h1;have:=List.length_erase_of_mem hx;have:=List.length_pos_of_mem hx;simp only[iG];omega
theorem zpb{l M:List Nat}(hn:l.Nodup)(hs:∀x∈l,x∈M)(hl:M.length<=l.length):∀x∈M,x∈l:=λx hx=>by
 by_cases h:x∈l
 ·exact h
 ·have:=TH (x::l) M (List.nodup_cons.2 ⟨h,hn⟩) (λy hy=>by rcases tn.1 hy with e|e;exact e ▸ hx;exact hs y e);simp only[iG]at this;omega
theorem oU.le(h:oU n m o wk mem):m<=n:=by
 have hh:∀x,x<m->(mem x).getD 0 0∈mem x:=λx hx=>kO (h.ne x hx)
 have hp:((List.range m).map λx=>(mem x).getD 0 0).Nodup:=by
  rw[List.nodup_iff_pairwise_ne,List.pairwise_map];refine List.Pairwise.imp_of_mem ?_ (List.nodup_iff_pairwise_ne.1 List.nodup_range);intro a b ha hb hne e;have ha':a<m:=by simpa using ha
  have iQ:b<m:=by simpa using hb
  have h1:=((h.mm a ha' _).1 (hh a ha')).2;have h2:=((h.mm b iQ _).1 (hh b iQ)).2;rw[e]at h1;exact hne (h1.symm.trans h2)
 have:=sT n _ hp (λx hx=>by
  obtain⟨y,hy,rfl⟩:=rS.1 hx;have hy':y<m:=by simpa using hy
  exact((h.mm y hy' _).1 (hh y hy')).1)
 simpa using this
theorem oU.split(h:oU n m o wk mem){b:Nat}(hb:b<m){X Y o':List Nat}(hX:X.Nodup)(hY:Y.Nodup)(N9:0<X.length)(hY0:0<Y.length)(hu:∀s,s∈mem b↔s∈X\/s∈Y)(hd:∀s,s∈X->s∉Y)(hl:o'.length=n)(ho:∀s,s<n->o'.getD s 0=if s∈X then m else o.getD s 0):
  oU n (m+1) o' (wk++[m]) (λx=>if x=m then X else if x=b then Y else mem x):=by
 have Fk:∀s∈X,s<n/\o.getD s 0=b:=λs hs=>(h.mm b hb s).1 ((hu s).2 (.inl hs))
 have Dg:∀s∈Y,s<n/\o.getD s 0=b:=λs hs=>(h.mm b hb s).1 ((hu s).2 (.inr hs))
 refine⟨hl,λs hs=>?_,λx hx s=>?_,λx hx=>?_,λx hx=>?_,λc hc=>?_⟩
 ·rw[ho s hs];have:=h.lt s hs;split<;>omega
 ·by_cases e1:x=m
  ·subst e1;simp only[ae];constructor
   ·intro hs;exact⟨(Fk s hs).1,by rw[ho s (Fk s hs).1,ae hs]⟩
   ·rintro ⟨h1,h2⟩;rw[ho s h1]at h2
    by_cases hs:s∈X
    ·exact hs
    ·rw[ab hs]at h2;have:=h.lt s h1;omega
  ·simp only[ab e1]
   by_cases e2:x=b
   ·subst e2;simp only[ae];constructor
    ·intro hs;have hn:=Dg s hs;exact⟨hn.1,by rw[ho s hn.1,ab (λk=>hd s k hs)];exact hn.2⟩
    ·rintro ⟨h1,h2⟩;rw[ho s h1]at h2
     by_cases hs:s∈X
     ·rw[ae hs]at h2;omega
     ·rw[ab hs]at h2;exact((hu s).1 ((h.mm x hb s).2 ⟨h1,h2⟩)).resolve_left hs
   ·simp only[ab e2];rw[h.mm x (by omega) s];constructor
    ·rintro ⟨h1,h2⟩;exact⟨h1,by rw[ho s h1,ab (λk=>e2 (h2.symm.trans (Fk s k).2))];exact h2⟩
    ·rintro ⟨h1,h2⟩;rw[ho s h1]at h2
     by_cases hs:s∈X
     ·rw[ae hs]at h2;omega
     ·rw[ab hs]at h2;exact⟨h1,h2⟩
 ·by_cases e1:x=m
  ·simp only[ae e1];exact hX
  ·simp only[ab e1]
   by_cases e2:x=b
   ·simp only[ae e2];exact hY
   ·simp only[ab e2];exact h.nd x (by omega)
 ·by_cases e1:x=m
  ·simp only[ae e1];exact N9
  ·simp only[ab e1]
   by_cases e2:x=b
   ·simp only[ae e2];exact hY0
   ·simp only[ab e2];exact h.ne x (by omega)
 ·rcases gH.1 hc with k|k
  ·have:=h.wl c k;omega
  ·have:c=m:=by simpa using k
   omega
structure EJ(n:Nat)(m:Nat)(o wk:List Nat)(m':Nat)(o' wk':List Nat)(aH:List Nat):Prop where
 iff:∀s t,s<n->t<n->(o'.getD s 0=o'.getD t 0↔o.getD s 0=o.getD t 0/\(s∈aH↔t∈aH))
 num:∀s,s<n->o'.getD s 0=o.getD s 0\/o'.getD s 0∈wk'
 up:∀b∈wk,b∈wk'
 le:m<=m'
 wl:wk'.length+m=wk.length+m'
def SpR(gt:Nat)(W:zx)(p n m g:Nat)(v:Nat->zn)(l:Nat->List Int)(N:Nat)(o wk aH:List Nat)(e:Ending)(w':zx):Prop:=
 e=.returned (.tuple #[])/\∃g' c' m' mi' v' l' N' o' wk' B5,dE gt w' p (zp (zh ⟨g',0,zi⟩) m' c') m' mi' v' l' N' o' wk' B5/\oU n m' o' wk' B5/\EJ n m o wk m' o' wk' aH/\N<=N'/\(∀i,2<=i->i<N->v' i=v i/\l' i=l i)/\zB (gt+1) W w'/\jj g W w'/\(g'=g\/W.heap.size<=g')
theorem EJ.whole(h:oU n m o wk mem){b:Nat}(hb:b<m){aH:List Nat}(hn:aH.Nodup)(hg:∀s∈aH,s∈mem b)(hl:(mem b).length=aH.length):EJ n m o wk m o wk aH:=by
 have cj:=zpb hn hg (by omega);refine⟨λs t hs ht=>⟨λe=>⟨e,?_⟩,λe=>e.1⟩,λ_ _=>.inl rfl,λ_ k=>k,ax _,rfl⟩;have key:∀s,s<n->(s∈aH↔o.getD s 0=b):=λs hs=>⟨λk=>((h.mm b hb s).1 (hg s k)).2,λk=>cj s ((h.mm b hb s).2 ⟨hs,k⟩)⟩
 rw[key s hs,key t ht,e]
theorem EJ.part(h:oU n m o wk mem){b:Nat}(hb:b<m){aH X o':List Nat}(hg:∀s∈aH,s∈mem b)(hX:(∀s,s<n->(s∈X↔s∈aH))\/(∀s,s<n->(s∈X↔o.getD s 0=b/\s∉aH)))(ho:∀s,s<n->o'.getD s 0=if s∈X then m else o.getD s 0):EJ n m o wk (m+1) o' (wk++[m]) aH:=by
 refine⟨λs t hs ht=>?_,λs hs=>?_,λc hc=>by simp[hc],by omega,by simp;omega⟩
 ·have:=zq9 (of:=λs=>o.getD s 0) h.lt (λs hs=>((h.mm b hb s).1 (hg s hs)).2) hX hs ht;unfold UF at this;rw[ho s hs,ho t ht];exact this
 ·rw[ho s hs]
  by_cases k:s∈X
  ·rw[ae k];exact .inr (by simp)
  ·rw[ab k];exact .inl rfl
end
section
variable {gt n g p m N bu cm:Nat}{W w W':zx}{v:Nat -> zn}{l:Nat -> List Int}{mv:zn}{mi:Nat -> Nat}{o wk aH M:List Nat}{mem:Nat -> List Nat}
theorem aS.wR(h:aS gt n W v l){i:Nat}(hi:i<n){xs:List Nat}(hl:l i=aO xs)(h0:0<xs.length):∃g c,v i=zp (zh ⟨g,0,zi⟩) xs.length c/\∀j,j<xs.length->W.cell? ⟨g,j,zi⟩=zh (zw .i64 ((xs.getD j 0:Nat):Int)):=by
 have ho:=h.own i hi;rw[hl]at ho;obtain⟨g,c,e,_,_,hc⟩:=pC ho (by rw[cW];exact h0);rw[cW]at e hc;exact⟨g,c,e,λj hj=>by rw[hc j hj,uu]⟩
structure ia(gt g:Nat)(w W:zx):Prop where
 below:zB (gt+1) w W
 kp:jj g w W
theorem ia.refl(gt g:Nat)(w:zx):ia gt g w w:=⟨Below.refl _ _,jj.refl _ _⟩
theorem ia.on(h:ia gt g w W)(hs:gt+1<=W.heap.size)(hb:zB W.heap.size W W'):ia gt g w W':=⟨h.below.trans (hb.mono hs),h.kp.trans (jj.below hb)⟩
theorem ia.aq(h:ia gt g w W)(hs:gt+1<=W.heap.size)(hF:aS gt n W v l){i:Nat}(hi:i<n)(hg:W.grownBy W' (v i).ownBlock):ia gt g w W':=
 ⟨h.below.grown hg hs (λ_ hb=>(eN (hF.own i hi) hb).1),h.kp.trans (jj.aq hF hi hg)⟩
theorem ia.set(h:ia gt g w W){q j:Nat}{u:zn}{cs:Array zn}{e:zy}(eK:gt+1<=q)(hg:W.heap[q]?=zh (.cells cs e (0,0)))(he:e=3\/e=66\/q=g):ia gt g w (W.setCell ⟨q,j,zi⟩ u):=
 ⟨h.below.setCell eK _,h.kp.trans (jj.set hg he)⟩
theorem ia.slices{k cap:Nat}{xs:List zn}(h:ia gt g w W)(hs:gt+1<=W.heap.size)(ho:W.ownsRow (gt+1) 23 1 (zp (zh ⟨g,0,zi⟩) k cap) k xs)(hg:W.grownBy W' (zh g)):ia gt g w W':=
 ⟨h.below.grown hg hs (λ_ hb=>by cases hb;exact(nW ho).1),h.kp.trans (jj.grown hg λ_ e=>by cases e;exact .inr rfl)⟩
theorem dE.zyn(h:dE gt W p mv m mi v l N o wk mem){go n co:Nat}(hv:v 0=zp (zh ⟨go,0,zi⟩) n co)(hn:o.length=n){s:Nat}(hs:s<n):W.cell? ⟨go,s,zi⟩=zh (zw .i64 ((o.getD s 0:Nat):Int))/\W.frozen? ⟨go,s,zi⟩=false:=by
 have h2:=h.two;obtain⟨g,c,e,hc⟩:=h.aq.wR (i:=0) (by omega) h.l0 (by omega);rw[hv,hn]at e;cases e;obtain⟨a9,Ao⟩:=jx (h.aq.own 0 (by omega)) (b:=go) (by rw[hv];rfl);exact⟨hc s (by omega),aR _ _ s _ _ Ao⟩
theorem dE.zBl(h:dE gt W p mv m mi v l N o wk mem){i g n c:Nat}(hi:i<N){xs:List Nat}(hl:l i=aO xs)(hv:v i=zp (zh ⟨g,0,zi⟩) n c)(hn:xs.length=n){j:Nat}(hj:j<n):W.cell? ⟨g,j,zi⟩=zh (zw .i64 ((xs.getD j 0:Nat):Int)):=by
 obtain⟨g',c',e,hc⟩:=h.aq.wR hi hl (by omega);rw[hv,hn]at e;cases e;exact hc j (by omega)
theorem dE.Ti(h:dE gt W p (zp (zh ⟨bu,0,zi⟩) m cm) m mi v l N o wk mem){x:Nat}(hx:x<m):W.cell? ⟨bu,x,zi⟩=zh (v (mi x))/\W.frozen? ⟨bu,x,zi⟩=false:=by
 have:=h.out.cellAt x (by omega);rw[Uz _ _ hx]at this;obtain⟨a9,Ao⟩:=vw h.out;exact⟨this,aR _ _ x _ _ Ao⟩
def gV(aH xs:List Nat):List Nat:=xs.filter λs=>decide (s∉aH)
theorem ziF(aH xs:List Nat)(s:Nat):gV aH (xs++[s])=if s∈aH then gV aH xs else gV aH xs++[s]:=by
 unfold gV;rw[JQ]
 by_cases h:s∈aH
 ·rw[ae h];simp[h]
 ·rw[ab h];simp[h]
theorem zpx(hM:M.Nodup)(h:aH.length<M.length):0<(gV aH M).length:=by
 rcases JS (gV aH M).length with e|e
 ·have he:gV aH M=[]:=qj e;have:∀x∈M,x∈aH:=λx hx=>by
   by_cases k:x∈aH
   ·exact k
   ·have:x∈gV aH M:=List.mem_filter.2 ⟨hx,by simpa using k⟩;rw[he]at this;cases this
  have:=TH M aH hM this;omega
 ·exact e
theorem Jz{s:Nat}:s∈gV aH M↔s∈M/\s∉aH:=by simp[gV]
theorem zmQ(aH xs:List Nat):(gV aH xs).length<=xs.length:=List.length_filter_le _ _
theorem zrq(gi:Nat)(aH:List Nat)(w:zx)(hS:dE gt w p (zp (zh ⟨bu,0,zi⟩) m cm) m mi v l N o wk mem)(hP:oU n m o wk mem)(Fv:2<=gi/\gi<N)(YQ:l gi=aO aH)(oD:aH.Nodup)(rj:0<aH.length)(hn4:n<=4000)(hwk:wk.length<=1000000)
  (BU:∀s∈aH,s∈mem (o.getD (aH.getD 0 0) 0)) (tW:∀s∈aH,s<n):
  Calls prog 50 #[.pointer (zh ⟨p,0,zi⟩),v gi] w (SpR gt w p n m bu v l N o wk aH):=by
 obtain⟨iS,Aw,AM,AO,AP⟩:=info_parts Try.ZO;have Fb:=hS.two;have kI:=tW _ (kO rj);have aG:=hP.lt _ kI;have YU:0<m:=by omega
 have k8:=hP.le;obtain⟨gg,cg,eg,hcg⟩:=hS.aq.wR Fv.2 YQ rj;obtain⟨go,co,eo,Oq⟩:=hS.aq.wR (i:=0) (by omega) hS.l0 (by rw[hP.ln];omega);rw[hP.ln]at eo Oq;have BV:=hP.ne _ aG;have YK:=hS.idx _ aG;obtain⟨gb,cb,eb,kH⟩:=hS.aq.wR YK.2 (hS.lm _ aG) BV;have Lr:(mem (o.getD (aH.getD 0 0) 0)).length<=n:=sT n _ (hP.nd _ aG) (λs hs=>((hP.mm _ aG s).1 hs).1);have jU:aH.length<=(mem (o.getD (aH.getD 0 0) 0)).length:=TH _ _ oD BU;have bN:=hS.box;rw[eo]at bN;obtain⟨q0,q1,q2⟩:=ur bN;have c0:=hcg 0 rj;have c1:=Oq _ kI;have c2:=hS.out.cellAt _ (by rw[Nat.mul_one];exact aG);rw[Uz _ _ aG,eb]at c2;have HS:za _:=hS;have HP:za _:=hP;have Kf:za _:=BU;have VT:za _:=oD;have Q7:za _:=eg;have Nm:za _:=eo;have Heb:za _:=eb;have CO:za _:=kH;have VG:za _:=Oq;have Hlg:za _:=YQ;have VC:za (∀s∈mem (o.getD (aH.getD 0 0) 0),s<n/\o.getD s 0=o.getD (aH.getD 0 0) 0):=λs hs=>(hP.mm _ aG s).1 hs
 rw[eg];have cG:((o.getD (aH.getD 0 0) 0:Nat):Int)<(m:Int):=by omega
 have fA:((aH.getD 0 0:Nat):Int)<(n:Int):=by omega
 have oy:(0:Int)<(aH.length:Int):=by omega
 generalize zAT:aH.getD 0 0=s0 at *;generalize pi:o.getD s0 0=b0 at *;have QY:za _:=pi;clear zAT pi hS hP BU oD eg eo eb kH Oq YQ hcg bN
 go_enter func50,ntmps50
 go_wp2
 go_quiet (fail)
 by_cases hle:aH.length=(mem b0).length
 ·have zAC:((aH.length:Int)==((mem b0).length:Int))=true:=by simp[hle]
  have Hle:za _:=hle;clear hle;go_wp2
  go_end0
  exact⟨rfl,bu,cm,m,mi,v,l,N,o,wk,mem,HS.out.on (below_drewN (Below.refl _ _) nq),HP.out,EJ.whole HP.out aG VT.out Kf.out Hle.out.symm,ax _,λ_ _ _=>⟨rfl,rfl⟩,((ia.refl gt bu w).on HS.out.size (below_drewN (Below.refl _ _) nq)).below,((ia.refl gt bu w).on HS.out.size (below_drewN (Below.refl _ _) nq)).kp,.inl rfl⟩
 ·have zAC:((aH.length:Int)==((mem b0).length:Int))=false:=by simp;omega
  have fj:za _:=HS.out.on (below_drewN (Below.refl _ _) nq);have zxq:=zjc (n:=n) gi m o aH (w.drewN nq) fj.out.aq fj.out.box (by omega) Fv.2 (by omega) HP.out.ln (by omega) fj.out.l0 Hlg.out tW rj (by omega) _ Q7.out.symm
  go_wp2_with fail
  refine zxq.mono ?_;rintro e w2 ⟨rfl,hF2,dH⟩;have fS:za _:=fj.out.label hF2 dH;have tB:za (ia gt bu w w2):=((ia.refl gt bu w).on HS.out.size (below_drewN (Below.refl _ _) nq)).aq fj.out.size fj.out.aq (i:=0) (by omega) dH;have Re:za (∀s,s<n->(kw o aH m).getD s 0=if s∈aH then m else o.getD s 0):=λs hs=>zfG aH m o s (by rw[HP.out.ln];exact hs)
  have CP:za ((kw o aH m).length=n):=by show _=_;rw[DN];exact HP.out.ln
  generalize Lv:kw o aH m=o1 at *;clear Lv;have tF:za _:=fS.out.new;obtain⟨W3,sA⟩:∃W3,w2.alloc (.cells #[] 3)=W3:=⟨_,rfl⟩;have Bk:za (ia gt bu w W3):=by
   rw[<-sA];exact tB.out.on fS.out.size (aC)
  rw[sA]at tF;have cN:=tF.out.box;rw[bW _ _ (by omega),bW _ _ (by omega)]at cN;obtain⟨r0,r1,r2⟩:=ur cN;have m3:=(tF.out.Ti aG).1;rw[bW _ _ (by omega),Heb.out]at m3;clear zxq hF2 dH fS fj q0 q1 q2 c0 c1 c2 cN tB;go_wp2
  go_loopw [6,49] (λrv i wr=>∃(j g c:Nat) (v':Nat->zn) (l':Nat->List Int),j<=(mem b0).length/\i=zw .i64 j/\rv=zp (zh ⟨g,0,zi⟩) (gV aH ((mem b0).take j)).length c/\za (v' N=zp (zh ⟨g,0,zi⟩) (gV aH ((mem b0).take j)).length c/\l' N=aO (gV aH ((mem b0).take j))/\∀i,i<N->v' i=v i/\l' i=bq l 0 (aO o1) i)/\za (dE gt wr p (zp (zh ⟨bu,0,zi⟩) m cm) m mi v' l' (N+1) o1 wk mem/\ia gt bu w wr))
   (λ_ i _=>(mem b0).length-(intOf i).toNat)
  case atStart=>exact⟨0,_,_,_,_,bH _,rfl,rfl,⟨fN _ _ _,ez _ _ _,λi hi=>⟨bW _ _ (by omega),a8 _ _ (by omega)⟩⟩,tF.out,Bk.out⟩
  case round=>
   clear tF Bk r0 r1 r2 m3 sA;obtain⟨j,g,c,v',l',hj,rfl,rfl,bS,iP⟩:=hrel
   by_cases e8:j<(mem b0).length
   ·have OG:(j:Int)<((mem b0).length:Int):=by omega
    have cN:=iP.out.1.box;rw[(bS.out.2.2 0 (by omega)).1,Nm.out]at cN;obtain⟨r0,r1,r2⟩:=ur cN;have c3:=iP.out.1.zBl (i:=mi b0) (by omega) (iP.out.1.lm b0 aG) ((bS.out.2.2 _ YK.2).1.trans Heb.out) rfl e8;obtain⟨sn,sb⟩:=VC.out _ (kO e8);have c4:=(iP.out.1.zyn ((bS.out.2.2 0 (by omega)).1.trans Nm.out) CP.out sn).1;rw[Re.out _ sn,sb]at c4;have HT:za _:=PR e8;have nO:=zmQ aH ((mem b0).take j);have yO:((mem b0).take j).length=j:=by rw[nr];omega
    rw[yO]at nO;have IG:(((mem b0).getD j 0:Nat):Int)<(n:Int):=by omega
    have I1:=iP.out.1.size;have Hf3:za _:=iP.out.1.aq;clear yO cN sb sn;generalize (mem b0).getD j 0=s1 at *;generalize hrf:gV aH ((mem b0).take j)=rf at *;have Hrf:za _:=hrf;clear hrf
    by_cases I2:s1∈aH
    ·rw[ae I2]at c4;have hne:((m:Int)==(b0:Int))=false:=by simp;omega
     go_wp2
     go_roundw
     case rel=>
      have e:gV aH ((mem b0).take (j+1))=rf:=by rw[HT.out,ziF,ae I2,Hrf.out]
      exact⟨j+1,g,c,v',l',by omega,by go_num,by rw[e],⟨by rw[e];exact bS.out.1,by rw[e];exact bS.out.2.1,bS.out.2.2⟩,iP.out⟩
     case measure=>simp[intOf];omega
    ·rw[ab I2]at c4;have hne:((b0:Int)==(b0:Int))=true:=by simp
     go_wp2_with (at_builtin;refine jw Hf3.out _ rfl rfl (.tmp 62) (.tmp 64) rfl N (by omega) (aO rf) bS.out.2.1 rf.length (cW _) (by exact bS.out.1.symm) (s1:Int) rfl (by omega) I1 ?_;intro g4 zX w4 nI BS)
     go_roundw
     case rel=>
      have e:gV aH ((mem b0).take (j+1))=rf++[s1]:=by rw[HT.out,ziF,ab I2,Hrf.out]
      have hR:=iP.out.1.row (i:=N) (by omega) (by omega) (λx hx=>by have:=(HS.out.idx x hx).2;omega) nI BS;refine⟨j+1,g4,zX,_,_,by omega,by go_num,by rw[e];simp,⟨by rw[e,fN];simp,by rw[e,ez];simp[aO],λi hi=>?_⟩,hR,iP.out.2.aq I1 iP.out.1.aq (i:=N) (by omega) BS⟩;rw[bW _ _ (by omega),a8 _ _ (by omega)];exact bS.out.2.2 i hi
     case measure=>simp[intOf];omega
   ·have me:j=(mem b0).length:=by omega
    subst me;rw[th]at bS ⊢;have VZ:za (0<(gV aH (mem b0)).length):=zpx (HP.out.nd b0 aG) (by omega);have nO:=zmQ aH (mem b0);have VQ:za (l' gi=aO aH):=by show _=_;rw[(bS.out.2.2 gi Fv.2).2,a8 _ _ (by omega)];exact Hlg.out
    by_cases hlt:(gV aH (mem b0)).length<aH.length
    ·have yG:((gV aH (mem b0)).length:Int)<(aH.length:Int):=by omega
     have hrb:∀s∈gV aH (mem b0),s<n:=λs hs=>(VC.out s (Jz.1 hs).1).1
     have zxr:=zjc (n:=n) N m o1 (gV aH (mem b0)) wr iP.out.1.aq iP.out.1.box (by omega) (by omega) (by omega) CP.out (by omega) iP.out.1.l0 bS.out.2.1 hrb VZ.out (by omega) _ bS.out.1.symm
     go_wp2_with fail
     refine zxr.mono ?_;rintro e w5 ⟨rfl,nJ,dF⟩;have GY:za _:=iP.out.1.label nJ dF;have J1:za (ia gt bu w w5):=iP.out.2.aq iP.out.1.size iP.out.1.aq (i:=0) (by omega) dF;have zxs:=zjc (n:=n) gi b0 (kw o1 (gV aH (mem b0)) m) aH w5 GY.out.aq GY.out.box (by omega) (by omega) (by omega) (by rw[DN];exact CP.out) (by omega) GY.out.l0 (by rw[a8 _ _ (by omega)];exact VQ.out) tW rj (by omega) _ ((bS.out.2.2 gi Fv.2).1.trans Q7.out).symm;clear zxr nJ dF
     go_wp2_with fail
     refine zxs.mono ?_;rintro e w6 ⟨rfl,uV,ow⟩;have lG:za _:=GY.out.label uV ow;have EB:za (ia gt bu w w6):=J1.out.aq GY.out.size GY.out.aq (i:=0) (by omega) ow;have HoB:za (∀s,s<n->(kw (kw o1 (gV aH (mem b0)) m) aH b0).getD s 0=if s∈gV aH (mem b0) then m else o.getD s 0):=λs hs=>by
      rw[zfG _ _ _ s (by rw[DN,CP.out];exact hs),zfG _ _ _ s (by rw[CP.out];exact hs),Re.out s hs]
      by_cases k:s∈aH
      ·have k2:s∉gV aH (mem b0):=λe=>(Jz.1 e).2 k
       rw[ae k,ab k2];exact(VC.out s (Kf.out s k)).2.symm
      ·rw[ab k,ab k]
     have HlB:za ((kw (kw o1 (gV aH (mem b0)) m) aH b0).length=n):=by show _=_;rw[DN,DN];exact CP.out
     have zy4:za (bq (bq l' 0 (aO (kw o1 (gV aH (mem b0)) m))) 0 (aO (kw (kw o1 (gV aH (mem b0)) m) aH b0)) gi=aO aH):=by
      show _=_;rw[a8 _ _ (by omega),a8 _ _ (by omega)];exact VQ.out
     have zy3:za (bq (bq l' 0 (aO (kw o1 (gV aH (mem b0)) m))) 0 (aO (kw (kw o1 (gV aH (mem b0)) m) aH b0)) N=aO (gV aH (mem b0))):=by
      show _=_;rw[a8 _ _ (by omega),a8 _ _ (by omega)];exact bS.out.2.1
     clear zxs uV ow GY J1;generalize kw (kw o1 (gV aH (mem b0)) m) aH b0=oB at *;have mc:=lG.out.Ti aG;obtain⟨mc1,mc2⟩:=mc;obtain⟨⟨a1,p1⟩,e1⟩:=cJ (lG.out.aq.own 1 (by omega));rw[lG.out.l1,cW]at e1;have uJ:za _:=e1;have tC:=lG.out.zyk (b:=b0) (i:=gi) ⟨by omega,by omega⟩ zy4.out;rw[((bS.out.2.2 gi Fv.2).1.trans Q7.out)]at tC;obtain⟨W4,uX⟩:∃W4,w6.setCell ⟨bu,b0,zi⟩ (zp (zh ⟨gg,0,zi⟩) aH.length cg)=W4:=⟨_,rfl⟩;rw[uX]at tC;have HM:za _:=tC;have GS:za (ia gt bu w W4):=by
      obtain⟨a9,Ao⟩:=vw lG.out.out;rw[<-uX];exact EB.out.set (nW lG.out.out).1 Ao (.inr (.inr rfl))
     have bX:=lG.out.box;obtain⟨x0,x1,x2⟩:=ur bX;have b4:=tC.box;obtain⟨z0,z1,z2⟩:=ur b4;rw[e1]at z2;have vg:=tC.size;have CR:za _:=tC.out;clear tC e1 bX b4 x0 x2
     go_wp2_with (first|(at_builtin;refine AZ W4 _ rfl rfl (.tmp 95) (.tmp 97) 64 rfl (gt+1) 23 iS (zp zi 0 0) 24 underlying64 Aw AM AO AP rfl bu cm m (sJ v' (wX mi b0 gi) m) (zp (zh ⟨g,0,zi⟩) (gV aH (mem b0)).length c) rfl CR.out rfl rfl (by omega) (by omega) vg ?_;intro g5 c5 w5 pW dF Ah;have fK:za (g5=bu\/w.heap.size<=g5):=Ah.imp id (λe=>by have:=GS.out.below.size;omega);have jh:za _:=HM.out.members (i:=N) ⟨by omega,by omega⟩ zy3.out dF (by rw[bS.out.1];exact pW);have J1:za (ia gt bu w w5):=GS.out.slices vg CR.out dF;have tL:=jh.out.1;obtain⟨y0,y1,y2⟩:=ur tL;rw[uJ.out]at y2;have fz:=aR _ _ 1 _ _ tL;clear tL pW dF Ah)|(at_builtin;refine jw jh.out.2.aq w5.heap.size (by simp[World.setCell]) rfl (.tmp 105) (.tmp 107) rfl 1 (by omega) (aO wk) jh.out.2.l1 wk.length (cW _) (by exact uJ.out.symm) (m:Int) rfl (by omega) jh.out.2.size ?_;intro g6 c6 w7 wy pP;have tD:za _:=jh.out.2.work (wk':=wk++[m]) (by rw[show aO (wk++[m])=aO wk++[(m:Int)] by simp[aO]];exact wy) pP;have GU:za (ia gt bu w _):=((J1.out.set HS.out.sM jh.out.1 (.inr (.inl rfl))).aq jh.out.2.size jh.out.2.aq (i:=1) (by omega) pP);have Ht:=tD.out.1;obtain⟨t0,t1,t2⟩:=ur Ht;rw[uJ.out]at t2;have f7:=aR _ _ 2 _ _ Ht;clear Ht wy pP))
     go_end0
     have MW:=GU.out.set (j:=2) (u:=zp (zh ⟨g6,0,zi⟩) (wk.length+1) c6) HS.out.sM tD.out.1 (.inr (.inl rfl));refine⟨rfl,g5,c5,m+1,_,_,_,N+1,oB,wk++[m],_,tD.out.2,HP.out.split aG (List.Pairwise.filter _ (HP.out.nd b0 aG)) VT.out VZ.out rj (λs=>?_) (λs h1 h2=>(Jz.1 h1).2 h2) HlB.out HoB.out,EJ.part HP.out aG Kf.out (.inr λs hs=>?_) HoB.out,by omega,λi h2 hi=>?_,MW.below,MW.kp,fK.out⟩
     ·rw[Jz];constructor
      ·intro h
       by_cases k:s∈aH
       ·exact .inr k
       ·exact .inl ⟨h,k⟩
      ·rintro (h|h)
       ·exact h.1
       ·exact Kf.out s h
     ·rw[Jz,HP.out.mm b0 aG s];exact⟨λh=>⟨h.1.2,h.2⟩,λh=>⟨⟨hs,h.1⟩,h.2⟩⟩
     ·rw[bW _ _ (by omega),a8 _ _ (by omega),a8 _ _ (by omega),a8 _ _ (by omega),(bS.out.2.2 i hi).1,(bS.out.2.2 i hi).2,a8 _ _ (by omega)];exact⟨rfl,rfl⟩
    ·have yG:¬((gV aH (mem b0)).length:Int)<(aH.length:Int):=by omega
     have mc:=iP.out.1.Ti aG;obtain⟨mc1,mc2⟩:=mc;obtain⟨⟨a1,p1⟩,e1⟩:=cJ (iP.out.1.aq.own 1 (by omega));rw[iP.out.1.l1,cW]at e1;have uJ:za _:=e1;have tC:=iP.out.1.zyk (b:=b0) (i:=N) ⟨by omega,by omega⟩ bS.out.2.1;rw[bS.out.1]at tC;obtain⟨W4,uX⟩:∃W4,wr.setCell ⟨bu,b0,zi⟩ (zp (zh ⟨g,0,zi⟩) (gV aH (mem b0)).length c)=W4:=⟨_,rfl⟩;rw[uX]at tC;have HM:za _:=tC;have GS:za (ia gt bu w W4):=by
      obtain⟨a9,Ao⟩:=vw iP.out.1.out;rw[<-uX];exact iP.out.2.set (nW iP.out.1.out).1 Ao (.inr (.inr rfl))
     have bX:=iP.out.1.box;obtain⟨x0,x1,x2⟩:=ur bX;have b4:=tC.box;obtain⟨z0,z1,z2⟩:=ur b4;rw[e1]at z2;have vg:=tC.size;have CR:za _:=tC.out;clear tC e1 bX b4 x0 x2
     go_wp2_with (first|(at_builtin;refine AZ W4 _ rfl rfl (.tmp 95) (.tmp 97) 64 rfl (gt+1) 23 iS (zp zi 0 0) 24 underlying64 Aw AM AO AP rfl bu cm m (sJ v' (wX mi b0 N) m) (zp (zh ⟨gg,0,zi⟩) aH.length cg) rfl CR.out rfl rfl (by omega) (by omega) vg ?_;intro g5 c5 w5 pW dF Ah;have fK:za (g5=bu\/w.heap.size<=g5):=Ah.imp id (λe=>by have:=GS.out.below.size;omega);have jh:za _:=HM.out.members (i:=gi) ⟨by omega,by omega⟩ VQ.out dF (by rw[((bS.out.2.2 gi Fv.2).1.trans Q7.out)];exact pW);have J1:za (ia gt bu w w5):=GS.out.slices vg CR.out dF;have tL:=jh.out.1;obtain⟨y0,y1,y2⟩:=ur tL;rw[uJ.out]at y2;have fz:=aR _ _ 1 _ _ tL;clear tL pW dF Ah)|(at_builtin;refine jw jh.out.2.aq w5.heap.size (by simp[World.setCell]) rfl (.tmp 105) (.tmp 107) rfl 1 (by omega) (aO wk) jh.out.2.l1 wk.length (cW _) (by exact uJ.out.symm) (m:Int) rfl (by omega) jh.out.2.size ?_;intro g6 c6 w7 wy pP;have tD:za _:=jh.out.2.work (wk':=wk++[m]) (by rw[show aO (wk++[m])=aO wk++[(m:Int)] by simp[aO]];exact wy) pP;have GU:za (ia gt bu w _):=((J1.out.set HS.out.sM jh.out.1 (.inr (.inl rfl))).aq jh.out.2.size jh.out.2.aq (i:=1) (by omega) pP);have Ht:=tD.out.1;obtain⟨t0,t1,t2⟩:=ur Ht;rw[uJ.out]at t2;have f7:=aR _ _ 2 _ _ Ht;clear Ht wy pP))
     go_end0
     have MW:=GU.out.set (j:=2) (u:=zp (zh ⟨g6,0,zi⟩) (wk.length+1) c6) HS.out.sM tD.out.1 (.inr (.inl rfl));refine⟨rfl,g5,c5,m+1,_,_,_,N+1,o1,wk++[m],_,tD.out.2,HP.out.split aG VT.out (List.Pairwise.filter _ (HP.out.nd b0 aG)) rj VZ.out (λs=>?_) (λs h1 h2=>(Jz.1 h2).2 h1) CP.out Re.out,EJ.part HP.out aG Kf.out (.inl λ_ _=>Iff.rfl) Re.out,by omega,λi h2 hi=>?_,MW.below,MW.kp,fK.out⟩
     ·rw[Jz];constructor
      ·intro h
       by_cases k:s∈aH
       ·exact .inl k
       ·exact .inr ⟨h,k⟩
      ·rintro (h|h)
       ·exact Kf.out s h
       ·exact h.1
     ·rw[bW _ _ (by omega),a8 _ _ (by omega),(bS.out.2.2 i hi).1,(bS.out.2.2 i hi).2,a8 _ _ (by omega)];exact⟨rfl,rfl⟩
end
section
variable {P:Program}
abbrev Tr:=Nat×Nat×Nat×Nat×Nat
def kq(t:Tr):Array zn:=#[.int .u64 (t.1:Int),.int .u64 (t.2.1:Int),.int .u64 (t.2.2.1:Int),.int .u64 (t.2.2.2.1:Int),.int .u64 (t.2.2.2.2:Int)]
def jv(t:Tr):zn:=.agg (kq t)
theorem ztS(s t:Tr):((s.1:Int)==(t.1:Int)&&((s.2.1:Int)==(t.2.1:Int)&&((s.2.2.1:Int)==(t.2.2.1:Int)&&((s.2.2.2.1:Int)==(t.2.2.2.1:Int)&&(s.2.2.2.2:Int)==(t.2.2.2.2:Int)))))=decide (s=t):=by
 obtain⟨a,b,c,d,e⟩:=s;obtain⟨a',b',c',d',e'⟩:=t
 by_cases h:(a,b,c,d,e)=(a',b',c',d',e')
 ·rw[decide_eq_true h];simp only[Prod.mk.injEq]at h;simp[h]
 ·rw[decide_eq_false h];simp only[Prod.mk.injEq]at h;simp only[Bool.and_eq_false_iff,lX,ne_eq];omega
theorem Try.zwr(s t:Tr)(w:zx):(Op.equalIn 10000 72 (jv s) (jv t)).run prog w=.ok (decide (s=t)) w:=by
 have u3:=underlying70;have a3:=isAgg70;have z3:=sizeOf70;rw[<-ztS];unfold jv kq;rw[show (10000:Nat)=9999+1 from rfl,Op.equalIn];simp only[Sem.run_bind,run_underlying underlying72,Result.andThen_ok];simp only[Std.Legacy.Range.forIn_eq_forIn_range',Std.Legacy.Range.size,Nat.sub_zero,Ek,Nat.div_one,List.range'_succ,List.range'_zero,List.forIn_cons,List.forIn_nil]
 go_simp
 by_cases h1:(s.1:Int)=(t.1:Int)<;>by_cases h2:(s.2.1:Int)=(t.2.1:Int)<;>by_cases h3:(s.2.2.1:Int)=(t.2.2.1:Int)<;>by_cases h4:(s.2.2.2.1:Int)=(t.2.2.2.1:Int)<;>by_cases h5:(s.2.2.2.2:Int)=(t.2.2.2.2:Int)<;>simp[h1,h2,h3,h4,h5]
theorem Try.zzB(e:Bool)(t:Tr)(w:zx):(Instr.checkKey e 10000 72 (jv t)).run prog w=.ok () w:=by
 have u3:=underlying70;have a3:=isAgg70;have z3:=sizeOf70;have hk:∀x:Int,(Instr.checkKey e 9999 70 (.int .u64 x)).run prog w=.ok () w:=λx=>MapKept.run_checkKey underlying70 (by simp[MapKept.IsKey]) e 9998
 unfold jv kq;rw[show (10000:Nat)=9999+1 from rfl,Instr.checkKey];simp only[Sem.run_bind,run_underlying underlying72,Result.andThen_ok];simp only[Std.Legacy.Range.forIn_eq_forIn_range',Std.Legacy.Range.size,Nat.sub_zero,Ek,Nat.div_one,List.range'_succ,List.range'_zero,List.forIn_cons,List.forIn_nil]
 go_simp
def rI{κ:Type}(enc:κ->zn)(ks:List κ):List MapEntry:=ks.zipIdx.map λx=>{key:=enc x.1,val:=zw .i64 (x.2:Int),born:=x.2}
def ju{κ:Type}(enc:κ->zn)(ks:List κ):Array MapEntry:=(rI enc ks).toArray
theorem zpt{κ:Type}(enc:κ->zn)(ks:List κ)(k:κ):rI enc (ks++[k])=rI enc ks++[{key:=enc k,val:=zw .i64 (ks.length:Int),born:=ks.length}]:=by simp[rI,List.zipIdx_append]
theorem zps{κ:Type}(enc:κ->zn)(ks:List κ)(k:κ):(ju enc ks).push {key:=enc k,val:=zw .i64 (ks.length:Int),born:=ks.length}=ju enc (ks++[k]):=by
 unfold ju;rw[zpt];simp
theorem zkI{κ:Type}(enc:κ->zn)(ks:List κ):(ju enc ks).size=ks.length:=by simp[ju,rI]
def eT{κ:Type} [DecidableEq κ] (ks:List κ)(k:κ):Nat:=ks.findIdx λx=>decide (k=x)
def Cm{κ:Type} [DecidableEq κ] (ks:List κ)(k:κ):Option (Nat×zn):=if eT ks k<ks.length then zh (eT ks k,zw .i64 (eT ks k:Int)) else zi
theorem zc{κ:Type} [DecidableEq κ] {ks:List κ}{k:κ}:eT ks k<ks.length↔k∈ks:=by
 unfold eT;rw[List.findIdx_lt_length];exact⟨λ⟨x,h1,h2⟩=>(of_decide_eq_true h2) ▸ h1,λh=>⟨k,h,by simp⟩⟩
theorem zsw{κ:Type} [DecidableEq κ] (ks:List κ)(k:κ):eT ks k<=ks.length:=JR
theorem zqP{κ:Type} [DecidableEq κ] {ks:List κ}{k:κ}(h:k∈ks):ks[eT ks k]?=zh k:=by
 have hl:=zc.2 h;rw[bE hl];have:=List.findIdx_getElem (w:=hl);exact congrArg zh (of_decide_eq_true this).symm
theorem zrF{kt:zy}{κ:Type} [DecidableEq κ] (enc:κ->zn)(w:zx)(pO:∀a b:κ,(Op.equal kt (enc a) (enc b)).run P w=.ok (decide (a=b)) w)(k:κ):∀(ks:List κ) (i:Nat),(Instr.findAsking kt (enc k) ((ks.zipIdx i).map λx=>{key:=enc x.1,val:=zw .i64 (x.2:Int),born:=x.2}) i).run P w=.ok (if eT ks k<ks.length then zh (i+eT ks k,zw .i64 ((i+eT ks k:Nat):Int)) else zi) w
 |[],i=>by simp[Instr.findAsking,eT]
 |x::ks,i=>by
  rw[List.zipIdx_cons,Be];unfold Instr.findAsking;simp only[Sem.run_bind,pO,Result.andThen_ok]
  by_cases e:k=x
  ·subst e;have h0:eT (k::ks) k=0:=by simp[eT,List.findIdx_cons]
   rw[h0];simp
  ·have h1:eT (x::ks) k=eT ks k+1:=by simp[eT,List.findIdx_cons,e]
   have ih:=zrF enc w pO k ks (i+1);rw[decide_eq_false e,h1];simp only[Bool.false_eq_true,if_false];rw[ih];simp only[iG,Nat.add_lt_add_iff_right];rw[show i+1+eT ks k=i+(eT ks k+1) by omega]
theorem zqE{kt:zy}{d:TypeDesc}{κ:Type} [DecidableEq κ] (enc:κ->zn)(w:zx)(hu:P.underlying kt=zh d)(BX:∀a b:κ,Instr.sameNow d (enc a) (enc b)=zi)(pO:∀a b:κ,(Op.equal kt (enc a) (enc b)).run P w=.ok (decide (a=b)) w)(ks:List κ)(k:κ):
  (Instr.findKey kt (enc k) (rI enc ks)).run P w=.ok (Cm ks k) w:=by
 have hf:(Instr.findAsking kt (enc k) (rI enc ks)).run P w=.ok (Cm ks k) w:=by
  have:=zrF enc w pO k ks 0;simp only[jB]at this;exact this
 unfold Instr.findKey;simp only[Sem.run_bind,run_underlying hu,Result.andThen_ok];cases ks with
 |nil=>simp[rI,Instr.findNow,Cm]
 |cons x ks=>
  have:Instr.findNow d (enc k) (rI enc (x::ks)) 0=zi:=by simp[rI,List.zipIdx_cons,Instr.findNow,BX]
  rw[this];exact hf
theorem zmP{mt kt et:zy}{κ:Type} [DecidableEq κ] (enc:κ->zn)(w:zx)(hm:P.underlying mt=zh (.map kt et))(hc:∀(e:Bool) (k:κ),(Instr.checkKey e 10000 kt (enc k)).run P w=.ok () w)(hf:∀(ks:List κ) (k:κ),(Instr.findKey kt (enc k) (rI enc ks)).run P w=.ok (Cm ks k) w)(hz:(zeroValue et).run P w=.ok (zw .i64 0) w)(r:Nat)(ks:List κ)(k:κ)(hg:w.heap[r]?=zh (.map (ju enc ks) ks.length)):
  (Instr.lookup mt (.map (zh r)) (enc k) true).run P w=.ok (.tuple #[zw .i64 (if k∈ks then (eT ks k:Int) else 0),.bool (decide (k∈ks))]) w:=by
 unfold Instr.lookup;simp only[Sem.run_bind,run_underlying hm,Result.andThen_ok,MapKept.run_getObj_map hg,Sem.run_pure,hc];rw[show (ju enc ks).toList=rI enc ks by simp[ju],hf];unfold Cm
 by_cases h:k∈ks
 ·rw[ae (zc.2 h)];simp[h]
 ·rw[ab (λe=>h (zc.1 e))];simp[h,hz]
theorem zpu{mt kt et:zy}{κ:Type} [DecidableEq κ] (enc:κ->zn)(w:zx)(hm:P.underlying mt=zh (.map kt et))(hc:∀(e:Bool) (k:κ),(Instr.checkKey e 10000 kt (enc k)).run P w=.ok () w)(hf:∀(ks:List κ) (k:κ),(Instr.findKey kt (enc k) (rI enc ks)).run P w=.ok (Cm ks k) w)(r:Nat)(ks:List κ)(k:κ)(hk:k∉ks)(hg:w.heap[r]?=zh (.map (ju enc ks) ks.length)):
  (Instr.mapUpdate mt (.map (zh r)) (enc k) (zw .i64 (ks.length:Int))).run P w=.ok () {w with heap:=w.heap.setIfInBounds r (.map (ju enc (ks++[k])) (ks++[k]).length)}:=by
 unfold Instr.mapUpdate;simp only[Sem.run_bind,run_underlying hm,Result.andThen_ok,MapKept.run_getObj_map hg,hc];rw[show (ju enc ks).toList=rI enc ks by simp[ju],hf];unfold Cm;rw[ab (λe=>hk (zc.1 e))];simp only[Result.andThen_ok,MapKept.run_setObj_map _ hg,zps];simp
end
def l5{κ:Type} [DecidableEq κ] (ks:List κ)(k:κ):List κ:=if k∈ks then ks else ks++[k]
theorem zi4{κ:Type} [DecidableEq κ] {ks:List κ}{k:κ}(h:k∉ks):eT ks k=ks.length:=by
 have:=zsw ks k;have:¬eT ks k<ks.length:=λe=>h (zc.1 e)
 omega
def Hc{κ:Type} [DecidableEq κ] (enc:κ->zn)(w:zx)(r:Nat)(ks:List κ)(k:κ)(e:Ending)(w':zx):Prop:=
 e=.returned (.tuple #[zw .i64 (eT ks k:Int),.bool (decide (k∉ks))])/\w'.heap[r]?=zh (.map (ju enc (l5 ks k)) (l5 ks k).length)/\w.grownBy w' (zh r)
theorem Try.zyt(w:zx):(zeroValue 3).run prog w=.ok (zw .i64 0) w:=by
 simp[zeroValue,typeInfo]
 kernel_rfl
theorem znP(r:Nat)(ks:List Tr)(k:Tr)(w:zx)(hg:w.heap[r]?=zh (.map (ju jv ks) ks.length)):
  Calls prog 49 #[.map (zh r),jv k] w (Hc jv w r ks k):=by
 obtain⟨W0,ay⟩:∃W0,w.alloc (.cells (kq k) 72)=W0:=⟨_,rfl⟩;have aG:zB w.heap.size w W0:=by rw[<-ay];exact aC
 have rj:=aY hg aG;have x0:W0.heap[w.heap.size]?=zh (.cells (kq k) 72 (0,0)):=by rw[<-ay];exact aU _ _
 have hm:=underlying98;have hc:∀(e:Bool) (k:Tr),(Instr.checkKey e 10000 72 (jv k)).run prog W0=.ok () W0:=λe k=>Try.zzB e k W0
 have hf:∀(ks:List Tr) (k:Tr),(Instr.findKey 72 (jv k) (rI jv ks)).run prog W0=.ok (Cm ks k) W0:=λks k=>zqE jv W0 underlying72 (λ_ _=>rfl) (λa b=>Try.zwr a b W0) ks k
 have hl:=zmP jv W0 hm hc hf (Try.zyt W0) r ks k rj;have hr:=az hg;have dH:W0.heap.size=w.heap.size+1:=by rw[<-ay];simp
 have IF:w.grownBy W0 (zh r):=by rw[<-ay];exact World.grownBy_alloc _ _ _
 have sB:∀j u,(kq k)[j]?=zh u->W0.cell? ⟨w.heap.size,j,zi⟩=zh u:=λj u h=>by rw[dt _ _ _ _ _ _ x0];exact h
 obtain⟨q0,q1,q2,q3,q4⟩:=bL x0;have fc:=zkI jv ks
 by_cases hk:k∈ks
 ·simp only[hk,if_true,decide_true]at hl;have HN:za (Hc jv w r ks k (.returned (.tuple #[zw .i64 (eT ks k:Int),.bool false])) W0):=⟨by simp[hk],by unfold l5;rw[ae hk];exact rj,IF⟩;have FA:=zc.2 hk;unfold jv kq at hl;unfold kq at ay;unfold jv kq;generalize eT ks k=ix at *;clear hc hf hm x0 rj IF sB fc dH
  go_enter func49,ntmps49
  go_wp2;refine bw (v:=.tuple #[zw .i64 (ix:Int),.bool false]) (by simp[results,results49,go_sem]) rfl HN.out
 ·simp only[hk,if_false,decide_false]at hl;have hp:=zpu jv W0 hm hc hf r ks k hk rj;obtain⟨W1,bk⟩:∃W1,{W0 with heap:=W0.heap.setIfInBounds r (.map (ju jv (ks++[k])) (ks++[k]).length)}=W1:=⟨_,rfl⟩;have bT:W1.heap=W0.heap.setIfInBounds r (.map (ju jv (ks++[k])) (ks++[k]).length):=by rw[<-bk]
  have HN:za (Hc jv w r ks k (.returned (.tuple #[zw .i64 (ks.length:Int),.bool true])) W1):=by
   refine⟨by rw[zi4 hk];simp[hk],?_,?_⟩
   ·unfold l5;rw[ab hk,bT];exact(MapKept.heap_set rj).1
   ·refine⟨by rw[<-bk];exact IF.os,by rw[<-bk];exact IF.tape,by rw[<-bk];exact IF.output,by rw[bT];simp;omega,λb hb hne=>?_⟩;rw[bT,(MapKept.heap_set rj).2 b (λe=>hne (by rw[e]))];exact IF.block b hb hne
  rw[bk]at hp;unfold jv kq at hl hp;unfold kq at ay;unfold jv kq;have hlen:∀ty,(Builtin.len_ #[98] ty #[.map (zh r)]).run prog W0=.ok (zw .i64 (ks.length:Int)) W0:=λty=>by
   simp[Builtin.len_,run_underlying hm,MapKept.run_getObj_map rj,goInt,Result.andThen,fc]
  clear hc hf hm x0 IF sB fc dH bk bT
  go_enter func49,ntmps49
  go_wp2;refine bw (v:=.tuple #[zw .i64 (ks.length:Int),.bool true]) (by simp[results,results49,go_sem]) rfl HN.out
def lC(n:Nat)(tr:Nat->Tr):Array zn:=((List.range n).flatMap λs=>(kq (tr s)).toList).toArray
theorem zgP{α:Type}(f:Nat->List α)(k:Nat)(hf:∀s,(f s).length=k):∀(n s i:Nat),s<n->i<k->((List.range n).flatMap f)[s*k+i]?=(f s)[i]?
 |0,s,_,h,_=>absurd h (dP _)
 |n+1,s,i,h,hi=>by
  have hl:((List.range n).flatMap f).length=n*k:=by
   clear h
   induction n with
   |zero=>simp
   |succ n ih=>rw[oN,Cy,a6,ih];simp[hf,Nat.succ_mul]
  rw[oN,Cy]
  by_cases e:s=n
  ·subst e;rw[vH (by omega),hl,show s*k+i-s*k=i by omega];simp
  ·have h2:s*k+i<n*k:=by
    have:=Nat.mul_le_mul_right k (show s+1<=n by omega);rw[Eo]at this;omega
   rw[rU (by omega)];exact zgP f k hf n s i (by omega) hi
theorem zk0(n:Nat)(tr:Nat->Tr){s i:Nat}(hs:s<n)(hi:i<5):(lC n tr)[s*5+i]?=(kq (tr s))[i]?:=by
 unfold lC;rw[JN,zgP _ 5 (λ_=>rfl) n s i hs hi,Array.getElem?_toList]
theorem Qc{W:zx}{g n:Nat}{tr:Nat->Tr}(h:W.heap[g]?=zh (.cells (lC n tr) 72 (0,0))){s:Nat}(hs:s<n):W.cell? ⟨g,s*5,zi⟩=zh (.int .u64 ((tr s).1:Int))/\W.cell? ⟨g,s*5+1,zi⟩=zh (.int .u64 ((tr s).2.1:Int))/\W.cell? ⟨g,s*5+2,zi⟩=zh (.int .u64 ((tr s).2.2.1:Int))/\W.cell? ⟨g,s*5+3,zi⟩=zh (.int .u64 ((tr s).2.2.2.1:Int))/\W.cell? ⟨g,s*5+4,zi⟩=zh (.int .u64 ((tr s).2.2.2.2:Int)):=by
 have key:∀i,i<5->W.cell? ⟨g,s*5+i,zi⟩=(kq (tr s))[i]?:=λi hi=>by rw[dt _ _ _ _ _ _ h,zk0 n tr hs hi]
 exact⟨key 0 (by omega),key 1 (by omega),key 2 (by omega),key 3 (by omega),key 4 (by omega)⟩
theorem aS.ZX{gt n:Nat}{W:zx}{v:Nat->zn}{l:Nat->List Int}(h:aS gt n W v l):aS gt (n+1) W (upd v n (zp zi 0 0)) (bq l n []):=by
 refine⟨λi hi=>?_,λi j hi hj hne b hb=>?_⟩
 ·by_cases e:i=n
  ·subst e;rw[fN,ez];exact⟨rfl,.inl ⟨rfl,rfl⟩⟩
  ·rw[bW _ _ e,a8 _ _ e];exact h.own i (by omega)
 ·by_cases e:i=n
  ·subst e;rw[fN]at hb;simp[Value.ownBlock]at hb
  ·rw[bW _ _ e]at hb
   by_cases e2:j=n
   ·subst e2;rw[fN];simp[Value.ownBlock]
   ·rw[bW _ _ e2];exact h.apart i j (by omega) (by omega) hne b hb
section
variable {gt:Nat} {W W':zx} {p:Nat} {mv:zn} {m:Nat} {mi:Nat->Nat} {v:Nat->zn} {l:Nat->List Int} {N:Nat} {o wk:List Nat} {mem:Nat->List Nat}
theorem dE.ZX(h:dE gt W p mv m mi v l N o wk mem):dE gt W p mv m mi (upd v N (zp zi 0 0)) (bq l N []) (N+1) o wk mem:=by
 have h2:=h.two;refine⟨h.aq.ZX,by omega,by rw[bW _ _ (by omega),bW _ _ (by omega)];exact h.box,h.sM,?_,λx hx=>⟨(h.idx x hx).1,by have:=(h.idx x hx).2;omega⟩,by rw[a8 _ _ (by omega)];exact h.l0,by rw[a8 _ _ (by omega)];exact h.l1,λx hx=>by rw[a8 _ _ (by have:=(h.idx x hx).2;omega)];exact h.lm x hx⟩;rw[LZ (v':=v) (mi':=mi) (λx hx=>bW _ _ (by have:=(h.idx x hx).2;omega))];exact h.out
theorem dE.far(h:dE gt W p mv m mi v l N o wk mem){g:Nat}(hg:W.grownBy W' (zh g))(hF:∀cs,W.heap[g]?≠zh (.cells cs 3 (0,0)))(hB:∀cs,W.heap[g]?≠zh (.cells cs 66 (0,0)))(hO:mv.ownBlock≠zh g):dE gt W' p mv m mi v l N o wk mem:=by
 refine⟨h.aq.sI λi hi b hb=>?_,h.two,(hg.block p (az h.box) (λe=>?_)).trans h.box,h.sM,⟨h.out.1,?_⟩,h.idx,h.l0,h.l1,h.lm⟩
 ·obtain⟨cs,hc⟩:=jx (h.aq.own i hi) hb;exact hg.block b (az hc) (λe=>by cases e;exact hF _ hc)
 ·have e2:p=g:=Option.some.inj e;exact hB _ (e2 ▸ h.box)
 ·rcases h.out.2 with k|⟨g',cap,a9,hv,h1,hh,r⟩
  ·exact .inl k
  ·refine .inr ⟨g',cap,a9,hv,h1,(hg.block g' (az hh) (λe=>?_)).trans hh,r⟩;apply hO;rw[hv,<-e]
   rfl
end
def sg(v:Nat->zn)(N q:Nat):List zn:=(List.range q).map λj=>v (N+j)
theorem Qh(v:Nat->zn)(N q:Nat):(sg v N q).length=q:=by simp[sg]
theorem Qg(v:Nat->zn)(N:Nat){q j:Nat}(h:j<q):(sg v N q)[j]?=zh (v (N+j)):=by simp[sg,h]
theorem zqK(v:Nat->zn)(N q:Nat):sg v N (q+1)=sg v N q++[v (N+q)]:=by simp[sg,List.range_succ]
theorem zoP{v v':Nat->zn}{N q:Nat}(h:∀j,j<q->v (N+j)=v' (N+j)):sg v N q=sg v' N q:=uB λj hj=>h j (by simpa using hj)
theorem zsu(v:Nat->zn)(N q j:Nat)(u:zn):(sg v N q).set j u=sg (upd v (N+j) u) N q:=by
 apply tz
 intro i;rw[List.getElem?_set]
 by_cases hi:i<q
 ·rw[Qg v N hi,Qg _ N hi,Qh]
  by_cases e:j=i
  ·subst e;rw[ae rfl,ae hi,fN]
  ·rw[ab e,bW _ _ (by omega)]
 ·have h1:∀f:Nat->zn,(sg f N q)[i]?=zi:=λf=>qR (by rw[Qh];omega)
  rw[h1,h1,Qh]
  by_cases e:j=i
  ·rw[ae e,ab (by omega)]
  ·rw[ab e]
def fP(o:List Nat)(tr:Nat->Tr)(s:Nat):Tr:=(o.getD s 0,(tr s).2)
def de(o:List Nat)(tr:Nat->Tr)(xs:List Nat):List Tr:=xs.foldl (λks s=>l5 ks (fP o tr s)) []
theorem zg6(o:List Nat)(tr:Nat->Tr)(xs:List Nat)(s:Nat):de o tr (xs++[s])=l5 (de o tr xs) (fP o tr s):=by simp[de]
def C7(o:List Nat)(tr:Nat->Tr)(xs:List Nat)(k:Tr):List Nat:=xs.filter λs=>decide (fP o tr s=k)
theorem zj5(o:List Nat)(tr:Nat->Tr)(xs:List Nat)(s:Nat)(k:Tr):C7 o tr (xs++[s]) k=if fP o tr s=k then C7 o tr xs k++[s] else C7 o tr xs k:=by
 unfold C7;rw[JQ]
 by_cases h:fP o tr s=k
 ·rw[ae h];simp[h]
 ·rw[ab h];simp[h]
theorem sS{o:List Nat}{tr:Nat->Tr}{xs:List Nat}{k:Tr}{s:Nat}:s∈C7 o tr xs k↔s∈xs/\fP o tr s=k:=by simp[C7]
theorem zqg{κ:Type} [DecidableEq κ] {ks:List κ}{k x:κ}:x∈l5 ks k↔x∈ks\/x=k:=by
 unfold l5;split
 ·rename_i h
  exact⟨.inl,λe=>e.elim id (λe=>e ▸ h)⟩
 ·simp
theorem TU{o:List Nat}{tr:Nat->Tr}{k:Tr}:∀{xs:List Nat},k∈de o tr xs↔∃s∈xs,fP o tr s=k:=by
 have key:∀(xs:List Nat) (ks:List Tr),k∈xs.foldl (λks s=>l5 ks (fP o tr s)) ks↔k∈ks\/∃s∈xs,fP o tr s=k:=by
  intro xs
  induction xs with
  |nil=>intro ks;simp
  |cons x xs ih=>
   intro ks;rw[List.foldl_cons,ih,zqg];constructor
   ·rintro ((h|h)|⟨s,h1,h2⟩)
    ·exact .inl h
    ·exact .inr ⟨x,by simp,h.symm⟩
    ·exact .inr ⟨s,by simp[h1],h2⟩
   ·rintro (h|⟨s,h1,h2⟩)
    ·exact .inl (.inl h)
    ·rcases tn.1 h1 with e|e
     ·subst e;exact .inl (.inr h2.symm)
     ·exact .inr ⟨s,e,h2⟩
 intro xs;unfold de;rw[key];simp
theorem zm3{κ:Type} [DecidableEq κ] {ks:List κ}{k:κ}(h:ks.Nodup):(l5 ks k).Nodup:=by
 unfold l5;split
 ·exact h
 ·rename_i hk
  rw[Gw];exact⟨h,by simp,λa ha b hb e=>by simp at hb;subst hb;exact hk (e ▸ ha)⟩
theorem zfV(o:List Nat)(tr:Nat->Tr)(xs:List Nat):(de o tr xs).Nodup:=by
 have key:∀(xs:List Nat) (ks:List Tr),ks.Nodup->(xs.foldl (λks s=>l5 ks (fP o tr s)) ks).Nodup:=by
  intro xs
  induction xs with
  |nil=>intro ks h;exact h
  |cons x xs ih=>intro ks h;exact ih _ (zm3 h)
 exact key xs [] List.nodup_nil
end Go.Proofs.Ytfajjdgkiilhfaa
