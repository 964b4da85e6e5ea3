import Derived.Test.YthddplbodacjgaaGreatDoorC38
namespace Go.Proofs.YthddplbodacjgaaGreatDoor
open Go.RowKit
theorem zhR{α β:Type}(p:α->Bool)(q:β->Bool):∀(l:List α) (m:List β),l.length=m.length->(∀i (h1:i<l.length) (h2:i<m.length),p l[i]=q m[i])->l.findIdx p=m.findIdx q
 |[],[],_,_=>rfl
 |[],_::_,h,_=>by simp at h
 |_::_,[],h,_=>by simp at h
 |a::l,b::m,h,H=>by
  have h0:p a=q b:=H 0 (by simp) (by simp);rw[ztM,ztM,h0,zhR p q l m (by simpa using h) (fun i h1 h2=>H (i+1) (by simpa using h1) (by simpa using h2))]
def zed(nw:Nat)(Ts:Nat->Nat->Nat)(m:Nat):List ByteArray:=(List.range (m-1)).map fun i=>keyB nw (Ts (i+1))
theorem zjB(nw:Nat)(Ts:Nat->Nat->Nat)(m:Nat):(zed nw Ts m).length=m-1:=by simp[zed]
theorem zm5(nw:Nat)(Ts:Nat->Nat->Nat)(T:Nat->Nat){m:Nat}(hm:0<m):zed nw Ts m++[keyB nw T]=zed nw (fun i=>if i=m then T else Ts i) (m+1):=by
 obtain⟨k,rfl⟩:∃k,m=k+1:=⟨m-1,by omega⟩;unfold zed;rw[show k+1+1-1=k+1 from rfl,show k+1-1=k from rfl,zun,zt9,List.map_singleton];have e:(fun i=>if i=k+1 then T else Ts i) (k+1)=T:=zuV rfl;rw[e]
 congr 1
 refine zua fun i hi=>?_
 have e2:(fun i=>if i=k+1 then T else Ts i) (i+1)=Ts (i+1):=zuU (by have:=zuh.1 hi;omega);rw[e2]
open Classical in
theorem zoJ{bs:List BrG}{n nw:Nat}{f:Nat->Nat->Bool}{F:Nat->Nat->Nat}{φ:Nat->Nat->Nat}{L:List St}{Ts:Nat->Nat->Nat}{S:St}{T:Nat->Nat}(N:Nam bs n f F φ)(hn:n<=64*nw)(hTs:∀i,i<L.length->SetP bs φ (L.getD i zaZ) (Ts i)/\∀j,Ts i j<18446744073709551616)(hS:SetP bs φ S T)(hT:∀j,T j<18446744073709551616):
  1+idxR (zed nw Ts L.length) (keyB nw T)=nxtI L S:=by
 unfold nxtI idxR
 congr 1
 refine zhR _ _ _ _ (by rw[zjB,List.length_tail]) fun i h1 h2=>?_
 have hi:i+1<L.length:=by rw[List.length_tail] at h2;omega
 have e1:(zed nw Ts L.length)[i]=keyB nw (Ts (i+1)):=by simp[zed]
 have e2:L.tail[i]=L.getD (i+1) zaZ:=by rw[ziw hi];simp
 rw[e1,e2,decide_eq_decide];obtain⟨s1,s2⟩:=hTs (i+1) hi;rw[<-zsA s1 hS N hn s2 hT,<-zoG s2 hT];exact⟨fun e=>e.symm,fun e=>e.symm⟩
structure ExS(V W:World)(pd r pO nw:Nat)(width:Int)(v:Nat->Value)(ls:Nat->List Int)(gv cv m:Nat)(gx:Nat->Nat)(Ts:Nat->Nat->Nat)(keys:List ByteArray)(gO:Nat)(tO eO:Int)(g1 c1 mT:Nat)(gt:Nat->Nat)(X:Nat->Nat->Nat):Prop where
 bel:Below V.heap.size V W
 res:W.heap[V.heap.size]?=some (.cells zbf 26 (0,0))
 fam:Fam V.heap.size 4 W v ls
 bd:W.heap[pd]?=some (.cells (rowD width v) 26 (0,0))
 so:W.ownsRow (V.heap.size+1) 105 1 (.slice (some ⟨gv,0,none⟩) m cv) m (slcL gx nw m)
 st:∀i,i<m->zaB W nw (gx i) (Ts i)
 mp:W.heap[r]?=some (.map (regE Value.string keys) keys.length)
 bo:W.heap[pO]?=some (.cells #[.slice (some ⟨gO,0,none⟩) nw nw,.int .i64 tO,.int .i64 eO] 108 (0,0))
 tr:W.ownsRow (V.heap.size+1) 105 1 (.slice (some ⟨g1,0,none⟩) mT c1) mT (slcL gt nw mT)
 tk:∀j,j<mT->zaB W nw (gt j) (X j)
 ne:gv≠g1
 hd:V.heap.size<pd
 hr:V.heap.size<r
 hO:V.heap.size<pO
section
variable {V W W':World} {pd r pO nw:Nat} {width:Int} {v:Nat->Value} {ls:Nat->List Int} {gv cv m:Nat} {gx:Nat->Nat} {Ts:Nat->Nat->Nat} {keys:List ByteArray} {gO:Nat} {tO eO:Int} {g1 c1 mT:Nat} {gt:Nat->Nat} {X:Nat->Nat->Nat}
theorem zeZ{gt n:Nat}{W W':World}{v:Nat->Value}{l:Nat->List Int}(h:Fam gt n W v l)(hk:∀(b:Nat) (cs:Array Value),W.heap[b]?=some (.cells cs 3 (0,0))->W'.heap[b]?=some (.cells cs 3 (0,0))):Fam gt n W' v l:=
 h.keepO fun i hi b hb=>by
  obtain⟨cur,e⟩:=za9 (h.own i hi) hb;exact(hk b _ e).trans e.symm
theorem ExS.on(h:ExS V W pd r pO nw width v ls gv cv m gx Ts keys gO tO eO g1 c1 mT gt X)(hb:Below W.heap.size W W'):ExS V W' pd r pO nw width v ls gv cv m gx Ts keys gO tO eO g1 c1 mT gt X:=by
 have hk:∀(b:Nat) (o:Obj),W.heap[b]?=some o->W'.heap[b]?=some o:=fun b o e=>(hb.block b (ztp.1 e).1).trans e
 exact⟨h.bel.trans (hb.mono h.bel.size),hk _ _ h.res,h.fam.below hb,hk _ _ h.bd,zad h.so hb,fun i hi=>(h.st i hi).below hb,hk _ _ h.mp,hk _ _ h.bo,zad h.tr hb,fun j hj=>(h.tk j hj).below hb,h.ne,h.hd,h.hr,h.hO⟩
theorem ExS.reg(h:ExS V W pd r pO nw width v ls gv cv m gx Ts keys gO tO eO g1 c1 mT gt X){keys':List ByteArray}(hg:W.grownBy W' (some r))(hm:W'.heap[r]?=some (.map (regE Value.string keys') keys'.length)):ExS V W' pd r pO nw width v ls gv cv m gx Ts keys' gO tO eO g1 c1 mT gt X:=by
 have hk:∀(b:Nat) (cs:Array Value) (t:TypeId),W.heap[b]?=some (.cells cs t (0,0))->W'.heap[b]?=some (.cells cs t (0,0)):=fun b cs t e=>(hg.block b (zae e) (fun e2=>by cases e2;exact za7 (e.symm.trans h.mp))).trans e
 exact⟨h.bel.grown hg h.bel.size (fun q e=>by cases e;exact Nat.le_of_lt h.hr),hk _ _ _ h.res,zeZ h.fam fun b cs e=>hk b cs _ e,hk _ _ _ h.bd,zas h.so fun k cs e=>hk k cs _ e,fun i hi=>⟨hk _ _ _ (h.st i hi).row,(h.st i hi).lt⟩,hm,hk _ _ _ h.bo,zas h.tr fun k cs e=>hk k cs _ e,fun j hj=>⟨hk _ _ _ (h.tk j hj).row,(h.tk j hj).lt⟩,h.ne,h.hd,h.hr,h.hO⟩
theorem ExS.field(h:ExS V W pd r pO nw width v ls gv cv m gx Ts keys gO tO eO g1 c1 mT gt X){i off:Nat}(hi:i<4)(ho:offD i=off){u:Value}{ys:List Int}(hF:Fam V.heap.size 4 W' (upd v i u) (updL ls i ys))(hg:W.grownBy W' (v i).ownBlock):
  W'.heap[pd]?=some (.cells (rowD width v) 26 (0,0))/\ExS V (W'.setCell ⟨pd,off,none⟩ u) pd r pO nw width (upd v i u) (updL ls i ys) gv cv m gx Ts keys gO tO eO g1 c1 mT gt X:=by
 subst ho;have hk1:∀{b:Nat} {cs:Array Value} {e:TypeId},e≠3->W.heap[b]?=some (.cells cs e (0,0))->W'.heap[b]?=some (.cells cs e (0,0)):=fun he hb=>h.fam.others hi hg he hb
 have bd:=hk1 (by decide) h.bd;have hk2:∀{b:Nat} {cs:Array Value} {e:TypeId},e≠26->W'.heap[b]?=some (.cells cs e (0,0))->(W'.setCell ⟨pd,offD i,none⟩ u).heap[b]?=some (.cells cs e (0,0)):=fun he hb=>(zuS _ _ _ _ (by show _≠pd;rintro rfl;rw[bd] at hb;exact he (zak hb).symm)).trans hb
 have hmp:W'.heap[r]?=some (.map (regE Value.string keys) keys.length):=(hg.block r (ztp.1 h.mp).1 (fun e=>by obtain⟨cur,hc⟩:=za9 (h.fam.own i hi) e.symm;exact za7 (hc.symm.trans h.mp))).trans h.mp;have hb1:Below V.heap.size V W':=h.bel.grown hg h.bel.size (fun q e=>by have:=(zaR (h.fam.own i hi) e).1;omega);have hd:=h.hd;refine⟨bd,hb1.setCell (p:=⟨pd,offD i,none⟩) (by show _<=pd;omega) _,(zuS _ _ _ _ (by show V.heap.size≠pd;omega)).trans (hk1 (by decide) h.res),zeZ hF fun b cs e=>hk2 (by decide) e,?_,zas h.so fun k cs e=>hk2 (by decide) (hk1 (by decide) e),fun i hi=>⟨hk2 (by decide) (hk1 (by decide) (h.st i hi).row),(h.st i hi).lt⟩,(zuS _ _ _ _ (by show r≠pd;rintro rfl;exact za7 (bd.symm.trans hmp))).trans hmp,hk2 (by decide) (hk1 (by decide) h.bo),zas h.tr fun k cs e=>hk2 (by decide) (hk1 (by decide) e),fun j hj=>⟨hk2 (by decide) (hk1 (by decide) (h.tk j hj).row),(h.tk j hj).lt⟩,h.ne,h.hd,h.hr,h.hO⟩;have:=zuT W' pd (offD i) _ _ u bd;rw[ziR _ _ _ hi] at this;exact this
theorem ExS.push(h:ExS V W pd r pO nw width v ls gv cv m gx Ts keys gO tO eO g1 c1 mT gt X){g' c' gN:Nat}{T:Nat->Nat}(ho:W'.ownsRow (V.heap.size+1) 105 1 (.slice (some ⟨g',0,none⟩) (m+1) c') (m+1) (slcL gx nw m++[.slice (some ⟨gN,0,none⟩) nw nw]))(hg:W.grownBy W' (some gv))(hat:g'=gv\/W.heap.size<=g')(hp:zaB W nw gN T):
  ExS V W' pd r pO nw width v ls g' c' (m+1) (fun j=>if j=m then gN else gx j) (fun j=>if j=m then T else Ts j) keys gO tO eO g1 c1 mT gt X:=by
 obtain⟨q1,q2,-,-⟩:=zaV h.so;obtain⟨cur,hcur⟩:=zdf h.so;have hka:∀(b:Nat) (o:Obj),b≠gv->W.heap[b]?=some o->W'.heap[b]?=some o:=fun b o hb e=>(hg.block b (ztp.1 e).1 (fun e2=>hb (by cases e2;rfl))).trans e
 have hk1:∀(b:Nat) (cs:Array Value) (t:TypeId),t≠105->W.heap[b]?=some (.cells cs t (0,0))->W'.heap[b]?=some (.cells cs t (0,0)):=fun b cs t ht e=>hka b _ (by rintro rfl;rw[hcur] at e;exact ht (zak e).symm) e
 obtain⟨cu1,hcu1⟩:=zdf h.tr;refine⟨h.bel.grown hg h.bel.size (fun q e=>by cases e;omega),hk1 _ _ _ (by decide) h.res,zeZ h.fam fun b cs e=>hk1 b cs _ (by decide) e,hk1 _ _ _ (by decide) h.bd,?_,fun j hj=>?_,hka _ _ (by rintro rfl;exact za7 (hcur.symm.trans h.mp)) h.mp,hk1 _ _ _ (by decide) h.bo,?_,fun j hj=>⟨hk1 _ _ _ (by decide) (h.tk j hj).row,(h.tk j hj).lt⟩,?_,h.hd,h.hr,h.hO⟩
 ·rw[zhc,zuV rfl,zfG (fr:=fun j=>if j=m then gN else gx j) (fr':=gx) fun p hp=>by rw[zuU (by omega)]];exact ho
 ·by_cases e:j=m
  ·simp only[zuV e];exact⟨hk1 _ _ _ (by decide) hp.row,hp.lt⟩
  ·simp only[zuU e];exact⟨hk1 _ _ _ (by decide) (h.st j (by omega)).row,(h.st j (by omega)).lt⟩
 ·refine⟨h.tr.1,?_⟩;rcases h.tr.2 with h0|⟨g,cap,cur2,hv,hg2,hh,rest⟩
  ·exact .inl h0
  ·cases hv
   exact .inr ⟨g1,c1,cur2,rfl,hg2,hka _ _ h.ne.symm hh,rest⟩
 ·rcases hat with e|e
  ·rw[e];exact h.ne
  ·have:=zae hcu1;omega
theorem ExS.opn(h:ExS V W pd r pO nw width v ls gv cv m gx Ts keys gO tO eO g1 c1 mT gt X)(gP:Nat)(tP eP:Int):
  ExS V (((W.setCell ⟨pO,0,none⟩ (.slice (some ⟨gP,0,none⟩) nw nw)).setCell ⟨pO,1,none⟩ (.int .i64 tP)).setCell ⟨pO,2,none⟩ (.int .i64 eP)) pd r pO nw width v ls gv cv m gx Ts keys gP tP eP g1 c1 mT gt X:=by
 have b0:=zuT W pO 0 _ _ (.slice (some ⟨gP,0,none⟩) nw nw) h.bo;have b1:=zuT _ pO 1 _ _ (.int .i64 tP) b0;have b2:=zuT _ pO 2 _ _ (.int .i64 eP) b1;have hka:∀(b:Nat) (o:Obj),b≠pO->W.heap[b]?=some o->(((W.setCell ⟨pO,0,none⟩ (.slice (some ⟨gP,0,none⟩) nw nw)).setCell ⟨pO,1,none⟩ (.int .i64 tP)).setCell ⟨pO,2,none⟩ (.int .i64 eP)).heap[b]?=some o:=fun b o hb e=>(zuS _ _ _ _ (by exact hb)).trans ((zuS _ _ _ _ (by exact hb)).trans ((zuS _ _ _ _ (by exact hb)).trans e))
 have hk1:∀(b:Nat) (cs:Array Value) (t:TypeId),t≠108->W.heap[b]?=some (.cells cs t (0,0))->(((W.setCell ⟨pO,0,none⟩ (.slice (some ⟨gP,0,none⟩) nw nw)).setCell ⟨pO,1,none⟩ (.int .i64 tP)).setCell ⟨pO,2,none⟩ (.int .i64 eP)).heap[b]?=some (.cells cs t (0,0)):=fun b cs t ht e=>hka b _ (by rintro rfl;rw[h.bo] at e;exact ht (zak e).symm) e
 have hO:=h.hO;exact⟨((h.bel.setCell (p:=⟨pO,0,none⟩) (by show _<=pO;omega) _).setCell (p:=⟨pO,1,none⟩) (by show _<=pO;omega) _).setCell (p:=⟨pO,2,none⟩) (by show _<=pO;omega) _,hk1 _ _ _ (by decide) h.res,zeZ h.fam fun b cs e=>hk1 b cs _ (by decide) e,hk1 _ _ _ (by decide) h.bd,zas h.so fun k cs e=>hk1 k cs _ (by decide) e,fun i hi=>⟨hk1 _ _ _ (by decide) (h.st i hi).row,(h.st i hi).lt⟩,hka _ _ (by rintro rfl;exact za7 (h.bo.symm.trans h.mp)) h.mp,b2,zas h.tr fun k cs e=>hk1 k cs _ (by decide) e,fun j hj=>⟨hk1 _ _ _ (by decide) (h.tk j hj).row,(h.tk j hj).lt⟩,h.ne,h.hd,h.hr,h.hO⟩
end
end Go.Proofs.YthddplbodacjgaaGreatDoor
