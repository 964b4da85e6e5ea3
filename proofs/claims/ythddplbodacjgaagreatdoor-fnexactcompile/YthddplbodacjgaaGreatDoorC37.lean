import Derived.Test.YthddplbodacjgaaGreatDoorC30
import Derived.Lib.ConvBytes
namespace Go.Proofs.YthddplbodacjgaaGreatDoor
set_option maxHeartbeats 8000000
set_option maxRecDepth 100000
section
open Go.RowKit
def zeM(n:Nat):UInt8:=UInt8.ofNat n
def colU(R:Nat->Nat->Nat)(c k:Nat):List UInt8:=(List.range k).flatMap fun j=>[zeM (R j c),zeM (R j c/256)]
theorem zeX(R:Nat->Nat->Nat)(c k:Nat):colU R c (k+1)=colU R c k++[zeM (R k c),zeM (R k c/256)]:=by simp[colU,List.range_succ]
theorem ziq(R:Nat->Nat->Nat)(c k:Nat):(colU R c k).length=2*k:=by
 induction k with
 |zero=>rfl
 |succ k ih=>rw[zeX,zt1,ih];simp;omega
def colK(R:Nat->Nat->Nat)(K c:Nat):ByteArray:=⟨(colU R c K).toArray⟩
theorem zjf(n:Nat):((zeM n).toNat:Int)=(n:Int)%256:=by
 unfold zeM;rw[UInt8.toNat_ofNat'];omega
theorem zn5{m n:Nat}(hm:m<65536)(hn:n<65536)(h1:zeM m=zeM n)(h2:zeM (m/256)=zeM (n/256)):m=n:=by
 have a:=congrArg UInt8.toNat h1;have b:=congrArg UInt8.toNat h2;unfold zeM at a b;rw[UInt8.toNat_ofNat',UInt8.toNat_ofNat'] at a b;omega
theorem zkK{R:Nat->Nat->Nat}{h c:Nat}:∀{k:Nat},(∀j,j<k->R j h<65536/\R j c<65536)->(colU R h k=colU R c k↔∀j,j<k->R j h=R j c)
 |0,_=>by simp[colU]
 |k+1,hb=>by
  rw[zeX,zeX];constructor
  ·intro e;obtain⟨e1,e2⟩:=List.append_inj e (by rw[ziq,ziq]);have ih:=(zkK (fun j hj=>hb j (by omega))).1 e1;intro j hj
   by_cases hjk:j=k
   ·subst hjk;simp only[List.cons.injEq,and_true] at e2;exact zn5 (hb j hj).1 (hb j hj).2 e2.1 e2.2
   ·exact ih j (by omega)
  ·intro e;rw[(zkK (fun j hj=>hb j (by omega))).2 (fun j hj=>e j (by omega)),e k (by omega)]
theorem zr8{R:Nat->Nat->Nat}{K h c:Nat}(hb:∀j,j<K->R j h<65536/\R j c<65536):colK R K h=colK R K c↔zbZ K R h c=true:=by
 rw[zeh,<-zkK hb];unfold colK;constructor
 ·intro e;have:=congrArg (fun b:ByteArray=>b.data.toList) e
  simpa using this
 ·intro e;rw[e]
theorem zgF{R:Nat->Nat->Nat}{K c:Nat}(hb:∀j x,j<K->x<=c->R j x<65536):idxR ((zah K R c).map (colK R K)) (colK R K c)=clsF K R c:=by
 unfold idxR clsF;rw[List.findIdx_map];have key:∀(l:List Nat),(∀h∈l,h<c)->l.findIdx ((fun x=>decide (colK R K c=x)) ∘ colK R K)=l.findIdx (fun h=>zbZ K R h c):=by
  intro l
  induction l with
  |nil=>intro _;rfl
  |cons x l ih=>
   intro hl;rw[ztM,ztM,ih (fun h hh=>hl h (by simp[hh]))];have hx:=hl x (by simp);have e:((fun y=>decide (colK R K c=y)) ∘ colK R K) x=zbZ K R x c:=by
    show decide (colK R K c=colK R K x)=_;rw[ztu,decide_eq_true_iff];rw[<-zr8 (fun j hj=>⟨hb j x hj (by omega),hb j c hj (zuz _)⟩)];exact⟨fun e=>e.symm,fun e=>e.symm⟩
   rw[e]
 exact key _ (zc0 K R c)
theorem zgG{R:Nat->Nat->Nat}{K c:Nat}(hb:∀j x,j<K->x<=c->R j x<65536):colK R K c∈(zah K R c).map (colK R K)↔clsF K R c<(zah K R c).length:=by
 rw[<-zcr,zgF hb,zt3]
theorem zjy{R:Nat->Nat->Nat}{K c:Nat}(hb:∀j x,j<K->x<=c->R j x<65536):addR ((zah K R c).map (colK R K)) (colK R K c)=(zah K R (c+1)).map (colK R K):=by
 unfold addR;rw[zba]
 by_cases h:clsF K R c<(zah K R c).length
 ·rw[zuV ((zgG hb).2 h),zuV h]
 ·rw[zuU (fun k=>h ((zgG hb).1 k)),zuU h];simp
def bytU(l:List UInt8):List Value:=l.map fun b=>Value.int .u8 b.toNat
structure MmS(W8:World)(W:World)(width:Int)(v:Nat->Value)(ls:Nat->List Int)(keys:List ByteArray)(p9 g9 c9:Nat)(xs:List UInt8):Prop where
 hd:HdS W8 W8.heap.size W width v ls
 b7:W.heap[W8.heap.size+1+1]?=some (.cells #[v 4] 24 (0,0))
 mp:W.heap[W8.heap.size+1+1+1]?=some (.map (regE Value.string keys) keys.length)
 b8:W.heap[W8.heap.size+1+1+1+1]?=some (.cells #[.map (some (W8.heap.size+1+1+1))] 123 (0,0))
 col:W.ownsRow (W8.heap.size+1) 5 1 (.slice (some ⟨g9,0,none⟩) xs.length c9) xs.length (bytU xs)
 b9:W.heap[p9]?=some (.cells #[.slice (some ⟨g9,0,none⟩) xs.length c9] 131 (0,0))
 ge9:W8.heap.size+5<=p9
section
variable {W8 W W':World} {width:Int} {v:Nat->Value} {ls:Nat->List Int} {keys:List ByteArray} {p9 g9 c9:Nat} {xs:List UInt8}
theorem MmS.size(h:MmS W8 W width v ls keys p9 g9 c9 xs):W8.heap.size+6<=W.heap.size:=by have:=zae h.b9;have:=h.ge9;omega
theorem MmS.on(h:MmS W8 W width v ls keys p9 g9 c9 xs)(hb:Below W.heap.size W W'):MmS W8 W' width v ls keys p9 g9 c9 xs:=
 ⟨h.hd.on hb,zab h.b7 hb,zab h.mp hb,zab h.b8 hb,zad h.col hb,zab h.b9 hb,h.ge9⟩
theorem MmS.colBlock(h:MmS W8 W width v ls keys p9 g9 c9 xs):∃cs,W.heap[g9]?=some (.cells cs 5 (0,0))/\W8.heap.size+1<=g9:=by
 obtain⟨h1,cur,h2⟩:=zbK h.col (k:=g9) rfl;exact⟨cur,h2,h1⟩
theorem MmS.others(h:MmS W8 W width v ls keys p9 g9 c9 xs){i:Nat}(hi:i<5)(hg:W.grownBy W' (v i).ownBlock):W'.heap[W8.heap.size+1+1]?=some (.cells #[v 4] 24 (0,0))/\W'.heap[W8.heap.size+1+1+1]?=some (.map (regE Value.string keys) keys.length)/\W'.heap[W8.heap.size+1+1+1+1]?=some (.cells #[.map (some (W8.heap.size+1+1+1))] 123 (0,0))/\W'.ownsRow (W8.heap.size+1) 5 1 (.slice (some ⟨g9,0,none⟩) xs.length c9) xs.length (bytU xs)/\W'.heap[p9]?=some (.cells #[.slice (some ⟨g9,0,none⟩) xs.length c9] 131 (0,0)):=by
 have o:∀{b:Nat} {cs:Array Value} {e:TypeId},e≠3->W.heap[b]?=some (.cells cs e (0,0))->W'.heap[b]?=some (.cells cs e (0,0)):=fun he hb=>h.hd.fam.others hi hg he hb
 refine⟨o (by decide) h.b7,(hg.block _ (ztp.1 h.mp).1 (fun e=>?_)).trans h.mp,o (by decide) h.b8,za6 h.col fun b cs hb=>o (by decide) hb,o (by decide) h.b9⟩;obtain⟨cs,hc⟩:=za9 (h.hd.fam.own i hi) e.symm;exact zcp (hc.symm.trans h.mp)
theorem MmS.field(h:MmS W8 W width v ls keys p9 g9 c9 xs){i off:Nat}(hi:i<4)(ho:offD i=off){u:Value}{ys:List Int}(hF:Fam W8.heap.size 5 W' (upd v i u) (updL ls i ys))(hg:W.grownBy W' (v i).ownBlock):
  W'.heap[W8.heap.size]?=some (.cells (rowD width v) 26 (0,0))/\MmS W8 (W'.setCell ⟨W8.heap.size,off,none⟩ u) width (upd v i u) (updL ls i ys) keys p9 g9 c9 xs:=by
 obtain⟨hbx,hd⟩:=h.hd.fieldAt hi ho hF hg;obtain⟨a,b,c,e,f⟩:=h.others (i:=i) (by omega) hg;have s:∀{x:Nat} {ob:Obj},x≠W8.heap.size->W'.heap[x]?=some ob->(W'.setCell ⟨W8.heap.size,off,none⟩ u).heap[x]?=some ob:=fun hx hh=>(zuS _ _ _ _ (by exact hx)).trans hh
 obtain⟨_,cur,hcur⟩:=zbK e (k:=g9) rfl;refine⟨hbx,hd,by rw[zaD _ _ (by omega)];exact s (by omega) a,s (by omega) b,s (by omega) c,za6 e fun x cs hx=>s (fun e2=>?_) hx,s (by have:=h.ge9;omega) f,h.ge9⟩;rw[e2,hbx] at hx;exact absurd (zap hx) (by decide)
theorem MmS.width'(h:MmS W8 W width v ls keys p9 g9 c9 xs)(n:Int):MmS W8 (W.setCell ⟨W8.heap.size,1,none⟩ (.int .i64 n)) n v ls keys p9 g9 c9 xs:=by
 have s:∀{x:Nat} {ob:Obj},x≠W8.heap.size->W.heap[x]?=some ob->(W.setCell ⟨W8.heap.size,1,none⟩ (.int .i64 n)).heap[x]?=some ob:=fun hx hh=>(zuS _ _ _ _ (by exact hx)).trans hh
 refine⟨h.hd.width n,s (by omega) h.b7,s (by omega) h.mp,s (by omega) h.b8,za6 h.col fun x cs hx=>s (fun e2=>?_) hx,s (by have:=h.ge9;omega) h.b9,h.ge9⟩;rw[e2,h.hd.box] at hx;exact absurd (zap hx) (by decide)
theorem MmS.head(h:MmS W8 W width v ls keys p9 g9 c9 xs){u:Value}{ys:List Int}(hF:Fam W8.heap.size 5 W' (upd v 4 u) (updL ls 4 ys))(hg:W.grownBy W' (v 4).ownBlock):
  W'.cell? ⟨W8.heap.size+1+1,0,none⟩=some (v 4)/\W'.frozen? ⟨W8.heap.size+1+1,0,none⟩=false/\MmS W8 (W'.setCell ⟨W8.heap.size+1+1,0,none⟩ u) width (upd v 4 u) (updL ls 4 ys) keys p9 g9 c9 xs:=by
 have hd:=h.hd.heads hF hg;obtain⟨a,b,c,e,f⟩:=h.others (i:=4) (by omega) hg;have s:∀{x:Nat} {ob:Obj},x≠W8.heap.size+1+1->W'.heap[x]?=some ob->(W'.setCell ⟨W8.heap.size+1+1,0,none⟩ u).heap[x]?=some ob:=fun hx hh=>(zuS _ _ _ _ (by exact hx)).trans hh
 refine⟨by rw[zuO _ _ _ _ _ _ a];rfl,zuQ _ _ 0 _ _ a,⟨hd.fam.other a (by decide) (zaX _ _ _ _),s (by omega) hd.box,hd.below.setCell (p:=⟨W8.heap.size+1+1,0,none⟩) (by show W8.heap.size<=W8.heap.size+1+1;omega) _,rfl⟩,?_,s (by omega) b,s (by omega) c,za6 e fun x cs hx=>s (fun e2=>?_) hx,s (by have:=h.ge9;omega) f,h.ge9⟩
 ·rw[zaH];exact zuT _ _ _ _ _ _ a
 ·rw[e2,a] at hx;exact absurd (zap hx) (by decide)
theorem MmS.reg(h:MmS W8 W width v ls keys p9 g9 c9 xs){keys':List ByteArray}(hg:W.grownBy W' (some (W8.heap.size+1+1+1)))(hm:W'.heap[W8.heap.size+1+1+1]?=some (.map (regE Value.string keys') keys'.length)):MmS W8 W' width v ls keys' p9 g9 c9 xs:=by
 have o:∀{b:Nat} {cs:Array Value} {e:TypeId},W.heap[b]?=some (.cells cs e (0,0))->W'.heap[b]?=some (.cells cs e (0,0)):=fun hb=>(hg.block _ (zae hb) (fun e=>by
  have e2:=Option.some.inj e;rw[e2] at hb;exact zcp (hb.symm.trans h.mp))).trans hb
 refine⟨⟨h.hd.fam.keepO fun i hi b hb=>?_,o h.hd.box,h.hd.below.grown hg (by have:=h.size;omega) (fun b hb=>by cases hb;omega),rfl⟩,o h.b7,hm,o h.b8,za6 h.col fun b cs hb=>o hb,o h.b9,h.ge9⟩;obtain⟨cs,hc⟩:=za9 (h.hd.fam.own i hi) hb;rw[o hc,hc]
theorem MmS.column(h:MmS W8 W width v ls keys p9 g9 c9 xs){g' c':Nat}{ys:List UInt8}(ho:W'.ownsRow (W8.heap.size+1) 5 1 (.slice (some ⟨g',0,none⟩) ys.length c') ys.length (bytU ys))(hg:W.grownBy W' (some g9)):
  W'.cell? ⟨p9,0,none⟩=some (.slice (some ⟨g9,0,none⟩) xs.length c9)/\W'.frozen? ⟨p9,0,none⟩=false/\MmS W8 (W'.setCell ⟨p9,0,none⟩ (.slice (some ⟨g',0,none⟩) ys.length c')) width v ls keys p9 g' c' ys:=by
 obtain⟨cs9,h9,hge⟩:=h.colBlock;have o:∀{b:Nat} {cs:Array Value} {e:TypeId},e≠5->W.heap[b]?=some (.cells cs e (0,0))->W'.heap[b]?=some (.cells cs e (0,0)):=fun he hb=>(hg.block _ (zae hb) (fun e=>by
  have e2:=Option.some.inj e;rw[e2,h9] at hb;exact he (zap hb).symm)).trans hb
 have x9:=o (by decide) h.b9;have s:∀{x:Nat} {ob:Obj},x≠p9->W'.heap[x]?=some ob->(W'.setCell ⟨p9,0,none⟩ (.slice (some ⟨g',0,none⟩) ys.length c')).heap[x]?=some ob:=fun hx hh=>(zuS _ _ _ _ (by exact hx)).trans hh
 have st:∀{x:Nat} {cs:Array Value} {e:TypeId},e≠131->W'.heap[x]?=some (.cells cs e (0,0))->(W'.setCell ⟨p9,0,none⟩ (.slice (some ⟨g',0,none⟩) ys.length c')).heap[x]?=some (.cells cs e (0,0)):=fun he hh=>s (fun e2=>by rw[e2,x9] at hh;exact he (zap hh).symm) hh
 have hmp:W'.heap[W8.heap.size+1+1+1]?=some (.map (regE Value.string keys) keys.length):=(hg.block _ (ztp.1 h.mp).1 (fun e=>by
  have e2:=Option.some.inj e;rw[<-e2] at h9;exact zcp (h9.symm.trans h.mp))).trans h.mp
 refine⟨by rw[zuO _ _ _ _ _ _ x9];rfl,zuQ _ _ 0 _ _ x9,⟨h.hd.fam.keepO fun i hi b hb=>?_,st (by decide) (o (by decide) h.hd.box),(h.hd.below.grown hg (by have:=h.size;omega) (fun b hb=>by cases hb;omega)).setCell (p:=⟨p9,0,none⟩) (by show W8.heap.size<=p9;have:=h.ge9;omega) _,rfl⟩,st (by decide) (o (by decide) h.b7),s (by have:=h.ge9;omega) hmp,st (by decide) (o (by decide) h.b8),za6 ho fun x cs hx=>st (by decide) hx,zuT _ _ _ _ _ _ x9,h.ge9⟩;obtain⟨cs,hc⟩:=za9 (h.hd.fam.own i hi) hb;rw[st (by decide) (o (by decide) hc),hc]
theorem MmS.empty(h:MmS W8 W width v ls keys p9 g9 c9 xs):MmS W8 (W.setCell ⟨p9,0,none⟩ (.slice (some ⟨g9,0,none⟩) 0 c9)) width v ls keys p9 g9 c9 []:=by
 have ho:W.ownsRow (W8.heap.size+1) 5 1 (.slice (some ⟨g9,0,none⟩) 0 c9) 0 (bytU []):=by
  refine⟨rfl,?_⟩;rcases h.col.2 with ⟨h0,_⟩|⟨g',cap',cur,hv',hg,hh,hnc,hcap,hsz,ht⟩
  ·cases h0
  ·cases hv'
   exact .inr ⟨g9,c9,cur,rfl,hg,hh,zuL _,hcap,hsz,by simp[bytU]⟩
 exact(h.column (ys:=[]) ho (World.grownBy.refl _ _)).2.2
end
end
section
open Go
section
variable {P:Program} {ops:Array Oper} {md:Region.Mode} {C:World->Prop} {Q:Exit->Act->World->Prop}
def zco(P:Program)(ops:Array Oper)(C:World->Prop)(o:Oper)(v:Value)(a:Act):Prop:=
 (Region.wanted o (yielded ops a.tmps)=true/\∀w,C w->(execOp a.eval o).run P w=.ok (.value v) w)\/(Region.wanted o (yielded ops a.tmps)=false/\v=undef)
theorem zco.of_same{o:Oper}{v:Value}{a a':Act}(hy:zco P ops C o v a)(he:execOp a'.eval o=execOp a.eval o)(hw:Region.wanted o (yielded ops a'.tmps)=Region.wanted o (yielded ops a.tmps)):zco P ops C o v a':=by
 unfold zco at *;rw[he,hw];exact hy
theorem zco.fire{i:Nat}{o:Oper}{v:Value}{a:Act}(hi:ops[i]?=some o)(hy:zco P ops C o v a){K:Act->World->Prop}{w:World}(hC:C w)(h:K (a.put o.dst v) w):wpOp P ops Q i K a w:=by
 unfold Go.wpOp;simp only[hi];rcases hy with ⟨hw,hv⟩|⟨hw,rfl⟩
 ·simp only[hw,if_true,Oper.wp,hv w hC,Oper.upon];exact .inl h
 ·simp only[hw,Bool.false_eq_true,if_false];exact h
theorem zp4{j:Nat}{oi oj:Oper}{v:Value}(hj:ops[j]?=some oj)(hap:oi.apart ops oj=true)(hsi:∀cs b,oi.op≠.select cs b)(hsj:∀cs b,oj.op≠.select cs b)
  (hQ:∀c a w,Q (.panic c) (a.put oi.dst v) w->Q (.panic c) a w) {K:Act->World->Prop} {a:Act} {w:World} (hy:zco P ops C oi v a) (h:wpOp P ops Q j K (a.put oi.dst v) w):
  wpOp P ops Q j (fun a' w'=>zco P ops C oi v a'/\K (a'.put oi.dst v) w') a w:=by
 obtain⟨h1,h2,h3⟩:=Oper.apart_spec hap;have keep:∀(a:Act),zco P ops C oi v a->∀u,zco P ops C oi v (a.put oj.dst u):=fun a hy u=>hy.of_same (execOp_put oi hsi a oj.dst u h3) (wanted_put oi a oj.dst u h3)
 unfold wpOp at *;simp only[hj] at *;rw[wanted_put oj a oi.dst v h1] at h
 by_cases hw:Region.wanted oj (yielded ops a.tmps)=true
 ·simp only[hw,if_true] at h ⊢;rcases h with h|⟨hasks,hlets⟩
  case inr=>exact .inr ⟨by unfold Oper.asks at *;rw[execOp_put oj hsj a oi.dst v h1] at hasks;exact hasks,hlets⟩
  refine .inl ?_;unfold Oper.wp at *;rw[execOp_put oj hsj a oi.dst v h1] at h;generalize (execOp a.eval oj).run P w=r at *;cases r with
  |ok n w'=>
   cases n<;>simp only[Oper.upon] at h ⊢
   case value u=>exact⟨keep a hy u,by rw[<-Act.put_comm a v u h2];exact h⟩
   case skip=>exact⟨keep a hy _,by rw[<-Act.put_comm a v undef h2];exact h⟩
   case defer d=>
    have hyd:zco P ops C oi v {a with defers:=d::a.defers}:=hy.of_same rfl rfl;refine⟨keep _ hyd _,?_⟩;rw[<-Act.put_comm _ v undef h2,<-Act.put_defers];exact h
   case enter f args=>
    refine Calls.mono h fun e w'' he=>?_
    cases e with
    |returned u=>exact⟨keep a hy u,by rw[<-Act.put_comm a v u h2];exact he⟩
    |panicked c=>exact hQ _ _ _ he
    |outgrown=>exact he
   case row row args=>exact Rows.mono h fun u w'' he=>⟨keep a hy u,by rw[<-Act.put_comm a v u h2];exact he⟩
  |halt x w'=>
   cases x<;>simp only[Oper.upon] at h ⊢
   case panic u=>exact hQ _ _ _ h
 ·have hw':Region.wanted oj (yielded ops a.tmps)=false:=by simpa using hw
  simp only[hw',Bool.false_eq_true,if_false] at h ⊢;exact⟨keep a hy _,by rw[<-Act.put_comm a v undef h2];exact h⟩
def zhn(P:Program)(md:Region.Mode)(ops:Array Oper)(C:World->Prop)(t:Nat)(Q:Exit->Act->World->Prop):Nat->Array Bool->Act->World->Prop
 |0,listed,a,w=>Region.ready md ops listed=[]/\Q .normal a w
 |fuel+1,listed,a,w=>(Region.ready md ops listed=[]->Q .normal a w)/\
  ∀i∈Region.ready md ops listed,wpOp P ops Q i (fun a' w'=>((listed.setIfInBounds i true).getD t true=false->C w')/\zhn P md ops C t Q fuel (listed.setIfInBounds i true) a' w') a w
theorem zie{t:Nat}:∀(fuel:Nat) (listed:Array Bool) (a:Act) (w:World),zhn P md ops C t Q fuel listed a w->wpAny P md ops Q fuel listed a w
 |0,_,_,_,h=>h
 |fuel+1,_,_,_,h=>⟨h.1,fun i hi=>wpOp_mono (fun a w k=>zie fuel _ a w k.2) (h.2 i hi)⟩
theorem zbM{l:Array Bool}{i j:Nat}(h:i≠j):(l.setIfInBounds i true).getD j true=l.getD j true:=getD_set_ne true h
theorem zlP{i t:Nat}{oi:Oper}{v:Value}(hi:ops[i]?=some oi)(hti:t≠i)(hlast:∀listed:Array Bool,zby md ops listed->listed.getD t true=true->listed.getD i true=true)
  (hsel:∀(j:Nat) (o:Oper) cs b,ops[j]?=some o->o.op≠.select cs b) (hQ:∀c a a' w,Q (.panic c) a w->Q (.panic c) a' w):
  ∀(fuel:Nat) (listed:Array Bool) (a:Act) (w:World),zby md ops listed->
   (∀j oj,ops[j]?=some oj->j≠i->listed.getD j true=false->(∀e∈oj.after,Region.binds md e=true->e.on≠i)->oi.apart ops oj=true)->
   i∈Region.ready md ops listed->zco P ops C oi v a->C w->
   zhn P md ops C t Q fuel (listed.setIfInBounds i true) (a.put oi.dst v) w->zhn P md ops C t Q (fuel+1) listed a w:=by
 intro fuel
 induction fuel with
 |zero=>
  intro listed a w hcl _ hr hy hC H;refine⟨fun h=>(by rw[h] at hr;cases hr),fun j hj=>?_⟩
  by_cases hji:j=i
  ·subst hji;exact hy.fire hi hC ⟨fun _=>hC,H⟩
  ·have:=ready_mono hj hji;rw[H.1] at this;cases this
 |succ fuel ih=>
  intro listed a w hcl hfree hr hy hC H;refine⟨fun h=>(by rw[h] at hr;cases hr),fun j hj=>?_⟩
  by_cases hji:j=i
  ·subst hji;exact hy.fire hi hC ⟨fun _=>hC,H⟩
  ·have h1:=H.2 j (ready_mono hj hji);obtain⟨hjun,oj,hoj,hall⟩:=mem_ready.1 hj;have hiun:=(mem_ready.1 hr).1;have hnot:∀e∈oj.after,Region.binds md e=true->e.on≠i:=fun e he hb heq=>by
    have h1:=hall e he hb;rw[heq] at h1;rcases Nat.lt_or_ge i listed.size with h'|h'
    ·simp[h'] at hiun h1;rw[hiun] at h1;cases h1
    ·simp[Array.getElem?_eq_none h'] at h1
   have h2:=zp4 hoj (hfree j oj hoj hji hjun hnot) (fun cs b=>hsel i oi cs b hi) (fun cs b=>hsel j oj cs b hoj) (fun c a w h=>hQ c _ _ w h) hy h1;have hfree':∀k ok,ops[k]?=some ok->k≠i->(listed.setIfInBounds j true).getD k true=false->(∀e∈ok.after,Region.binds md e=true->e.on≠i)->oi.apart ops ok=true:=fun k ok hk hki hun hno=>by
    refine hfree k ok hk hki ?_ hno
    by_cases hjk:j=k
    ·subst hjk;exact hjun
    ·rw[zbM hjk] at hun;exact hun
   have hclj:=hcl.set hj;have htj:(listed.setIfInBounds j true).getD t true=false:=by
    cases hb:(listed.setIfInBounds j true).getD t true
    ·rfl
    ·have h3:=hlast _ hclj hb;rw[zbM hji,hiun] at h3;cases h3
   refine wpOp_mono (fun a' w' h3=>?_) h2;obtain⟨hy',hC',hrest⟩:=h3;have hCw:C w':=hC' (by rw[Array.setIfInBounds_comm _ _ (Ne.symm hji),zbM (Ne.symm hti)];exact htj);exact⟨fun _=>hCw,ih _ a' w' hclj hfree' (ready_mono hr (Ne.symm hji)) hy' hCw (by rw[Array.setIfInBounds_comm _ _ hji];exact hrest)⟩
def zcG(P:Program)(ops:Array Oper)(C:World->Prop)(t:Nat)(Q:Exit->Act->World->Prop):Nat->List Oper->Act->World->Prop
 |_,[],a,w=>Q .normal a w
 |k,o::rest,a,w=>if Region.wanted o (yielded ops a.tmps) then o.wp P a w (fun a' w'=>(k<t->C w')/\zcG P ops C t Q (k+1) rest a' w') Q else (k<t->C w)/\zcG P ops C t Q (k+1) rest (a.put o.dst undef) w
theorem zfn{t:Nat}:∀(l:List Oper) (k:Nat) (listed:Array Bool) (a:Act) (w:World),(∀j,j<l.length->l[j]?=ops[k+j]?)->(∀j,j<k->listed.getD j true=true)->(∀j,k<=j->j<k+l.length->listed.getD j true=false)->zcB md ops l.length k listed=true->t<k+l.length->zcG P ops C t Q k l a w->zhn P md ops C t Q l.length listed a w
 |[],_,_,_,_,_,_,_,hB,_,h=>by
  simp only[List.length_nil,zcB,List.isEmpty_iff] at hB;exact⟨hB,h⟩
 |o::l,k,listed,a,w,hl,hlo,hhi,hB,ht,h=>by
  have h0:ops[k]?=some o:=by simpa using (hl 0 (by simp)).symm
  simp only[List.length_cons,zcB,Bool.and_eq_true,beq_iff_eq] at hB;simp only[List.length_cons] at ht hhi;have hks:k<listed.size:=by
   rcases Nat.lt_or_ge k listed.size with h'|h'
   ·exact h'
   ·have:=hhi k (Nat.le_refl _) (by omega);simp[Array.getElem?_eq_none h'] at this
  have ih:=fun a w h=>zfn (t:=t) l (k+1) (listed.setIfInBounds k true) a w (fun j hj=>by have:=hl (j+1) (by simp;omega);simpa [Nat.add_assoc,Nat.add_comm 1 j] using this)
   (fun j hj=>by
    by_cases e:k=j
    ·subst e;simp[hks]
    ·rw[zbM e];exact hlo j (by omega))
   (fun j h1 h2=>by rw[zbM (by omega)];exact hhi j (by omega) (by omega)) hB.2 (by omega) h
  have hneed:∀{p:Prop},(k<t->p)->(listed.setIfInBounds k true).getD t true=false->p:=fun hp hf=>hp (by
   rcases Nat.lt_trichotomy k t with h1|h1|h1
   ·exact h1
   ·subst h1;simp[hks] at hf
   ·rw[zbM (by omega),hlo t (by omega)] at hf;cases hf)
  refine⟨fun e=>absurd e (by rw[hB.1];simp),fun i hi=>?_⟩;rw[hB.1] at hi;have e:i=k:=by simpa using hi
  subst e;unfold wpOp;simp only[h0];unfold zcG at h
  by_cases hw:Region.wanted o (yielded ops a.tmps)=true
  ·rw[if_pos hw] at h ⊢;exact .inl (Oper.wp_mono (fun a w h=>⟨hneed h.1,ih a w h.2⟩) h)
  ·rw[if_neg hw] at h ⊢;exact⟨hneed h.1,ih _ _ h.2⟩
def zpb(o:Oper):Bool:=match o.op with
 |.move _=>true
 |.assign _=>true
 |.load _ _=>true
 |.fieldAddr _ _ _=>true
 |.indexAddr _ _ _=>true
 |.binOp _ _ _ _ _=>true
 |_=>false
theorem zpw{s:Sem Value}{w w':World}{n:Next}(h:(do pure (Next.value (<-s)):Sem Next).run P w=.ok n w'):∃u,n=.value u:=by
 simp only[Sem.run_bind,Sem.run_pure] at h;cases hr:s.run P w with
 |ok u w1=>rw[hr] at h;simp only[Result.andThen] at h;injection h with h1;exact⟨u,h1.symm⟩
 |halt x w1=>rw[hr] at h;simp[Result.andThen] at h
theorem znB{o:Oper}(h:zpb o=true){ρ:Operand->Value}{w w':World}{n:Next}(hr:(execOp ρ o).run P w=.ok n w'):∃u,n=.value u:=by
 obtain⟨dst,op,type,pos,after,guard⟩:=o;cases op<;>simp only[zpb,Bool.false_eq_true] at h
 all_goals (simp only[execOp] at hr)
 case move x=>rw[Sem.run_pure] at hr;injection hr with h1;exact⟨_,h1.symm⟩
 case assign x=>rw[Sem.run_pure] at hr;injection hr with h1;exact⟨_,h1.symm⟩
 all_goals exact zpw hr
theorem ziO{o:Oper}{a:Act}{K:Act->Prop}(hb:zpb o=true)(hw:Region.wanted o (yielded ops a.tmps)=true)(h:o.quiet P a C K):∃v,zco P ops C o v a/\K (a.put o.dst v):=by
 obtain⟨v,h1,h2⟩:=h;refine⟨v,.inl ⟨hw,fun w hC=>?_⟩,h2⟩;have h3:=h1 w hC;unfold Oper.quietAt at h3;cases hr:(execOp a.eval o).run P w with
 |ok n w'=>
  obtain⟨u,rfl⟩:=znB hb hr;rw[hr] at h3;obtain⟨e1,e2⟩:=h3;rw[e1,e2]
 |halt x w'=>rw[hr] at h3;exact h3.elim
def lexR(md:Region.Mode)(ops:Array Oper)(n:Nat):Nat->Nat->Array Bool->Bool
 |0,_,listed=>zcB md ops (ops.size-n) n listed
 |fuel+1,k,listed=>(Region.ready md ops listed).contains k&&Region.free md ops listed k&&lexR md ops n fuel (k+1) (listed.setIfInBounds k true)
def zsJ(md:Region.Mode)(all:List Oper)(n t:Nat):Bool:=
 Region.noSelect all.toArray&&(List.range n).all (fun i=>zev md all.toArray 8 t i)&&(all.take n).all zpb&&lexR md all.toArray n n 0 (Array.replicate all.length false)&&decide (n<=t)&&decide (t<all.length)
theorem zif{n t:Nat}{all:List Oper}(hs:Region.noSelect all.toArray=true)(hn:∀i,i<n->zev md all.toArray 8 t i=true)(hnt:n<=t)(htl:t<all.length)(hQ:∀c a a' w,Q (.panic c) a w->Q (.panic c) a' w):
  ∀(l:List Oper) (k:Nat) (listed:Array Bool) (a:Act) (w:World),zby md all.toArray listed->(∀j,j<l.length->l[j]?=all.toArray[k+j]?)->k+l.length=n->(∀j,j<k->listed.getD j true=true)->(∀j,k<=j->j<all.length->listed.getD j true=false)->(∀o∈l,zpb o=true)->
   lexR md all.toArray n l.length k listed=true->C w->wpQuiet P all.toArray C (fun a'=>∀w',C w'->∀r,r=all.drop n->zcG P all.toArray C t Q n r a' w') l a->zhn P md all.toArray C t Q (l.length+(all.length-n)) listed a w
 |[],k,listed,a,w,hcl,hl,hkn,hlo,hhi,_,hB,hC,h=>by
  simp only[List.length_nil,Nat.add_zero] at hkn;subst hkn;have hld:(all.drop k).length=all.length-k:=by rw[List.length_drop]
  have:=zfn (P:=P) (C:=C) (Q:=Q) (t:=t) (all.drop k) k listed a w (fun j _=>by simp[List.getElem?_drop]) hlo (fun j h1 h2=>hhi j h1 (by rw[hld] at h2;omega)) (by rw[hld];simpa [lexR] using hB) (by rw[hld];omega) (h w hC _ rfl);rw[hld] at this
  simpa using this
 |o::l,k,listed,a,w,hcl,hl,hkn,hlo,hhi,hrd,hB,hC,h=>by
  have h0:all.toArray[k]?=some o:=by simpa using (hl 0 (by simp)).symm
  simp only[List.length_cons,lexR,Bool.and_eq_true] at hB;obtain⟨⟨hr,hf⟩,hB'⟩:=hB;simp only[List.length_cons] at hkn;have hr':k∈Region.ready md all.toArray listed:=by simpa using hr
  have hks:k<listed.size:=by
   rcases Nat.lt_or_ge k listed.size with h'|h'
   ·exact h'
   ·have:=hhi k (Nat.le_refl _) (by omega);simp[Array.getElem?_eq_none h'] at this
  have next:∀v,zco P all.toArray C o v a->wpQuiet P all.toArray C (fun a'=>∀w',C w'->∀r,r=all.drop n->zcG P all.toArray C t Q n r a' w') l (a.put o.dst v)->zhn P md all.toArray C t Q ((o::l).length+(all.length-n)) listed a w:=fun v hy hk=>by
   have ih:=zif hs hn hnt htl hQ l (k+1) (listed.setIfInBounds k true) (a.put o.dst v) w (hcl.set hr') (fun j hj=>by have:=hl (j+1) (by simp;omega);simpa [Nat.add_assoc,Nat.add_comm 1 j] using this) (by omega)
    (fun j hj=>by
     by_cases e:k=j
     ·subst e;simp[hks]
     ·rw[zbM e];exact hlo j (by omega))
    (fun j h1 h2=>by rw[zbM (by omega)];exact hhi j (by omega) h2) (fun o ho=>hrd o (by simp[ho])) hB' hC hk
   rw[show (o::l).length+(all.length-n)=(l.length+(all.length-n))+1 by simp;omega];exact zlP h0 (by omega) (fun L hc hl=>zcw hc 8 t k hl (hn k (by omega))) (Region.noSelect_spec hs) hQ _ listed a w hcl (Region.free_spec h0 hf) hr' hy hC ih
  unfold wpQuiet at h
  by_cases hw:Region.wanted o (yielded all.toArray a.tmps)=true
  ·rw[if_pos hw] at h;obtain⟨v,hy,hk⟩:=ziO (hrd o (by simp)) hw h;exact next v hy hk
  ·rw[if_neg hw] at h;exact next undef (.inr ⟨by simpa using hw,rfl⟩) h
theorem zhH(n t:Nat){id:Nat}{a:Act}{w:World}{all:List Oper}(C:World->Prop)(hm:P.follows .mixedOrders=true)(hC:C w.drew)(hB:zsJ .any all n t=true)(hQ:∀c a a' w,Q (.panic c) a w->Q (.panic c) a' w)
  (h:∀l,l=all.take n->wpQuiet P all.toArray C (fun a'=>∀w',C w'->∀r,r=all.drop n->zcG P all.toArray C t Q n r a' w') l a):(Code.region id all.toArray true).wp P Q a w:=by
 simp only[zsJ,Bool.and_eq_true,List.all_eq_true,List.mem_range,decide_eq_true_eq] at hB;obtain⟨⟨⟨⟨⟨hs,hn⟩,hrd⟩,hlx⟩,hnt⟩,htl⟩:=hB;have hlt:(all.take n).length=n:=by rw[List.length_take];omega
 refine wp_region_any hm ?_;have h1:=zif (P:=P) (C:=C) (Q:=Q) (md:=.any) hs hn hnt htl hQ (all.take n) 0 (Array.replicate all.toArray.size false) a w.drew (zby.start _ _) (fun j hj=>by rw[hlt] at hj;simp[hj]) (by omega) (fun j hj=>absurd hj (Nat.not_lt_zero _)) (fun j _ hj=>by simp[hj]) (fun o ho=>hrd o ho) (by rw[hlt];simpa using hlx) hC (h _ rfl);have h2:=zie _ _ _ _ h1;rw[hlt,show n+(all.length-n)=all.length by omega] at h2
 simpa using h2
theorem zbd{t k:Nat}{o:Oper}{rest:List Oper}{a:Act}{w:World}(hg:o.guard=none)(h:∀K:Act->World->Prop,(∀a' w',(k<t->C w')->zcG P ops C t Q (k+1) rest a' w'->K a' w')->o.wp P a w K Q):zcG P ops C t Q k (o::rest) a w:=by
 unfold zcG;rw[if_pos (by simp[Region.wanted,hg])];exact h _ (fun _ _ h1 h2=>⟨h1,h2⟩)
theorem zbX{t:Nat}:∀(l:List Oper) (k:Nat) (a:Act) (w:World),t<=k->(∀a w,¬Q .outgrown a w)->wpList P ops Q l a w->zcG P ops C t Q k l a w
 |[],_,_,_,_,_,h=>h
 |o::l,k,a,w,hk,hL,h=>by
  unfold wpList at h;unfold zcG
  by_cases hw:Region.wanted o (yielded ops a.tmps)=true
  ·rw[if_pos hw] at h ⊢;rcases h with h|h
   ·exact Oper.wp_mono (fun a w h=>⟨fun e=>absurd e (by omega),zbX l (k+1) a w (by omega) hL h⟩) h
   ·obtain⟨_,a',w',h'⟩:=h;exact absurd h' (hL a' w')
  ·rw[if_neg hw] at h ⊢;exact⟨fun e=>absurd e (by omega),zbX l (k+1) _ w (by omega) hL h⟩
def zr4(Q:Exit->Act->World->Prop):Exit->Act->World->Prop
 |.panic _,_,_=>False
 |.outgrown,_,_=>False
 |.normal,a,w=>Q .normal a w
 |.ret,a,w=>Q .ret a w
 |.exit id,a,w=>Q (.exit id) a w
 |.goto l,a,w=>Q (.goto l) a w
theorem zcK{Q:Exit->Act->World->Prop}{a:Act}{w:World}:zr4 Q .normal a w=Q .normal a w:=rfl
theorem zmM{Q:Exit->Act->World->Prop}:∀e a w,zr4 Q e a w->Q e a w:=fun e a w h=>by
 cases e with
 |panic c=>exact h.elim
 |outgrown=>exact h.elim
 |normal=>exact h
 |ret=>exact h
 |exit id=>exact h
 |goto l=>exact h
theorem zbY(n t:Nat){id:Nat}{a:Act}{w:World}{all:List Oper}(C:World->Prop)(hm:P.follows .mixedOrders=true)(hC:C w.drew)(hB:zsJ .any all n t=true)
  (h:∀l,l=all.take n->wpQuiet P all.toArray C (fun a'=>∀w',C w'->∀r,r=all.drop n->zcG P all.toArray C t (zr4 Q) n r a' w') l a):(Code.region id all.toArray true).wp P Q a w:=
 wp_mono (zhH n t C hm hC hB (fun _ _ _ _ h=>h.elim) h) zmM
end
end
open Go.RowKit
attribute [local go_sem] Oper.semAt_some
structure ExtW(X:World) where
 W:World
 h:Below X.heap.size X W
instance extNonempty (X:World):Nonempty (ExtW X):=⟨⟨X,Below.refl _ _⟩⟩
theorem Tryz.infoByteM:(Tryz.prog.info? 5).map (fun i=>(i.zero,i.size,i.bytes))=some (some (.int .u8 0),1,1):=by kernel_rfl
def appB(ats:Array TypeId)(ty:TypeId)(args:Array Value):Sem Value:=Builtin.append_ ats ty args
theorem zkD(ty:TypeId)(args:Array Value):Builtin.append_ #[131,131] ty args=appB #[131,131] ty args:=rfl
theorem zrX{W:World}{B g9 c9:Nat}{xs:List UInt8}(ho:W.ownsRow B 5 1 (.slice (some ⟨g9,0,none⟩) xs.length c9) xs.length (bytU xs))(hB:B<=W.heap.size)(hl:xs.length<=100000)(b0 b1:UInt8)(ty:TypeId):
  ∃g cap W',(appB #[131,131] ty #[.slice (some ⟨g9,0,none⟩) xs.length c9,.slice (some ⟨W.heap.size,0,none⟩) 2 2]).run Tryz.prog (W.alloc (.cells #[.int .u8 b0.toNat,.int .u8 b1.toNat] 5))=.ok (.slice (some ⟨g,0,none⟩) (xs.length+2) cap) W'/\W'.ownsRow B 5 1 (.slice (some ⟨g,0,none⟩) (xs++[b0,b1]).length cap) (xs++[b0,b1]).length (bytU (xs++[b0,b1]))/\W.grownBy W' (some g9):=by
 obtain⟨i0,hi0,hz0,hz1,hz2⟩:=info_parts Tryz.infoByteM;have hb:Below W.heap.size W (W.alloc (.cells #[.int .u8 b0.toNat,.int .u8 b1.toNat] 5)):=(Below.refl _ _).alloc (zuz _) _;have own:=zad ho hb;have hsz:(W.alloc (.cells #[.int .u8 b0.toNat,.int .u8 b1.toNat] 5)).heap.size=W.heap.size+1:=by simp
 obtain⟨g,cap,W',hr,own',grow',at',_⟩:=run_append_lies (P:=Tryz.prog) (W.alloc (.cells #[.int .u8 b0.toNat,.int .u8 b1.toNat] 5)) 131 ty B 5 i0 _ 1 1 Tryz.underlying131 hi0 hz0 hz1 hz2 rfl (by omega) _ xs.length (bytU xs) own ⟨W.heap.size,0,none⟩ 2 2 [.int .u8 b0.toNat,.int .u8 b1.toNat] rfl (World.news_of_block (zuR _ _)) (by intro u hu;simp at hu;rcases hu with rfl|rfl<;>rfl) (by omega) (by unfold maxLen;omega) (by omega) (by omega) (W.heap.size+1) hsz;refine⟨g,cap,W',hr,?_,?_⟩
 ·rw[show (xs++[b0,b1]).length=xs.length+2 by simp,show bytU (xs++[b0,b1])=bytU xs++[.int .u8 b0.toNat,.int .u8 b1.toNat] by simp[bytU]];exact own'
 ·exact⟨grow'.os.trans hb.os,grow'.tape.trans hb.tape,grow'.output.trans hb.output,zuA hb.size grow'.size,fun k hk hne=>(grow'.block k (by have:=hb.size;omega) hne).trans (hb.block k hk)⟩
structure MmL(w:World)(D:Array Value)(b3 b4 b5 gb cb g1 K c1 g2 n c2:Nat)(o os:List Nat)(nb:List Int)(W:World):Prop where
 zD:W.heap[w.heap.size]?=some (.cells D 26 (0,0))
 z3:W.cell? ⟨b3,0,none⟩=some (.slice (some ⟨gb,0,none⟩) n cb)
 z4:W.cell? ⟨b4,0,none⟩=some (.slice (some ⟨g1,0,none⟩) K c1)
 z5:W.cell? ⟨b5,0,none⟩=some (.slice (some ⟨g2,0,none⟩) n c2)
 cb:∀s,s<n->W.cell? ⟨gb,s,none⟩=some (.int .i64 ((o.getD s 0:Nat):Int))
 c4:∀k,k<K->W.cell? ⟨g1,k,none⟩=some (.int .i64 ((os.getD k 0:Nat):Int))
 c5:∀j,j<n->W.cell? ⟨g2,j,none⟩=some (.int .i64 (nb.getD j 0))
theorem zpN{d:DfaD}(hf:zaE d){o:List Nat}{nb:List Int}{K k c:Nat}(h:WkI d o (zat (stN d) (anN d) K 0) nb)(hG:zef (stN d) (anN d) K)(hK:(zat (stN d) (anN d) K 0).length=K)(hk:k<K)(hc:c<256):stN d ((zat (stN d) (anN d) K 0).getD k 0) c<d.tag.length/\nb.getD (o.getD (stN d ((zat (stN d) (anN d) K 0).getD k 0) c) 0) 0=(rwA d k c:Int)/\rwA d k c<K:=by
 have hs:=h.lt _ (za3 (show k<(zat (stN d) (anN d) K 0).length by omega));have hx:=hf.stc hs hc;have h1:=zpt hG hk hc;have h2:=zrf (st:=stN d) (an:=anN d) hk hc;have h3:=h.num _ hx;rw[<-h1,zuV h2] at h3;exact⟨hx,h3,by unfold rwA;omega⟩
structure MmI(W8:World)(R:Nat->Nat->Nat)(K p9 c:Nat)(v:Nat->Value)(ls:Nat->List Int)(g9 c9:Nat)(xs:List UInt8)(W:World):Prop where
 st:MmS W8 W 0 v ls ((zah K R c).map (colK R K)) p9 g9 c9 xs
 l0:ls 0=(List.range c).map fun c=>(clsF K R c:Int)
 l1:ls 1=[]
 l2:ls 2=[]
 l3:ls 3=[]
 l4:ls 4=zav (zah K R c)
theorem MmI.own(W8:World)(R:Nat->Nat->Nat)(K p9 B:Nat)(hB:W8.heap.size+6<=B):OwnFrom B (fun c W=>∃v ls g9 c9 xs,MmI W8 R K p9 c v ls g9 c9 xs W):=by
 rintro c W W' row ⟨v,ls,g9,c9,xs,h⟩ hg hr;have hc:∀{b:Nat} {cs:Array Value} {t:TypeId},W.heap[b]?=some (.cells cs t (0,0))->W'.heap[b]?=some (.cells cs t (0,0)):=fun hb=>(hg.block _ (zae hb) (fun e=>by obtain⟨_,o,h1,h2⟩:=hr _ e.symm;rw[hb] at h1;cases h1;cases h2)).trans hb
 refine⟨v,ls,g9,c9,xs,⟨⟨h.st.hd.fam.keepO fun i hi b hb=>?_,hc h.st.hd.box,h.st.hd.below.grown hg (by have:=h.st.size;omega) (fun b hb=>by have:=(hr b hb).1;omega),rfl⟩,hc h.st.b7,(hg.block _ (ztp.1 h.st.mp).1 (fun e=>by have:=(hr _ e.symm).1;omega)).trans h.st.mp,hc h.st.b8,za6 h.st.col fun b cs hb=>hc hb,hc h.st.b9,h.st.ge9⟩,h.l0,h.l1,h.l2,h.l3,h.l4⟩;obtain⟨cs,h1⟩:=za9 (h.st.hd.fam.own i hi) hb;rw[hc h1,h1]
attribute [local go_sem ↓] zdU zkD
attribute [local go_sem] zcK
theorem zng(cv nv tv ev:Value)(d:DfaD)(w:World)(hs:zbU 0 w cv nv tv ev d)(hf:zaE d):
  Calls Tryz.prog 26 #[.agg #[cv,.int .i64 d.width,nv,tv,ev]] w (MinP w d):=by
 have hmix:Tryz.prog.follows .mixedOrders=true:=by kernel_rfl
 obtain⟨iB,hjB,hyB0,hyB1,hyB2⟩:=info_parts Tryz.infoByteM;have hn1:=hf.n1;have hn2:=hf.n2;have Hs:Hid _:=hs;obtain⟨⟨ca,cc,rfl,cm,cx⟩,⟨na,nc,rfl,nm,nx⟩,⟨ta,tc,rfl,tm,tx⟩,⟨ea,ec,rfl,em,ex⟩⟩:=hs;clear cx nx tx ex;have HF:Hid (zaE d):=hf;clear hf;obtain⟨W1,hW1⟩:∃W1,(w.alloc (.cells #[.slice ca d.classes.length cc,.int .i64 d.width,.slice na d.next.length nc,.slice ta d.tag.length tc,.slice ea d.fin.length ec] 26)).alloc (.cells zbf 26)=W1:=⟨_,rfl⟩;have hb1:Below w.heap.size w W1:=by rw[<-hW1];exact((Below.refl _ _).alloc (zuz _) _).alloc (by simp) _
 have xD:W1.heap[w.heap.size]?=some (.cells #[.slice ca d.classes.length cc,.int .i64 d.width,.slice na d.next.length nc,.slice ta d.tag.length tc,.slice ea d.fin.length ec] 26 (0,0)):=by
  rw[<-hW1,Below.heap_alloc _ _ _ (by simp)];exact zuR _ _
 have xR:W1.heap[w.heap.size+1]?=some (.cells zbf 26 (0,0)):=by
  rw[<-hW1];have:=zuR (w.alloc (.cells #[.slice ca d.classes.length cc,.int .i64 d.width,.slice na d.next.length nc,.slice ta d.tag.length tc,.slice ea d.fin.length ec] 26)) (.cells zbf 26)
  simpa using this
 obtain⟨q0,q1,q2,q3,q4⟩:=zaq xD;have Hb1:Hid _:=hb1;have HxD:Hid _:=xD;have HxR:Hid _:=xR;have Hal:Hid _:=zqi _ _ _ _ d W1 (Hs.out.below hb1) HF.out;clear hb1 xD xR;unfold zbf at hW1;refine(callsIn_wide (n:=5)).1 ?_;refine callsIn_of_wp_marks Tryz.func26 rfl trivial ?_ rfl;refine wpIn_wide.2 ?_;simp only[Tryz.ntmps26,zuo,zt2,zt4,Nat.reduceAdd,Nat.reduceSub,ztr,zts,zum,ztE,zuj,ztF]
 go_wp2_with fail
 refine Calls.mono Hal.out ?_;rintro e w2 ⟨bv,o,rfl,hO,hol,hon,hA,hb2⟩;obtain⟨gb,cb,ebv,hgb1,hgb2,hcb⟩:=zbe hO (by rw[zag];omega);rw[zag,hol] at ebv hcb;subst ebv;have Hb2:Hid (Below w.heap.size w w2):=Hb1.out.trans (hb2.mono Hb1.out.size);have Hcb:Hid (∀s,s<d.tag.length->w2.cell? ⟨gb,s,none⟩=some (.int .i64 ((o.getD s 0:Nat):Int))):=fun s hs=>by rw[hcb s hs,zbw]
 have HxD2:Hid _:=zab HxD.out hb2;have HxR2:Hid _:=zab HxR.out hb2;have Hon:Hid _:=hon;have HA:Hid _:=hA;clear hO hol hcb hon hA hb2 q0 q1 q2 q3 q4 Hal hW1 HxD HxR;obtain⟨W3,hW3⟩:∃W3,w2.alloc (.cells #[.slice (some ⟨gb,0,none⟩) d.tag.length cb] 24)=W3:=⟨_,rfl⟩;have hb3:Below w2.heap.size w2 W3:=by rw[<-hW3];exact(Below.refl _ _).alloc (zuz _) _
 have x3:W3.heap[w2.heap.size]?=some (.cells #[.slice (some ⟨gb,0,none⟩) d.tag.length cb] 24 (0,0)):=by rw[<-hW3];exact zuR _ _
 have y3:W3.cell? ⟨w2.heap.size,0,none⟩=some (.slice (some ⟨gb,0,none⟩) d.tag.length cb):=by rw[zuO _ _ _ _ _ _ x3];rfl
 obtain⟨q0,q1,q2,q3,q4⟩:=zaq (zab HxD2.out hb3);have Hb3:Hid (Below w.heap.size w W3):=Hb2.out.trans (hb3.mono Hb2.out.size);have Hwk:Hid _:=zsM (bb:=gb) (bo:=0) (bc:=cb) _ _ _ _ d o W3 (Hs.out.below Hb3.out) HF.out (by have:=hb3.size;omega) (fun s hs=>by rw[zuK,hb3.cell (p:=⟨gb,s,none⟩) hgb2];exact Hcb.out s hs) Hon.out HA.out;have hl3:=zae x3;have Hx3:Hid _:=x3;have Hb23:Hid _:=hb3;clear x3 hb3
 go_wp2_with fail
 refine Calls.mono Hwk.out ?_;rintro e w4 ⟨K,g1,c1,g2,c2,nb,hG,hKl,rfl,hO1,hO2,hWk,hb4⟩;obtain⟨W8,hW8⟩:∃W8,(w4.alloc (.cells #[.slice (some ⟨g1,0,none⟩) K c1] 24)).alloc (.cells #[.slice (some ⟨g2,0,none⟩) d.tag.length c2] 24)=W8:=⟨_,rfl⟩;have hmm:=@run_makeMap Tryz.prog;have hKn:=hWk.len;have HWk:Hid _:=hWk;have HG:Hid _:=hG;have HKl:Hid _:=hKl;have hb8:Below w4.heap.size w4 W8:=by rw[<-hW8];exact((Below.refl _ _).alloc (zuz _) _).alloc (by simp) _
 have x4:W8.heap[w4.heap.size]?=some (.cells #[.slice (some ⟨g1,0,none⟩) K c1] 24 (0,0)):=by
  rw[<-hW8,Below.heap_alloc _ _ _ (by simp)];exact zuR _ _
 have x5:W8.heap[w4.heap.size+1]?=some (.cells #[.slice (some ⟨g2,0,none⟩) d.tag.length c2] 24 (0,0)):=by
  rw[<-hW8];have:=zuR (w4.alloc (.cells #[.slice (some ⟨g1,0,none⟩) K c1] 24)) (.cells #[.slice (some ⟨g2,0,none⟩) d.tag.length c2] 24)
  simpa using this
 have hK0:1<=K:=by
  have:=(zdj (stN d) (anN d) 0 K (zuL _));obtain⟨t,ht⟩:=this;rw[ht,zcD] at hKl;simp at hKl;omega
 obtain⟨g1',c1',e1',_,hg1l,hc1⟩:=zbe hO1 (by rw[zag];omega);rw[zag,hKl] at e1' hc1;cases e1';obtain⟨g2',c2',e2',_,hg2l,hc2⟩:=zbe hO2 (by rw[hWk.nl];omega);rw[hWk.nl] at e2' hc2;cases e2';have hb28:Below w2.heap.size w2 W8:=Hb23.out.trans ((hb4.trans (hb8.mono hb4.size)).mono Hb23.out.size);have HL:Hid (∀W,Below W8.heap.size W8 W->MmL w #[.slice ca d.classes.length cc,.int .i64 d.width,.slice na d.next.length nc,.slice ta d.tag.length tc,.slice ea d.fin.length ec] w2.heap.size w4.heap.size (w4.heap.size+1) gb cb g1 K c1 g2 d.tag.length c2 o (zat (stN d) (anN d) K 0) nb W):=fun W hW=>by
  have hB2:Below w2.heap.size w2 W:=hb28.trans (hW.mono hb28.size);have hB4:Below w4.heap.size w4 W:=hb8.trans (hW.mono hb8.size);refine⟨zab HxD2.out hB2,?_,?_,?_,fun s hs=>(hB2.cell (p:=⟨gb,s,none⟩) hgb2).trans (Hcb.out s hs),fun k hk=>by rw[hB4.cell (p:=⟨g1,k,none⟩) hg1l,hc1 k hk,zbw],fun j hj=>by rw[hB4.cell (p:=⟨g2,j,none⟩) hg2l];exact hc2 j hj⟩
  ·rw[zuO _ _ _ _ _ _ (zab (zab Hx3.out (hb4.trans (hb8.mono hb4.size))) hW)];rfl
  ·rw[zuO _ _ _ _ _ _ (zab x4 hW)];rfl
  ·rw[zuO _ _ _ _ _ _ (zab x5 hW)];rfl
 have HB8:Hid (Below w.heap.size w W8):=Hb2.out.trans (hb28.mono Hb2.out.size);have HRes:Hid (W8.heap[w.heap.size+1]?=some (.cells zbf 26 (0,0))):=zab HxR2.out hb28;have hwl:w.heap.size+1<W8.heap.size:=zae HRes.out;obtain⟨W9,hW9⟩:∃W9,((((W8.alloc (.cells #[.slice none 0 0,.int .i64 0,.slice none 0 0,.slice none 0 0,.slice none 0 0] 26)).alloc (.cells #[] 3)).alloc (.cells #[.slice (some ⟨W8.heap.size+1,0,none⟩) 0 0] 24)).alloc (.map #[] 0)).alloc (.cells #[.map (some (W8.heap.size+1+1+1))] 123)=W9:=⟨_,rfl⟩;have s9:W9.heap.size=W8.heap.size+5:=by rw[<-hW9];simp
 have hb9:Below W8.heap.size W8 W9:=by rw[<-hW9];exact(((((Below.refl _ _).alloc (zuz _) _).alloc (by simp) _).alloc (by simp;omega) _).alloc (by simp;omega) _).alloc (by simp;omega) _
 have y4:=(HL.out W9 hb9).z4;have hKi:(K:Int)<=4000:=by omega
 have Hb9:Hid _:=hb9;have Hs9:Hid _:=s9;have HW9:Hid _:=hW9;clear Hwk q0 q1 q2 q3 q4 y3 hO1 hO2 hb8 x4 x5 hc1 hc2 hb28 hb4 hG hKl hWk hb9 s9
 go_wp2_with (refine wpList_make_own _ rfl _ _ 131 rfl (W8.heap.size+1) 5 iB _ 1 Tryz.underlying131 hjB hyB0 hyB1 _ _ _ (2*K) rfl rfl (by omega) (by rw[hyB2];omega) (by unfold maxLen;omega) (by have:=Hs9.out;omega) ?_;intro w10 hown10 hgrow10)
 rename_i K1 hK1
 have hb10:Below W9.heap.size W9 w10:=(Below.refl _ _).grown hgrow10 (zuz _) (by intro k h;cases h);have hs10:=hb10.size;have hs9:W8.heap.size+5<=W9.heap.size:=by have:=Hs9.out;omega
 have HI0:Hid (MmI W8 (rwA d) K w10.heap.size 0 (upd (fun _=>.slice none 0 0) 4 (.slice (some ⟨W8.heap.size+1,0,none⟩) 0 0)) (updL (fun _=>[]) 4 []) W9.heap.size (2*K) [] (w10.alloc (.cells #[.slice (some ⟨W9.heap.size,0,none⟩) 0 (2*K)] 131))):=by
  have hstart:=HdS.start (W8:=W8);unfold zbf at hstart;have bz1:Below ((W8.alloc (.cells #[.slice none 0 0,.int .i64 0,.slice none 0 0,.slice none 0 0,.slice none 0 0] 26)).alloc (.cells #[] 3)).heap.size ((W8.alloc (.cells #[.slice none 0 0,.int .i64 0,.slice none 0 0,.slice none 0 0,.slice none 0 0] 26)).alloc (.cells #[] 3)) W9:=by rw[<-HW9.out];exact(((Below.refl _ _).alloc (zuz _) _).alloc (by simp) _).alloc (by simp) _
  have h7:W9.heap[W8.heap.size+1+1]?=some (.cells #[.slice (some ⟨W8.heap.size+1,0,none⟩) 0 0] 24 (0,0)):=by
   rw[<-HW9.out,Below.heap_alloc _ _ _ (by simp),Below.heap_alloc _ _ _ (by simp)];have:=zuR ((W8.alloc (.cells #[.slice none 0 0,.int .i64 0,.slice none 0 0,.slice none 0 0,.slice none 0 0] 26)).alloc (.cells #[] 3)) (.cells #[.slice (some ⟨W8.heap.size+1,0,none⟩) 0 0] 24)
   simpa using this
  have hmp:W9.heap[W8.heap.size+1+1+1]?=some (.map #[] 0):=by
   rw[<-HW9.out,Below.heap_alloc _ _ _ (by simp)];have:=zuR (((W8.alloc (.cells #[.slice none 0 0,.int .i64 0,.slice none 0 0,.slice none 0 0,.slice none 0 0] 26)).alloc (.cells #[] 3)).alloc (.cells #[.slice (some ⟨W8.heap.size+1,0,none⟩) 0 0] 24)) (.map #[] 0)
   simpa using this
  have h8:W9.heap[W8.heap.size+1+1+1+1]?=some (.cells #[.map (some (W8.heap.size+1+1+1))] 123 (0,0)):=by
   rw[<-HW9.out];have:=zuR ((((W8.alloc (.cells #[.slice none 0 0,.int .i64 0,.slice none 0 0,.slice none 0 0,.slice none 0 0] 26)).alloc (.cells #[] 3)).alloc (.cells #[.slice (some ⟨W8.heap.size+1,0,none⟩) 0 0] 24)).alloc (.map #[] 0)) (.cells #[.map (some (W8.heap.size+1+1+1))] 123)
   simpa using this
  have ba:Below w10.heap.size w10 (w10.alloc (.cells #[.slice (some ⟨W9.heap.size,0,none⟩) 0 (2*K)] 131)):=(Below.refl _ _).alloc (zuz _) _;have b9a:=hb10.trans (ba.mono hs10);exact⟨⟨(hstart.on bz1).on b9a,zab h7 b9a,zab hmp b9a,zab h8 b9a,zad hown10 ba,zuR _ _,by omega⟩,rfl,rfl,rfl,rfl,rfl⟩
 have hsz0:Hid ((w10.alloc (.cells #[.slice (some ⟨W9.heap.size,0,none⟩) 0 (2*K)] 131)).heap.size=w10.heap.size+1):=by show _=_;simp
 have Hb10:Hid (Below W8.heap.size W8 w10):=Hb9.out.trans (hb10.mono (by omega));clear hown10 hgrow10 y4;refine(wpIn_wide (n:=5)).1 ?_;refine zfr (encs:=zhw) (N:=256) (gf:=63) (I:=fun c W=>∃v ls g9 c9 xs,MmI W8 (rwA d) K w10.heap.size c v ls g9 c9 xs W)
  (a₁:=fun c=>{tmps:=#[.agg #[.slice ca d.classes.length cc,.int .i64 d.width,.slice na d.next.length nc,.slice ta d.tag.length tc,.slice ea d.fin.length ec],.pointer (some ⟨w.heap.size,0,none⟩),.pointer (some ⟨w.heap.size+1,0,none⟩),.pointer (some ⟨w2.heap.size,0,none⟩),.pointer (some ⟨w4.heap.size,0,none⟩),.pointer (some ⟨w4.heap.size+1,0,none⟩),.pointer (some ⟨W8.heap.size,0,none⟩),.pointer (some ⟨W8.heap.size+1+1,0,none⟩),.pointer (some ⟨W8.heap.size+1+1+1+1,0,none⟩),.pointer (some ⟨w10.heap.size,0,none⟩),.int .i64 (c:Int),undef,undef,undef,undef,undef,undef,undef,undef,undef,.agg #[.slice ca d.classes.length cc,.int .i64 d.width,.slice na d.next.length nc,.slice ta d.tag.length tc,.slice ea d.fin.length ec],.slice (some ⟨gb,0,none⟩) d.tag.length cb,.tuple #[.slice (some ⟨g1,0,none⟩) K c1,.slice (some ⟨g2,0,none⟩) d.tag.length c2],.agg #[.slice ca d.classes.length cc,.int .i64 d.width,.slice na d.next.length nc,.slice ta d.tag.length tc,.slice ea d.fin.length ec],.slice (some ⟨gb,0,none⟩) d.tag.length cb,.tuple #[.slice (some ⟨g1,0,none⟩) K c1,.slice (some ⟨g2,0,none⟩) d.tag.length c2],.slice (some ⟨g1,0,none⟩) K c1,.slice (some ⟨g2,0,none⟩) d.tag.length c2,.agg #[.slice none 0 0,.int .i64 0,.slice none 0 0,.slice none 0 0,.slice none 0 0],.slice (some ⟨W8.heap.size+1,0,none⟩) 0 0,.map (some (W8.heap.size+1+1+1)),.slice (some ⟨g1,0,none⟩) K c1,.int .i64 (K:Int),.int .i64 (2*(K:Int)),.slice (some ⟨W9.heap.size,0,none⟩) 0 (2*K),.int .i64 (c:Int),undef,undef,undef,undef,undef,undef,undef,undef,undef,undef,undef,undef,undef,undef,undef,undef,undef,undef,undef,undef,undef,undef,undef,undef,undef,undef,undef,undef,undef,undef,undef,undef,undef,undef,undef,undef,undef,undef,undef,undef,undef,undef,undef,undef,undef,undef,undef,undef,undef,undef,undef,undef,undef,undef,undef,undef,undef,undef,undef,undef,undef,undef,undef,undef,undef,undef,undef,undef,undef,undef,undef,undef,undef,undef,undef,undef,undef,undef,undef,undef,undef,undef,undef,undef,undef,undef,undef,undef,undef,undef,undef,undef,undef,undef,undef,undef,undef,undef],defers:=[]}) ?h1 ?hg ?eg ?hseq ?hps ?hI ?h0 ?assign ?body ?done
 case h1=>omega
 case hg=>rfl
 case eg=>exact enters_of Tryz.func63 (by kernel_rfl) rfl
 case hseq=>exact zdn 4 (by omega)
 case hps=>exact fun _=>rfl
 case hI=>exact MmI.own W8 _ K _ _ (by rw[hsz0.out];omega)
 case h0=>exact⟨_,_,_,_,_,HI0.out⟩
 case assign=>
  intro l k W K2 hK2;unfold zhw
  gi_wp2
  exact hK2
 case body=>
  rintro l0 c W5 hl0 ⟨v,ls,g9,c9,xs,H⟩ hc;have z9:W5.cell? ⟨w10.heap.size,0,none⟩=some (.slice (some ⟨g9,0,none⟩) xs.length c9):=by rw[zuO _ _ _ _ _ _ H.st.b9];rfl
  have f9:=zuQ _ _ 0 _ _ H.st.b9;have hE:=H.st.empty;obtain⟨Wa,hWa⟩:∃Wa,W5.setCell ⟨w10.heap.size,0,none⟩ (.slice (some ⟨g9,0,none⟩) 0 c9)=Wa:=⟨_,rfl⟩;rw[hWa] at hE;have HE:Hid _:=hE;have HKa:Hid (KeepsOthers W5 Wa):=by rw[<-hWa];exact KeepsOthers.setCell _ _ _
  have z4:=(HL.out Wa hE.hd.below).z4;have HH:Hid _:=H;clear hE H HI0 hK1 HW9 Hb10
  gi_wp2
  clear z9 f9 z4 hWa
  gi_loopw [40] (fun i W=>∃(k g9 c9:Nat),k<=K/\i=.int .i64 k/\Hid (MmS W8 W 0 v ls ((zah K (rwA d) c).map (colK (rwA d) K)) w10.heap.size g9 c9 (colU (rwA d) c k))/\Hid (KeepsOthers W5 W))
   (fun i _=>K-(intOf i).toNat)
  case atStart=>exact⟨0,g9,c9,zuL _,rfl,HE,HKa⟩
  case round=>
   clear HE HKa;obtain⟨k,g9,c9,hk,rfl,HM,HK⟩:=hrel
   by_cases hk2:k<K
   ·have L:=HL.out wr HM.out.hd.below;obtain⟨hxn,hnb,hrl⟩:=zpN HF.out HWk.out HG.out HKl.out hk2 hc;have hsn:=HWk.out.lt _ (za3 (show k<(zat (stN d) (anN d) K 0).length by have:=HKl.out;omega));have z0:=L.c4 k hk2;have Hst:Hid (∀X,Below w.heap.size w X->Calls Tryz.prog 64 #[.agg #[.slice ca d.classes.length cc,.int .i64 d.width,.slice na d.next.length nc,.slice ta d.tag.length tc,.slice ea d.fin.length ec],.int .i64 (((zat (stN d) (anN d) K 0).getD k 0:Nat):Int),.int .i64 (c:Int)] X fun e w'=>e=.returned (.int .i64 ((stN d ((zat (stN d) (anN d) K 0).getD k 0) c:Nat):Int))/\Below X.heap.size X w'):=fun X hX=>by
     have:=zlH _ _ _ _ d (((zat (stN d) (anN d) K 0).getD k 0:Nat):Int) c X (Hs.out.below hX) HF.out (by omega) (by omega) hc;rw[zff HF.out hsn hc] at this;exact this
    have hbx:=Hon.out _ hxn;have Lx:∀s:ExtW wr,MmL w #[.slice ca d.classes.length cc,.int .i64 d.width,.slice na d.next.length nc,.slice ta d.tag.length tc,.slice ea d.fin.length ec] w2.heap.size w4.heap.size (w4.heap.size+1) gb cb g1 K c1 g2 d.tag.length c2 o (zat (stN d) (anN d) K 0) nb s.W:=fun s=>HL.out s.W (HM.out.hd.below.trans (s.h.mono (by have:=HM.out.size;omega)))
    have x5:∀s:ExtW wr,s.W.cell? ⟨w4.heap.size+1,0,none⟩=some (.slice (some ⟨g2,0,none⟩) d.tag.length c2):=fun s=>(Lx s).z5
    have x3:∀s:ExtW wr,s.W.cell? ⟨w2.heap.size,0,none⟩=some (.slice (some ⟨gb,0,none⟩) d.tag.length cb):=fun s=>(Lx s).z3
    have xd0:∀s:ExtW wr,s.W.cell? ⟨w.heap.size,0,none⟩=some (.slice ca d.classes.length cc):=fun s=>(zaq (Lx s).zD).1
    have xd1:∀s:ExtW wr,s.W.cell? ⟨w.heap.size,1,none⟩=some (.int .i64 d.width):=fun s=>(zaq (Lx s).zD).2.1
    have xd2:∀s:ExtW wr,s.W.cell? ⟨w.heap.size,2,none⟩=some (.slice na d.next.length nc):=fun s=>(zaq (Lx s).zD).2.2.1
    have xd3:∀s:ExtW wr,s.W.cell? ⟨w.heap.size,3,none⟩=some (.slice ta d.tag.length tc):=fun s=>(zaq (Lx s).zD).2.2.2.1
    have xd4:∀s:ExtW wr,s.W.cell? ⟨w.heap.size,4,none⟩=some (.slice ea d.fin.length ec):=fun s=>(zaq (Lx s).zD).2.2.2.2
    have xb:∀s:ExtW wr,s.W.cell? ⟨gb,stN d ((zat (stN d) (anN d) K 0).getD k 0) c,none⟩=some (.int .i64 ((o.getD (stN d ((zat (stN d) (anN d) K 0).getD k 0) c) 0:Nat):Int)):=fun s=>(Lx s).cb _ hxn
    have xn:∀s:ExtW wr,s.W.cell? ⟨g2,o.getD (stN d ((zat (stN d) (anN d) K 0).getD k 0) c) 0,none⟩=some (.int .i64 ((rwA d k c:Nat):Int)):=fun s=>by rw[(Lx s).c5 _ hbx,hnb]
    have hstep:∀s:ExtW wr,Calls Tryz.prog 64 #[.agg #[.slice ca d.classes.length cc,.int .i64 d.width,.slice na d.next.length nc,.slice ta d.tag.length tc,.slice ea d.fin.length ec],.int .i64 (((zat (stN d) (anN d) K 0).getD k 0:Nat):Int),.int .i64 (c:Int)] s.W fun e w'=>e=.returned (.int .i64 ((stN d ((zat (stN d) (anN d) K 0).getD k 0) c:Nat):Int))/\∃s':ExtW wr,w'=s'.W:=fun s=>by
     have hB:=HM.out.hd.below.trans (s.h.mono (by have:=HM.out.size;omega));refine(Hst.out s.W (HB8.out.trans (hB.mono HB8.out.size))).mono ?_;rintro e w' ⟨rfl,hw⟩;exact⟨rfl,⟨w',s.h.trans (hw.mono s.h.size)⟩,rfl⟩
    have Hcs:Hid _:=zeX (rwA d) c k;have hcl:=ziq (rwA d) c k;have hb0:IntKind.u8.wrap ((rwA d k c:Nat):Int)=(((zeM (rwA d k c)).toNat:Nat):Int):=by rw[zjf];simp[IntKind.wrap,IntKind.bits,IntKind.signed]
    have hb1:IntKind.u8.wrap (((rwA d k c:Nat):Int)/256)=(((zeM (rwA d k c/256)).toNat:Nat):Int):=by rw[zjf];simp[IntKind.wrap,IntKind.bits,IntKind.signed]
    clear Hst Lx L hnb hsn;generalize hw0:zeM (rwA d k c)=u0 at *;generalize hw1:zeM (rwA d k c/256)=u1 at *;generalize (zat (stN d) (anN d) K 0).getD k 0=s0 at *;generalize stN d s0 c=x at *;generalize o.getD x 0=bx at *;generalize rwA d k c=tt at *;have hi1:(k:Int)<(K:Int):=by omega
    have hi2:(x:Int)<(d.tag.length:Int):=by omega
    have hi3:(bx:Int)<(d.tag.length:Int):=by omega
    have hi4:(tt:Int)<=4000:=by omega
    have Hcl:Hid _:=hcl;clear hcl hw0 hw1
    gi_wp2
    refine zbb 11 (fun w'=>∃s:ExtW wr,w'=s.W) hmix ⟨⟨wr.drew,⟨rfl,rfl,rfl,zuz _,fun _ _=>rfl⟩⟩,rfl⟩ (by rintro ⟨_,_,h⟩;exact h) (by decide) (by kernel_rfl) rfl ?_;intro os hos;simp only[zus,zuu] at hos;subst hos
    repeat (go_big_quiet_step (exact hstep _))
    refine wpQuiet_nil ?_;rintro w' ⟨⟨Wb,hWb⟩,rfl⟩ r hr;simp only[ztI,ztJ] at hr;subst hr;clear x5 x3 xd0 xd1 xd2 xd3 xd4 xb xn hstep;have hM2:=HM.out.on hWb;have z9:w'.cell? ⟨w10.heap.size,0,none⟩=some (.slice (some ⟨g9,0,none⟩) (colU (rwA d) c k).length c9):=by rw[zuO _ _ _ _ _ _ hM2.b9];rfl
    obtain⟨g',c',w6,hap,ho6,hg6⟩:=zrX hM2.col (by have:=hM2.size;omega) (by have:=Hcl.out;omega) u0 u1 131;obtain⟨z96,f96,hM6⟩:=hM2.column ho6 hg6;rw[show (colU (rwA d) c k++[u0,u1]).length=(colU (rwA d) c k).length+2 by simp] at hM6;have HM6:Hid _:=hM6;have HK6:Hid (KeepsOthers W5 (w6.setCell ⟨w10.heap.size,0,none⟩ (.slice (some ⟨g',0,none⟩) ((colU (rwA d) c k).length+2) c'))):=by
     obtain⟨cs9,h9,_⟩:=hM2.colBlock;exact((HK.out.trans (zbg hWb)).trans (KeepsOthers.of_grownBy hg6 fun j _ e ho=>by
      have e2:=Option.some.inj e;rw[<-e2,h9] at ho;rw[<-Option.some.inj ho]
      rfl)).trans (KeepsOthers.setCell _ _ _)
    clear hM2 ho6 hg6 hM6;generalize (colU (rwA d) c k).length=cl at *;go_wp2
    gi_wp2
    go_roundw
    case rel=>exact⟨k+1,g',c',by omega,by go_num,by rw[Hcs.out];exact HM6.out,HK6⟩
    case measure=>simp[intOf];omega
   ·have hkk:k=K:=by omega
    have hM:=HM.out;rw[hkk] at hM;have HM':Hid _:=hM;have hbnd:∀j x,j<K->x<=c->rwA d j x<65536:=fun j x hj hx=>by
     have:=(zpN HF.out HWk.out HG.out HKl.out hj (show x<256 by omega)).2.2;omega
    have z8:wr.cell? ⟨W8.heap.size+1+1+1+1,0,none⟩=some (.map (some (W8.heap.size+1+1+1))):=by rw[zuO _ _ _ _ _ _ hM.b8];rfl
    have z9:wr.cell? ⟨w10.heap.size,0,none⟩=some (.slice (some ⟨g9,0,none⟩) (colU (rwA d) c K).length c9):=by rw[zuO _ _ _ _ _ _ hM.b9];rfl
    have hcv:=run_convert_bytes_back (P:=Tryz.prog) wr 131 9 5 ⟨g9,0,none⟩ c9 (colU (rwA d) c K) Tryz.underlying131 Tryz.underlying5 Tryz.underlying9 (fun j hj=>by
     have e:(⟨g9,0,none⟩:Addr).add j=⟨g9,j,none⟩:=by unfold Addr.add;split<;>simp_all
     rw[e,hM.col.cellAt j (by omega)];simp[bytU,hj])
    have hnum:=zfC (W8.heap.size+1+1+1) _ (colK (rwA d) K c) wr hM.mp;have Hidx:Hid _:=zgF hbnd;have Hadd:Hid _:=zjy hbnd;have Hnew:Hid _:=zgG hbnd;have Hsuc:Hid _:=zba K (rwA d) c;have hck:colK (rwA d) K c=⟨(colU (rwA d) c K).toArray⟩:=rfl;have hL4:=HH.out.l4;have hL0:=HH.out.l0;have hll:(zah K (rwA d) c).length<=256:=by have:=zcq K (rwA d) c;omega
    have hHB:Hid (w10.heap.size+1=(w10.alloc (.cells #[.slice (some ⟨W9.heap.size,0,none⟩) 0 (2*K)] 131)).heap.size):=hsz0.out.symm;unfold NumR at hnum;rw[zgF hbnd,zjy hbnd] at hnum;rw[<-hck] at hcv;clear hck hM;obtain⟨w9n,hw9n⟩:∃n,(colU (rwA d) c K).length=n:=⟨_,rfl⟩;rw[hw9n] at z9 hcv;have Hw9:Hid _:=hw9n;clear hw9n;have hi1:¬(k:Int)<(K:Int):=by omega
    clear hkk
    by_cases hfr:clsF K (rwA d) c<(zah K (rwA d) c).length
    ·have hnum2:Calls Tryz.prog 59 #[.map (some (W8.heap.size+1+1+1)),.string (colK (rwA d) K c)] wr fun e w'=>e=.returned (.tuple #[.int .i64 ((clsF K (rwA d) c:Nat):Int),.bool false])/\w'.heap[W8.heap.size+1+1+1]?=some (.map (regE Value.string ((zah K (rwA d) (c+1)).map (colK (rwA d) K))) ((zah K (rwA d) (c+1)).map (colK (rwA d) K)).length)/\wr.grownBy w' (some (W8.heap.size+1+1+1)):=by
      refine hnum.mono ?_;rintro e w' ⟨a,b,e3⟩;exact⟨by rw[a];simp[Hnew.out.2 hfr],b,e3⟩
     rw[zuV hfr] at Hsuc;have HN2:Hid _:=hnum2;clear hnum hnum2;generalize colK (rwA d) K c=key at *
     gi_wp2_with fail
     refine⟨trivial,?_⟩;refine(CallsIn.inRound l0 (callsIn_wide.2 HN2.out)).mono ?_;rintro e w6 ⟨rfl,hm6,hg6⟩;have HMr:Hid _:=HM'.out.reg hg6 hm6;have HKr:Hid (KeepsFrom (w10.alloc (.cells #[.slice (some ⟨W9.heap.size,0,none⟩) 0 (2*K)] 131)).heap.size W5 w6):=(HK.out.from _).trans (KeepsFrom.of_grownBy hg6 (fun j e=>by cases e;rw[hsz0.out];omega));clear hm6 hg6 z8 z9 hcv HN2;obtain⟨⟨a0,c0'⟩,e0⟩:=zaj (HMr.out.hd.fam.own 0 (by omega));have hln0:(ls 0).length=c:=by rw[HH.out.l0];simp
     rw[hln0] at e0;have z0:w6.cell? ⟨W8.heap.size,0,none⟩=some (.slice a0 c c0'):=by rw[(zbT HMr.out.hd.box).1,e0]
     have HEq0:Hid _:=e0;clear e0;obtain⟨g7',c7',w7,hap7,hF7,hg7⟩:=zdo HMr.out.hd.fam 0 (by omega) _ rfl c hln0 _ HEq0.out ((clsF K (rwA d) c:Nat):Int) (by omega) (by have:=HMr.out.size;omega) 24;obtain⟨hbx7,hM7⟩:=HMr.out.field (i:=0) (off:=0) (by omega) rfl hF7 hg7;have z07:w7.cell? ⟨W8.heap.size,0,none⟩=some (.slice a0 c c0'):=by rw[(zbT hbx7).1,HEq0.out]
     have f07:=zuQ _ _ 0 _ _ hbx7;have HM7:Hid _:=hM7;have HK7:Hid (KeepsFrom (w10.alloc (.cells #[.slice (some ⟨W9.heap.size,0,none⟩) 0 (2*K)] 131)).heap.size W5 (w7.setCell ⟨W8.heap.size,0,none⟩ (.slice (some ⟨g7',0,none⟩) (c+1) c7'))):=HKr.out.trans (((zdd HMr.out.hd.fam (i:=0) (by omega) hg7).trans (KeepsOthers.setCell _ _ _)).from _);clear hF7 hg7 hbx7 hM7 hln0
     gi_wp2
     refine⟨HK7.out,_,_,g9,c9,_,⟨HM7.out,?_,?_,?_,?_,?_⟩⟩
     ·rw[zar,HH.out.l0,zun,zt9];rfl
     ·rw[zaf _ _ (by omega)];exact HH.out.l1
     ·rw[zaf _ _ (by omega)];exact HH.out.l2
     ·rw[zaf _ _ (by omega)];exact HH.out.l3
     ·rw[zaf _ _ (by omega),Hsuc.out];exact HH.out.l4
    ·have hnum2:Calls Tryz.prog 59 #[.map (some (W8.heap.size+1+1+1)),.string (colK (rwA d) K c)] wr fun e w'=>e=.returned (.tuple #[.int .i64 ((clsF K (rwA d) c:Nat):Int),.bool true])/\w'.heap[W8.heap.size+1+1+1]?=some (.map (regE Value.string ((zah K (rwA d) (c+1)).map (colK (rwA d) K))) ((zah K (rwA d) (c+1)).map (colK (rwA d) K)).length)/\wr.grownBy w' (some (W8.heap.size+1+1+1)):=by
      refine hnum.mono ?_;rintro e w' ⟨a,b,e3⟩;have hnk:colK (rwA d) K c∉(zah K (rwA d) c).map (colK (rwA d) K):=fun h=>hfr (Hnew.out.1 h)
      exact⟨by rw[a];simp only[hnk,not_false_eq_true,decide_true],b,e3⟩
     rw[zuU hfr] at Hsuc;have HN2:Hid _:=hnum2;clear hnum hnum2;generalize colK (rwA d) K c=key at *
     gi_wp2_with fail
     refine⟨trivial,?_⟩;refine(CallsIn.inRound l0 (callsIn_wide.2 HN2.out)).mono ?_;rintro e w6 ⟨rfl,hm6,hg6⟩;have HMr:Hid _:=HM'.out.reg hg6 hm6;have HKr:Hid (KeepsFrom (w10.alloc (.cells #[.slice (some ⟨W9.heap.size,0,none⟩) 0 (2*K)] 131)).heap.size W5 w6):=(HK.out.from _).trans (KeepsFrom.of_grownBy hg6 (fun j e=>by cases e;rw[hsz0.out];omega));clear hm6 hg6 z8 z9 hcv HN2;obtain⟨⟨a4,c4'⟩,e4⟩:=zaj (HMr.out.hd.fam.own 4 (by omega));have hln4:(ls 4).length=(zah K (rwA d) c).length:=by rw[HH.out.l4,zag]
     rw[hln4] at e4;have z7:w6.cell? ⟨W8.heap.size+1+1,0,none⟩=some (.slice a4 (zah K (rwA d) c).length c4'):=by rw[zuO _ _ _ _ _ _ HMr.out.b7,<-e4];rfl
     obtain⟨gh,ch,wh,haph,hFh,hgh⟩:=zdo HMr.out.hd.fam 4 (by omega) _ rfl (zah K (rwA d) c).length hln4 _ e4 (c:Int) (by omega) (by have:=HMr.out.size;omega) 24;obtain⟨z7h,f7h,hMh⟩:=HMr.out.head hFh hgh;rw[e4] at z7h;obtain⟨WX,hWX⟩:∃WX,wh.setCell ⟨W8.heap.size+1+1,0,none⟩ (.slice (some ⟨gh,0,none⟩) ((zah K (rwA d) c).length+1) ch)=WX:=⟨_,rfl⟩;rw[hWX] at hMh;have HMx:Hid _:=hMh;have HKx:Hid (KeepsFrom (w10.alloc (.cells #[.slice (some ⟨W9.heap.size,0,none⟩) 0 (2*K)] 131)).heap.size W5 WX):=by rw[<-hWX];exact HKr.out.trans (((zdd HMr.out.hd.fam (i:=4) (by omega) hgh).trans (KeepsOthers.setCell _ _ _)).from _)
     have hlx:updL ls 4 (ls 4++[(c:Int)]) 0=(List.range c).map fun c=>(clsF K (rwA d) c:Int):=by rw[zaf _ _ (by omega)];exact HH.out.l0
     have Hlx:Hid _:=hlx;clear hMh hFh hgh e4 hln4 hlx;obtain⟨⟨a0,c0'⟩,e0⟩:=zaj (HMx.out.hd.fam.own 0 (by omega));have hln0:(updL ls 4 (ls 4++[(c:Int)]) 0).length=c:=by rw[Hlx.out];simp
     rw[hln0] at e0;have z0:WX.cell? ⟨W8.heap.size,0,none⟩=some (.slice a0 c c0'):=by rw[(zbT HMx.out.hd.box).1,e0]
     have HEq0:Hid _:=e0;clear e0;obtain⟨g7',c7',w7,hap7,hF7,hg7⟩:=zdo HMx.out.hd.fam 0 (by omega) _ rfl c hln0 _ HEq0.out ((clsF K (rwA d) c:Nat):Int) (by omega) (by have:=HMx.out.size;omega) 24;obtain⟨hbx7,hM7⟩:=HMx.out.field (i:=0) (off:=0) (by omega) rfl hF7 hg7;have z07:w7.cell? ⟨W8.heap.size,0,none⟩=some (.slice a0 c c0'):=by rw[(zbT hbx7).1,HEq0.out]
     have f07:=zuQ _ _ 0 _ _ hbx7;have HM7:Hid _:=hM7;have HK7:Hid (KeepsFrom (w10.alloc (.cells #[.slice (some ⟨W9.heap.size,0,none⟩) 0 (2*K)] 131)).heap.size W5 (w7.setCell ⟨W8.heap.size,0,none⟩ (.slice (some ⟨g7',0,none⟩) (c+1) c7'))):=HKx.out.trans (((zdd HMx.out.hd.fam (i:=0) (by omega) hg7).trans (KeepsOthers.setCell _ _ _)).from _);clear hF7 hg7 hbx7 hM7 hln0
     gi_wp2
     refine⟨HK7.out,_,_,g9,c9,_,⟨HM7.out,?_,?_,?_,?_,?_⟩⟩
     ·rw[zar,Hlx.out,zun,zt9];rfl
     ·rw[zaf _ _ (by omega)];rw[zaf _ _ (by omega)];exact HH.out.l1
     ·rw[zaf _ _ (by omega)];rw[zaf _ _ (by omega)];exact HH.out.l2
     ·rw[zaf _ _ (by omega)];rw[zaf _ _ (by omega)];exact HH.out.l3
     ·rw[zaf _ _ (by omega),Hsuc.out];rw[zar,HH.out.l4];simp[zav]
 case done=>
  rintro D W5 hDe ⟨v,ls,g9,c9,xs,H⟩ hD;refine hK1 _ _ ?_;obtain⟨ta',tc',eta,_,htx⟩:=Hs.out.tag;cases eta;obtain⟨tb,to2,hta,_,tl,tq⟩:=htx (by omega);subst hta;obtain⟨ea',ec',eea,_,hex⟩:=Hs.out.fin;cases eea;obtain⟨eb,eo2,hea,_,el,eq⟩:=hex (by have:=HF.out.fl;omega);subst hea;have Htq:Hid (∀W,Below W8.heap.size W8 W->∀s,s<d.tag.length->W.cell? ⟨tb,to2+s,none⟩=some (.int .i64 (d.tag.getD s 0))/\W.cell? ⟨eb,eo2+s,none⟩=some (.int .i64 (d.fin.getD s 0))):=fun W hW s hs=>by
   have hBW:Below w.heap.size w W:=HB8.out.trans (hW.mono HB8.out.size);exact⟨by rw[hBW.cell (p:=⟨tb,to2+s,none⟩) tl];exact tq s hs,by rw[hBW.cell (p:=⟨eb,eo2+s,none⟩) el];exact eq s (by have:=HF.out.fl;omega)⟩
  have HD:Hid _:=hD;have HDw:Hid (w.heap.size<=D):=by
   show _<=_;rw[hDe];have:=hsz0.out;omega
  clear hDe hD HI0 hK1 htx hex tq eq HW9;generalize hhd:zah K (rwA d) 256=hd at *;have Hhd:Hid _:=hhd;have hhl:hd.length<=256:=by rw[<-hhd];exact zcq _ _ _
  have Hlt:Hid (∀j,j<hd.length->hd.getD j 0<256):=fun j hj=>zc0 K (rwA d) 256 _ (by rw[hhd];exact za3 hj)
  clear hhd;have hl4:ls 4=zav hd:=by rw[H.l4,Hhd.out]
  obtain⟨⟨a4,c4'⟩,e4⟩:=zaj (H.st.hd.fam.own 4 (by omega));rw[hl4,zag] at e4;have z7:W5.cell? ⟨W8.heap.size+1+1,0,none⟩=some (.slice a4 hd.length c4'):=by rw[zuO _ _ _ _ _ _ H.st.b7,<-e4];rfl
  have y1:=(zbT H.st.hd.box).2.1;have fm:=zuQ _ _ 1 _ _ H.st.hd.box;have hM6:=H.st.width' (hd.length:Int);obtain⟨W6,hW6⟩:∃W6,W5.setCell ⟨W8.heap.size,1,none⟩ (.int .i64 (hd.length:Int))=W6:=⟨_,rfl⟩;rw[hW6] at hM6;have HM6:Hid _:=hM6;have He4:Hid _:=e4;have Hls:Hid (ls 0=(List.range 256).map (fun c=>(clsF K (rwA d) c:Int))/\ls 1=zf3 (rwA d) hd 0/\ls 2=((zat (stN d) (anN d) K 0).take 0).map (fun s=>d.tag.getD s 0)/\ls 3=((zat (stN d) (anN d) K 0).take 0).map (fun s=>d.fin.getD s 0)/\ls 4=zav hd):=⟨H.l0,by rw[H.l1];rfl,by rw[H.l2];simp,by rw[H.l3];simp,hl4⟩;have HK6:Hid (KeepsOthers W5 W6):=by rw[<-hW6];exact KeepsOthers.setCell _ _ _
  have z4:=(HL.out W6 hM6.hd.below).z4;clear hM6 e4 hl4 H;go_wp2;clear z7 y1 fm hW6 z4;generalize hkeys:(zah K (rwA d) 256).map (colK (rwA d) K)=keys at *;clear hkeys
  go_loopw [86] (fun i W=>∃(q:Nat) (v':Nat->Value) (ls':Nat->List Int),q<=K/\i=.int .i64 q/\Hid (MmS W8 W (hd.length:Int) v' ls' keys w10.heap.size g9 c9 xs)/\Hid (v' 4=.slice a4 hd.length c4')/\Hid (ls' 0=(List.range 256).map (fun c=>(clsF K (rwA d) c:Int))/\ls' 1=zf3 (rwA d) hd q/\ls' 2=((zat (stN d) (anN d) K 0).take q).map (fun s=>d.tag.getD s 0)/\ls' 3=((zat (stN d) (anN d) K 0).take q).map (fun s=>d.fin.getD s 0)/\ls' 4=zav hd)/\Hid (KeepsOthers W5 W))
   (fun i _=>K-(intOf i).toNat)
  case atStart=>exact⟨0,v,ls,zuL _,rfl,HM6,He4,Hls,HK6⟩
  case round=>
   clear HM6 Hls HK6 He4;obtain⟨q,v',ls',hq,rfl,HM,Hv4,Hls,HK⟩:=hrel
   by_cases hq2:q<K
   ·have hsn:=HWk.out.lt _ (za3 (show q<(zat (stN d) (anN d) K 0).length by have:=HKl.out;omega));have z0:=(HL.out wr HM.out.hd.below).c4 q hq2;have HT:Hid _:=zfj (fun s=>d.tag.getD s 0) (zat (stN d) (anN d) K 0) (q:=q) (by have:=HKl.out;omega);have HE:Hid _:=zfj (fun s=>d.fin.getD s 0) (zat (stN d) (anN d) K 0) (q:=q) (by have:=HKl.out;omega);have Htk:Hid (∀f:Nat->Int,(((zat (stN d) (anN d) K 0).take q).map f).length=q):=fun f=>by have:=HKl.out;rw[zt3,zt8,this];omega
    have Hos:Hid (∀j,j<hd.length->hd.getD j 0<256/\stN d ((zat (stN d) (anN d) K 0).getD q 0) (hd.getD j 0)<d.tag.length/\nb.getD (o.getD (stN d ((zat (stN d) (anN d) K 0).getD q 0) (hd.getD j 0)) 0) 0=(rwA d q (hd.getD j 0):Int)/\rwA d q (hd.getD j 0)<K):=fun j hj=>⟨Hlt.out j hj,zpN HF.out HWk.out HG.out HKl.out hq2 (Hlt.out j hj)⟩
    have Hsn:Hid _:=hsn;have hi1:(q:Int)<(K:Int):=by omega
    generalize hs0:(zat (stN d) (anN d) K 0).getD q 0=s0 at *;have Hs0:Hid _:=hs0;clear hs0;have hi2:(s0:Int)<(d.tag.length:Int):=by omega
    have hi3:(s0:Int)<(d.fin.length:Int):=by have:=HF.out.fl;omega
    obtain⟨t1,ht1⟩:∃t1,d.tag.getD s0 0=t1:=⟨_,rfl⟩;obtain⟨t2,ht2⟩:∃t2,d.fin.getD s0 0=t2:=⟨_,rfl⟩;have Ht1:Hid _:=ht1;have Ht2:Hid _:=ht2;clear hsn ht1 ht2;obtain⟨⟨a2,p2⟩,e2⟩:=zaj (HM.out.hd.fam.own 2 (by omega));rw[Hls.out.2.2.1,Htk.out] at e2;have He2:Hid _:=e2;clear e2;have Lx:∀s:ExtW wr,Below W8.heap.size W8 s.W:=fun s=>HM.out.hd.below.trans (s.h.mono (by have:=HM.out.size;omega))
    have xm:∀s:ExtW wr,s.W.cell? ⟨W8.heap.size,3,none⟩=some (.slice a2 q p2):=fun s=>by rw[(zbT (HM.out.on s.h).hd.box).2.2.2.1,He2.out]
    have xd:∀s:ExtW wr,s.W.cell? ⟨w.heap.size,3,none⟩=some (.slice (some ⟨tb,to2,none⟩) d.tag.length tc):=fun s=>(zaq (HL.out s.W (Lx s)).zD).2.2.2.1
    have xk:∀s:ExtW wr,s.W.cell? ⟨tb,to2+s0,none⟩=some (.int .i64 t1):=fun s=>by rw[(Htq.out s.W (Lx s) s0 Hsn.out).1,Ht1.out]
    clear Lx;go_wp2;clear z0;refine zbY 7 8 (fun w'=>∃s:ExtW wr,w'=s.W) hmix ⟨⟨wr.drew,⟨rfl,rfl,rfl,zuz _,fun _ _=>rfl⟩⟩,rfl⟩ (by kernel_rfl) ?_;intro os hos;simp only[zus,zuu] at hos;subst hos
    repeat (go_big_quiet_step (fail))
    refine wpQuiet_nil ?_;rintro w' ⟨⟨Wb,hWb⟩,rfl⟩ r hr;simp only[ztI,ztJ] at hr;subst hr;clear xm xd xk;have hM1:=HM.out.on hWb;refine zbd rfl (fun K5 hK5=>?_)
    first|go_big_move|go_big_op
    refine hK5 _ _ (fun _=>⟨⟨_,hWb.alloc hWb.size _⟩,rfl⟩) ?_;clear hK5 K5;refine zbX _ _ _ _ (zuz _) (fun _ _ h=>h) ?_;obtain⟨g5,c5,wt,hrun,hFt,hgt⟩:=zdo hM1.hd.fam 2 (by omega) _ Hls.out.2.2.1 q (Htk.out _) _ He2.out t1 (by omega) (by have:=hM1.size;omega) 24;obtain⟨bxt,hMt⟩:=hM1.field (i:=2) (off:=3) (by omega) rfl hFt hgt;have yt:=(zbT bxt).2.2.2.1;rw[He2.out] at yt;have ft:=zuQ _ _ 3 _ _ bxt;obtain⟨W11,hW11⟩:∃W11,wt.setCell ⟨W8.heap.size,3,none⟩ (.slice (some ⟨g5,0,none⟩) (q+1) c5)=W11:=⟨_,rfl⟩;rw[hW11] at hMt;have HM11:Hid _:=hMt;have HK11:Hid (KeepsOthers W5 W11):=by rw[<-hW11];exact((HK.out.trans (zbg hWb)).trans (zdd hM1.hd.fam (i:=2) (by omega) hgt)).trans (KeepsOthers.setCell _ _ _)
    have hl3:updL ls' 2 (((zat (stN d) (anN d) K 0).take q).map (fun s=>d.tag.getD s 0)++[t1]) 3=((zat (stN d) (anN d) K 0).take q).map (fun s=>d.fin.getD s 0):=by rw[zaf _ _ (by omega)];exact Hls.out.2.2.2.1
    have Hl3:Hid _:=hl3;obtain⟨⟨a3,p3⟩,e3⟩:=zaj (HM11.out.hd.fam.own 3 (by omega));rw[hl3,Htk.out] at e3;have He3:Hid _:=e3;clear hMt hFt hgt bxt hM1 hl3 e3 hWb;go_wp2;have Lx:∀s:ExtW W11,Below W8.heap.size W8 s.W:=fun s=>HM11.out.hd.below.trans (s.h.mono (by have:=HM11.out.size;omega))
    have xm:∀s:ExtW W11,s.W.cell? ⟨W8.heap.size,4,none⟩=some (.slice a3 q p3):=fun s=>by rw[(zbT (HM11.out.on s.h).hd.box).2.2.2.2,He3.out]
    have xd:∀s:ExtW W11,s.W.cell? ⟨w.heap.size,4,none⟩=some (.slice (some ⟨eb,eo2,none⟩) d.fin.length ec):=fun s=>(zaq (HL.out s.W (Lx s)).zD).2.2.2.2
    have xk:∀s:ExtW W11,s.W.cell? ⟨eb,eo2+s0,none⟩=some (.int .i64 t2):=fun s=>by rw[(Htq.out s.W (Lx s) s0 Hsn.out).2,Ht2.out]
    clear Lx hW11 hrun yt ft;refine zbY 7 8 (fun w'=>∃s:ExtW W11,w'=s.W) hmix ⟨⟨W11.drew,⟨rfl,rfl,rfl,zuz _,fun _ _=>rfl⟩⟩,rfl⟩ (by kernel_rfl) ?_;intro os hos;simp only[zus,zuu] at hos;subst hos
    repeat (go_big_quiet_step (fail))
    refine wpQuiet_nil ?_;rintro w' ⟨⟨Wb,hWb⟩,rfl⟩ r hr;simp only[ztI,ztJ] at hr;subst hr;clear xm xd xk;have hM1:=HM11.out.on hWb;refine zbd rfl (fun K5 hK5=>?_)
    first|go_big_move|go_big_op
    refine hK5 _ _ (fun _=>⟨⟨_,hWb.alloc hWb.size _⟩,rfl⟩) ?_;clear hK5 K5;refine zbX _ _ _ _ (zuz _) (fun _ _ h=>h) ?_;obtain⟨g6,c6,we,hrun,hFe,hge⟩:=zdo hM1.hd.fam 3 (by omega) _ Hl3.out q (Htk.out _) _ He3.out t2 (by omega) (by have:=hM1.size;omega) 24;obtain⟨bxe,hMe⟩:=hM1.field (i:=3) (off:=4) (by omega) rfl hFe hge;have ye:=(zbT bxe).2.2.2.2;rw[He3.out] at ye;have fe:=zuQ _ _ 4 _ _ bxe;obtain⟨W12,hW12⟩:∃W12,we.setCell ⟨W8.heap.size,4,none⟩ (.slice (some ⟨g6,0,none⟩) (q+1) c6)=W12:=⟨_,rfl⟩;rw[hW12] at hMe;have HM12:Hid _:=hMe;have HK12:Hid (KeepsOthers W5 W12):=by rw[<-hW12];exact((HK11.out.trans (zbg hWb)).trans (zdd hM1.hd.fam (i:=3) (by omega) hge)).trans (KeepsOthers.setCell _ _ _)
    have hv12:upd (upd v' 2 (.slice (some ⟨g5,0,none⟩) (q+1) c5)) 3 (.slice (some ⟨g6,0,none⟩) (q+1) c6) 4=.slice a4 hd.length c4':=by rw[zaD _ _ (by omega),zaD _ _ (by omega)];exact Hv4.out
    have z7:W12.cell? ⟨W8.heap.size+1+1,0,none⟩=some (.slice a4 hd.length c4'):=by rw[zuO _ _ _ _ _ _ hMe.b7,<-hv12];rfl
    have Hv12:Hid _:=hv12;have Hls12:Hid (updL (updL ls' 2 (((zat (stN d) (anN d) K 0).take q).map (fun s=>d.tag.getD s 0)++[t1])) 3 (((zat (stN d) (anN d) K 0).take q).map (fun s=>d.fin.getD s 0)++[t2]) 0=(List.range 256).map (fun c=>(clsF K (rwA d) c:Int))/\updL (updL ls' 2 (((zat (stN d) (anN d) K 0).take q).map (fun s=>d.tag.getD s 0)++[t1])) 3 (((zat (stN d) (anN d) K 0).take q).map (fun s=>d.fin.getD s 0)++[t2]) 1=zeQ (rwA d) hd q 0/\updL (updL ls' 2 (((zat (stN d) (anN d) K 0).take q).map (fun s=>d.tag.getD s 0)++[t1])) 3 (((zat (stN d) (anN d) K 0).take q).map (fun s=>d.fin.getD s 0)++[t2]) 2=((zat (stN d) (anN d) K 0).take (q+1)).map (fun s=>d.tag.getD s 0)/\updL (updL ls' 2 (((zat (stN d) (anN d) K 0).take q).map (fun s=>d.tag.getD s 0)++[t1])) 3 (((zat (stN d) (anN d) K 0).take q).map (fun s=>d.fin.getD s 0)++[t2]) 3=((zat (stN d) (anN d) K 0).take (q+1)).map (fun s=>d.fin.getD s 0)/\updL (updL ls' 2 (((zat (stN d) (anN d) K 0).take q).map (fun s=>d.tag.getD s 0)++[t1])) 3 (((zat (stN d) (anN d) K 0).take q).map (fun s=>d.fin.getD s 0)++[t2]) 4=zav hd):=by
     refine⟨?_,?_,?_,?_,?_⟩
     ·rw[zaf _ _ (by omega),zaf _ _ (by omega)];exact Hls.out.1
     ·rw[zaf _ _ (by omega),zaf _ _ (by omega),zh0];exact Hls.out.2.1
     ·rw[zaf _ _ (by omega),zar,HT.out,Ht1.out]
     ·rw[zar,HE.out,Ht2.out]
     ·rw[zaf _ _ (by omega),zaf _ _ (by omega)];exact Hls.out.2.2.2.2
    clear hMe hFe hge bxe hv12 hM1 hWb;go_wp2;rw[zcK];go_wp2;clear hW12 hrun ye fe z7
    go_loopw [112] (fun i W=>∃(j:Nat) (v2:Nat->Value) (ls2:Nat->List Int),j<=hd.length/\i=.int .i64 j/\Hid (MmS W8 W (hd.length:Int) v2 ls2 keys w10.heap.size g9 c9 xs)/\Hid (v2 4=.slice a4 hd.length c4')/\Hid (ls2 0=(List.range 256).map (fun c=>(clsF K (rwA d) c:Int))/\ls2 1=zeQ (rwA d) hd q j/\ls2 2=((zat (stN d) (anN d) K 0).take (q+1)).map (fun s=>d.tag.getD s 0)/\ls2 3=((zat (stN d) (anN d) K 0).take (q+1)).map (fun s=>d.fin.getD s 0)/\ls2 4=zav hd)/\Hid (KeepsOthers W5 W))
     (fun i _=>hd.length-(intOf i).toNat)
    case atStart=>exact⟨0,_,_,zuL _,rfl,HM12,Hv12,Hls12,HK12⟩
    case round=>
     clear HM12 Hv12 Hls12 HK12 HM11 HK11 HM Hv4 Hls HK HT HE Ht1 Ht2 Htk He2 He3 Hl3;obtain⟨j,v2,ls2,hj,rfl,HM,Hv4,Hls,HK⟩:=hrel
     by_cases hj2:j<hd.length
     ·obtain⟨hh256,hxn,hnb,hrl⟩:=Hos.out j hj2;have hbx:=Hon.out _ hxn;have zh:∃g4,a4=some ⟨g4,0,none⟩/\wr.cell? ⟨g4,j,none⟩=some (.int .i64 ((hd.getD j 0:Nat):Int)):=by
       have ho:=HM.out.hd.fam.own 4 (by omega);rw[Hv4.out,Hls.out.2.2.2.2] at ho;obtain⟨g',c',e1,_,_,hcc⟩:=zbe ho (by rw[zag];omega);rw[zag] at e1;cases e1;exact⟨g',rfl,by rw[hcc j (by rw[zag];exact hj2),zbw]⟩
      obtain⟨g4,ha4,zh⟩:=zh;have HJ:Hid _:=zhZ (rwA d) hd q hj2;have hnL:=zjS (rwA d) hd (q:=q) (j:=j) (by omega) (by omega);obtain⟨⟨a1,p1⟩,e1⟩:=zaj (HM.out.hd.fam.own 1 (by omega));rw[Hls.out.2.1] at e1;obtain⟨nl,hnl⟩:∃nl,(zeQ (rwA d) hd q j).length=nl:=⟨_,rfl⟩;rw[hnl] at e1 hnL;have He1:Hid _:=e1;have Hnl:Hid _:=hnl;have Ha4:Hid _:=ha4;clear e1 hnl;subst ha4;have Hst:Hid (∀X,Below w.heap.size w X->Calls Tryz.prog 64 #[.agg #[.slice ca d.classes.length cc,.int .i64 d.width,.slice na d.next.length nc,.slice (some ⟨tb,to2,none⟩) d.tag.length tc,.slice (some ⟨eb,eo2,none⟩) d.fin.length ec],.int .i64 (s0:Int),.int .i64 ((hd.getD j 0:Nat):Int)] X fun e w'=>e=.returned (.int .i64 ((stN d s0 (hd.getD j 0):Nat):Int))/\Below X.heap.size X w'):=fun X hX=>by
       have:=zlH _ _ _ _ d (s0:Int) (hd.getD j 0) X (Hs.out.below hX) HF.out (by omega) (by omega) hh256;rw[zff HF.out Hsn.out hh256] at this;exact this
      have Lx:∀s:ExtW wr,Below W8.heap.size W8 s.W:=fun s=>HM.out.hd.below.trans (s.h.mono (by have:=HM.out.size;omega))
      have xm:∀s:ExtW wr,s.W.cell? ⟨W8.heap.size,2,none⟩=some (.slice a1 nl p1):=fun s=>by rw[(zbT (HM.out.on s.h).hd.box).2.2.1,He1.out]
      have x5:∀s:ExtW wr,s.W.cell? ⟨w4.heap.size+1,0,none⟩=some (.slice (some ⟨g2,0,none⟩) d.tag.length c2):=fun s=>(HL.out s.W (Lx s)).z5
      have x3:∀s:ExtW wr,s.W.cell? ⟨w2.heap.size,0,none⟩=some (.slice (some ⟨gb,0,none⟩) d.tag.length cb):=fun s=>(HL.out s.W (Lx s)).z3
      have xd0:∀s:ExtW wr,s.W.cell? ⟨w.heap.size,0,none⟩=some (.slice ca d.classes.length cc):=fun s=>(zaq (HL.out s.W (Lx s)).zD).1
      have xd1:∀s:ExtW wr,s.W.cell? ⟨w.heap.size,1,none⟩=some (.int .i64 d.width):=fun s=>(zaq (HL.out s.W (Lx s)).zD).2.1
      have xd2:∀s:ExtW wr,s.W.cell? ⟨w.heap.size,2,none⟩=some (.slice na d.next.length nc):=fun s=>(zaq (HL.out s.W (Lx s)).zD).2.2.1
      have xd3:∀s:ExtW wr,s.W.cell? ⟨w.heap.size,3,none⟩=some (.slice (some ⟨tb,to2,none⟩) d.tag.length tc):=fun s=>(zaq (HL.out s.W (Lx s)).zD).2.2.2.1
      have xd4:∀s:ExtW wr,s.W.cell? ⟨w.heap.size,4,none⟩=some (.slice (some ⟨eb,eo2,none⟩) d.fin.length ec):=fun s=>(zaq (HL.out s.W (Lx s)).zD).2.2.2.2
      have Hxb:Hid (∀s:ExtW wr,s.W.cell? ⟨gb,stN d s0 (hd.getD j 0),none⟩=some (.int .i64 ((o.getD (stN d s0 (hd.getD j 0)) 0:Nat):Int))/\s.W.cell? ⟨g2,o.getD (stN d s0 (hd.getD j 0)) 0,none⟩=some (.int .i64 ((rwA d q (hd.getD j 0):Nat):Int))):=fun s=>⟨(HL.out s.W (Lx s)).cb _ hxn,by rw[(HL.out s.W (Lx s)).c5 _ hbx,hnb]⟩
      have HLx:Hid _:=Lx;clear hnb Lx;generalize rwA d q (hd.getD j 0)=tt at *;generalize hx:stN d s0 (hd.getD j 0)=x at *;generalize hd.getD j 0=h at *;generalize o.getD x 0=bx at *;clear hx;have hi4:(j:Int)<(hd.length:Int):=by omega
      have hi5:(x:Int)<(d.tag.length:Int):=by omega
      have hi6:(bx:Int)<(d.tag.length:Int):=by omega
      go_wp2;clear zh;refine zbY 7 13 (fun w'=>∃s:ExtW wr,w'=s.W) hmix ⟨⟨wr.drew,⟨rfl,rfl,rfl,zuz _,fun _ _=>rfl⟩⟩,rfl⟩ (by kernel_rfl) ?_;intro os hos;simp only[zus,zuu] at hos;subst hos
      repeat (go_big_quiet_step (fail))
      refine wpQuiet_nil ?_;rintro w' ⟨⟨Wb,hWb⟩,rfl⟩ r hr;simp only[ztI,ztJ] at hr;subst hr;clear xm x5 x3 xd0 xd1 xd2 xd3 xd4;have hB6:=HLx.out ⟨w',hWb⟩;have hst6:=Hst.out w' (HB8.out.trans (hB6.mono HB8.out.size));refine zbd rfl (fun K5 hK5=>?_)
      first|go_big_move|go_big_op
      refine hst6.mono ?_;rintro e w6 ⟨rfl,hb6⟩;have hW6:Below wr.heap.size wr w6:=hWb.trans (hb6.mono hWb.size);refine hK5 _ _ (fun _=>⟨⟨_,hW6⟩,rfl⟩) ?_;clear hK5 K5 hst6 hB6;obtain⟨xb,xn⟩:=Hxb.out ⟨w6,hW6⟩;dsimp only at xb xn;refine zbd rfl (fun K5 hK5=>?_)
      first|go_big_move|go_big_op
      refine hK5 _ _ (fun _=>⟨⟨_,hW6⟩,rfl⟩) ?_;clear hK5 K5;refine zbd rfl (fun K5 hK5=>?_)
      first|go_big_move|go_big_op
      refine hK5 _ _ (fun _=>⟨⟨_,hW6⟩,rfl⟩) ?_;clear hK5 K5;refine zbd rfl (fun K5 hK5=>?_)
      first|go_big_move|go_big_op
      refine hK5 _ _ (fun _=>⟨⟨_,hW6⟩,rfl⟩) ?_;clear hK5 K5;refine zbd rfl (fun K5 hK5=>?_)
      first|go_big_move|go_big_op
      refine hK5 _ _ (fun _=>⟨⟨_,hW6⟩,rfl⟩) ?_;clear hK5 K5;refine zbd rfl (fun K5 hK5=>?_)
      first|go_big_move|go_big_op
      refine hK5 _ _ (fun _=>⟨⟨_,hW6.alloc hW6.size _⟩,rfl⟩) ?_;clear hK5 K5;refine zbX _ _ _ _ (zuz _) (fun _ _ h=>h) ?_;have hM1:=HM.out.on hW6;obtain⟨g6,c6,we,hrun,hFe,hge⟩:=zdo hM1.hd.fam 1 (by omega) _ Hls.out.2.1 nl Hnl.out _ He1.out (tt:Int) (by omega) (by have:=hM1.size;omega) 24;obtain⟨bxe,hMe⟩:=hM1.field (i:=1) (off:=2) (by omega) rfl hFe hge;have ye:=(zbT bxe).2.2.1;rw[He1.out] at ye;have fe:=zuQ _ _ 2 _ _ bxe;have HM12:Hid _:=hMe;have HK12:Hid (KeepsOthers W5 (we.setCell ⟨W8.heap.size,2,none⟩ (.slice (some ⟨g6,0,none⟩) (nl+1) c6))):=((HK.out.trans (zbg hW6)).trans (zdd hM1.hd.fam (i:=1) (by omega) hge)).trans (KeepsOthers.setCell _ _ _);clear hMe hFe hge bxe hM1 hWb hb6 hW6 xb xn;go_wp2;rw[zcK];go_wp2
      go_roundw
      case rel=>
       refine⟨j+1,_,_,by omega,by go_num,HM12,?_,⟨?_,?_,?_,?_,?_⟩,HK12⟩
       ·show _=_;rw[zaD _ _ (by omega)];exact Hv4.out
       ·rw[zaf _ _ (by omega)];exact Hls.out.1
       ·rw[zar,HJ.out]
       ·rw[zaf _ _ (by omega)];exact Hls.out.2.2.1
       ·rw[zaf _ _ (by omega)];exact Hls.out.2.2.2.1
       ·rw[zaf _ _ (by omega)];exact Hls.out.2.2.2.2
      case measure=>simp[intOf];omega
     ·have hjj:j=hd.length:=by omega
      have hi9:¬(j:Int)<(hd.length:Int):=by omega
      have Hjj:Hid _:=hjj;clear hjj;go_wp2
      go_roundw
      case rel=>exact⟨q+1,v2,ls2,by omega,by go_num,HM,Hv4,⟨Hls.out.1,by rw[<-zjR,<-Hjj.out];exact Hls.out.2.1,Hls.out.2.2.1,Hls.out.2.2.2.1,Hls.out.2.2.2.2⟩,HK⟩
      case measure=>simp[intOf];omega
   ·have hqq:q=K:=by omega
    have hi1:¬(q:Int)<(K:Int):=by omega
    have zw:=(HM.out.hd.below.block _ hwl).trans HRes.out;unfold zbf at zw;obtain⟨z0,z1,z2,z3,z4⟩:=zaq zw;have fz:∀o,wr.frozen? ⟨w.heap.size+1,o,none⟩=false:=fun _=>zuQ _ _ _ _ _ zw
    obtain⟨y0,y1,y2,y3,y4⟩:=zbT HM.out.hd.box;obtain⟨⟨a0,p0⟩,e0⟩:=zaj (HM.out.hd.fam.own 0 (by omega));obtain⟨⟨a1,p1⟩,e1⟩:=zaj (HM.out.hd.fam.own 1 (by omega));obtain⟨⟨a2,p2⟩,e2⟩:=zaj (HM.out.hd.fam.own 2 (by omega));obtain⟨⟨a3,p3⟩,e3⟩:=zaj (HM.out.hd.fam.own 3 (by omega));rw[e0] at y0;rw[e1] at y2;rw[e2] at y3;rw[e3] at y4;have hlK:=HKl.out;have hmn:∀i,i<4->ls' i=mnL d K i:=by
     intro i hi
     match i,hi with
     |0,_=>exact Hls.out.1
     |1,_=>
      rw[Hls.out.2.1,hqq,<-Hhd.out]
      rfl
     |2,_=>
      rw[Hls.out.2.2.1,hqq,zur (by omega)]
      rfl
     |3,_=>
      rw[Hls.out.2.2.2.1,hqq,zur (by omega)]
      rfl
    have HFE:Hid (Fam W8.heap.size 4 (set5 wr (w.heap.size+1) (.slice a0 (ls' 0).length p0) (.int .i64 (hd.length:Int)) (.slice a1 (ls' 1).length p1) (.slice a2 (ls' 2).length p2) (.slice a3 (ls' 3).length p3)) v' (mnL d K)):=((HM.out.hd.fam.takeD (by omega)).congr (fun _ _=>rfl) hmn).set5 (by omega) _ _ _ _ _;have HBE:Hid (Below w.heap.size w (set5 wr (w.heap.size+1) (.slice a0 (ls' 0).length p0) (.int .i64 (hd.length:Int)) (.slice a1 (ls' 1).length p1) (.slice a2 (ls' 2).length p2) (.slice a3 (ls' 3).length p3))):=zbn (HB8.out.trans (HM.out.hd.below.mono HB8.out.size)) (by omega) _ _ _ _ _;have Hrow:Hid (rowD (hd.length:Int) v'=#[.slice a0 (ls' 0).length p0,.int .i64 (hd.length:Int),.slice a1 (ls' 1).length p1,.slice a2 (ls' 2).length p2,.slice a3 (ls' 3).length p3]):=by
     show _=_;unfold rowD;rw[e0,e1,e2,e3]
    have hDm:wr.heap[D]?=some (.deferred (some [])):=HK.out.same D _ HD.out rfl;have hDne:D≠w.heap.size+1:=fun e=>by rw[e,zw] at hDm;cases hDm
    have HDm:Hid ((set5 wr (w.heap.size+1) (.slice a0 (ls' 0).length p0) (.int .i64 (hd.length:Int)) (.slice a1 (ls' 1).length p1) (.slice a2 (ls' 2).length p2) (.slice a3 (ls' 3).length p3)).heap[D]?=some (.deferred (some []))):=by
     show _=_;unfold set5;rw[zuS _ _ _ _ (by exact hDne),zuS _ _ _ _ (by exact hDne),zuS _ _ _ _ (by exact hDne),zuS _ _ _ _ (by exact hDne),zuS _ _ _ _ (by exact hDne)];exact hDm
    have HRow5:Hid ((set5 wr (w.heap.size+1) (.slice a0 (ls' 0).length p0) (.int .i64 (hd.length:Int)) (.slice a1 (ls' 1).length p1) (.slice a2 (ls' 2).length p2) (.slice a3 (ls' 3).length p3)).heap[w.heap.size+1]?=some (.cells #[.slice a0 (ls' 0).length p0,.int .i64 (hd.length:Int),.slice a1 (ls' 1).length p1,.slice a2 (ls' 2).length p2,.slice a3 (ls' 3).length p3] 26 (0,0))):=by
     show _=_;unfold set5;have h1:=zuT wr (w.heap.size+1) 0 _ _ (.slice a0 (ls' 0).length p0) zw;have h2:=zuT _ (w.heap.size+1) 1 _ _ (.int .i64 (hd.length:Int)) h1;have h3:=zuT _ (w.heap.size+1) 2 _ _ (.slice a1 (ls' 1).length p1) h2;have h4:=zuT _ (w.heap.size+1) 3 _ _ (.slice a2 (ls' 2).length p2) h3;have h5:=zuT _ (w.heap.size+1) 4 _ _ (.slice a3 (ls' 3).length p3) h4;exact h5
    have HDne:Hid _:=hDne;have hwm:w.heap.size<=W8.heap.size:=HB8.out.size;clear e0 e1 e2 e3 hqq zw hmn hDm hDne hlK;generalize (ls' 0).length=n0 at *;generalize (ls' 1).length=n1 at *;generalize (ls' 2).length=n2 at *;generalize (ls' 3).length=n3 at *;go_wp2;refine⟨by simp,.inl ⟨_,_,rfl,run_takeDeferred HDm.out,?_⟩⟩;have hR:=HRow5.out;have hrow:((set5 wr (w.heap.size+1) (.slice a0 n0 p0) (.int .i64 (hd.length:Int)) (.slice a1 n1 p1) (.slice a2 n2 p2) (.slice a3 n3 p3)).putObj D (.deferred none)).heap[w.heap.size+1]?=some (.cells #[.slice a0 n0 p0,.int .i64 (hd.length:Int),.slice a1 n1 p1,.slice a2 n2 p2,.slice a3 n3 p3] 26 (0,0)):=(World.putObj_heap_other (Ne.symm HDne.out)).trans hR;obtain⟨r0,r1,r2,r3,r4⟩:=zaq hrow;unfold set5 at r0 r1 r2 r3 r4;refine⟨.agg #[.slice a0 n0 p0,.int .i64 (hd.length:Int),.slice a1 n1 p1,.slice a2 n2 p2,.slice a3 n3 p3],by simp[results,Tryz.results26,go_sem,r0,r1,r2,r3,r4],K,HG.out,HKl.out,W8.heap.size,v',by rw[Hhd.out,Hrow.out],hwm,?_,?_⟩
    ·refine HFE.out.keepO fun i hi b hb=>?_
     obtain⟨cs,h1⟩:=za9 (HFE.out.own i hi) hb;refine World.putObj_heap_other (fun e:b=D=>?_);rw[e,HDm.out] at h1;cases h1
    ·exact HBE.out.grown (grownBy_putObj' _ D _) HBE.out.size (fun x e=>by cases e;exact HDw.out)
end Go.Proofs.YthddplbodacjgaaGreatDoor
