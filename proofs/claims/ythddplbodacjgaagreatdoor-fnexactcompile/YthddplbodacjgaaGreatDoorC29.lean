import Derived.Test.YthddplbodacjgaaGreatDoorC28
import Derived.Deep.LoopGhost
namespace Go.Proofs.YthddplbodacjgaaGreatDoor
set_option maxHeartbeats 8000000
set_option maxRecDepth 100000
open Go.RowKit
section
structure TrI(n:Nat)(ps:List (Nat×Nat))(xs:List Nat)(T:Nat->Nat->Nat):Prop where
 nd:xs.Nodup
 mem:∀s,s∈xs↔∃c,(s,c)∈ps
 bit:∀s c,c<256->bitW (T s) c=decide ((s,c)∈ps)
 lt:∀s i,T s i<18446744073709551616
 ok:∀x∈ps,x.1<n/\x.2<256
theorem TrI.start(n:Nat):TrI n [] [] (fun _ _=>0):=
 ⟨List.nodup_nil,fun s=>by simp,fun s c _=>by simp[bitW],fun _ _=>by omega,fun _ h=>by cases h⟩
def addX(xs:List Nat)(f:Nat):List Nat:=if f∈xs then xs else xs++[f]
def zil(T:Nat->Nat->Nat)(f c:Nat):Nat->Nat->Nat:=fun s=>if s=f then addW (T f) c else T s
theorem TrI.add{n:Nat}{ps:List (Nat×Nat)}{xs:List Nat}{T:Nat->Nat->Nat}(h:TrI n ps xs T){f c:Nat}(hf:f<n)(hc:c<256):TrI n (ps++[(f,c)]) (addX xs f) (zil T f c):=by
 refine⟨?_,fun s=>?_,fun s e he=>?_,fun s i=>?_,fun x hx=>?_⟩
 ·unfold addX;split
  ·exact h.nd
  ·rename_i k
   rw[zuk];exact⟨h.nd,by simp,fun a ha b hb e=>by simp at hb;subst hb;exact k (e ▸ ha)⟩
 ·unfold addX;have hm:=h.mem s;simp only[zuc,zui,Prod.mk.injEq];split
  ·rename_i k
   rw[hm];constructor
   ·rintro ⟨c',h'⟩;exact⟨c',.inl h'⟩
   ·rintro ⟨c',h'|⟨rfl,rfl⟩⟩
    ·exact⟨c',h'⟩
    ·exact hm.1 k
  ·rw[zuc,hm,zui];constructor
   ·rintro (⟨c',h'⟩|rfl)
    ·exact⟨c',.inl h'⟩
    ·exact⟨c,.inr ⟨rfl,rfl⟩⟩
   ·rintro ⟨c',h'|⟨rfl,rfl⟩⟩
    ·exact .inl ⟨c',h'⟩
    ·exact .inr rfl
 ·unfold zil
  by_cases e1:s=f
  ·subst e1;rw[zuV rfl,zqf,h.bit s e he]
   by_cases e2:e=c
   ·subst e2;simp
   ·simp[e2]
  ·rw[zuU e1,h.bit s e he];simp[e1]
 ·unfold zil;split
  ·exact zrU (h.lt f) c i
  ·exact h.lt s i
 ·rcases zuc.1 hx with k|k
  ·exact h.ok x k
  ·simp at k;subst k;exact⟨hf,hc⟩
theorem TrI.zero{n:Nat}{ps:List (Nat×Nat)}{xs:List Nat}{T:Nat->Nat->Nat}(h:TrI n ps xs T)(s:Nat):trW (T s)=kz↔s∉xs:=by
 have hk:trW (fun _=>0)=kz:=rfl;have e1:trW (T s)=kz↔(trW (T s)).2=(trW (fun _=>0)).2:=by
  rw[<-hk];constructor
  ·intro e;rw[e]
  ·intro e;exact Prod.ext rfl e
 rw[e1,zrO (h.lt s) (fun _=>by omega)];constructor
 ·intro hb hx;obtain⟨c,hc⟩:=(h.mem s).1 hx;have hc2:=(h.ok _ hc).2;have:=hb c hc2;rw[h.bit s c hc2,decide_eq_true hc] at this;simp[bitW] at this
 ·intro hx c hc;rw[h.bit s c hc,decide_eq_false (fun k=>hx ((h.mem s).2 ⟨c,k⟩))];simp[bitW]
theorem TrI.len{n:Nat}{ps:List (Nat×Nat)}{xs:List Nat}{T:Nat->Nat->Nat}(h:TrI n ps xs T):xs.length<=n:=zb2 n xs h.nd (fun s hs=>by obtain⟨c,hc⟩:=(h.mem s).1 hs;exact(h.ok _ hc).1)
theorem TrI.xlt{n:Nat}{ps:List (Nat×Nat)}{xs:List Nat}{T:Nat->Nat->Nat}(h:TrI n ps xs T):∀s∈xs,s<n:=fun s hs=>by obtain⟨c,hc⟩:=(h.mem s).1 hs;exact(h.ok _ hc).1
theorem TrI.spl{d:DfaD}(hf:zaE d){o wk:List Nat}{m:Nat}{mem:Nat->List Nat}(hP:PtM d.tag.length m o wk mem){b:Nat}(hb:b<m){A:Nat->List (Nat×Nat)}(hA:ArI d A d.tag.length 0){xs:List Nat}{T:Nat->Nat->Nat}(h:TrI d.tag.length ((mem b).flatMap A) xs T):SplB d o b xs (fun s=>trW (T s)):=by
 have key:∀s c,s<d.tag.length->((s,c)∈(mem b).flatMap A↔c∈zbu d (wdN d)/\o.getD (nxN d s c) 0=b):=fun s c hs=>by
  rw[List.mem_flatMap];constructor
  ·rintro ⟨t,h1,h2⟩;obtain⟨_,h3,h4⟩:=(hA.mem t _).1 h2;dsimp only at h3 h4;refine⟨h3,?_⟩;rw[h4];exact((hP.mm b hb t).1 h1).2
  ·rintro ⟨h1,h2⟩;exact⟨nxN d s c,(hP.mm b hb _).2 ⟨(hf.nx hs (zbE.1 h1).1).2,h2⟩,(hA.mem _ _).2 ⟨.inl hs,h1,rfl⟩⟩
 refine⟨h.nd,h.xlt,fun s hs=>?_,fun s t hs ht=>?_⟩
 ·rw[h.mem s];constructor
  ·rintro ⟨c,hc⟩;obtain⟨h1,h2⟩:=(key s c hs).1 hc;exact⟨c,h1,h2⟩
  ·rintro ⟨c,h1,h2⟩;exact⟨c,(key s c hs).2 ⟨h1,h2⟩⟩
 ·rw[zrO (h.lt s) (h.lt t)];constructor
  ·intro hb2 c hc;have hc2:c<256:=by have:=(zbE.1 hc).1;have:=hf.wd.2.2;omega
   have:=hb2 c hc2;rw[h.bit s c hc2,h.bit t c hc2,decide_eq_decide,key s c hs,key t c ht] at this;exact⟨fun e=>(this.1 ⟨hc,e⟩).2,fun e=>(this.2 ⟨hc,e⟩).2⟩
  ·intro h2 c hc;rw[h.bit s c hc,h.bit t c hc,decide_eq_decide,key s c hs,key t c ht];exact⟨fun⟨a,e⟩=>⟨a,(h2 c a).1 e⟩,fun⟨a,e⟩=>⟨a,(h2 c a).2 e⟩⟩
theorem ArS.keepT{B gI n:Nat}{W W':World}{v:Nat->Value}{A:Nat->List (Nat×Nat)}(S:ArS B W gI n v A)(h1:∀(b:Nat) (cs:Array Value),W.heap[b]?=some (.cells cs 190 (0,0))->W'.heap[b]?=some (.cells cs 190 (0,0)))(h2:∀(b:Nat) (cs:Array Value),W.heap[b]?=some (.cells cs 188 (0,0))->W'.heap[b]?=some (.cells cs 188 (0,0))):ArS B W' gI n v A:=
 ⟨za6 S.out h2,fun s hs=>za6 (S.rows s hs) h1,S.apart⟩
theorem ArS.far{B gI n:Nat}{W W':World}{v:Nat->Value}{A:Nat->List (Nat×Nat)}(S:ArS B W gI n v A){g:Option Nat}(hg:W.grownBy W' g)(he:∀q,g=some q->∃(cs:Array Value) (e:TypeId),W.heap[q]?=some (.cells cs e (0,0))/\e≠190/\e≠188):ArS B W' gI n v A:=by
 refine S.keepT (fun b cs hb=>(hg.block b (zae hb) (fun e=>?_)).trans hb) (fun b cs hb=>(hg.block b (zae hb) (fun e=>?_)).trans hb)
 ·obtain⟨cs',e',h1,h2,_⟩:=he b e.symm;rw[h1] at hb;exact h2 (zap hb)
 ·obtain⟨cs',e',h1,_,h2⟩:=he b e.symm;rw[h1] at hb;exact h2 (zap hb)
theorem ArS.kpp{B gI n g:Nat}{W W':World}{v:Nat->Value}{A:Nat->List (Nat×Nat)}(S:ArS B W gI n v A)(hk:KpP g W W')(hg:∃cs,W.heap[g]?=some (.cells cs 24 (0,0))):ArS B W' gI n v A:=by
 obtain⟨c0,h0⟩:=hg;refine S.keepT (fun b cs hb=>hk b cs _ (by decide) (by decide) (fun e=>?_) hb) (fun b cs hb=>hk b cs _ (by decide) (by decide) (fun e=>?_) hb)
 ·rw[e,h0] at hb;exact absurd (zap hb) (by decide)
 ·rw[e,h0] at hb;exact absurd (zap hb) (by decide)
structure AlS(w:World)(gt p m gmv cm:Nat)(mi:Nat->Nat)(v:Nat->Value)(l:Nat->List Int)(N:Nat)(o wk:List Nat)(mem:Nat->List Nat)(B gI n:Nat)(vA:Nat->Value)(A:Nat->List (Nat×Nat))(gT:Nat)(T:Nat->Nat->Nat)(W:World):Prop where
 pt:PtS gt W p (.slice (some ⟨gmv,0,none⟩) m cm) m mi v l (N+1) o wk mem
 low:∀x,x<m->mi x<N
 two:2<=N
 ar:ArS B W gI n vA A
 tr:W.heap[gT]?=some (.cells (zcR n (fun s=>trW (T s))) 192 (0,0))
 be:Below w.heap.size w W
 ws:w.heap.size<=gt
 tw:w.heap.size<=gT
section
variable {w:World} {gt p m gmv cm:Nat} {mi:Nat->Nat} {v:Nat->Value} {l:Nat->List Int} {N:Nat} {o wk:List Nat} {mem:Nat->List Nat} {B gI n:Nat} {vA:Nat->Value} {A:Nat->List (Nat×Nat)} {gT:Nat} {T:Nat->Nat->Nat} {W W':World}
theorem AlS.on(h:AlS w gt p m gmv cm mi v l N o wk mem B gI n vA A gT T W)(hb:Below W.heap.size W W'):AlS w gt p m gmv cm mi v l N o wk mem B gI n vA A gT T W':=
 ⟨h.pt.on hb,h.low,h.two,h.ar.below hb,zab h.tr hb,h.be.trans (hb.mono h.be.size),h.ws,h.tw⟩
theorem AlS.touch(h:AlS w gt p m gmv cm mi v l N o wk mem B gI n vA A gT T W){u:Value}{ys:List Int}(hF:Fam gt (N+1) W' (upd v N u) (updL l N ys))(hg:W.grownBy W' (v N).ownBlock):AlS w gt p m gmv cm mi (upd v N u) (updL l N ys) N o wk mem B gI n vA A gT T W':=by
 have h2:=h.two;refine⟨h.pt.row (by omega) h2 (fun x hx=>by have:=h.low x hx;omega) hF hg,h.low,h2,h.ar.far hg (fun q e=>?_),h.pt.fam.others (i:=N) (by omega) hg (by decide) h.tr,h.be.grown hg h.be.size (fun b hb=>?_),h.ws,h.tw⟩
 ·obtain⟨cs,hc⟩:=za9 (h.pt.fam.own N (by omega)) e;exact⟨cs,_,hc,by decide,by decide⟩
 ·have:=(zaR (h.pt.fam.own N (by omega)) hb).1;have:=h.ws;omega
theorem AlS.trait(h:AlS w gt p m gmv cm mi v l N o wk mem B gI n vA A gT T W){T':Nat->Nat->Nat}(hg:W.grownBy W' (some gT))(ht:W'.heap[gT]?=some (.cells (zcR n (fun s=>trW (T' s))) 192 (0,0))):AlS w gt p m gmv cm mi v l N o wk mem B gI n vA A gT T' W':=by
 refine⟨h.pt.far hg (fun cs e=>absurd (zap (h.tr.symm.trans e)) (by decide)) (fun cs e=>absurd (zap (h.tr.symm.trans e)) (by decide)) (fun e=>?_),h.low,h.two,h.ar.far hg (fun q e=>?_),ht,h.be.grown hg h.be.size (fun b hb=>by cases hb;exact h.tw),h.ws,h.tw⟩
 ·simp[Value.ownBlock] at e;obtain⟨cur,hc⟩:=zbo h.pt.out;rw[e,h.tr] at hc;exact absurd (zap hc) (by decide)
 ·cases e
  exact⟨_,_,h.tr,by decide,by decide⟩
theorem AlS.mark(h:AlS w gt p m gmv cm mi v l N o wk mem B gI n vA A gT T W){f c x:Nat}(hf:f<n)(hc:c<256)(hx:x=T f (c/64) ||| 2 ^ (c%64)):AlS w gt p m gmv cm mi v l N o wk mem B gI n vA A gT (zil T f c) (W.setCell ⟨gT,f*5+(c/64+1),none⟩ (.int .u64 (x:Int))):=by
 refine h.trait (zaX _ _ _ _) ?_;have:=zpz h.tr hf (j:=c/64) (by omega) (T f) rfl x;rw[this]
 congr 3
 funext s
 unfold updT zil
 by_cases e:s=f
 ·subst e;rw[zuV rfl,zuV rfl]
  congr 1
  funext i
  unfold addW;rw[hx]
 ·rw[zuU e,zuU e]
end
end
section
attribute [local go_sem ↓] Go.wp_at_zero Go.wp_at_succ
theorem orU(x y:Nat)(hx:x<18446744073709551616)(hy:y<18446744073709551616):bits BinOp.or IntKind.u64 (x:Int) (y:Int)=((x ||| y:Nat):Int):=by
 have h1:(BitVec.ofInt 64 (x:Int) ||| BitVec.ofInt 64 (y:Int)).toNat=x ||| y:=by
  rw[BitVec.ofInt_natCast,BitVec.ofInt_natCast,BitVec.toNat_or,BitVec.toNat_ofNat,BitVec.toNat_ofNat,zuF (by omega),zuF (by omega)]
 have h2:x ||| y<18446744073709551616:=Nat.or_lt_two_pow (n:=64) hx hy
 show IntKind.u64.wrap ((BitVec.ofInt 64 (x:Int) ||| BitVec.ofInt 64 (y:Int)).toNat:Int)=_;rw[h1];simp[IntKind.wrap,IntKind.bits,IntKind.signed];omega
theorem ztm(x:Nat):IntKind.u64.wrap (x:Int)=((x%18446744073709551616:Nat):Int):=by
 simp[IntKind.wrap,IntKind.bits,IntKind.signed]
def AlR(w:World)(d:DfaD)(e:Ending)(w':World):Prop:=∃(v:Value) (o:List Nat),e=.returned v/\Owns w.heap.size w' v (zav o)/\o.length=d.tag.length/\(∀s,s<d.tag.length->o.getD s 0<d.tag.length)/\(∀s t,s<d.tag.length->t<d.tag.length->(o.getD s 0=o.getD t 0↔zbc (stN d) (anN d) s t))/\Below w.heap.size w w'
structure AlT(w:World)(d:DfaD)(gt p B gI:Nat)(vA:Nat->Value)(A:Nat->List (Nat×Nat))(gT k m gmv cm:Nat)(mi:Nat->Nat)(v:Nat->Value)(l:Nat->List Int)(N:Nat)(o wk:List Nat)(mem:Nat->List Nat)(W:World):Prop where
 pt:PtS gt W p (.slice (some ⟨gmv,0,none⟩) m cm) m mi v l N o wk mem
 pm:PtM d.tag.length m o wk mem
 hop:Hop d.tag.length (·∈zbu d (wdN d)) (nxN d) (fun s=>o.getD s 0) (·∈wk)
 al:∀s t,s<d.tag.length->t<d.tag.length->zbc (stN d) (anN d) s t->o.getD s 0=o.getD t 0
 an:∀s t,s<d.tag.length->t<d.tag.length->o.getD s 0=o.getD t 0->anN d s=anN d t
 ar:ArS B W gI d.tag.length vA A
 tr:W.heap[gT]?=some (.cells (zcR d.tag.length (fun _=>kz)) 192 (0,0))
 be:Below w.heap.size w W
 ke:k=2*(d.tag.length-m)+wk.length
 kl:k<=3*d.tag.length
structure AlX(w:World)(gt p m gmv cm:Nat)(mi:Nat->Nat)(v4:Nat->Value)(l4:Nat->List Int)(N:Nat)(o wk:List Nat)(mem:Nat->List Nat)(B gI n:Nat)(vA:Nat->Value)(A:Nat->List (Nat×Nat))(gT:Nat)(ps:List (Nat×Nat))(xs:List Nat)(T:Nat->Nat->Nat)(gTo cTo:Nat)(v:Nat->Value)(l:Nat->List Int)(W:World):Prop where
 st:AlS w gt p m gmv cm mi v l N o wk mem B gI n vA A gT T W
 vt:v N=.slice (some ⟨gTo,0,none⟩) xs.length cTo
 lt:l N=zav xs
 old:∀i,i<N->v i=v4 i/\l i=l4 i
 ti:TrI n ps xs T
section
variable {w:World} {gt p m gmv cm:Nat} {mi:Nat->Nat} {v4 v:Nat->Value} {l4 l:Nat->List Int} {N:Nat} {o wk:List Nat} {mem:Nat->List Nat} {B gI n:Nat} {vA:Nat->Value} {A:Nat->List (Nat×Nat)} {gT:Nat} {ps:List (Nat×Nat)} {xs:List Nat} {T:Nat->Nat->Nat} {gTo cTo:Nat} {W W':World}
theorem AlX.on(h:AlX w gt p m gmv cm mi v4 l4 N o wk mem B gI n vA A gT ps xs T gTo cTo v l W)(hb:Below W.heap.size W W'):AlX w gt p m gmv cm mi v4 l4 N o wk mem B gI n vA A gT ps xs T gTo cTo v l W':=⟨h.st.on hb,h.vt,h.lt,h.old,h.ti⟩
theorem AlX.congr(h:AlX w gt p m gmv cm mi v4 l4 N o wk mem B gI n vA A gT ps xs T gTo cTo v l W){ps':List (Nat×Nat)}(e:ps=ps'):AlX w gt p m gmv cm mi v4 l4 N o wk mem B gI n vA A gT ps' xs T gTo cTo v l W:=e ▸ h
theorem AlX.seen(h:AlX w gt p m gmv cm mi v4 l4 N o wk mem B gI n vA A gT ps xs T gTo cTo v l W){f c x:Nat}(hf:f<n)(hc:c<256)(hx:f∈xs)(hb:Below W.heap.size W W')(he:x=T f (c/64) ||| 2 ^ (c%64)):AlX w gt p m gmv cm mi v4 l4 N o wk mem B gI n vA A gT (ps++[(f,c)]) xs (zil T f c) gTo cTo v l (W'.setCell ⟨gT,f*5+(c/64+1),none⟩ (.int .u64 (x:Int))):=by
 have:=h.ti.add hf hc;unfold addX at this;rw[zuV hx] at this;exact⟨(h.st.on hb).mark hf hc he,h.vt,h.lt,h.old,this⟩
theorem AlX.new(h:AlX w gt p m gmv cm mi v4 l4 N o wk mem B gI n vA A gT ps xs T gTo cTo v l W){f c x g5 c5:Nat}{W5:World}(hf:f<n)(hc:c<256)(hx:f∉xs)(hF:Fam gt (N+1) W5 (upd v N (.slice (some ⟨g5,0,none⟩) (xs.length+1) c5)) (updL l N (zav xs++[(f:Int)])))(hg:W.grownBy W5 (v N).ownBlock)(hb:Below W5.heap.size W5 W')(he:x=T f (c/64) ||| 2 ^ (c%64)):
  AlX w gt p m gmv cm mi v4 l4 N o wk mem B gI n vA A gT (ps++[(f,c)]) (xs++[f]) (zil T f c) g5 c5 (upd v N (.slice (some ⟨g5,0,none⟩) (xs.length+1) c5)) (updL l N (zav xs++[(f:Int)])) (W'.setCell ⟨gT,f*5+(c/64+1),none⟩ (.int .u64 (x:Int))):=by
 have:=h.ti.add hf hc;unfold addX at this;rw[zuU hx] at this;refine⟨((h.st.touch hF hg).on hb).mark hf hc he,by rw[zaH];simp,by rw[zar];simp[zav],fun i hi=>?_,this⟩;rw[zaD _ _ (by omega),zaf _ _ (by omega)];exact h.old i hi
theorem AlT.pop{d:DfaD}{k gw cw wl nq:Nat}(h:AlT w d gt p B gI vA A gT k m gmv cm mi v l N o wk mem W)(hv:v 1=.slice (some ⟨gw,0,none⟩) wk.length cw)(hw:wl<=wk.length)(h1:w.heap.size<=gt)(h2:w.heap.size<=gT):
  AlX w gt p m gmv cm mi (upd (upd v 1 (.slice (some ⟨gw,0,none⟩) wl cw)) N (.slice (some ⟨W.heap.size,0,none⟩) 0 0)) (updL (updL l 1 (zav (wk.take wl))) N []) N o (wk.take wl) mem B gI d.tag.length vA A gT [] [] (fun _ _=>0) W.heap.size 0 (upd (upd v 1 (.slice (some ⟨gw,0,none⟩) wl cw)) N (.slice (some ⟨W.heap.size,0,none⟩) 0 0)) (updL (updL l 1 (zav (wk.take wl))) N []) (((W.drewN nq).setCell ⟨p,2,none⟩ (.slice (some ⟨gw,0,none⟩) wl cw)).alloc (.cells #[] 3)):=by
 have hb:Below W.heap.size W (W.drewN nq):=below_drewN (Below.refl _ _) nq;have hg:=zaX (W.drewN nq) p 2 (.slice (some ⟨gw,0,none⟩) wl cw);have hP0:=h.pt.on hb;have hP:=(hP0.pop hv hw).new;have e:((W.drewN nq).setCell ⟨p,2,none⟩ (.slice (some ⟨gw,0,none⟩) wl cw)).heap.size=W.heap.size:=by simp[World.setCell]
 rw[e] at hP;have hbx:=zae hP0.box;have hpg:=h.pt.pge;have hb2:Below ((W.drewN nq).setCell ⟨p,2,none⟩ (.slice (some ⟨gw,0,none⟩) wl cw)).heap.size ((W.drewN nq).setCell ⟨p,2,none⟩ (.slice (some ⟨gw,0,none⟩) wl cw)) (((W.drewN nq).setCell ⟨p,2,none⟩ (.slice (some ⟨gw,0,none⟩) wl cw)).alloc (.cells #[] 3)):=(Below.refl _ _).alloc (zuz _) _;refine⟨⟨hP,fun x hx=>(h.pt.idx x hx).2,h.pt.two,((h.ar.below hb).far hg (fun q e=>by cases e;exact⟨_,_,hP0.box,by decide,by decide⟩)).below hb2,?_,?_,h1,h2⟩,zaH _ _ _,by rw[zar];rfl,fun _ _=>⟨rfl,rfl⟩,TrI.start _⟩
 ·refine zab ?_ hb2;refine(hg.block gT (zae h.tr) (fun e=>?_)).trans h.tr;have e2:gT=p:=Option.some.inj e;have:=h.tr;rw[e2,h.pt.box] at this;exact absurd (zap this) (by decide)
 ·have hB:=h.be.trans (hb.mono h.be.size);have hB2:=hB.setCell (p:=⟨p,2,none⟩) (by show w.heap.size<=p;omega) (.slice (some ⟨gw,0,none⟩) wl cw);exact hB2.alloc hB2.size _
end
theorem ArS.arrow{B gI n:Nat}{W:World}{v:Nat->Value}{A:Nat->List (Nat×Nat)}(S:ArS B W gI n v A){s a:Nat}(hs:s<n)(ha:a<(A s).length){pa:Option Addr}{pc:Nat}(hv:v s=.slice pa (A s).length pc){f c:Nat}(hfc:(A s).getD a (0,0)=(f,c)):∃g,pa=some ⟨g,0,none⟩/\W.cell? ⟨g,a*2,none⟩=some (.int .i64 (f:Int))/\W.cell? ⟨g,a*2+1,none⟩=some (.int .i64 (c:Int)):=by
 have h:=S.rows s hs;rw[hv] at h;rcases h.2 with ⟨h0,hl⟩|⟨g,cap,cur,hvv,_⟩
 ·omega
 ·cases hvv
  obtain⟨h1,h2⟩:=zjZ (A s) a ha;rw[hfc] at h1 h2;exact⟨g,rfl,by rw[h.cellAt (a*2) (by omega)];exact h1,by rw[h.cellAt (a*2+1) (by omega)];exact h2⟩
theorem zpP{W:World}{g n:Nat}{T:Nat->Nat->Nat}(h:W.heap[g]?=some (.cells (zcR n (fun s=>trW (T s))) 192 (0,0))){f q:Nat}(hf:f<n)(hq:q<4):W.cell? ⟨g,f*5+(q+1),none⟩=some (.int .u64 (T f q:Int))/\W.frozen? ⟨g,f*5+(q+1),none⟩=false:=by
 obtain⟨_,t1,t2,t3,t4⟩:=zfk h hf;refine⟨?_,zuQ _ _ _ _ _ h⟩;have:q=0\/q=1\/q=2\/q=3:=by omega
 rcases this with k|k|k|k<;>subst k
 ·exact t1
 ·exact t2
 ·exact t3
 ·exact t4
theorem orW(x r:Nat)(hx:x<18446744073709551616)(hr:r<64):bits BinOp.or IntKind.u64 (x:Int) (IntKind.u64.wrap (2 ^ r))=((x ||| 2 ^ r:Nat):Int):=by
 have h2:2 ^ r<18446744073709551616:=Nat.pow_lt_pow_right (a:=2) (n:=64) (by omega) hr;rw[show (2:Int) ^ r=((2 ^ r:Nat):Int) by simp,ztm,zuF h2,orU _ _ hx h2]
theorem znJ{xs:List (Nat×Nat)}{j:Nat}(h:j<xs.length){x:Nat×Nat}(hx:xs.getD j (0,0)=x):xs.take (j+1)=xs.take j++[x]:=by
 rw[zut h,<-hx,ztO,ztT h]
 rfl
theorem zot{l:List (Nat×Nat)}{i:Nat}(h:i<l.length){x:Nat×Nat}(hx:l.getD i (0,0)=x):x∈l:=by rw[<-hx,ztO,ztT h];exact zt0 _
theorem zoq(A:Nat->List (Nat×Nat))(xs:List Nat)(s:Nat):xs.flatMap A++A s=(xs++[s]).flatMap A:=by simp
theorem PtM.fewer{n m:Nat}{o wk wk':List Nat}{mem:Nat->List Nat}(h:PtM n m o wk mem)(hw:∀b∈wk',b∈wk):PtM n m o wk' mem:=⟨h.ln,h.lt,h.mm,h.nd,h.ne,fun b hb=>h.wl b (hw b hb)⟩
theorem PtS.traits{gt p m gmv cm:Nat}{mi:Nat->Nat}{v:Nat->Value}{l:Nat->List Int}{N:Nat}{o wk:List Nat}{mem:Nat->List Nat}{W W':World}(h:PtS gt W p (.slice (some ⟨gmv,0,none⟩) m cm) m mi v l N o wk mem){gT:Nat}{cs:Array Value}(ht:W.heap[gT]?=some (.cells cs 192 (0,0)))(hg:W.grownBy W' (some gT)):PtS gt W' p (.slice (some ⟨gmv,0,none⟩) m cm) m mi v l N o wk mem:=by
 refine h.far hg (fun cs e=>absurd (zap (ht.symm.trans e)) (by decide)) (fun cs e=>absurd (zap (ht.symm.trans e)) (by decide)) (fun e=>?_);simp[Value.ownBlock] at e;obtain⟨cur,hc⟩:=zbo h.out;rw[e,ht] at hc;exact absurd (zap hc) (by decide)
noncomputable def wipe (xs:List Nat) (T:Nat->Nat->Nat) (i:Nat):Nat->Tr:=fun s=>if s∈xs.take i then kz else trW (T s)
theorem zp2(xs:List Nat)(T:Nat->Nat->Nat):wipe xs T 0=fun s=>trW (T s):=by funext s;simp[wipe]
theorem zp1{xs:List Nat}(T:Nat->Nat->Nat){i s0:Nat}(h:xs.take (i+1)=xs.take i++[s0]):updT (wipe xs T i) s0 kz=wipe xs T (i+1):=by
 funext s
 unfold updT wipe;rw[h]
 by_cases e:s=s0
 ·subst e;simp
 ·simp[e]
theorem zrr{n:Nat}{ps:List (Nat×Nat)}{xs:List Nat}{T:Nat->Nat->Nat}(h:TrI n ps xs T):wipe xs T xs.length=fun _=>kz:=by
 funext s
 unfold wipe;rw[zuq]
 by_cases e:s∈xs
 ·rw[zuV e]
 ·rw[zuU e];exact(h.zero s).2 e
theorem Tryz.buildZ(w:World):(Instr.build 192 #[]).run Tryz.prog w=.ok (.agg #[.int .u64 0,.int .u64 0,.int .u64 0,.int .u64 0,.int .u64 0]) w:=run_build w 192 _ _ (by kernel_rfl)
attribute [local go_sem] Tryz.buildZ
theorem Tryz.eqlZ(T:Nat->Nat)(b:Bool)(hb:decide (trW T=kz)=b)(w:World):(binOp .eql 192 (.agg #[.int .u64 0,.int .u64 (T 0:Int),.int .u64 (T 1:Int),.int .u64 (T 2:Int),.int .u64 (T 3:Int)]) (.agg #[.int .u64 0,.int .u64 0,.int .u64 0,.int .u64 0,.int .u64 0])).run Tryz.prog w=.ok (.bool b) w:=by
 have h:=Tryz.eqlTr 0 (T 0) (T 1) (T 2) (T 3) 0 0 0 0 0 w;rw[<-hb];exact h
theorem zkw{d:DfaD}{o wk:List Nat}(hf:zaE d)(h2:∀s,s<d.tag.length->o.getD s 0∈wk):Hop d.tag.length (·∈zbu d (wdN d)) (nxN d) (fun s=>o.getD s 0) (·∈wk):=
 fun _ _ _ hs _ hk _ _=>.inl (h2 _ (hf.nx hs (zbE.1 hk).1).2)
end
attribute [local go_sem ↓] Go.wp_at_zero Go.wp_at_succ
attribute [local go_sem] Tryz.buildZ
theorem zqi(cv nv tv ev:Value)(d:DfaD)(w:World)(hs:zbU 0 w cv nv tv ev d)(hf:zaE d):
  Calls Tryz.prog 61 #[.agg #[cv,.int .i64 d.width,nv,tv,ev]] w (AlR w d):=by
 have hmix:Tryz.prog.follows .mixedOrders=true:=by kernel_rfl
 obtain⟨iT,hjT,hyT0,hyT1,hyT2⟩:=info_parts Tryz.infoTrait;have hn1:=hf.n1;have hn2:=hf.n2;have Hs:Hid _:=hs;obtain⟨⟨ca,cc,rfl,cm,cx⟩,⟨na,nc,rfl,nm,nx⟩,⟨ta,tc,rfl,tm,tx⟩,⟨ea,ec,rfl,em,ex⟩⟩:=hs;clear cx nx tx ex;obtain⟨W0,hW0⟩:∃W0,w.alloc (.cells #[.slice ca d.classes.length cc,.int .i64 d.width,.slice na d.next.length nc,.slice ta d.tag.length tc,.slice ea d.fin.length ec] 26)=W0:=⟨_,rfl⟩;have hb0:Below w.heap.size w W0:=by rw[<-hW0];exact(Below.refl _ _).alloc (zuz _) _
 have x0:W0.heap[w.heap.size]?=some (.cells #[.slice ca d.classes.length cc,.int .i64 d.width,.slice na d.next.length nc,.slice ta d.tag.length tc,.slice ea d.fin.length ec] 26 (0,0)):=by rw[<-hW0];exact zuR _ _
 obtain⟨q0,q1,q2,q3,q4⟩:=zaq x0;have Hs0:Hid _:=Hs.out.below hb0;have Harr:Hid _:=zn3 _ _ _ _ d W0 Hs0.out hf;have HF:Hid (zaE d):=hf;have Hx0:Hid _:=x0;have Hb0:Hid _:=hb0;clear hf x0 hb0
 go_enter Tryz.func61,Tryz.ntmps61
 go_wp2_with fail
 refine Calls.mono Harr.out ?_;rintro e w1 ⟨gI,vA,A,rfl,hAr,hAi,hb1⟩;have HAr:Hid _:=hAr;have HAi:Hid _:=hAi;have Hs1:Hid _:=Hs0.out.below hb1;have Hx1:Hid _:=zab Hx0.out hb1;have Hb1:Hid _:=hb1;clear hAr hAi hb1 q0 q1 q2 q3 q4 Harr hW0;obtain⟨q0,q1,q2,q3,q4⟩:=zaq Hx1.out;have Hpa:Hid _:=zo6 _ _ _ _ d w1 Hs1.out HF.out
 go_wp2_with fail
 refine Calls.mono Hpa.out ?_;rintro e w2 ⟨p,gmv,cm0,m,mi,v,l,N,o,wk,mem,rfl,hP1,hP2,hP3,hP4,hP5,hb2⟩;have HP1:Hid _:=hP1;have HP2:Hid _:=hP2;have HP3:Hid _:=hP3;have HP4:Hid _:=hP4;have HP5:Hid _:=hP5;have Hb2:Hid _:=hb2;have Hx2:Hid _:=zab Hx1.out hb2;clear hP1 hP2 hP3 hP4 hP5 hb2 q0 q1 q2 q3 q4 Hpa;obtain⟨q0,q1,q2,q3,q4⟩:=zaq Hx2.out
 go_wp2_with (refine wpList_make_full _ rfl _ _ 185 rfl w2.heap.size 192 iT _ 5 Tryz.underlying185 hjT hyT0 hyT1 _ _ _ _ d.tag.length rfl rfl rfl rfl (by rw[hyT2];omega) (by unfold maxLen;omega) (zuz _) ?_;intro w3 hown3 hgrow3)
 have hb3:Below w2.heap.size w2 w3:=(Below.refl _ _).grown hgrow3 (zuz _) (by intro k h;cases h);have r3:=zjY hown3;rw[zgQ] at r3;have HT:Hid (AlT w d w1.heap.size p W0.heap.size gI vA A w2.heap.size (2*(d.tag.length-m)+wk.length) m gmv cm0 mi v l N o wk mem w3):=by
  have hB1:Below w.heap.size w w1:=Hb0.out.trans (Hb1.out.mono Hb0.out.size);have hB2:Below w.heap.size w w2:=hB1.trans (Hb2.out.mono hB1.size);have hm:=HP2.out.le;have hl:=HP5.out;refine⟨HP1.out.on hb3,HP2.out,zkw HF.out HP4.out,fun s t hs ht h=>(HP3.out s t hs ht).2 h.an,fun s t hs ht h=>(HP3.out s t hs ht).1 h,(HAr.out.below Hb2.out).below hb3,r3,hB2.trans (hb3.mono hB2.size),rfl,by omega⟩
 have HS:Hid (w.heap.size<=w1.heap.size/\w.heap.size<=w2.heap.size):=by
  have hB1:Below w.heap.size w w1:=Hb0.out.trans (Hb1.out.mono Hb0.out.size);exact⟨hB1.size,zuA hB1.size Hb2.out.size⟩
 clear hown3 hgrow3 hb3 r3 HP1 HP2 HP3 HP4 HP5 Hx2 Hx1 Hx0 Hs0 Hs1 Hs q0 q1 q2 q3 q4
 go_loopg [] (2*(d.tag.length-m)+wk.length) (fun k wr=>∃(m gmv cm:Nat) (mi:Nat->Nat) (v:Nat->Value) (l:Nat->List Int) (N:Nat) (o wk:List Nat) (mem:Nat->List Nat),Hid (AlT w d w1.heap.size p W0.heap.size gI vA A w2.heap.size k m gmv cm mi v l N o wk mem wr))
 case atStart=>exact⟨m,gmv,cm0,mi,v,l,N,o,wk,mem,HT.out⟩
 case round=>
  clear HT;obtain⟨m,gmv,cm,mi,v,l,N,o,wk,mem,HT⟩:=hrel
  by_cases hw0:0<wk.length
  ·have hN2:=HT.out.pt.two;obtain⟨gw,cw,ew,hcw⟩:=HT.out.pt.fam.nats (i:=1) (by omega) HT.out.pt.l1 hw0;have hbm:=HT.out.pm.wl _ (za3 (show wk.length-1<wk.length by omega));have Hbw:Hid (wk.getD (wk.length-1) 0∈wk):=za3 (by omega);have cl:=hcw (wk.length-1) (by omega);have Hbe:Hid (∀c∈wk,c≠wk.getD (wk.length-1) 0->c∈wk.take (wk.length-1)):=fun c hc hne=>by
    obtain⟨i,hi,e⟩:=zuf.1 hc;have hi2:i≠wk.length-1:=fun e2=>hne (by rw[<-e,ztO,ztT (by omega)];simp[e2])
    rw[<-e];exact zuf.2 ⟨i,by rw[zt8];omega,by simp⟩
   generalize hbq:wk.getD (wk.length-1) 0=b at *;clear hbq;obtain⟨hib1,hib2⟩:=HT.out.pt.idx b hbm;obtain⟨gs,cs,es,hcs⟩:=HT.out.pt.fam.nats (i:=mi b) hib2 (HT.out.pt.lm b hbm) (HT.out.pm.ne b hbm);have mc:=(HT.out.pt.mCell hbm).1;rw[es] at mc;obtain⟨⟨a0,c0⟩,e0⟩:=zaj (HT.out.pt.fam.own 0 (by omega));have fp:=zuQ _ _ 2 _ _ HT.out.pt.box;obtain⟨r0,r1,r2⟩:=zbi HT.out.pt.box;rw[ew] at r2;rw[e0] at r0;have hmn:=HT.out.pm.le;have hcap:=(zaV (HT.out.pt.fam.own 1 (by omega) |> fun h=>by unfold Owns at h;rw[ew,HT.out.pt.l1,zag] at h;exact h));have Hes:Hid _:=es;have Hew:Hid _:=ew;have hi1:(b:Int)<(m:Int):=by omega
   have hke:=HT.out.ke;have hkl:=HT.out.kl;obtain⟨wl,hwl⟩:∃wl:Nat,wk.length-1=wl:=⟨_,rfl⟩;rw[hwl] at cl;have hwi:(wk.length:Int)-1=(wl:Int):=by omega
   have hwj:(wl:Int)<(wk.length:Int):=by omega
   have hwc:(wl:Int)<=(cw:Int):=by omega
   have Hcap:Hid _:=hcap;have Hwl:Hid _:=hwl;clear hcw hcs es ew e0 hcap hwl;go_wp2
   go_quiet (fail)
   have HX4:Hid _:=HT.out.pop (nq:=nq) Hew.out (wl:=wl) (by omega) HS.out.1 HS.out.2;have Hmi:Hid (mi b<N/\2<=mi b):=⟨hib2,hib1⟩;have hml:(mem b).length<=d.tag.length:=zb2 _ _ (HT.out.pm.nd b hbm) (fun s hs=>((HT.out.pm.mm b hbm s).1 hs).1);have Hmem:Hid (∀s∈mem b,s<d.tag.length):=fun s hs=>((HT.out.pm.mm b hbm s).1 hs).1
   generalize hv4:upd (upd v 1 (.slice (some ⟨gw,0,none⟩) wl cw)) N (.slice (some ⟨wr.heap.size,0,none⟩) 0 0)=v4 at *;generalize hl4:updL (updL l 1 (zav (wk.take wl))) N []=l4 at *;have Hvb:Hid (v4 (mi b)=.slice (some ⟨gs,0,none⟩) (mem b).length cs/\l4 (mi b)=zav (mem b)):=by
    rw[<-hv4,<-hl4,zaD _ _ (by omega),zaD _ _ (by omega),zaf _ _ (by omega),zaf _ _ (by omega)];exact⟨Hes.out,HT.out.pt.lm b hbm⟩
   clear hv4 hl4;go_wp2;clear r0 r1 r2 cl mc fp
   go_loopw [8,60] (fun tv i W=>∃(j gTo cTo:Nat) (v':Nat->Value) (l':Nat->List Int) (xs:List Nat) (T:Nat->Nat->Nat),j<=(mem b).length/\i=.int .i64 j/\tv=.slice (some ⟨gTo,0,none⟩) xs.length cTo/\Hid (AlX w w1.heap.size p m gmv cm mi v4 l4 N o (wk.take wl) mem W0.heap.size gI d.tag.length vA A w2.heap.size (((mem b).take j).flatMap A) xs T gTo cTo v' l' W))
    (fun _ i _=>(mem b).length-(intOf i).toNat)
   case atStart=>exact⟨0,_,_,_,_,_,_,zuL _,rfl,rfl,HX4.out⟩
   case round=>
    clear HX4;obtain⟨j,gTo,cTo,v',l',xs,T,hj,rfl,rfl,HX⟩:=hrel
    by_cases hj2:j<(mem b).length
    ·obtain⟨gs',cs',e1,hcs⟩:=HX.out.st.pt.fam.nats (i:=mi b) (by have:=Hmi.out.1;omega) ((HX.out.old _ Hmi.out.1).2.trans Hvb.out.2) (by omega);rw[(HX.out.old _ Hmi.out.1).1,Hvb.out.1] at e1;cases e1;have c0:=hcs j hj2;have hsn:=Hmem.out _ (za3 hj2);have Htk:Hid _:=zdN hj2;generalize (mem b).getD j 0=s0 at *;obtain⟨⟨pa,pc⟩,hv⟩:=zg4 (HX.out.st.ar.rows s0 hsn);have o1:=HX.out.st.ar.out.cellAt s0 (by omega);rw[zeE vA hsn,hv] at o1;have Hv:Hid _:=hv;have hi2:(j:Int)<((mem b).length:Int):=by omega
     have hi3:(s0:Int)<(d.tag.length:Int):=by omega
     have hAl:=HAi.out.len s0;clear hv hcs;obtain⟨W5,hW5⟩:∃W5,W5=wr:=⟨_,rfl⟩;subst hW5;go_wp2;clear c0 o1
     go_loopw [8,69] (fun tv i W=>∃(a gTo cTo:Nat) (v':Nat->Value) (l':Nat->List Int) (xs:List Nat) (T:Nat->Nat->Nat),a<=(A s0).length/\i=.int .i64 a/\tv=.slice (some ⟨gTo,0,none⟩) xs.length cTo/\Hid (AlX w w1.heap.size p m gmv cm mi v4 l4 N o (wk.take wl) mem W0.heap.size gI d.tag.length vA A w2.heap.size (((mem b).take j).flatMap A++(A s0).take a) xs T gTo cTo v' l' W))
      (fun _ i _=>(A s0).length-(intOf i).toNat)
     case atStart=>exact⟨0,_,_,_,_,_,_,zuL _,rfl,rfl,HX.out.congr (by simp)⟩
     case round=>
      clear HX;obtain⟨a,gTo,cTo,v',l',xs,T,ha,rfl,rfl,HX⟩:=hrel
      by_cases ha2:a<(A s0).length
      ·obtain⟨f,c,hfc⟩:∃f c,(A s0).getD a (0,0)=(f,c):=⟨_,_,rfl⟩;obtain⟨ga,rfl,z0,z1⟩:=HX.out.st.ar.arrow hsn ha2 Hv.out hfc;obtain⟨hfn0,hcu,_⟩:=(HAi.out.mem s0 (f,c)).1 (zot ha2 hfc);have hfn:f<d.tag.length:=by dsimp only at hfn0;omega
       have hc256:c<256:=by have:=(zbE.1 hcu).1;have:=HF.out.wd.2.2;omega
       have Htk2:Hid _:=znJ ha2 hfc;clear hfn0 hcu hfc;have hbA:Below wr.heap.size wr (wr.alloc (.cells #[.int .i64 (f:Int),.int .i64 (c:Int)] 190)):=(Below.refl _ _).alloc (zuz _) _;have HXa:Hid _:=HX.out.on hbA;obtain⟨Wa,hWa⟩:∃Wa,wr.alloc (.cells #[.int .i64 (f:Int),.int .i64 (c:Int)] 190)=Wa:=⟨_,rfl⟩;have xa:Wa.heap[wr.heap.size]?=some (.cells #[.int .i64 (f:Int),.int .i64 (c:Int)] 190 (0,0)):=by rw[<-hWa];exact zuR _ _
       rw[hWa] at HXa;obtain⟨t0,t1,t2,t3,t4⟩:=zfk HXa.out.st.tr hfn;have y0:Wa.cell? ⟨wr.heap.size,0,none⟩=some (.int .i64 (f:Int)):=by rw[zuO _ _ _ _ _ _ xa];rfl
       have y1:Wa.cell? ⟨wr.heap.size,1,none⟩=some (.int .i64 (c:Int)):=by rw[zuO _ _ _ _ _ _ xa];rfl
       have hi4:(a:Int)<((A s0).length:Int):=by omega
       have hi5:(f:Int)<(d.tag.length:Int):=by omega
       have Hxa:Hid _:=xa;have HTlt:Hid _:=HX.out.ti.lt f;have heq:=Tryz.eqlZ (T f) (decide (f∉xs)) (by rw[decide_eq_decide];exact HX.out.ti.zero f);clear hbA xa;have t0':Wa.cell? ⟨w2.heap.size,f*5,none⟩=some (.int .u64 0):=t0;have t1':Wa.cell? ⟨w2.heap.size,f*5+1,none⟩=some (.int .u64 (T f 0:Int)):=t1;have t2':Wa.cell? ⟨w2.heap.size,f*5+2,none⟩=some (.int .u64 (T f 1:Int)):=t2;have t3':Wa.cell? ⟨w2.heap.size,f*5+3,none⟩=some (.int .u64 (T f 2:Int)):=t3;have t4':Wa.cell? ⟨w2.heap.size,f*5+4,none⟩=some (.int .u64 (T f 3:Int)):=t4;clear t0 t1 t2 t3 t4
       by_cases hfx:f∈xs
       ·rw[decide_eq_false (fun h=>h hfx)] at heq;obtain⟨tw1,tw2⟩:=zpP HXa.out.st.tr hfn (q:=c/64) (by omega);have HN:Hid (∀nq:Nat,AlX w w1.heap.size p m gmv cm mi v4 l4 N o (wk.take wl) mem W0.heap.size gI d.tag.length vA A w2.heap.size (((mem b).take j).flatMap A++(A s0).take a++[(f,c)]) xs (zil T f c) gTo cTo v' l' ((Wa.drewN nq).setCell ⟨w2.heap.size,f*5+(c/64+1),none⟩ (.int .u64 (bits BinOp.or .u64 (T f (c/64):Int) (IntKind.u64.wrap (2 ^ (c%64))))))):=fun nq=>by
         rw[orW _ _ (HTlt.out _) (by omega)];exact HXa.out.seen hfn hc256 hfx (below_drewN (Below.refl _ _) nq) rfl
        go_wp2;clear heq t0' t1' t2' t3' t4' z0 z1 hWa;have e1:(c:Int)/64=((c/64:Nat):Int):=by omega
        have e2:(c:Int)%64=((c%64:Nat):Int):=by omega
        have e3:1+((c/64:Nat):Int)=((c/64+1:Nat):Int):=by omega
        have l1:c/64+1<5:=by omega
        have l2:c%64<64:=by omega
        generalize T f (c/64)=tq at *;generalize hq1:c/64+1=q1 at *;generalize hq:c/64=q at *;generalize hr:c%64=r at *;clear hq1 hq hr;have i1:(q1:Int)<5:=by omega
        have i3:(0:Int)<=(q:Int):=by omega
        refine zdk 17 hmix (by kernel_rfl) rfl rfl rfl ?_;intro os hos;simp only[zus,zuu] at hos;subst hos
        repeat (go_big_quiet_step (fail))
        refine wpQuiet_nil ?_;intro w' hw' K hK;obtain⟨nq,rfl⟩:=hw'
        first|go_big_move|go_big_op
        refine hK _ _ ?_;go_wp2
        go_roundw
        case rel=>exact⟨a+1,gTo,cTo,v',l',xs,_,by omega,by go_num,rfl,(HN.out nq).congr (by rw[Htk2.out,ztD])⟩
        case measure=>simp[intOf];omega
       ·rw[decide_eq_true hfx] at heq;have hxl:=HX.out.ti.len;have hs5:=HXa.out.st.pt.size;have Hvt:Hid _:=HXa.out.vt
        go_wp2_with (at_builtin;refine za4 HXa.out.st.pt.fam _ rfl rfl (.tmp 80) (.tmp 83) rfl N (by omega) (zav xs) HXa.out.lt xs.length (zag _) (by exact Hvt.out.symm) (f:Int) rfl (by omega) hs5 ?_;intro g5 c5 w5 hF5 hg5;have Hx5:Hid _:=HXa.out.st.pt.fam.others (i:=N) (by omega) hg5 (by decide) Hxa.out;have HF5:Hid _:=hF5;have HG5:Hid _:=hg5;clear hF5 hg5)
        have y0':w5.cell? ⟨wr.heap.size,0,none⟩=some (.int .i64 (f:Int)):=by rw[zuO _ _ _ _ _ _ Hx5.out];rfl
        have y1':w5.cell? ⟨wr.heap.size,1,none⟩=some (.int .i64 (c:Int)):=by rw[zuO _ _ _ _ _ _ Hx5.out];rfl
        obtain⟨tw1,tw2⟩:=zpP (HXa.out.st.touch HF5.out HG5.out).tr hfn (q:=c/64) (by omega);have HN:Hid (∀nq:Nat,AlX w w1.heap.size p m gmv cm mi v4 l4 N o (wk.take wl) mem W0.heap.size gI d.tag.length vA A w2.heap.size (((mem b).take j).flatMap A++(A s0).take a++[(f,c)]) (xs++[f]) (zil T f c) g5 c5 (upd v' N (.slice (some ⟨g5,0,none⟩) (xs.length+1) c5)) (updL l' N (zav xs++[(f:Int)])) ((w5.drewN nq).setCell ⟨w2.heap.size,f*5+(c/64+1),none⟩ (.int .u64 (bits BinOp.or .u64 (T f (c/64):Int) (IntKind.u64.wrap (2 ^ (c%64))))))):=fun nq=>by
         rw[orW _ _ (HTlt.out _) (by omega)];exact HXa.out.new hfn hc256 hfx HF5.out HG5.out (below_drewN (Below.refl _ _) nq) rfl
        clear heq t0' t1' t2' t3' t4' z0 z1 hWa y0 y1;have e1:(c:Int)/64=((c/64:Nat):Int):=by omega
        have e2:(c:Int)%64=((c%64:Nat):Int):=by omega
        have e3:1+((c/64:Nat):Int)=((c/64+1:Nat):Int):=by omega
        have l1:c/64+1<5:=by omega
        have l2:c%64<64:=by omega
        generalize T f (c/64)=tq at *;generalize hq1:c/64+1=q1 at *;generalize hq:c/64=q at *;generalize hr:c%64=r at *;clear hq1 hq hr;have i1:(q1:Int)<5:=by omega
        have i3:(0:Int)<=(q:Int):=by omega
        refine zdk 17 hmix (by kernel_rfl) rfl rfl rfl ?_;intro os hos;simp only[zus,zuu] at hos;subst hos
        repeat (go_big_quiet_step (fail))
        refine wpQuiet_nil ?_;intro w' hw' K hK;obtain⟨nq,rfl⟩:=hw'
        first|go_big_move|go_big_op
        refine hK _ _ ?_;go_wp2
        go_roundw
        case rel=>exact⟨a+1,g5,c5,_,_,xs++[f],_,by omega,by go_num,by simp,(HN.out nq).congr (by rw[Htk2.out,ztD])⟩
        case measure=>simp[intOf];omega
      ·have haa:a=(A s0).length:=by omega
       have HX':Hid _:=HX.out.congr (ps':=((mem b).take (j+1)).flatMap A) (by rw[Htk.out,<-zoq,haa,zuq]);have hi4:¬(a:Int)<((A s0).length:Int):=by omega
       clear haa;go_wp2
       go_roundw
       case rel=>exact⟨j+1,gTo,cTo,v',l',xs,T,by omega,by go_num,rfl,HX'.out⟩
       case measure=>simp[intOf];omega
    ·have hjj:j=(mem b).length:=by omega
     have HX':Hid _:=HX.out.congr (ps':=(mem b).flatMap A) (by rw[hjj,zuq]);have hi2:¬(j:Int)<((mem b).length:Int):=by omega
     have hxl:=HX.out.ti.len;have Hspl:Hid _:=HX'.out.ti.spl HF.out HT.out.pm hbm HAi.out;have hwt:(wk.take wl).length=wl:=by rw[zt8];omega
     have hcut:=zrA N xs w2.heap.size d.tag.length (fun s=>trW (T s)) wr HX.out.st.pt (HT.out.pm.fewer (fun c hc=>List.mem_of_mem_take hc)) ⟨HX.out.st.two,by omega⟩ HX.out.lt HX.out.ti.nd HX.out.ti.xlt (by omega) (by omega) (by omega) HX.out.st.tr;rw[HX.out.vt] at hcut;clear hjj;obtain⟨W5,hW5⟩:∃W5,W5=wr:=⟨_,rfl⟩;subst hW5
     go_wp2_with fail
     refine hcut.mono ?_;rintro e w4 ⟨rfl,g',c',m',mi',v2,l2,N2,o2,wk2,mem2,X1,X2,X3,X4,X5,X6,X7,X8,X9,X10⟩;have hgT:w2.heap.size≠gmv:=fun e=>by
      obtain⟨cur,hc⟩:=zbo HX.out.st.pt.out;have ht:=HX.out.st.tr;rw[e,hc] at ht;exact absurd (zap ht) (by decide)
     have ht4:=X9 _ _ _ (by decide) (by decide) hgT HX.out.st.tr;have HA4:Hid _:=HX.out.st.ar.kpp X9 (zbo HX.out.st.pt.out);have hB4:Below w.heap.size w w4:=HX.out.st.be.trans (X8.mono (by have:=HX.out.st.ws;omega));obtain⟨x61,x62⟩:=X6 N HX.out.st.two (by omega);have Hce:Hid (∀W,w4.grownBy W (some w2.heap.size)->∀i,i<xs.length->W.cell? ⟨gTo,i,none⟩=some (.int .i64 ((xs.getD i 0:Nat):Int))):=fun W hg i hi=>by
      obtain⟨g7,c7,e7,h7⟩:=X1.fam.nats (i:=N) (by omega) (x62.trans HX.out.lt) (by omega);rw[x61,HX.out.vt] at e7;cases e7;obtain⟨cur,hc⟩:=za9 (X1.fam.own N (by omega)) (b:=gTo) (by rw[x61,HX.out.vt];rfl);rw[<-h7 i hi];exact World.cell?_of_block (hg.block gTo (zae hc) (fun e=>by
       have e2:gTo=w2.heap.size:=Option.some.inj e;rw[e2,ht4] at hc;exact absurd (zap hc) (by decide)))
     have Hm:Hid (2*(d.tag.length-m')+wk2.length<gk/\2*(d.tag.length-m')+wk2.length<=3*d.tag.length):=by
      have:=X2.le;have:=HT.out.ke;have:=HT.out.kl;rw[hwt] at X5;show _/\_;omega
     have HFin:Hid (∀W,w4.grownBy W (some w2.heap.size)->W.heap[w2.heap.size]?=some (.cells (zcR d.tag.length (wipe xs T xs.length)) 192 (0,0))->AlT w d w1.heap.size p W0.heap.size gI vA A w2.heap.size (2*(d.tag.length-m')+wk2.length) m' g' c' mi' v2 l2 N2 o2 wk2 mem2 W):=fun W hg ht=>by
      rw[zrr HX.out.ti] at ht;refine⟨X1.traits ht4 hg,X2,Hspl.out.hop HF.out (fun c hc hne=>by have:=Hbe.out c hc hne;rw[Hwl.out] at this;exact this) X3 HT.out.hop,Hspl.out.alike HF.out X3 HT.out.al,fun s t hs ht' e=>HT.out.an s t hs ht' ((X3.iff s t hs ht').1 e).1,HA4.out.far hg (fun q e=>by cases e;exact⟨_,_,ht4,by decide,by decide⟩),ht,hB4.grown hg hB4.size (fun q e=>by cases e;exact HS.out.2),rfl,Hm.out.2⟩
     have ht0:w4.heap[w2.heap.size]?=some (.cells (zcR d.tag.length (wipe xs T 0)) 192 (0,0)):=by rw[zp2];exact ht4
     have Hxlt:Hid _:=HX.out.ti.xlt;have Ht0:Hid _:=ht0;clear hcut X1 X2 X3 X4 X5 X6 X7 X8 X9 X10 hgT ht4 hB4 x61 x62 HX HX' ht0;go_wp2
     go_loopw [110] (fun i W=>∃(q:Nat),q<=xs.length/\i=.int .i64 q/\Hid (w4.grownBy W (some w2.heap.size))/\Hid (W.heap[w2.heap.size]?=some (.cells (zcR d.tag.length (wipe xs T q)) 192 (0,0))))
      (fun i _=>xs.length-(intOf i).toNat)
     case atStart=>exact⟨0,zuL _,rfl,World.grownBy.refl _ _,Ht0⟩
     case round=>
      obtain⟨q,hq,rfl,HG,HH⟩:=hrel
      by_cases hq2:q<xs.length
      ·have c0:=Hce.out wr HG.out q hq2;have hs0:=Hxlt.out _ (za3 hq2);have Hsn:Hid _:=zdN hq2;generalize xs.getD q 0=s0 at *;obtain⟨z0,z1,z2,z3,z4⟩:=zfk HH.out hs0;have fz:∀o,wr.frozen? ⟨w2.heap.size,o,none⟩=false:=fun _=>zuQ _ _ _ _ _ HH.out
       have hset:=zj7 HH.out s0 kz;rw[zp1 T Hsn.out] at hset;have HN:Hid _:=hset;have hi2:(q:Int)<(xs.length:Int):=by omega
       have hi3:(s0:Int)<(d.tag.length:Int):=by omega
       clear hset;go_wp2
       go_roundw
       case rel=>exact⟨q+1,by omega,by go_num,HG.out.trans (((((zaX _ _ _ _).trans (zaX _ _ _ _)).trans (zaX _ _ _ _)).trans (zaX _ _ _ _)).trans (zaX _ _ _ _)),HN.out⟩
       case measure=>simp[intOf];omega
      ·have hqq:q=xs.length:=by omega
       have hi2:¬(q:Int)<(xs.length:Int):=by omega
       have HZ:Hid _:=HFin.out wr HG.out (by rw[<-hqq];exact HH.out);clear hqq;go_wp2
       go_roundg (2*(d.tag.length-m')+wk2.length)
       case measure=>have h1:=Hm.out.1;have h2:=HT.out.ke;omega
       case rel=>exact⟨m',g',c',mi',v2,l2,N2,o2,wk2,mem2,HZ.out⟩
  ·obtain⟨⟨aw,cw⟩,ew⟩:=zaj (HT.out.pt.fam.own 1 (by have:=HT.out.pt.two;omega));have hl0:(l 1).length=0:=by rw[HT.out.pt.l1,zag];omega
   rw[hl0] at ew;obtain⟨⟨a0,c0⟩,e0⟩:=zaj (HT.out.pt.fam.own 0 (by have:=HT.out.pt.two;omega));obtain⟨r0,r1,r2⟩:=zbi HT.out.pt.box;rw[ew] at r2;rw[e0] at r0;have He0:Hid _:=e0;clear ew e0 hl0;have HW:Hid (wk=[]):=ztK (by omega);clear hw0;generalize (l 0).length=n0 at *;go_wp2;refine zuN (v:=.slice a0 n0 c0) (by simp[results,Tryz.results61,go_sem]) rfl ?_;have hm:=HT.out.pm.le;refine⟨_,o,rfl,?_,HT.out.pm.ln,fun s hs=>zuB (HT.out.pm.lt s hs) hm,fun s t hs ht=>⟨fun e=>zo7 HF.out (by have:=HT.out.hop;rw[HW.out] at this;exact this) HT.out.an hs ht e,fun h=>HT.out.al s t hs ht h⟩,HT.out.be⟩;rw[<-He0.out,<-HT.out.pt.l0];exact zcO (HT.out.pt.fam.own 0 (by have:=HT.out.pt.two;omega)) (by have:=HS.out.1;omega)
end Go.Proofs.YthddplbodacjgaaGreatDoor
