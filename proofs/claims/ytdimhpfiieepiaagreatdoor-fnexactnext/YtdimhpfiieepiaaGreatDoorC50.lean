import Derived.Test.YtdimhpfiieepiaaGreatDoorC49
import Derived.Deep.RegionHeld3
import Derived.Deep.DrawnRows
namespace Go.Proofs.YtdimhpfiieepiaaGreatDoor
open Proofs.Tryz
open Option renaming some->za,none->zf
open Value renaming int->zb,pointer->zj
open Go renaming Value->zc,World->zd,Calls->zk,TypeId->zl
open Obj renaming cells->zg
open RowKit renaming Hid->aa,Below->ab
set_option maxHeartbeats 2000000
set_option maxRecDepth 100000
open Go.RowKit
section
def Jw(x:ku)(v:zc):Array zc:=#[zb .i64 x.kind,zb .i64 x.rule,zb .i64 x.start,zb .i64 x.fin,v]
def qJ(X:zd)(g:Nat)(v0 v1 v2 v3 v4:zc):zd:=((((X.setCell ⟨g,0,zf⟩ v0).setCell ⟨g,1,zf⟩ v1).setCell ⟨g,2,zf⟩ v2).setCell ⟨g,3,zf⟩ v3).setCell ⟨g,4,zf⟩ v4
theorem Pf{X:zd}{g k:Nat}{v0 v1 v2 v3 v4:zc}(h:k≠g):(qJ X g v0 v1 v2 v3 v4).heap[k]?=X.heap[k]?:=by
 unfold qJ;rw[cu _ _ _ _ h,cu _ _ _ _ h,cu _ _ _ _ h,cu _ _ _ _ h,cu _ _ _ _ h]
theorem zkc{X:zd}{g:Nat}{a b c d e v0 v1 v2 v3 v4:zc}{t:zl}(h:X.heap[g]?=za (zg #[a,b,c,d,e] t (0,0))):(qJ X g v0 v1 v2 v3 v4).heap[g]?=za (zg #[v0,v1,v2,v3,v4] t (0,0)):=by
 unfold qJ;exact dF _ _ _ _ _ _ (dF _ _ _ _ _ _ (dF _ _ _ _ _ _ (dF _ _ _ _ _ _ (dF _ _ _ _ _ _ h))))
theorem zh9{X w:zd}{g B:Nat}{v0 v1 v2 v3 v4:zc}(h:ab B w X)(hg:B<=g):ab B w (qJ X g v0 v1 v2 v3 v4):=by
 unfold qJ;exact((((h.setCell hg _).setCell hg _).setCell hg _).setCell hg _).setCell hg _
theorem qD{a b:Bool}(h:a=true->b=true)(hb:b=false):a=false:=by
 cases a
 ·rfl
 ·exact absurd (h rfl) (by simp[hb])
def Lu(s:eE):Array zc:=oc s.L s.B s.C s.S s.N
def jX(o:Oper)(j:Nat):Prop:=∀l:Nat->Bool,(∀e∈o.after,Region.binds .any e=true->l e.on=true)->l j=true
abbrev CY:Array zc:=#[zb .i64 0,.string ⟨#[]⟩,.bool false,zb .i64 0,zb .i64 0]
abbrev CX:Array zc:=#[zb .i64 0,zb .i64 0,zb .i64 0,zb .i64 0,.slice zf 0 0]
def Dj(L:List (Nat×zc))(l:Nat->Bool)(a:Act):Prop:=∀i p,L[i]?=za p->l i=true->a.eval (.tmp p.1)=p.2
theorem Dj.put{L L':List (Nat×zc)}{l:Nat->Bool}{a:Act}{i d:Nat}{v:zc}(h:Dj L l a)(hL:L'[i]?=za (d,v))(hn:(L'.map Prod.fst).Nodup)(hz:d<a.tmps.size)(hg:∀j,j≠i->l j=true->L'[j]?=L[j]?):Dj L' (λj=>l j || j==i) (a.put (za d) v):=by
 intro j p hp hl
 by_cases e:j=i
 ·subst e;rw[hL]at hp;cases hp;exact zjE hz
 ·have hj:l j=true:=by simpa [e]using hl
  have hd:p.1≠d:=λq=>e ((List.getElem?_inj (l:=L'.map Prod.fst) (by rw[tU];exact(vp.1 hp).1) hn).1 (by rw[Bv,Bv,hp,hL];simp[q]))
  rw[zhS hd];exact h j p ((hg j e hj).symm.trans hp) hj
theorem Dj.skip{L:List (Nat×zc)}{l:Nat->Bool}{a:Act}{i:Nat}(h:Dj L l a)(hL:L[i]?=zf):Dj L (λj=>l j || j==i) a:=λj p hp hl=>h j p hp (by
 have e:j≠i:=λe=>by rw[e,hL]at hp;cases hp
 simpa [e]using hl)
structure Fx(w2:zd)(R1:zc->zd->Prop)(R2:eE->ku->Prop)(m:zc)(s':eE)(x:ku)(so:Option Addr)(sm sc g6 g7:Nat)(bM bN bT b6 b7 b8 b9 ly nN:Bool)(w:zd):Prop where
 bj:ab w2.heap.size w2 w
 r1:bM=true->bN=false->R1 m w
 r2:bN=true->R2 s' x/\w.ownsRow w2.heap.size 71 2 (.slice so sm sc) x.gA.length (pv x.gA)
 a0:b8=true->w2.heap.size<=g6/\w.heap[g6]?=za (zg (if ly=true then Lu s' else CY) 32 (0,0))
 a1:b9=true->w2.heap.size<=g7/\w.heap[g7]?=za (zg (if nN=true then Jw x (.slice so sm sc) else CX) 35 (0,0))
 kT:(bT || b6 || b7)=true->bN=true
 k0:ly=true->bN=true/\b8=true
 k1:nN=true->bN=true/\b9=true
section
variable {w2 w w':zd} {R1:zc->zd->Prop} {R2:eE->ku->Prop} {m v:zc} {s s1:eE} {x x1:ku} {so tI:Option Addr} {sm sc tH tE g6 g7:Nat} {bM bN bT b6 b7 b8 b9 ly nN:Bool}
theorem Fx.up(h:Fx w2 R1 R2 m s x so sm sc g6 g7 bM bN bT b6 b7 b8 b9 ly nN w)(hR:∀m w w',R1 m w->ab w.heap.size w w'->R1 m w')(hb:ab w.heap.size w w'):Fx w2 R1 R2 m s x so sm sc g6 g7 bM bN bT b6 b7 b8 b9 ly nN w':=
 ⟨aj h.bj h.bj.size hb,λp q=>hR _ _ _ (h.r1 p q) hb,λp=>⟨(h.r2 p).1,cI (h.r2 p).2 hb⟩,λp=>⟨(h.a0 p).1,cB (h.a0 p).2 hb⟩,λp=>⟨(h.a1 p).1,cB (h.a1 p).2 hb⟩,h.kT,h.k0,h.k1⟩
theorem Fx.mat(h:Fx w2 R1 R2 m s x so sm sc g6 g7 bM bN bT b6 b7 b8 b9 ly nN w)(hR:∀m w w',R1 m w->ab w.heap.size w w'->R1 m w')(hb:ab w.heap.size w w')(hv:R1 v w'):Fx w2 R1 R2 v s x so sm sc g6 g7 true bN bT b6 b7 b8 b9 ly nN w':=
 have k:=h.up hR hb
 ⟨k.bj,λ_ _=>hv,k.r2,k.a0,k.a1,k.kT,k.k0,k.k1⟩
theorem Fx.nx(h:Fx w2 R1 R2 m s x so sm sc g6 g7 bM false bT b6 b7 b8 b9 ly nN w)(hR:∀m w w',R1 m w->ab w.heap.size w w'->R1 m w')(hb:ab w.heap.size w w')(h2:R2 s1 x1)(ho:w'.ownsRow w.heap.size 71 2 (.slice tI tH tE) x1.gA.length (pv x1.gA)):Fx w2 R1 R2 m s1 x1 tI tH tE g6 g7 bM true bT b6 b7 b8 b9 ly nN w':=by
 obtain rfl:ly=false:=qD (λe=>(h.k0 e).1) rfl;obtain rfl:nN=false:=qD (λe=>(h.k1 e).1) rfl;have k:=h.up hR hb;exact⟨k.bj,λ_ q=>(by cases q),λ_=>⟨h2,zpC ho h.bj.size⟩,k.a0,k.a1,λ_=>rfl,λe=>(by cases e),λe=>(by cases e)⟩
theorem Fx.set(h:Fx w2 R1 R2 m s x so sm sc g6 g7 bM bN bT b6 b7 b8 b9 ly nN w)(hN:bN=true)(cT c6 c7:Bool):Fx w2 R1 R2 m s x so sm sc g6 g7 bM bN cT c6 c7 b8 b9 ly nN w:=⟨h.bj,h.r1,h.r2,h.a0,h.a1,λ_=>hN,h.k0,h.k1⟩
theorem Fx.YX(h:Fx w2 R1 R2 m s x so sm sc g6 g7 bM bN bT b6 b7 false b9 ly nN w)(hR:∀m w w',R1 m w->ab w.heap.size w w'->R1 m w'):Fx w2 R1 R2 m s x so sm sc w.heap.size g7 bM bN bT b6 b7 true b9 ly nN (w.alloc (zg CY 32)):=by
 obtain rfl:ly=false:=qD (λe=>(h.k0 e).2) rfl;have k:=h.up hR ((Below.refl _ _).alloc (ai _) (zg CY 32));exact⟨k.bj,k.r1,k.r2,λ_=>⟨h.bj.size,aL _ _⟩,k.a1,k.kT,λe=>(by cases e),k.k1⟩
theorem Fx.YY(h:Fx w2 R1 R2 m s x so sm sc g6 g7 bM bN bT b6 b7 b8 false ly nN w)(hR:∀m w w',R1 m w->ab w.heap.size w w'->R1 m w'):Fx w2 R1 R2 m s x so sm sc g6 w.heap.size bM bN bT b6 b7 b8 true ly nN (w.alloc (zg CX 35)):=by
 obtain rfl:nN=false:=qD (λe=>(h.k1 e).2) rfl;have k:=h.up hR ((Below.refl _ _).alloc (ai _) (zg CX 35));exact⟨k.bj,k.r1,k.r2,k.a0,λ_=>⟨h.bj.size,aL _ _⟩,k.kT,k.k0,λe=>(by cases e)⟩
theorem Fx.EK(h:Fx w2 R1 R2 m s x so sm sc g6 g7 bM true bT b6 b7 true b9 false nN w):Fx w2 R1 R2 m s x so sm sc g6 g7 bM true bT b6 b7 true b9 true nN (qJ w g6 (zb .i64 s.L) (.string s.B) (.bool s.C) (zb .i64 s.S) (zb .i64 s.N)):=by
 obtain⟨hg,mf⟩:=h.a0 rfl;have r:w.heap[g6]?=za (zg CY 32 (0,0)):=mf;exact⟨zh9 h.bj hg,λ_ q=>(by cases q),λp=>⟨(h.r2 p).1,kH (h.r2 p).2 λk e=>Pf λe2=>by obtain⟨_,aA,z⟩:=iD (h.r2 p).2 e;rw[e2,r]at z;exact absurd (bP z) (by decide)⟩,λ_=>⟨hg,zkc r⟩,λp=>⟨(h.a1 p).1,(Pf λe2=>by have z:=(h.a1 p).2;rw[e2,r]at z;exact absurd (bP z) (by decide)).trans (h.a1 p).2⟩,h.kT,λ_=>⟨rfl,rfl⟩,h.k1⟩
theorem Fx.wu(h:Fx w2 R1 R2 m s x so sm sc g6 g7 bM true bT b6 b7 b8 true ly false w):Fx w2 R1 R2 m s x so sm sc g6 g7 bM true bT b6 b7 b8 true ly true (qJ w g7 (zb .i64 x.kind) (zb .i64 x.rule) (zb .i64 x.start) (zb .i64 x.fin) (.slice so sm sc)):=by
 obtain⟨hg,mf⟩:=h.a1 rfl;have r:w.heap[g7]?=za (zg CX 35 (0,0)):=mf;exact⟨zh9 h.bj hg,λ_ q=>(by cases q),λp=>⟨(h.r2 p).1,kH (h.r2 p).2 λk e=>Pf λe2=>by obtain⟨_,aA,z⟩:=iD (h.r2 p).2 e;rw[e2,r]at z;exact absurd (bP z) (by decide)⟩,λp=>⟨(h.a0 p).1,(Pf λe2=>by have z:=(h.a0 p).2;rw[e2,r]at z;exact absurd (bP z) (by decide)).trans (h.a0 p).2⟩,λ_=>⟨hg,zkc r⟩,h.kT,h.k0,λ_=>⟨rfl,rfl⟩⟩
end
section
variable {P:Program} {o:Oper} {a:Act} {w w':zd} {K:Act->zd->Prop} {Q:Exit->Act->zd->Prop} {d:Nat} {v:zc} {f:FuncId} {xs:Array zc}
theorem tM(hx:(execOp a.eval o).run P w=.ok (.value v) w')(hd:o.dst=za d)(hK:K (a.put (za d) v) w'):o.wp P a w K Q:=by
 unfold Oper.wp;rw[hx,Oper.upon_value,hd];exact hK
theorem LZ(hx:(execOp a.eval o).run P w=.ok (.enter f xs) w)(hd:o.dst=za d)(hc:zk P f xs w λe w'=>∃v,e=.returned v/\K (a.put (za d) v) w'):o.wp P a w K Q:=by
 unfold Oper.wp;rw[hx,Oper.upon_enter];refine hc.mono ?_;rintro e w' ⟨v,rfl,h⟩;rw[hd];exact h
theorem Pw(hx:(execOp a.eval o).run P w=.ok .skip w')(hd:o.dst=zf)(hK:K a w'):o.wp P a w K Q:=by
 unfold Oper.wp;rw[hx,Oper.upon_skip,hd];exact hK
end
abbrev zM(dm dM ds dS dN dt e0 e1 c0 c1:Nat)(Mv Sv m:zc)(s':eE)(x:ku)(so:Option Addr)(sm sc g6 g7:Nat):List (Nat×zc):=[(dm,Mv),(dM,m),(ds,Sv),(dS,Sv),(dN,.tuple #[iN s',jq x (.slice so sm sc)]),(dt,.tuple #[iN s',jq x (.slice so sm sc)]),(e0,iN s'),(e1,jq x (.slice so sm sc)),(c0,zj (za ⟨g6,0,zf⟩)),(c1,zj (za ⟨g7,0,zf⟩))]
theorem zqr{P:Program}{id:Nat}{a0:Act}{w2:zd}{Q:Exit->Act->zd->Prop}(o0 o1 o2 o3 o4 o5 o6 o7 o8 o9 kX ze:Oper)(dm dM ds dS dN dt e0 e1 c0 c1:Nat)(Mv Sv:zc)(R1:zc->zd->Prop)(R2:eE->ku->Prop)(fM fS fN:FuncId)(hm:P.follows .mixedOrders=true)(hB:Mo .any [o0,o1,o2,o3,o4,o5,o6,o7,o8,o9,kX,ze].toArray=true)(gG:[dm,dM,ds,dS,dN,dt,e0,e1,c0,c1].Nodup)(hsz:∀s∈[dm,dM,ds,dS,dN,dt,e0,e1,c0,c1],s<a0.tmps.size)
  (AA:o0.dst=za dm) (oV:o1.dst=za dM) (lz:o2.dst=za ds) (AB:o3.dst=za dS) (GB:o4.dst=za dN) (Sy:o5.dst=za dt) (Sz:o6.dst=za e0) (SA:o7.dst=za e1) (SB:o8.dst=za c0) (N3:o9.dst=za c1) (Sx:kX.dst=zf) (zya:ze.dst=zf) (zzf:jX o1 0) (Uz:jX o3 2) (zwN:jX o4 1) (UA:jX o4 3) (UB:jX o5 4) (zzj:jX o6 5) (zzk:jX o7 5) (zzb:jX kX 4) (Uy:jX kX 8) (Ux:jX kX 6) (zzc:jX ze 4) (zze:jX ze 9) (zzd:jX ze 7)
  (X0:∀(a:Act) (w:zd),sC a0 a [dm,dM,ds,dS,dN,dt,e0,e1,c0,c1]->ab w2.heap.size w2 w->(execOp a.eval o0).run P w=.ok (.value Mv) w) (X2:∀(a:Act) (w:zd),sC a0 a [dm,dM,ds,dS,dN,dt,e0,e1,c0,c1]->ab w2.heap.size w2 w->(execOp a.eval o2).run P w=.ok (.value Sv) w) (X1:∀(a:Act) (w:zd),a.eval (.tmp dm)=Mv->(execOp a.eval o1).run P w=.ok (.enter fM #[Mv]) w) (X3:∀(a:Act) (w:zd),a.eval (.tmp ds)=Sv->(execOp a.eval o3).run P w=.ok (.enter fS #[Sv]) w) (X4:∀(a:Act) (w:zd) (m:zc),a.eval (.tmp dM)=m->a.eval (.tmp dS)=Sv->(execOp a.eval o4).run P w=.ok (.enter fN #[m,Sv]) w) (X5:∀(a:Act) (w:zd) (v:zc),a.eval (.tmp dN)=v->(execOp a.eval o5).run P w=.ok (.value v) w) (X6:∀(a:Act) (w:zd) (u v:zc),a.eval (.tmp dt)=.tuple #[u,v]->(execOp a.eval o6).run P w=.ok (.value u) w) (X7:∀(a:Act) (w:zd) (u v:zc),a.eval (.tmp dt)=.tuple #[u,v]->(execOp a.eval o7).run P w=.ok (.value v) w) (X8:∀(a:Act) (w:zd),(execOp a.eval o8).run P w=.ok (.value (zj (za ⟨w.heap.size,0,zf⟩))) (w.alloc (zg CY 32))) (X9:∀(a:Act) (w:zd),(execOp a.eval o9).run P w=.ok (.value (zj (za ⟨w.heap.size,0,zf⟩))) (w.alloc (zg CX 35))) (Rb:∀(a:Act) (w:zd) (g:Nat) (s':eE),a.eval (.tmp c0)=zj (za ⟨g,0,zf⟩)->a.eval (.tmp e0)=iN s'->w.heap[g]?=za (zg CY 32 (0,0))->(execOp a.eval kX).run P w=.ok .skip (qJ w g (zb .i64 s'.L) (.string s'.B) (.bool s'.C) (zb .i64 s'.S) (zb .i64 s'.N))) (X11:∀(a:Act) (w:zd) (g:Nat) (x:ku) (so:Option Addr) (sm sc:Nat),a.eval (.tmp c1)=zj (za ⟨g,0,zf⟩)->a.eval (.tmp e1)=jq x (.slice so sm sc)->w.heap[g]?=za (zg CX 35 (0,0))->(execOp a.eval ze).run P w=.ok .skip (qJ w g (zb .i64 x.kind) (zb .i64 x.rule) (zb .i64 x.start) (zb .i64 x.fin) (.slice so sm sc))) (CM:∀W,ab w2.heap.size w2 W->zk P fM #[Mv] W λe w'=>∃v,e=.returned v/\R1 v w'/\ab W.heap.size W w') (CS:∀W,zk P fS #[Sv] W λe w'=>e=.returned Sv/\ab W.heap.size W w') (CN:∀W m,ab w2.heap.size w2 W->R1 m W->zk P fN #[m,Sv] W λe w'=>∃s' x so sm sc,e=.returned (.tuple #[iN s',jq x (.slice so sm sc)])/\R2 s' x/\w'.ownsRow W.heap.size 71 2 (.slice so sm sc) x.gA.length (pv x.gA)/\ab W.heap.size W w') (rD:∀m w w',R1 m w->ab w.heap.size w w'->R1 m w')
  (AC:∀(a:Act) (w:zd) (m:zc) (s':eE) (x:ku) (so:Option Addr) (sm sc g6 g7:Nat),a=([(dm,Mv),(dM,m),(ds,Sv),(dS,Sv),(dN,.tuple #[iN s',jq x (.slice so sm sc)]),(dt,.tuple #[iN s',jq x (.slice so sm sc)]),(e0,iN s'),(e1,jq x (.slice so sm sc)),(c0,zj (za ⟨g6,0,zf⟩)),(c1,zj (za ⟨g7,0,zf⟩))]:List (Nat×zc)).foldl (λa p=>a.put (za p.1) p.2) a0->ab w2.heap.size w2 w->R2 s' x->w.ownsRow w2.heap.size 71 2 (.slice so sm sc) x.gA.length (pv x.gA)->w2.heap.size<=g6->w2.heap.size<=g7->w.heap[g6]?=za (zg (Lu s') 32 (0,0))->w.heap[g7]?=za (zg (Jw x (.slice so sm sc)) 35 (0,0))->Q .normal a w):
  (Code.region id [o0,o1,o2,o3,o4,o5,o6,o7,o8,o9,kX,ze].toArray true).wp P Q a0 w2:=by
 refine zfo (Q:=Q) (λl a w=>∃m s' x so sm sc g6 g7,sC a0 a [dm,dM,ds,dS,dN,dt,e0,e1,c0,c1]/\Dj (zM dm dM ds dS dN dt e0 e1 c0 c1 Mv Sv m s' x so sm sc g6 g7) l a/\Fx w2 R1 R2 m s' x so sm sc g6 g7 (l 1) (l 4) (l 5) (l 6) (l 7) (l 8) (l 9) (l 10) (l 11) w) hm hB ?_ ?_ ?_
 ·exact⟨undef,.zero,.zero,zf,0,0,0,0,sC.refl _ _,λ_ _ _ h=>(by cases h),(Below.refl _ _).drew,λh=>(by cases h),λh=>(by cases h),λh=>(by cases h),λh=>(by cases h),λh=>(by cases h),λh=>(by cases h),λh=>(by cases h)⟩
 ·rintro l a w i o ⟨m,s',x,so,sm,sc,g6,g7,hk,hs,hF⟩ ho hl hq;have hz:∀s∈[dm,dM,ds,dS,dN,dt,e0,e1,c0,c1],s<a.tmps.size:=λs hs=>by rw[hk.sz];exact hsz s hs
  match i,ho with
  |0,ho=>
   obtain rfl:o0=o:=by simpa using ho
   exact tM (X0 a w hk hF.bj) AA ⟨m,s',x,so,sm,sc,g6,g7,hk.put (by simp) _,hs.put rfl gG (hz _ (by simp)) (λ_ _ _=>rfl),by simpa using hF⟩
  |1,ho=>
   obtain rfl:o1=o:=by simpa using ho
   have ag:∀v j,j≠1->l j=true->(zM dm dM ds dS dN dt e0 e1 c0 c1 Mv Sv v s' x so sm sc g6 g7)[j]?=(zM dm dM ds dS dN dt e0 e1 c0 c1 Mv Sv m s' x so sm sc g6 g7)[j]?:=λv=>λj h q=>by
    match j,h,q with
    |0,_,_=>rfl
    |1,h,_=>exact absurd rfl h
    |_+2,_,_=>rfl
   exact LZ (X1 a w (hs 0 _ rfl (zzf l hq))) oV ((CM w hF.bj).mono λe w' ⟨v,he,hv,hb⟩=>⟨v,he,v,s',x,so,sm,sc,g6,g7,hk.put (by simp) _,hs.put rfl gG (hz _ (by simp)) (ag v),by simpa using hF.mat rD hb hv⟩)
  |2,ho=>
   obtain rfl:o2=o:=by simpa using ho
   exact tM (X2 a w hk hF.bj) lz ⟨m,s',x,so,sm,sc,g6,g7,hk.put (by simp) _,hs.put rfl gG (hz _ (by simp)) (λ_ _ _=>rfl),by simpa using hF⟩
  |3,ho=>
   obtain rfl:o3=o:=by simpa using ho
   exact LZ (X3 a w (hs 2 _ rfl (Uz l hq))) AB ((CS w).mono λe w' ⟨he,hb⟩=>⟨_,he,m,s',x,so,sm,sc,g6,g7,hk.put (by simp) _,hs.put rfl gG (hz _ (by simp)) (λ_ _ _=>rfl),by simpa using hF.up rD hb⟩)
  |4,ho=>
   obtain rfl:o4=o:=by simpa using ho
   rw[hl]at hF;have ag:∀s1 x1 tI tH tE j,j≠4->l j=true->(zM dm dM ds dS dN dt e0 e1 c0 c1 Mv Sv m s1 x1 tI tH tE g6 g7)[j]?=(zM dm dM ds dS dN dt e0 e1 c0 c1 Mv Sv m s' x so sm sc g6 g7)[j]?:=λs1 x1 tI tH tE=>λj h q=>by
    match j,h,q with
    |0,_,_=>rfl
    |1,_,_=>rfl
    |2,_,_=>rfl
    |3,_,_=>rfl
    |4,h,_=>exact absurd rfl h
    |5,_,q=>exact absurd (hF.kT (by simp[q])) (by simp)
    |6,_,q=>exact absurd (hF.kT (by simp[q])) (by simp)
    |7,_,q=>exact absurd (hF.kT (by simp[q])) (by simp)
    |_+8,_,_=>rfl
   have hM:=hs 1 _ rfl (zwN l hq);have hR:=hF.r1 (zwN l hq) rfl;exact LZ (X4 a w _ hM (hs 3 _ rfl (UA l hq))) GB ((CN w _ hF.bj hR).mono λe w' ⟨s1,x1,tI,tH,tE,he,h2,ho,hb⟩=>⟨_,he,m,s1,x1,tI,tH,tE,g6,g7,hk.put (by simp) _,hs.put rfl gG (hz _ (by simp)) (ag s1 x1 tI tH tE),by simpa using hF.nx rD hb h2 ho⟩)
  |5,ho=>
   obtain rfl:o5=o:=by simpa using ho
   have hN:=UB l hq;exact tM (X5 a w _ (hs 4 _ rfl hN)) Sy ⟨m,s',x,so,sm,sc,g6,g7,hk.put (by simp) _,hs.put rfl gG (hz _ (by simp)) (λ_ _ _=>rfl),by simpa using hF.set hN true (l 6) (l 7)⟩
  |6,ho=>
   obtain rfl:o6=o:=by simpa using ho
   have hT:=zzj l hq;exact tM (X6 a w _ _ (hs 5 _ rfl hT)) Sz ⟨m,s',x,so,sm,sc,g6,g7,hk.put (by simp) _,hs.put rfl gG (hz _ (by simp)) (λ_ _ _=>rfl),by simpa using hF.set (hF.kT (by simp[hT])) (l 5) true (l 7)⟩
  |7,ho=>
   obtain rfl:o7=o:=by simpa using ho
   have hT:=zzk l hq;exact tM (X7 a w _ _ (hs 5 _ rfl hT)) SA ⟨m,s',x,so,sm,sc,g6,g7,hk.put (by simp) _,hs.put rfl gG (hz _ (by simp)) (λ_ _ _=>rfl),by simpa using hF.set (hF.kT (by simp[hT])) (l 5) (l 6) true⟩
  |8,ho=>
   obtain rfl:o8=o:=by simpa using ho
   rw[hl]at hF;have ag:∀j,j≠8->l j=true->(zM dm dM ds dS dN dt e0 e1 c0 c1 Mv Sv m s' x so sm sc w.heap.size g7)[j]?=(zM dm dM ds dS dN dt e0 e1 c0 c1 Mv Sv m s' x so sm sc g6 g7)[j]?:=λj h q=>by
    match j,h,q with
    |0,_,_=>rfl
    |1,_,_=>rfl
    |2,_,_=>rfl
    |3,_,_=>rfl
    |4,_,_=>rfl
    |5,_,_=>rfl
    |6,_,_=>rfl
    |7,_,_=>rfl
    |8,h,_=>exact absurd rfl h
    |_+9,_,_=>rfl
   exact tM (X8 a w) SB ⟨m,s',x,so,sm,sc,w.heap.size,g7,hk.put (by simp) _,hs.put rfl gG (hz _ (by simp)) ag,by simpa using hF.YX rD⟩
  |9,ho=>
   obtain rfl:o9=o:=by simpa using ho
   rw[hl]at hF;have ag:∀j,j≠9->l j=true->(zM dm dM ds dS dN dt e0 e1 c0 c1 Mv Sv m s' x so sm sc g6 w.heap.size)[j]?=(zM dm dM ds dS dN dt e0 e1 c0 c1 Mv Sv m s' x so sm sc g6 g7)[j]?:=λj h q=>by
    match j,h,q with
    |0,_,_=>rfl
    |1,_,_=>rfl
    |2,_,_=>rfl
    |3,_,_=>rfl
    |4,_,_=>rfl
    |5,_,_=>rfl
    |6,_,_=>rfl
    |7,_,_=>rfl
    |8,_,_=>rfl
    |9,h,_=>exact absurd rfl h
    |_+10,_,_=>rfl
   exact tM (X9 a w) N3 ⟨m,s',x,so,sm,sc,g6,w.heap.size,hk.put (by simp) _,hs.put rfl gG (hz _ (by simp)) ag,by simpa using hF.YY rD⟩
  |10,ho=>
   obtain rfl:kX=o:=by simpa using ho
   have hN:=zzb l hq;have hA:=Uy l hq;have hG:=hF;rw[hN,hA,hl]at hG;exact Pw (Rb a w _ _ (hs 8 _ rfl hA) (hs 6 _ rfl (Ux l hq)) (hG.a0 rfl).2) Sx ⟨m,s',x,so,sm,sc,g6,g7,hk,hs.skip rfl,by simpa [hN,hA]using hG.EK⟩
  |11,ho=>
   obtain rfl:ze=o:=by simpa using ho
   have hN:=zzc l hq;have hA:=zze l hq;have hG:=hF;rw[hN,hA,hl]at hG;exact Pw (X11 a w _ _ _ _ _ (hs 9 _ rfl hA) (hs 7 _ rfl (zzd l hq)) (hG.a1 rfl).2) zya ⟨m,s',x,so,sm,sc,g6,g7,hk,hs.skip rfl,by simpa [hN,hA]using hG.wu⟩
  |i+12,ho=>simp at ho
 ·rintro l a w ⟨m,s',x,so,sm,sc,g6,g7,hk,hs,hF⟩ db;simp only[db 1 (by simp),db 4 (by simp),db 5 (by simp),db 6 (by simp),db 7 (by simp),db 8 (by simp),db 9 (by simp),db 10 (by simp),db 11 (by simp)]at hF;refine AC a w m s' x so sm sc g6 g7 ?_ hF.bj (hF.r2 rfl).1 (hF.r2 rfl).2 (hF.a0 rfl).1 (hF.a1 rfl).1 (hF.a0 rfl).2 (hF.a1 rfl).2;refine Wn _ a0 a hk λp hp=>?_
  obtain⟨i,hi⟩:=List.getElem?_of_mem hp;have hj:=(vp.1 hi).1;exact⟨hsz p.1 (List.mem_map_of_mem (f:=Prod.fst) hp),hs i p hi (db i (bA hj (by simp)))⟩
abbrev DA(dm ds dS dN dt e0 e1 c0 c1:Nat)(Mv Sv:zc)(s':eE)(x:ku)(so:Option Addr)(sm sc g6 g7:Nat):List (Nat×zc):=[(dm,Mv),(ds,Sv),(dS,Sv),(dN,.tuple #[iN s',jq x (.slice so sm sc)]),(dt,.tuple #[iN s',jq x (.slice so sm sc)]),(e0,iN s'),(e1,jq x (.slice so sm sc)),(c0,zj (za ⟨g6,0,zf⟩)),(c1,zj (za ⟨g7,0,zf⟩))]
theorem ztj{P:Program}{id:Nat}{a0:Act}{w2:zd}{Q:Exit->Act->zd->Prop}(o0 o1 o2 o3 o4 o5 o6 o7 o8 o9 kX:Oper)(dm ds dS dN dt e0 e1 c0 c1:Nat)(Mv Sv:zc)(R1:zc->zd->Prop)(R2:eE->ku->Prop)(fS fN:FuncId)(hm:P.follows .mixedOrders=true)(hB:Mo .any [o0,o1,o2,o3,o4,o5,o6,o7,o8,o9,kX].toArray=true)(gG:[dm,ds,dS,dN,dt,e0,e1,c0,c1].Nodup)(hsz:∀s∈[dm,ds,dS,dN,dt,e0,e1,c0,c1],s<a0.tmps.size)
  (AA:o0.dst=za dm) (oV:o1.dst=za ds) (lz:o2.dst=za dS) (AB:o3.dst=za dN) (GB:o4.dst=za dt) (Sy:o5.dst=za e0) (Sz:o6.dst=za e1) (SA:o7.dst=za c0) (SB:o8.dst=za c1) (N3:o9.dst=zf) (Sx:kX.dst=zf) (zzg:jX o2 1) (zzh:jX o3 0) (Uz:jX o3 2) (UA:jX o4 3) (UB:jX o5 4) (zzi:jX o6 4) (zzl:jX o9 3) (zzn:jX o9 7) (zzm:jX o9 5) (zza:jX kX 3) (Uy:jX kX 8) (Ux:jX kX 6)
  (X0:∀(a:Act) (w:zd),sC a0 a [dm,ds,dS,dN,dt,e0,e1,c0,c1]->ab w2.heap.size w2 w->(execOp a.eval o0).run P w=.ok (.value Mv) w) (X1:∀(a:Act) (w:zd),sC a0 a [dm,ds,dS,dN,dt,e0,e1,c0,c1]->ab w2.heap.size w2 w->(execOp a.eval o1).run P w=.ok (.value Sv) w) (X2:∀(a:Act) (w:zd),a.eval (.tmp ds)=Sv->(execOp a.eval o2).run P w=.ok (.enter fS #[Sv]) w) (X3:∀(a:Act) (w:zd) (m:zc),a.eval (.tmp dm)=m->a.eval (.tmp dS)=Sv->(execOp a.eval o3).run P w=.ok (.enter fN #[m,Sv]) w) (X4:∀(a:Act) (w:zd) (v:zc),a.eval (.tmp dN)=v->(execOp a.eval o4).run P w=.ok (.value v) w) (X5:∀(a:Act) (w:zd) (u v:zc),a.eval (.tmp dt)=.tuple #[u,v]->(execOp a.eval o5).run P w=.ok (.value u) w) (X6:∀(a:Act) (w:zd) (u v:zc),a.eval (.tmp dt)=.tuple #[u,v]->(execOp a.eval o6).run P w=.ok (.value v) w) (X7:∀(a:Act) (w:zd),(execOp a.eval o7).run P w=.ok (.value (zj (za ⟨w.heap.size,0,zf⟩))) (w.alloc (zg CY 32))) (X8:∀(a:Act) (w:zd),(execOp a.eval o8).run P w=.ok (.value (zj (za ⟨w.heap.size,0,zf⟩))) (w.alloc (zg CX 35))) (X9:∀(a:Act) (w:zd) (g:Nat) (s':eE),a.eval (.tmp c0)=zj (za ⟨g,0,zf⟩)->a.eval (.tmp e0)=iN s'->w.heap[g]?=za (zg CY 32 (0,0))->(execOp a.eval o9).run P w=.ok .skip (qJ w g (zb .i64 s'.L) (.string s'.B) (.bool s'.C) (zb .i64 s'.S) (zb .i64 s'.N))) (Rb:∀(a:Act) (w:zd) (g:Nat) (x:ku) (so:Option Addr) (sm sc:Nat),a.eval (.tmp c1)=zj (za ⟨g,0,zf⟩)->a.eval (.tmp e1)=jq x (.slice so sm sc)->w.heap[g]?=za (zg CX 35 (0,0))->(execOp a.eval kX).run P w=.ok .skip (qJ w g (zb .i64 x.kind) (zb .i64 x.rule) (zb .i64 x.start) (zb .i64 x.fin) (.slice so sm sc))) (CS:∀W,zk P fS #[Sv] W λe w'=>e=.returned Sv/\ab W.heap.size W w') (CN:∀W m,ab w2.heap.size w2 W->R1 m W->zk P fN #[m,Sv] W λe w'=>∃s' x so sm sc,e=.returned (.tuple #[iN s',jq x (.slice so sm sc)])/\R2 s' x/\w'.ownsRow W.heap.size 71 2 (.slice so sm sc) x.gA.length (pv x.gA)/\ab W.heap.size W w') (hRm:∀W,ab w2.heap.size w2 W->R1 Mv W)
  (AC:∀(a:Act) (w:zd) (s':eE) (x:ku) (so:Option Addr) (sm sc g6 g7:Nat),a=([(dm,Mv),(ds,Sv),(dS,Sv),(dN,.tuple #[iN s',jq x (.slice so sm sc)]),(dt,.tuple #[iN s',jq x (.slice so sm sc)]),(e0,iN s'),(e1,jq x (.slice so sm sc)),(c0,zj (za ⟨g6,0,zf⟩)),(c1,zj (za ⟨g7,0,zf⟩))]:List (Nat×zc)).foldl (λa p=>a.put (za p.1) p.2) a0->ab w2.heap.size w2 w->R2 s' x->w.ownsRow w2.heap.size 71 2 (.slice so sm sc) x.gA.length (pv x.gA)->w2.heap.size<=g6->w2.heap.size<=g7->w.heap[g6]?=za (zg (Lu s') 32 (0,0))->w.heap[g7]?=za (zg (Jw x (.slice so sm sc)) 35 (0,0))->Q .normal a w):
  (Code.region id [o0,o1,o2,o3,o4,o5,o6,o7,o8,o9,kX].toArray true).wp P Q a0 w2:=by
 refine zfo (Q:=Q) (λl a w=>∃m s' x so sm sc g6 g7,sC a0 a [dm,ds,dS,dN,dt,e0,e1,c0,c1]/\Dj (DA dm ds dS dN dt e0 e1 c0 c1 Mv Sv s' x so sm sc g6 g7) l a/\Fx w2 (λ_ _=>True) R2 m s' x so sm sc g6 g7 false (l 3) (l 4) (l 5) (l 6) (l 7) (l 8) (l 9) (l 10) w) hm hB ?_ ?_ ?_
 ·exact⟨undef,.zero,.zero,zf,0,0,0,0,sC.refl _ _,λ_ _ _ h=>(by cases h),(Below.refl _ _).drew,λh=>(by cases h),λh=>(by cases h),λh=>(by cases h),λh=>(by cases h),λh=>(by cases h),λh=>(by cases h),λh=>(by cases h)⟩
 ·rintro l a w i o ⟨m,s',x,so,sm,sc,g6,g7,hk,hs,hF⟩ ho hl hq;have hz:∀s∈[dm,ds,dS,dN,dt,e0,e1,c0,c1],s<a.tmps.size:=λs hs=>by rw[hk.sz];exact hsz s hs
  match i,ho with
  |0,ho=>
   obtain rfl:o0=o:=by simpa using ho
   exact tM (X0 a w hk hF.bj) AA ⟨m,s',x,so,sm,sc,g6,g7,hk.put (by simp) _,hs.put rfl gG (hz _ (by simp)) (λ_ _ _=>rfl),by simpa using hF⟩
  |1,ho=>
   obtain rfl:o1=o:=by simpa using ho
   exact tM (X1 a w hk hF.bj) oV ⟨m,s',x,so,sm,sc,g6,g7,hk.put (by simp) _,hs.put rfl gG (hz _ (by simp)) (λ_ _ _=>rfl),by simpa using hF⟩
  |2,ho=>
   obtain rfl:o2=o:=by simpa using ho
   exact LZ (X2 a w (hs 1 _ rfl (zzg l hq))) lz ((CS w).mono λe w' ⟨he,hb⟩=>⟨_,he,m,s',x,so,sm,sc,g6,g7,hk.put (by simp) _,hs.put rfl gG (hz _ (by simp)) (λ_ _ _=>rfl),by simpa using hF.up (λ_ _ _ h _=>h) hb⟩)
  |3,ho=>
   obtain rfl:o3=o:=by simpa using ho
   rw[hl]at hF;have ag:∀s1 x1 tI tH tE j,j≠3->l j=true->(DA dm ds dS dN dt e0 e1 c0 c1 Mv Sv s1 x1 tI tH tE g6 g7)[j]?=(DA dm ds dS dN dt e0 e1 c0 c1 Mv Sv s' x so sm sc g6 g7)[j]?:=λs1 x1 tI tH tE=>λj h q=>by
    match j,h,q with
    |0,_,_=>rfl
    |1,_,_=>rfl
    |2,_,_=>rfl
    |3,h,_=>exact absurd rfl h
    |4,_,q=>exact absurd (hF.kT (by simp[q])) (by simp)
    |5,_,q=>exact absurd (hF.kT (by simp[q])) (by simp)
    |6,_,q=>exact absurd (hF.kT (by simp[q])) (by simp)
    |_+7,_,_=>rfl
   have hM:=hs 0 _ rfl (zzh l hq);have hR:=hRm w hF.bj;exact LZ (X3 a w _ hM (hs 2 _ rfl (Uz l hq))) AB ((CN w _ hF.bj hR).mono λe w' ⟨s1,x1,tI,tH,tE,he,h2,ho,hb⟩=>⟨_,he,m,s1,x1,tI,tH,tE,g6,g7,hk.put (by simp) _,hs.put rfl gG (hz _ (by simp)) (ag s1 x1 tI tH tE),by simpa using hF.nx (λ_ _ _ h _=>h) hb h2 ho⟩)
  |4,ho=>
   obtain rfl:o4=o:=by simpa using ho
   have hN:=UA l hq;exact tM (X4 a w _ (hs 3 _ rfl hN)) GB ⟨m,s',x,so,sm,sc,g6,g7,hk.put (by simp) _,hs.put rfl gG (hz _ (by simp)) (λ_ _ _=>rfl),by simpa using hF.set hN true (l 5) (l 6)⟩
  |5,ho=>
   obtain rfl:o5=o:=by simpa using ho
   have hT:=UB l hq;exact tM (X5 a w _ _ (hs 4 _ rfl hT)) Sy ⟨m,s',x,so,sm,sc,g6,g7,hk.put (by simp) _,hs.put rfl gG (hz _ (by simp)) (λ_ _ _=>rfl),by simpa using hF.set (hF.kT (by simp[hT])) (l 4) true (l 6)⟩
  |6,ho=>
   obtain rfl:o6=o:=by simpa using ho
   have hT:=zzi l hq;exact tM (X6 a w _ _ (hs 4 _ rfl hT)) Sz ⟨m,s',x,so,sm,sc,g6,g7,hk.put (by simp) _,hs.put rfl gG (hz _ (by simp)) (λ_ _ _=>rfl),by simpa using hF.set (hF.kT (by simp[hT])) (l 4) (l 5) true⟩
  |7,ho=>
   obtain rfl:o7=o:=by simpa using ho
   rw[hl]at hF;have ag:∀j,j≠7->l j=true->(DA dm ds dS dN dt e0 e1 c0 c1 Mv Sv s' x so sm sc w.heap.size g7)[j]?=(DA dm ds dS dN dt e0 e1 c0 c1 Mv Sv s' x so sm sc g6 g7)[j]?:=λj h q=>by
    match j,h,q with
    |0,_,_=>rfl
    |1,_,_=>rfl
    |2,_,_=>rfl
    |3,_,_=>rfl
    |4,_,_=>rfl
    |5,_,_=>rfl
    |6,_,_=>rfl
    |7,h,_=>exact absurd rfl h
    |_+8,_,_=>rfl
   exact tM (X7 a w) SA ⟨m,s',x,so,sm,sc,w.heap.size,g7,hk.put (by simp) _,hs.put rfl gG (hz _ (by simp)) ag,by simpa using hF.YX (λ_ _ _ h _=>h)⟩
  |8,ho=>
   obtain rfl:o8=o:=by simpa using ho
   rw[hl]at hF;have ag:∀j,j≠8->l j=true->(DA dm ds dS dN dt e0 e1 c0 c1 Mv Sv s' x so sm sc g6 w.heap.size)[j]?=(DA dm ds dS dN dt e0 e1 c0 c1 Mv Sv s' x so sm sc g6 g7)[j]?:=λj h q=>by
    match j,h,q with
    |0,_,_=>rfl
    |1,_,_=>rfl
    |2,_,_=>rfl
    |3,_,_=>rfl
    |4,_,_=>rfl
    |5,_,_=>rfl
    |6,_,_=>rfl
    |7,_,_=>rfl
    |8,h,_=>exact absurd rfl h
    |_+9,_,_=>rfl
   exact tM (X8 a w) SB ⟨m,s',x,so,sm,sc,g6,w.heap.size,hk.put (by simp) _,hs.put rfl gG (hz _ (by simp)) ag,by simpa using hF.YY (λ_ _ _ h _=>h)⟩
  |9,ho=>
   obtain rfl:o9=o:=by simpa using ho
   have hN:=zzl l hq;have hA:=zzn l hq;have hG:=hF;rw[hN,hA,hl]at hG;exact Pw (X9 a w _ _ (hs 7 _ rfl hA) (hs 5 _ rfl (zzm l hq)) (hG.a0 rfl).2) N3 ⟨m,s',x,so,sm,sc,g6,g7,hk,hs.skip rfl,by simpa [hN,hA]using hG.EK⟩
  |10,ho=>
   obtain rfl:kX=o:=by simpa using ho
   have hN:=zza l hq;have hA:=Uy l hq;have hG:=hF;rw[hN,hA,hl]at hG;exact Pw (Rb a w _ _ _ _ _ (hs 8 _ rfl hA) (hs 6 _ rfl (Ux l hq)) (hG.a1 rfl).2) Sx ⟨m,s',x,so,sm,sc,g6,g7,hk,hs.skip rfl,by simpa [hN,hA]using hG.wu⟩
  |i+11,ho=>simp at ho
 ·rintro l a w ⟨m,s',x,so,sm,sc,g6,g7,hk,hs,hF⟩ db;simp only[db 3 (by simp),db 4 (by simp),db 5 (by simp),db 6 (by simp),db 7 (by simp),db 8 (by simp),db 9 (by simp),db 10 (by simp)]at hF;refine AC a w s' x so sm sc g6 g7 ?_ hF.bj (hF.r2 rfl).1 (hF.r2 rfl).2 (hF.a0 rfl).1 (hF.a1 rfl).1 (hF.a0 rfl).2 (hF.a1 rfl).2;refine Wn _ a0 a hk λp hp=>?_
  obtain⟨i,hi⟩:=List.getElem?_of_mem hp;have hj:=(vp.1 hi).1;exact⟨hsz p.1 (List.mem_map_of_mem (f:=Prod.fst) hp),hs i p hi (db i (bA hj (by simp)))⟩
end
section
variable {lo T b:Nat}{w W:zd}{cs:Array zc}{v:zc}
attribute [local go_sem ↓] wp_at_zero wp_at_succ
def pj:Option zc->Bool
 |some (.slice _ _ _)=>true
 |_=>false
structure ew(lo T:Nat)(w W:zd):Prop where
 os:W.os=w.os
 tape:W.tape=w.tape
 output:W.output=w.output
 size:w.heap.size<=W.heap.size
 out:∀b,b<w.heap.size->(b<lo\/T<=b)->W.heap[b]?=w.heap[b]?
 row:∀(b:Nat) (cs:Array zc) (t:zl),w.heap[b]?=za (zg cs t (0,0))->∃gj:Array zc,W.heap[b]?=za (zg gj t (0,0))/\gj.size=cs.size/\(∀(i:Nat),pj cs[i]?=true->gj[i]?=cs[i]?)/\∀(i:Nat),pj cs[i]?=false->pj gj[i]?=false
theorem ew.refl(lo T:Nat)(w:zd):ew lo T w w:=⟨rfl,rfl,rfl,ai _,λ_ _ _=>rfl,λ_ cs _ h=>⟨cs,h,rfl,λ_ _=>rfl,λ_ h=>h⟩⟩
theorem ew.trans{a b c:zd}(h:ew lo T a b)(k:ew lo T b c):ew lo T a c:=
 ⟨k.os.trans h.os,k.tape.trans h.tape,k.output.trans h.output,aU h.size k.size,λi hi ho=>(k.out i (bA hi h.size) ho).trans (h.out i hi ho),λi cs t e=>by
  obtain⟨cs1,e1,s1,p1,q1⟩:=h.row i cs t e;obtain⟨Af,e2,s2,p2,q2⟩:=k.row i cs1 t e1;refine⟨Af,e2,s2.trans s1,λi hi=>?_,λi hi=>q2 i (q1 i hi)⟩;have:=p1 i hi;rw[p2 i (by rw[this];exact hi),this]⟩
theorem ew.put{o:Nat}{t:zl}(hb:w.heap[b]?=za (zg cs t (0,0)))(h1:lo<=b)(h2:b<T)(hn:pj cs[o]?=false)(u:zc)(hu:pj (za u)=false):ew lo T w (w.setCell ⟨b,o,zf⟩ u):=by
 refine⟨rfl,rfl,rfl,by simp[World.setCell],λi hi ho=>cu _ _ _ _ (by show i≠b;omega),λi gj t' e=>?_⟩
 by_cases hib:i=b
 ·subst hib;rw[hb]at e;cases e;refine⟨_,dF w i o _ _ u hb,by simp,λj hj=>?_,λj hj=>?_⟩
  ·rw[Array.getElem?_setIfInBounds]
   by_cases e:o=j
   ·subst e;rw[hn]at hj;cases hj
   ·rw[aq e]
  ·rw[Array.getElem?_setIfInBounds]
   by_cases e:o=j
   ·rw[aD e];split
    ·exact hu
    ·rfl
   ·rw[aq e];exact hj
 ·exact⟨gj,(cu _ _ _ _ (by exact hib)).trans e,rfl,λ_ _=>rfl,λ_ h=>h⟩
def zQ(lo T:Nat)(w:zd)(v:zc)(n:Nat):Prop:=∃ao cap,v=.slice ao n cap/\(0<n->∃(b o:Nat) (cs:Array zc),ao=za ⟨b,o,zf⟩/\lo<=b/\b<T/\w.heap[b]?=za (zg cs 211 (0,0))/\o+n*2<=cs.size/\∀i,i<n*2->pj cs[o+i]?=false)
def zN(lo T:Nat)(w:zd)(v:zc)(ns:List aM):Prop:=∃ao cap,v=.slice ao ns.length cap/\(0<ns.length->∃(b o:Nat) (cs:Array zc),ao=za ⟨b,o,zf⟩/\lo<=b/\b<T/\w.heap[b]?=za (zg cs 149 (0,0))/\o+ns.length*5<=cs.size/\∀i,i<ns.length->(∀j,j<5->j≠1->pj cs[o+i*5+j]?=false)/\∃sv,cs[o+i*5+1]?=za sv/\zQ lo T w sv (ns.getD i .zero).set.length)
def zA(lo T:Nat)(w:zd)(v:zc)(bs:List aW):Prop:=∃ao cap,v=.slice ao bs.length cap/\(0<bs.length->∃(b o:Nat) (cs:Array zc),ao=za ⟨b,o,zf⟩/\lo<=b/\b<T/\w.heap[b]?=za (zg cs 115 (0,0))/\o+bs.length*3<=cs.size/\∀i,i<bs.length->(∀j,j<2->pj cs[o+i*3+j]?=false)/\∃sv,cs[o+i*3+2]?=za sv/\zN lo T w sv (bs.getD i .zero).nodes)
def BN(lo T:Nat)(w:zd)(v:zc)(rs:List bL):Prop:=∃ao cap,v=.slice ao rs.length cap/\(0<rs.length->∃(b o:Nat) (cs:Array zc),ao=za ⟨b,o,zf⟩/\lo<=b/\b<T/\w.heap[b]?=za (zg cs 69 (0,0))/\o+rs.length*2<=cs.size/\∀i,i<rs.length->pj cs[o+i*2+1]?=false/\∃sv,cs[o+i*2]?=za sv/\zA lo T w sv (rs.getD i .zero).branches)
theorem zQ.mk{n:Nat}(h:zQ lo T w v n)(k:ew lo T w W):zQ lo T W v n:=by
 obtain⟨ao,cap,rfl,h⟩:=h;refine⟨ao,cap,rfl,λh0=>?_⟩;obtain⟨b,o,cs,rfl,h1,h2,h3,h4,h5⟩:=h h0;obtain⟨gj,e,s,p,q⟩:=k.row b cs _ h3;exact⟨b,o,gj,rfl,h1,h2,e,by omega,λi hi=>q _ (h5 i hi)⟩
theorem zN.mk{ns:List aM}(h:zN lo T w v ns)(k:ew lo T w W):zN lo T W v ns:=by
 obtain⟨ao,cap,rfl,h⟩:=h;refine⟨ao,cap,rfl,λh0=>?_⟩;obtain⟨b,o,cs,rfl,h1,h2,h3,h4,h5⟩:=h h0;obtain⟨gj,e,s,p,q⟩:=k.row b cs _ h3;refine⟨b,o,gj,rfl,h1,h2,e,by omega,λi hi=>?_⟩;obtain⟨g1,sv,g2,g3⟩:=h5 i hi;have iL:pj cs[o+i*5+1]?=true:=by obtain⟨a,c,rfl,_⟩:=g3;rw[g2];rfl
 exact⟨λj hj hne=>q _ (g1 j hj hne),sv,(p _ iL).trans g2,g3.mk k⟩
theorem zA.mk{bs:List aW}(h:zA lo T w v bs)(k:ew lo T w W):zA lo T W v bs:=by
 obtain⟨ao,cap,rfl,h⟩:=h;refine⟨ao,cap,rfl,λh0=>?_⟩;obtain⟨b,o,cs,rfl,h1,h2,h3,h4,h5⟩:=h h0;obtain⟨gj,e,s,p,q⟩:=k.row b cs _ h3;refine⟨b,o,gj,rfl,h1,h2,e,by omega,λi hi=>?_⟩;obtain⟨g1,sv,g2,g3⟩:=h5 i hi;have iL:pj cs[o+i*3+2]?=true:=by obtain⟨a,c,rfl,_⟩:=g3;rw[g2];rfl
 exact⟨λj hj=>q _ (g1 j hj),sv,(p _ iL).trans g2,g3.mk k⟩
theorem PK{t:zl}(h:w.heap[b]?=za (zg cs t (0,0))){i:Nat}(hi:i<cs.size):∃u,w.cell? ⟨b,i,zf⟩=za u:=⟨cs[i],by rw[aO _ _ _ _ _ _ h];simp[hi]⟩
theorem ziS(v:zc)(n:Nat)(k:Int)(w:zd)(h:zQ lo T w v n)(hk:0<=k/\k+2*(n:Int)<=100000000):
  zk prog 133 #[v,zb .i64 k] w λe W=>e=.returned (zb .i64 (k+2*(n:Int)))/\ew lo T w W:=by
 obtain⟨ao,cap,rfl,h⟩:=h;have il:=hk.1;have cM:=hk.2;have H:aa _:=h;clear h hk
 go_enter func133,ntmps133
 go_wp2
 go_loopw [1,5] (λkv iv wr=>∃i:Nat,i<=n/\iv=zb .i64 i/\kv=zb .i64 (k+2*(i:Int))/\aa (ew lo T w wr)) (λ_ iv _=>n-(intOf iv).toNat)
 case atStart=>exact⟨0,aZ _,rfl,by simp,ew.refl _ _ _⟩
 case round=>
  obtain⟨i,hi,rfl,rfl,HM⟩:=hrel
  by_cases hlt:i<n
  ·obtain⟨b,o,cs,rfl,h1,h2,h3,h4,h5⟩:=H.out (by omega);obtain⟨cs1,e1,s1,p1,q1⟩:=HM.out.row b cs _ h3;obtain⟨u0,c0⟩:=PK e1 (i:=o+i*2) (by omega);have f0:=cF _ _ (o+i*2) _ _ e1;have m1:=ew.put e1 h1 h2 (q1 _ (h5 (i*2) (by omega))) (zb .i64 (k+2*(i:Int))) rfl;obtain⟨Af,e2,s2,p2,q2⟩:=m1.row b cs1 _ e1;obtain⟨u1,c1⟩:=PK e2 (i:=o+i*2+1) (by omega);have f1:=cF _ _ (o+i*2+1) _ _ e2;have m2:=ew.put e2 h1 h2 (q2 _ (q1 _ (h5 (i*2+1) (by omega)))) (zb .i64 (k+2*(i:Int)+1)) rfl;have yn:aa _:=HM.out.trans (m1.trans m2);have dO:(0:Int)<=(i:Int):=by omega
   have dh:(i:Int)<(n:Int):=by omega
   obtain⟨Ac,zzV⟩:∃Ac,wr.cell? ⟨b,o+i*2+1,zf⟩=za Ac:=⟨u1,by rw[World.cell?_setCell_other _ _ _ _ (by simp)]at c1;exact c1⟩;have f1':=cF _ _ (o+i*2+1) _ _ e1;obtain⟨kk,bC⟩:∃kk:Int,k+2*(i:Int)=kk:=⟨_,rfl⟩;have im:0<=kk/\kk<=100000000:=by omega
   have zys:=im.1;have zyt:=im.2;rw[bC]at yn ⊢;have BF:aa _:=bC;clear m1 m2 e1 e2 p1 p2 q1 q2 s1 s2 h3 h4 h5 c1 f1 im bC HM;go_wp2
   go_roundw
   case rel=>exact⟨i+1,by omega,by go_num,by rw[show k+2*((i+1:Nat):Int)=kk+1+1 by have:=BF.out;omega],yn⟩
   case measure=>simp[intOf];omega
  ·have yT:i=n:=by omega
   subst yT;go_wp2;go_ret;exact⟨rfl,HM.out⟩
end
variable {lo T b:Nat}{w W:zd}{cs:Array zc}
attribute [local go_sem ↓] wp_at_zero wp_at_succ
theorem ew.slot{t:zl}(M:ew lo T w W)(h3:w.heap[b]?=za (zg cs t (0,0))){i:Nat}(hi:i<cs.size)(hn:pj cs[i]?=false)(h1:lo<=b)(h2:b<T):
  (∃u,W.cell? ⟨b,i,zf⟩=za u)/\W.frozen? ⟨b,i,zf⟩=false/\∀u,pj (za u)=false->ew lo T w (W.setCell ⟨b,i,zf⟩ u):=by
 obtain⟨gj,e,s,p,q⟩:=M.row b cs _ h3;exact⟨PK e (by omega),cF _ _ _ _ _ e,λu hu=>M.trans (ew.put e h1 h2 (q i hn) u hu)⟩
theorem ew.stay{t:zl}(M:ew lo T w W)(h3:w.heap[b]?=za (zg cs t (0,0))){i:Nat}{v:zc}(hi:cs[i]?=za v)(hn:pj (za v)=true):W.cell? ⟨b,i,zf⟩=za v:=by
 obtain⟨gj,e,s,p,q⟩:=M.row b cs _ h3;rw[aO _ _ _ _ _ _ e,p i (by rw[hi];exact hn),hi]
def yG(n:aM):Nat:=4+2*n.set.length
def uk(ns:List aM):Nat:=(ns.map yG).sum
def yF(b:aW):Nat:=2+uk b.nodes
def uj(bs:List aW):Nat:=(bs.map yF).sum
def yH(r:bL):Nat:=uj r.branches+1
def sO(rs:List bL):Nat:=(rs.map yH).sum
theorem Ws{α:Type}(f:α->Nat)(d:α)(l:List α){i:Nat}(h:i<l.length):((l.take (i+1)).map f).sum=((l.take i).map f).sum+f (l.getD i d):=by
 rw[List.take_add_one,eY h,Option.toList_some,Dl,List.sum_append];simp[List.getD,h]
theorem Vm{α:Type}(f:α->Nat)(l:List α):∀i,((l.take i).map f).sum<=(l.map f).sum:=by
 induction l with
 |nil=>intro i;simp
 |cons a l ih=>
  intro i;cases i with
  |zero=>simp
  |succ i=>have:=ih i;simp only[nE,vm,List.sum_cons];omega
theorem PE{α:Type}(f:α->Nat)(h:∀a,1<=f a):∀l:List α,l.length<=(l.map f).sum
 |[]=>by simp
 |a::l=>by have:=PE f h l;have:=h a;simp only[qg,vm,List.sum_cons];omega
theorem zjY(v:zc)(ns:List aM)(k:Nat)(w:zd)(h:zN lo T w v ns)(hk:k+uk ns<=90000000):
  zk prog 107 #[v,zb .i64 (k:Int)] w λe W=>e=.returned (zb .i64 ((k+uk ns:Nat):Int))/\ew lo T w W:=by
 obtain⟨ao,cap,rfl,h⟩:=h;have H:aa _:=h;have hlen:(ns.length:Int)<=90000000:=by have:=PE yG (λa=>by unfold yG;omega) ns;unfold uk at hk;omega
 have HK:aa (∀i,k+((ns.take i).map yG).sum<=90000000):=λi=>by have:=Vm yG ns i;unfold uk at hk;omega
 clear h
 go_enter func107,ntmps107
 go_wp2
 go_loopw [1,5] (λkv iv wr=>∃i K:Nat,i<=ns.length/\iv=zb .i64 i/\kv=zb .i64 (K:Int)/\aa (K=k+((ns.take i).map yG).sum)/\aa (ew lo T w wr)) (λ_ iv _=>ns.length-(intOf iv).toNat)
 case atStart=>exact⟨0,k,aZ _,rfl,rfl,by show _=_;simp,ew.refl _ _ _⟩
 case round=>
  obtain⟨i,K,hi,rfl,rfl,tZ,HM⟩:=hrel
  by_cases hlt:i<ns.length
  ·obtain⟨b,o,cs,rfl,h1,h2,h3,h4,h5⟩:=H.out (by omega);obtain⟨g1,sv,g2,g3⟩:=h5 i hlt;obtain⟨a,c,rfl,g4⟩:=id g3;have hs:=Ws yG .zero ns hlt;have eO:aa (k+((ns.take (i+1)).map yG).sum=K+(4+2*(ns.getD i .zero).set.length)):=by show _=_;rw[hs,tZ.out];unfold yG;omega
   have sW:=HK.out (i+1);rw[eO.out]at sW;obtain⟨sn,hsn⟩:∃sn,(ns.getD i .zero).set.length=sn:=⟨_,rfl⟩;rw[hsn]at g3 g2 eO sW;have bK:o+i*5<cs.size:=by omega
   have bh:o+i*5+4<cs.size:=by omega
   obtain⟨⟨u0,c0⟩,f0,M1⟩:=HM.out.slot h3 bK (g1 0 (by omega) (by omega)) h1 h2;have y1:wr.cell? ⟨b,o+i*5+1,zf⟩=za (.slice a sn c):=HM.out.stay h3 g2 rfl;have Qg:aa _:=M1 (zb .i64 (K:Int)) rfl;have hC:=ziS (.slice a sn c) sn ((K:Int)+1) (wr.setCell ⟨b,o+i*5,zf⟩ (zb .i64 (K:Int))) (g3.mk Qg.out) (by omega);have dO:(0:Int)<=(i:Int):=by omega
   have dh:(i:Int)<(ns.length:Int):=by omega
   have hKi:(K:Int)<=90000000:=by omega
   have hKn:(K:Int)+1+2*(sn:Int)<=90000000:=by omega
   have hsi:(0:Int)<=(sn:Int):=by omega
   have H3:aa _:=h3;have G1:aa _:=g1;clear h3 h5 g1 g2 g3 g4 M1 hs hsn HM sW
   go_wp2_with fail
   refine hC.mono ?_;rintro e w5 ⟨rfl,m5⟩;have M5:=Qg.out.trans m5;obtain⟨⟨u2,c2⟩,f2,M6⟩:=M5.slot H3.out (show o+i*5+2<cs.size by omega) (G1.out 2 (by omega) (by omega)) h1 h2;obtain⟨⟨u3,c3⟩,f3,-⟩:=M5.slot H3.out (show o+i*5+3<cs.size by omega) (G1.out 3 (by omega) (by omega)) h1 h2;obtain⟨⟨u4,c4⟩,f4,-⟩:=M5.slot H3.out (show o+i*5+4<cs.size by omega) (G1.out 4 (by omega) (by omega)) h1 h2;have HM8:aa (∀x y z:Int,ew lo T w (((w5.setCell ⟨b,o+i*5+2,zf⟩ (zb .i64 x)).setCell ⟨b,o+i*5+3,zf⟩ (zb .i64 y)).setCell ⟨b,o+i*5+4,zf⟩ (zb .i64 z))):=λx y z=>
    (((M6 (zb .i64 x) rfl).slot H3.out (show o+i*5+3<cs.size by omega) (G1.out 3 (by omega) (by omega)) h1 h2).2.2 (zb .i64 y) rfl).slot H3.out (show o+i*5+4<cs.size by omega) (G1.out 4 (by omega) (by omega)) h1 h2 |>.2.2 (zb .i64 z) rfl
   obtain⟨q,hq⟩:∃q:Int,(K:Int)+1+2*(sn:Int)=q:=⟨_,rfl⟩;have Hq:aa _:=hq;have qA:q<=90000000:=by omega
   have tn:0<=q:=by omega
   rw[hq];clear hC m5 M5 M6 c0 f0 y1 hq hKn Qg H3 G1;go_wp2
   go_roundw
   case rel=>exact⟨i+1,K+(4+2*sn),by omega,by go_num,by rw[show ((K+(4+2*sn):Nat):Int)=q+1+1+1 by have:=Hq.out;omega],eO.out.symm,HM8.out _ _ _⟩
   case measure=>simp[intOf];omega
  ·have yT:i=ns.length:=by omega
   have e1:K=k+uk ns:=by have:=tZ.out;rw[yT,wK]at this;exact this
   rw[e1]at *;clear yT e1 tZ;go_wp2;go_ret;exact⟨rfl,HM.out⟩
theorem zhC(v:zc)(bs:List aW)(k:Nat)(w:zd)(h:zA lo T w v bs)(hk:k+uj bs<=90000000):
  zk prog 80 #[v,zb .i64 (k:Int)] w λe W=>e=.returned (zb .i64 ((k+uj bs:Nat):Int))/\ew lo T w W:=by
 obtain⟨ao,cap,rfl,h⟩:=h;have H:aa _:=h;have hlen:(bs.length:Int)<=90000000:=by have:=PE yF (λa=>by unfold yF;omega) bs;unfold uj at hk;omega
 have HK:aa (∀i,k+((bs.take i).map yF).sum<=90000000):=λi=>by have:=Vm yF bs i;unfold uj at hk;omega
 clear h
 go_enter func80,ntmps80
 go_wp2
 go_loopw [1,5] (λkv iv wr=>∃i K:Nat,i<=bs.length/\iv=zb .i64 i/\kv=zb .i64 (K:Int)/\aa (K=k+((bs.take i).map yF).sum)/\aa (ew lo T w wr)) (λ_ iv _=>bs.length-(intOf iv).toNat)
 case atStart=>exact⟨0,k,aZ _,rfl,rfl,by show _=_;simp,ew.refl _ _ _⟩
 case round=>
  obtain⟨i,K,hi,rfl,rfl,tZ,HM⟩:=hrel
  by_cases hlt:i<bs.length
  ·obtain⟨b,o,cs,rfl,h1,h2,h3,h4,h5⟩:=H.out (by omega);obtain⟨g1,sv,g2,g3⟩:=h5 i hlt;have hs:=Ws yF .zero bs hlt;obtain⟨nd,gG⟩:∃nd,(bs.getD i .zero).nodes=nd:=⟨_,rfl⟩;have eO:aa (k+((bs.take (i+1)).map yF).sum=K+2+uk nd):=by show _=_;rw[hs,tZ.out,<-gG];unfold yF;omega
   have sW:=HK.out (i+1);rw[eO.out]at sW;rw[gG]at g3;obtain⟨a,c,rfl,g4⟩:=id g3;have y2:wr.cell? ⟨b,o+i*3+2,zf⟩=za (.slice a nd.length c):=HM.out.stay h3 g2 rfl;obtain⟨⟨u0,c0⟩,f0,M1⟩:=HM.out.slot h3 (show o+i*3<cs.size by omega) (g1 0 (by omega)) h1 h2;obtain⟨⟨u1,c1⟩,f1,-⟩:=HM.out.slot h3 (show o+i*3+1<cs.size by omega) (g1 1 (by omega)) h1 h2;have yn:aa (∀x y:Bool,ew lo T w ((wr.setCell ⟨b,o+i*3,zf⟩ (.bool x)).setCell ⟨b,o+i*3+1,zf⟩ (.bool y))):=λx y=>((M1 (.bool x) rfl).slot h3 (show o+i*3+1<cs.size by omega) (g1 1 (by omega)) h1 h2).2.2 (.bool y) rfl
   have HC:aa (∀W,ew lo T w W->zk prog 107 #[.slice a nd.length c,zb .i64 ((K+2:Nat):Int)] W λe W'=>e=.returned (zb .i64 ((K+2+uk nd:Nat):Int))/\ew lo T w W'):=λW hW=>(zjY _ nd (K+2) W (g3.mk hW) (by omega)).mono λe W' hh=>⟨hh.1,hW.trans hh.2⟩
   have dO:(0:Int)<=(i:Int):=by omega
   have dh:(i:Int)<(bs.length:Int):=by omega
   have hKi:(K:Int)<=90000000:=by omega
   obtain⟨n3,Ek⟩:∃n3,nd.length=n3:=⟨_,rfl⟩;rw[Ek]at y2 HC;obtain⟨q,hq⟩:∃q:Nat,K+2+uk nd=q:=⟨_,rfl⟩;rw[hq]at HC eO;clear h3 h5 g1 g2 g3 g4 M1 hs gG HM sW Ek hq
   go_wp2_with fail
   have e2:(K:Int)+1+1=((K+2:Nat):Int):=by omega
   rw[e2];refine(HC.out _ (yn.out _ _)).mono ?_;rintro e w5 ⟨rfl,m5⟩;have MF:aa _:=m5;clear m5 c0 c1 f0 f1 y2 yn HC e2;go_wp2
   go_roundw
   case rel=>exact⟨i+1,q,by omega,by go_num,rfl,eO.out.symm,MF⟩
   case measure=>simp[intOf];omega
  ·have yT:i=bs.length:=by omega
   have e1:K=k+uj bs:=by have:=tZ.out;rw[yT,wK]at this;exact this
   rw[e1]at *;clear yT e1 tZ;go_wp2;go_ret;exact⟨rfl,HM.out⟩
theorem zj0(v:zc)(rs:List bL)(k:Nat)(w:zd)(h:BN lo T w v rs)(hk:k+sO rs<=90000000):
  zk prog 42 #[v,zb .i64 (k:Int)] w λe W=>e=.returned (zb .i64 ((k+sO rs:Nat):Int))/\ew lo T w W:=by
 obtain⟨ao,cap,rfl,h⟩:=h;have H:aa _:=h;have hlen:(rs.length:Int)<=90000000:=by have:=PE yH (λa=>by unfold yH;omega) rs;unfold sO at hk;omega
 have HK:aa (∀i,k+((rs.take i).map yH).sum<=90000000):=λi=>by have:=Vm yH rs i;unfold sO at hk;omega
 clear h
 go_enter func42,ntmps42
 go_wp2
 go_loopw [1,5] (λkv iv wr=>∃i K:Nat,i<=rs.length/\iv=zb .i64 i/\kv=zb .i64 (K:Int)/\aa (K=k+((rs.take i).map yH).sum)/\aa (ew lo T w wr)) (λ_ iv _=>rs.length-(intOf iv).toNat)
 case atStart=>exact⟨0,k,aZ _,rfl,rfl,by show _=_;simp,ew.refl _ _ _⟩
 case round=>
  obtain⟨i,K,hi,rfl,rfl,tZ,HM⟩:=hrel
  by_cases hlt:i<rs.length
  ·obtain⟨b,o,cs,rfl,h1,h2,h3,h4,h5⟩:=H.out (by omega);obtain⟨g1,sv,g2,g3⟩:=h5 i hlt;have hs:=Ws yH .zero rs hlt;obtain⟨bd,dZ⟩:∃bd,(rs.getD i .zero).branches=bd:=⟨_,rfl⟩;have eO:aa (k+((rs.take (i+1)).map yH).sum=K+uj bd+1):=by show _=_;rw[hs,tZ.out,<-dZ];unfold yH;omega
   have sW:=HK.out (i+1);rw[eO.out]at sW;rw[dZ]at g3;obtain⟨a,c,rfl,g4⟩:=id g3;have y2:wr.cell? ⟨b,o+i*2,zf⟩=za (.slice a bd.length c):=HM.out.stay h3 g2 rfl;have hC:=zhC _ bd K wr (g3.mk HM.out) (by omega);have dO:(0:Int)<=(i:Int):=by omega
   have dh:(i:Int)<(rs.length:Int):=by omega
   obtain⟨n3,Ek⟩:∃n3,bd.length=n3:=⟨_,rfl⟩;rw[Ek]at y2 hC;obtain⟨q,hq⟩:∃q:Nat,K+uj bd=q:=⟨_,rfl⟩;rw[hq]at hC eO sW;have hqi:(q:Int)<=90000000:=by omega
   have H3:aa _:=h3;have G1:aa _:=g1;clear h3 h5 g1 g2 g3 g4 hs dZ Ek hq sW
   go_wp2_with fail
   refine hC.mono ?_;rintro e w5 ⟨rfl,m5⟩;have M5:=HM.out.trans m5;obtain⟨⟨u2,c2⟩,f2,M6⟩:=M5.slot H3.out (show o+i*2+1<cs.size by omega) G1.out h1 h2;have HM6:aa _:=M6 (zb .i64 (q:Int)) rfl;clear hC m5 M5 M6 y2 H3 G1 HM;go_wp2
   go_roundw
   case rel=>exact⟨i+1,q+1,by omega,by go_num,by go_num,eO.out.symm,HM6⟩
   case measure=>simp[intOf];omega
  ·have yT:i=rs.length:=by omega
   have e1:K=k+sO rs:=by have:=tZ.out;rw[yT,wK]at this;exact this
   rw[e1]at *;clear yT e1 tZ;go_wp2;go_ret;exact⟨rfl,HM.out⟩
end Go.Proofs.YtdimhpfiieepiaaGreatDoor
