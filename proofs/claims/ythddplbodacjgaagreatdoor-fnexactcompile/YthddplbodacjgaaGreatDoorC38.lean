import Derived.Test.YthddplbodacjgaaGreatDoorC34
import Derived.Test.YthddplbodacjgaaGreatDoorC36
import Derived.Test.YthddplbodacjgaaGreatDoorC37
namespace Go.Proofs.YthddplbodacjgaaGreatDoor
set_option maxHeartbeats 8000000
set_option maxRecDepth 100000
open Go.RowKit
attribute [local go_sem] Oper.semAt_some
def mkW(P:Nat->Bool):Nat->Nat
 |0=>0
 |m+1=>mkW P m ||| (if P m=true then 2 ^ m else 0)
theorem zoR(P:Nat->Bool):∀(m j:Nat),(mkW P m).testBit j=(decide (j<m)&&P j)
 |0,j=>by simp[mkW]
 |m+1,j=>by
  unfold mkW;rw[Nat.testBit_or,zoR P m j]
  by_cases hp:P m=true
  ·rw[zuV hp,Nat.testBit_two_pow]
   by_cases e:m=j
   ·subst e;simp[hp]
   ·have h1:decide (j<m+1)=decide (j<m):=by rw[decide_eq_decide];omega
    simp[e,h1]
  ·rw[zuU hp,Nat.zero_testBit,ztx]
   by_cases e:m=j
   ·subst e;simp at hp;simp[hp]
   ·have h1:decide (j<m+1)=decide (j<m):=by rw[decide_eq_decide];omega
    rw[h1]
theorem zrE(P:Nat->Bool):∀m,mkW P m<2 ^ m
 |0=>by simp[mkW]
 |m+1=>by
  unfold mkW;have h1:=zrE P m;have h2:2 ^ (m+1)=2 ^ m*2:=Nat.pow_succ 2 m;refine Nat.or_lt_two_pow (by omega) ?_;split<;>omega
def setT(P:Nat->Bool):Nat->Nat:=fun i=>mkW (fun j=>P (i*64+j)) 64
theorem zlD(P:Nat->Bool):∀i,setT P i<18446744073709551616:=fun _=>zrE _ 64
theorem zmy(P:Nat->Bool)(p:Nat):zaA (setT P) p=P p:=by
 unfold zaA setT;rw[zoR];have h1:decide (p%64<64)=true:=by simp;omega
 rw[h1,zty,show p/64*64+p%64=p by omega]
theorem zaB.to{w:World}{nw g:Nat}{T U:Nat->Nat}(h:zaB w nw g T)(hU:∀i,U i<18446744073709551616)(he:∀p,zaA T p=zaA U p):zaB w nw g U:=
 ⟨by rw[h.row,zcE ((zhm h.lt hU).2 fun p _=>he p)],hU⟩
def zcn(n:Nat)(f:Nat->Nat->Bool)(c:Nat):Nat->Nat:=setT fun q=>decide (q<n)&&f q c
theorem zhh(n:Nat)(f:Nat->Nat->Bool)(c q:Nat):zaA (zcn n f c) q=true↔q<n/\f q c=true:=by
 unfold zcn;rw[zmy];simp
def allT(n:Nat):Nat->Nat:=setT fun q=>decide (q<n)
theorem zin(n q:Nat):zaA (allT n) q=true↔q<n:=by unfold allT;rw[zmy];simp
def appW(ats:Array TypeId)(ty:TypeId)(args:Array Value):Sem Value:=Builtin.append_ ats ty args
theorem zjc(ty:TypeId)(args:Array Value):Builtin.append_ #[24,24] ty args=appW #[24,24] ty args:=rfl
theorem zfL(ty:TypeId)(args:Array Value):Builtin.append_ #[119,119] ty args=appW #[119,119] ty args:=rfl
theorem zkC{W:World}{B:Nat}{e t:TypeId}{i:TypeInfo}{z:Value}{bytes:Nat}(ht:Tryz.prog.underlying t=some (.slice e))(hi:Tryz.prog.info? e=some i)(hz:i.zero=some z)(hs:i.size=1)(hby:i.bytes=bytes)(hzs:z.cells.size=1)(hbl:bytes<=64){g n cap:Nat}{xs:List Value}(ho:W.ownsRow B e 1 (.slice (some ⟨g,0,none⟩) n cap) n xs)(hB:B<=W.heap.size)(hl:n<=100000)(u:Value)(hu:u.oneCell'=true)(ty:TypeId):
  ∃g' cap' W',(appW #[t,t] ty #[.slice (some ⟨g,0,none⟩) n cap,.slice (some ⟨W.heap.size,0,none⟩) 1 1]).run Tryz.prog (W.alloc (.cells #[u] e))=.ok (.slice (some ⟨g',0,none⟩) (n+1) cap') W'/\W'.ownsRow B e 1 (.slice (some ⟨g',0,none⟩) (n+1) cap') (n+1) (xs++[u])/\W.grownBy W' (some g)/\(g'=g\/W.heap.size<=g'):=by
 have hb:Below W.heap.size W (W.alloc (.cells #[u] e)):=(Below.refl _ _).alloc (zuz _) _;have own:=zad ho hb;have hsz:(W.alloc (.cells #[u] e)).heap.size=W.heap.size+1:=by simp
 obtain⟨g',cap',W',hr,own',grow',at',_⟩:=run_append_lies (P:=Tryz.prog) (W.alloc (.cells #[u] e)) t ty B e i _ 1 bytes ht hi hz hs hby hzs (by omega) _ n xs own ⟨W.heap.size,0,none⟩ 1 1 [u] rfl (World.news_of_block (zuR _ _)) (by intro v hv;simp at hv;subst hv;exact hu) (by omega) (by unfold maxLen;omega) (by have:(n+1)*bytes<=100001*64:=zuG (by omega) hbl;omega) (by omega) (W.heap.size+1) hsz;refine⟨g',cap',W',hr,own',⟨grow'.os.trans hb.os,grow'.tape.trans hb.tape,grow'.output.trans hb.output,zuA hb.size grow'.size,fun k hk hne=>(grow'.block k (by omega) hne).trans (hb.block k hk)⟩,?_⟩;rcases at' with at'|at'
 ·left;simp[Value.ownBlock] at at';exact at'.symm
 ·right;omega
def intL(l:List Int):List Value:=l.map fun x=>Value.int .i64 x
structure BcS(V W:World)(s nw gA p4 p6 p7 r p8:Nat)(TA:Nat->Nat)(X:Nat->Nat->Nat)(l0:List Int)(hs:List Nat)(keys:List ByteArray)(g0 n0 c0 g1 m1 c1:Nat)(gx:Nat->Nat):Prop where
 bel:Below V.heap.size V W
 b1:W.heap[V.heap.size]?=some (.cells #[.pointer (some ⟨s,0,none⟩)] 63 (0,0))
 b4:W.heap[p4]?=some (.cells #[.slice (some ⟨gA,0,none⟩) nw nw] 105 (0,0))
 pA:zaB W nw gA TA
 b6:W.heap[p6]?=some (.cells #[.slice (some ⟨g0,0,none⟩) n0 c0] 24 (0,0))
 o6:W.ownsRow V.heap.size 3 1 (.slice (some ⟨g0,0,none⟩) n0 c0) n0 (intL l0)
 b7:W.heap[p7]?=some (.cells #[.slice (some ⟨g1,0,none⟩) m1 c1] 119 (0,0))
 o7:W.ownsRow V.heap.size 105 1 (.slice (some ⟨g1,0,none⟩) m1 c1) m1 (slcL gx nw m1)
 hm:hs.length=m1
 tk:∀j,j<m1->zaB W nw (gx j) (X (hs.getD j 0))
 mp:W.heap[r]?=some (.map (regE Value.string keys) keys.length)
 b8:W.heap[p8]?=some (.cells #[.map (some r)] 123 (0,0))
 ne:g1≠p4
 h4:V.heap.size<=p4
 h6:V.heap.size<=p6
 h7:V.heap.size<=p7
 h8:V.heap.size<=r
theorem za7{a:Array Value}{t:TypeId}{fr:Nat×Nat}{es:Array MapEntry}{k:Nat}(h:some (Obj.cells a t fr)=some (Obj.map es k)):False:=by cases h
section
variable {V W W':World} {s nw gA p4 p6 p7 r p8:Nat} {TA:Nat->Nat} {X:Nat->Nat->Nat} {l0:List Int} {hs:List Nat} {keys:List ByteArray} {g0 n0 c0 g1 m1 c1:Nat} {gx:Nat->Nat}
theorem BcS.keep(h:BcS V W s nw gA p4 p6 p7 r p8 TA X l0 hs keys g0 n0 c0 g1 m1 c1 gx)(hb:Below V.heap.size V W')(hk:∀(b:Nat) (cs:Array Value) (t:TypeId),W.heap[b]?=some (.cells cs t (0,0))->W'.heap[b]?=some (.cells cs t (0,0)))(hr:W'.heap[r]?=W.heap[r]?):BcS V W' s nw gA p4 p6 p7 r p8 TA X l0 hs keys g0 n0 c0 g1 m1 c1 gx:=
 ⟨hb,hk _ _ _ h.b1,hk _ _ _ h.b4,⟨hk _ _ _ h.pA.row,h.pA.lt⟩,hk _ _ _ h.b6,zas h.o6 fun k cs e=>hk k cs _ e,hk _ _ _ h.b7,zas h.o7 fun k cs e=>hk k cs _ e,h.hm,fun j hj=>⟨hk _ _ _ (h.tk j hj).row,(h.tk j hj).lt⟩,hr.trans h.mp,hk _ _ _ h.b8,h.ne,h.h4,h.h6,h.h7,h.h8⟩
theorem BcS.on(h:BcS V W s nw gA p4 p6 p7 r p8 TA X l0 hs keys g0 n0 c0 g1 m1 c1 gx)(hb:Below W.heap.size W W'):BcS V W' s nw gA p4 p6 p7 r p8 TA X l0 hs keys g0 n0 c0 g1 m1 c1 gx:=
 h.keep (h.bel.trans (hb.mono h.bel.size)) (fun b _ _ e=>(hb.block b (zae e)).trans e) (hb.block r (ztp.1 h.mp).1)
theorem BcS.reg(h:BcS V W s nw gA p4 p6 p7 r p8 TA X l0 hs keys g0 n0 c0 g1 m1 c1 gx){keys':List ByteArray}(hg:W.grownBy W' (some r))(hm:W'.heap[r]?=some (.map (regE Value.string keys') keys'.length)):BcS V W' s nw gA p4 p6 p7 r p8 TA X l0 hs keys' g0 n0 c0 g1 m1 c1 gx:=by
 have hk:∀(b:Nat) (cs:Array Value) (t:TypeId),W.heap[b]?=some (.cells cs t (0,0))->W'.heap[b]?=some (.cells cs t (0,0)):=fun b cs t e=>(hg.block b (zae e) (fun e2=>by cases e2;exact za7 (e.symm.trans h.mp))).trans e
 exact⟨h.bel.grown hg h.bel.size (fun q e=>by cases e;exact h.h8),hk _ _ _ h.b1,hk _ _ _ h.b4,⟨hk _ _ _ h.pA.row,h.pA.lt⟩,hk _ _ _ h.b6,zas h.o6 fun k cs e=>hk k cs _ e,hk _ _ _ h.b7,zas h.o7 fun k cs e=>hk k cs _ e,h.hm,fun j hj=>⟨hk _ _ _ (h.tk j hj).row,(h.tk j hj).lt⟩,hm,hk _ _ _ h.b8,h.ne,h.h4,h.h6,h.h7,h.h8⟩
theorem BcS.cls(h:BcS V W s nw gA p4 p6 p7 r p8 TA X l0 hs keys g0 n0 c0 g1 m1 c1 gx){g' c':Nat}{x:Int}(ho:W'.ownsRow V.heap.size 3 1 (.slice (some ⟨g',0,none⟩) (n0+1) c') (n0+1) (intL l0++[.int .i64 x]))(hg:W.grownBy W' (some g0)):
  W'.cell? ⟨p6,0,none⟩=some (.slice (some ⟨g0,0,none⟩) n0 c0)/\W'.frozen? ⟨p6,0,none⟩=false/\BcS V (W'.setCell ⟨p6,0,none⟩ (.slice (some ⟨g',0,none⟩) (n0+1) c')) s nw gA p4 p6 p7 r p8 TA X (l0++[x]) hs keys g' (n0+1) c' g1 m1 c1 gx:=by
 obtain⟨q1,q2,-,-⟩:=zaV h.o6;obtain⟨cur,hcur⟩:=zdf h.o6;have hk1:∀(b:Nat) (cs:Array Value) (t:TypeId),t≠3->W.heap[b]?=some (.cells cs t (0,0))->W'.heap[b]?=some (.cells cs t (0,0)):=fun b cs t ht e=>(hg.block b (zae e) (fun e2=>by cases e2;rw[hcur] at e;exact ht (zak e).symm)).trans e
 have b6:=hk1 _ _ _ (by decide) h.b6;have hk:∀(b:Nat) (cs:Array Value) (t:TypeId),t≠24->W'.heap[b]?=some (.cells cs t (0,0))->(W'.setCell ⟨p6,0,none⟩ (.slice (some ⟨g',0,none⟩) (n0+1) c')).heap[b]?=some (.cells cs t (0,0)):=fun b cs t ht e=>(zuS _ _ _ _ (by show b≠p6;rintro rfl;rw[b6] at e;exact ht (zak e).symm)).trans e
 have hr1:W'.heap[r]?=some (.map (regE Value.string keys) keys.length):=(hg.block r (ztp.1 h.mp).1 (fun e2=>by cases e2;exact za7 (hcur.symm.trans h.mp))).trans h.mp;have hb1:Below V.heap.size V W':=h.bel.grown hg h.bel.size (fun q e=>by cases e;exact q1);refine⟨(zuO _ _ _ _ _ _ b6:W'.cell? ⟨p6,0,none⟩=_),zuQ _ _ 0 _ _ b6,hb1.setCell (p:=⟨p6,0,none⟩) (by exact h.h6) _,hk _ _ _ (by decide) (hk1 _ _ _ (by decide) h.b1),hk _ _ _ (by decide) (hk1 _ _ _ (by decide) h.b4),⟨hk _ _ _ (by decide) (hk1 _ _ _ (by decide) h.pA.row),h.pA.lt⟩,zuT _ _ _ _ _ _ b6,?_,hk _ _ _ (by decide) (hk1 _ _ _ (by decide) h.b7),zas h.o7 fun k cs e=>hk k cs _ (by decide) (hk1 k cs _ (by decide) e),h.hm,fun j hj=>⟨hk _ _ _ (by decide) (hk1 _ _ _ (by decide) (h.tk j hj).row),(h.tk j hj).lt⟩,?_,hk _ _ _ (by decide) (hk1 _ _ _ (by decide) h.b8),h.ne,h.h4,h.h6,h.h7,h.h8⟩
 ·rw[show intL (l0++[x])=intL l0++[.int .i64 x] by simp[intL]];exact zas ho fun k cs e=>hk k cs _ (by decide) e
 ·exact(zuS _ _ _ _ (by show r≠p6;rintro rfl;exact za7 (b6.symm.trans hr1))).trans hr1
theorem BcS.head(h:BcS V W s nw gA p4 p6 p7 r p8 TA X l0 hs keys g0 n0 c0 g1 m1 c1 gx){g' c' gN c:Nat}(ho:W'.ownsRow V.heap.size 105 1 (.slice (some ⟨g',0,none⟩) (m1+1) c') (m1+1) (slcL gx nw m1++[.slice (some ⟨gN,0,none⟩) nw nw]))(hg:W.grownBy W' (some g1))(hat:g'=g1\/W.heap.size<=g')(hp:zaB W nw gN (X c)):
  W'.cell? ⟨p7,0,none⟩=some (.slice (some ⟨g1,0,none⟩) m1 c1)/\W'.frozen? ⟨p7,0,none⟩=false/\BcS V (W'.setCell ⟨p7,0,none⟩ (.slice (some ⟨g',0,none⟩) (m1+1) c')) s nw gA p4 p6 p7 r p8 TA X l0 (hs++[c]) keys g0 n0 c0 g' (m1+1) c' (fun j=>if j=m1 then gN else gx j):=by
 obtain⟨q1,q2,-,-⟩:=zaV h.o7;obtain⟨cur,hcur⟩:=zdf h.o7;have hka:∀(b:Nat) (o:Obj),b≠g1->W.heap[b]?=some o->W'.heap[b]?=some o:=fun b o hb e=>(hg.block b (ztp.1 e).1 (fun e2=>hb (by cases e2;rfl))).trans e
 have hk1:∀(b:Nat) (cs:Array Value) (t:TypeId),t≠105->W.heap[b]?=some (.cells cs t (0,0))->W'.heap[b]?=some (.cells cs t (0,0)):=fun b cs t ht e=>hka b _ (by rintro rfl;rw[hcur] at e;exact ht (zak e).symm) e
 have b7:=hk1 _ _ _ (by decide) h.b7;have hk:∀(b:Nat) (cs:Array Value) (t:TypeId),t≠119->W'.heap[b]?=some (.cells cs t (0,0))->(W'.setCell ⟨p7,0,none⟩ (.slice (some ⟨g',0,none⟩) (m1+1) c')).heap[b]?=some (.cells cs t (0,0)):=fun b cs t ht e=>(zuS _ _ _ _ (by show b≠p7;rintro rfl;rw[b7] at e;exact ht (zak e).symm)).trans e
 have hr1:W'.heap[r]?=some (.map (regE Value.string keys) keys.length):=hka r _ (by rintro rfl;exact za7 (hcur.symm.trans h.mp)) h.mp;have hb1:Below V.heap.size V W':=h.bel.grown hg h.bel.size (fun q e=>by cases e;exact q1);have hl:=h.hm;refine⟨(zuO _ _ _ _ _ _ b7:W'.cell? ⟨p7,0,none⟩=_),zuQ _ _ 0 _ _ b7,hb1.setCell (p:=⟨p7,0,none⟩) (by exact h.h7) _,hk _ _ _ (by decide) (hk1 _ _ _ (by decide) h.b1),hk _ _ _ (by decide) (hka _ _ h.ne.symm h.b4),⟨hk _ _ _ (by decide) (hk1 _ _ _ (by decide) h.pA.row),h.pA.lt⟩,hk _ _ _ (by decide) (hk1 _ _ _ (by decide) h.b6),zas h.o6 fun k cs e=>hk k cs _ (by decide) (hk1 k cs _ (by decide) e),zuT _ _ _ _ _ _ b7,?_,by simp[hl],fun j hj=>?_,?_,hk _ _ _ (by decide) (hk1 _ _ _ (by decide) h.b8),?_,h.h4,h.h6,h.h7,h.h8⟩
 ·rw[zhc,zuV rfl,zfG (fr:=fun j=>if j=m1 then gN else gx j) (fr':=gx) fun p hp=>by rw[zuU (by omega)]];exact zas ho fun k cs e=>hk k cs _ (by decide) e
 ·by_cases e:j=m1
  ·subst e;simp only[if_true];have e2:(hs++[c]).getD j 0=c:=by rw[<-hl];simp[List.getD]
   rw[e2];exact⟨hk _ _ _ (by decide) (hk1 _ _ _ (by decide) hp.row),hp.lt⟩
  ·simp only[zuU e];have e2:(hs++[c]).getD j 0=hs.getD j 0:=by simp[List.getD,List.getElem?_append_left (show j<hs.length by omega)]
   rw[e2];exact⟨hk _ _ _ (by decide) (hk1 _ _ _ (by decide) (h.tk j (by omega)).row),(h.tk j (by omega)).lt⟩
 ·exact(zuS _ _ _ _ (by show r≠p7;rintro rfl;exact za7 (b7.symm.trans hr1))).trans hr1
 ·rcases hat with e|e
  ·rw[e];exact h.ne
  ·have:=zae h.b4;omega
end
def BcR(V:World)(bs:List BrG)(n nw:Nat)(f:Nat->Nat->Bool)(e:Ending)(W:World):Prop:=
 ∃(g0 c0 g1 c1:Nat) (gx:Nat->Nat),e=.returned (.tuple #[.slice (some ⟨g0,0,none⟩) 256 c0,.slice (some ⟨g1,0,none⟩) (hdsG bs).length c1])/\Below V.heap.size V W/\W.ownsRow V.heap.size 3 1 (.slice (some ⟨g0,0,none⟩) 256 c0) 256 (intL ((List.range 256).map fun c=>(clsG bs c:Int)))/\W.ownsRow V.heap.size 105 1 (.slice (some ⟨g1,0,none⟩) (hdsG bs).length c1) (hdsG bs).length (slcL gx nw (hdsG bs).length)/\∀j,j<(hdsG bs).length->zaB W nw (gx j) (zcn n f ((hdsG bs).getD j 0))
def BcI(V:World)(s nw gA p4 p6 p7 r p8 n:Nat)(f:Nat->Nat->Bool)(K:Nat)(R:Nat->Nat->Nat)(c:Nat)(W:World):Prop:=
 ∃(g0 c0 g1 c1:Nat) (gx:Nat->Nat),BcS V W s nw gA p4 p6 p7 r p8 (allT n) (zcn n f) ((List.range c).map fun c=>(clsF K R c:Int)) (zah K R c) ((zah K R c).map fun h=>keyB nw (zcn n f h)) g0 c c0 g1 (zah K R c).length c1 gx
theorem BcI.own(V:World)(s nw gA p4 p6 p7 r p8 n:Nat)(f:Nat->Nat->Bool)(K:Nat)(R:Nat->Nat->Nat)(B:Nat)(hB:r<B)(hV:V.heap.size<=B):OwnFrom B (BcI V s nw gA p4 p6 p7 r p8 n f K R):=by
 rintro c W W' row ⟨g0,c0,g1,c1,gx,h⟩ hg hr;refine⟨g0,c0,g1,c1,gx,h.keep (h.bel.grown hg h.bel.size (fun b hb=>by have:=(hr b hb).1;omega)) (fun b _ _ hb=>(hg.block _ (zae hb) (fun e=>by obtain⟨_,o,h1,h2⟩:=hr _ e.symm;rw[hb] at h1;cases h1;cases h2)).trans hb) (hg.block _ (ztp.1 h.mp).1 (fun e=>by have:=(hr _ e.symm).1;omega))⟩
theorem BcS.start{V W:World}{s nw gA p4:Nat}{TA:Nat->Nat}{X:Nat->Nat->Nat}(hb:Below V.heap.size V W)(b1:W.heap[V.heap.size]?=some (.cells #[.pointer (some ⟨s,0,none⟩)] 63 (0,0)))(b4:W.heap[p4]?=some (.cells #[.slice (some ⟨gA,0,none⟩) nw nw] 105 (0,0)))(pA:zaB W nw gA TA)(h4:V.heap.size<=p4):
  BcS V ((((((W.alloc (.cells #[] 3)).alloc (.cells #[.slice (some ⟨W.heap.size,0,none⟩) 0 0] 24)).alloc (.cells #[] 105)).alloc (.cells #[.slice (some ⟨W.heap.size+1+1,0,none⟩) 0 0] 119)).alloc (.map #[] 0)).alloc (.cells #[.map (some (W.heap.size+1+1+1+1))] 123)) s nw gA p4 (W.heap.size+1) (W.heap.size+1+1+1) (W.heap.size+1+1+1+1) (W.heap.size+1+1+1+1+1) TA X [] [] [] W.heap.size 0 0 (W.heap.size+1+1) 0 0 (fun _=>0):=by
 have l4:=zae b4;have hs:=hb.size;have al:∀{A:World} {k:Nat} {o:Obj} (ob:Obj),A.heap[k]?=some o->(A.alloc ob).heap[k]?=some o:=fun _ h=>zao h
 refine⟨(((((hb.alloc hs _).alloc (by simp;omega) _).alloc (by simp;omega) _).alloc (by simp;omega) _).alloc (by simp;omega) _).alloc (by simp;omega) _,al _ (al _ (al _ (al _ (al _ (al _ b1))))),al _ (al _ (al _ (al _ (al _ (al _ b4))))),⟨al _ (al _ (al _ (al _ (al _ (al _ pA.row))))),pA.lt⟩,al _ (al _ (al _ (al _ (zbD (by simp))))),?_,al _ (al _ (zbD (by simp))),?_,rfl,fun j hj=>absurd hj (zuI _),al _ (zbD (by simp)),zbD (by simp),by omega,h4,by omega,by omega,by omega⟩
 ·exact⟨rfl,.inr ⟨W.heap.size,0,#[],rfl,hs,al _ (al _ (al _ (al _ (al _ (zbD rfl))))),zuz _,zuL _,rfl,rfl⟩⟩
 ·exact⟨rfl,.inr ⟨W.heap.size+1+1,0,#[],rfl,by omega,al _ (al _ (al _ (zbD (by simp)))),zuz _,zuL _,rfl,rfl⟩⟩
attribute [local go_sem ↓] zjc zfL
theorem Tryz.infoPos:(Tryz.prog.info? 105).map (fun i=>(i.zero,i.size,i.bytes))=some (some (.slice none 0 0),1,24):=by kernel_rfl
theorem zhv{w V:World}{s bt nw gs gl gf wt:Nat}{bs:List BrG}{n:Nat}{sv fv:Value}{mk:Nat->Nat}{f:Nat->Nat->Bool}{fr:Nat->Nat}{F:Nat->Nat->Nat}{φ:Nat->Nat->Nat}{A0 A1:Nat->Nat}{t0 e0 t1 e1:Int}{tg fn:Nat->Int}(h:NsI w V s bt nw gs gl gf wt bs n sv fv mk f fr F φ A0 A1 t0 e0 t1 e1 tg fn):
  Calls Tryz.prog 54 #[.pointer (some ⟨s,0,none⟩)] V (BcR V bs n nw f):=by
 have hmix:Tryz.prog.follows .mixedOrders=true:=by kernel_rfl
 obtain⟨iI,hjI,hyI0,hyI1,hyI2⟩:=info_parts Tryz.infoInt;obtain⟨iP,hjP,hyP0,hyP1,hyP2⟩:=info_parts Tryz.infoPos;have hnw:=h.tk.nwl;have hn64:=h.tk.n64;obtain⟨⟨sa,sc⟩,hsv⟩:=zg4 h.tk.so;dsimp only at hsv;subst hsv;have H:Hid _:=h;obtain⟨V1,hV1⟩:∃V1,V.alloc (.cells #[.pointer (some ⟨s,0,none⟩)] 63)=V1:=⟨_,rfl⟩;have hb1:Below V.heap.size V V1:=by rw[<-hV1];exact(Below.refl _ _).alloc (zuz _) _
 have hz1:V1.heap.size=V.heap.size+1:=by rw[<-hV1];simp
 have x1:V1.heap[V.heap.size]?=some (.cells #[.pointer (some ⟨s,0,none⟩)] 63 (0,0)):=by rw[<-hV1];exact zuR _ _
 have q1:V1.cell? ⟨V.heap.size,0,none⟩=some (.pointer (some ⟨s,0,none⟩)):=(zuO _ _ _ _ _ _ x1:V1.cell? ⟨V.heap.size,0,none⟩=_);have qs:V1.cell? ⟨s,0,none⟩=some (.pointer (some ⟨bt,0,none⟩)):=(zuO _ _ _ _ _ _ (zab h.box hb1):V1.cell? ⟨s,0,none⟩=_);have hno:=zeq nw bt _ _ V1 (zab h.tk.box hb1) hnw;have hsl:=zae h.box;have hbl:=zae h.tk.box;clear h;refine(callsIn_wide (n:=5)).1 ?_;refine callsIn_of_wp_marks Tryz.func54 rfl trivial ?_ rfl;refine wpIn_wide.2 ?_;simp only[Tryz.ntmps54,zuo,zt2,zt4,Nat.reduceAdd,Nat.reduceSub,ztr,zts,zum,ztE,zuj,ztF]
 go_wp2_with (go_at_call 50;refine hno.mono ?_;rintro e w2 ⟨rfl,hp2,hg2⟩;rw[hz1] at hp2;have hb2:Below V.heap.size V w2:=hb1.grown hg2 hb1.size (fun k e=>by cases e);have x12:=(hg2.block _ (zae x1) (by simp)).trans x1;obtain⟨W3,hW3⟩:∃W3,w2.alloc (.cells #[.slice (some ⟨V.heap.size+1,0,none⟩) nw nw] 105)=W3:=⟨_,rfl⟩;have hb3:Below w2.heap.size w2 W3:=(by rw[<-hW3];exact(Below.refl _ _).alloc (zuz _) _);have x4:W3.heap[w2.heap.size]?=some (.cells #[.slice (some ⟨V.heap.size+1,0,none⟩) nw nw] 105 (0,0)):=(by rw[<-hW3];exact zuR _ _);have x13:=zab x12 hb3;have hb03:Below V.heap.size V W3:=hb2.trans (hb3.mono hb2.size);have q13:W3.cell? ⟨V.heap.size,0,none⟩=some (.pointer (some ⟨s,0,none⟩)):=(zuO _ _ _ _ _ _ x13:W3.cell? ⟨V.heap.size,0,none⟩=_);have qs3:W3.cell? ⟨s,0,none⟩=some (.pointer (some ⟨bt,0,none⟩)):=(zuO _ _ _ _ _ _ (zab H.out.box hb03):W3.cell? ⟨s,0,none⟩=_);have qt3:W3.cell? ⟨bt,1,none⟩=some (.slice sa n sc):=(zuO _ _ _ _ _ _ (zab H.out.tk.box hb03):W3.cell? ⟨bt,1,none⟩=_))
 rename_i K1 hK1
 clear q1 qs hno hW3 qs3 qt3 q13 hV1;have hp3:=hp2.below hb3;obtain⟨gA,hgA⟩:∃gA,gA=V.heap.size+1:=⟨_,rfl⟩;rw[<-hgA] at hp3 x4 ⊢;have l4:=zae x4;have lA:=hp3.glt;have lA2:gA<w2.heap.size:=by rw[hgA];exact hp2.glt
 have lA0:V.heap.size<gA:=by omega
 clear hp2 hg2 x12 hb1 hb2 x1 hgA hz1
 go_loopw [26] (fun i wr=>∃(k:Nat) (T:Nat->Nat),k<=n/\i=.int .i64 k/\zaB wr nw gA T/\Hid (∀q,zaA T q=true↔q<k)/\zaM (fun k=>k=gA) W3 wr) (fun i _=>n-(intOf i).toNat)
 case atStart=>exact⟨0,zbm,zuL _,rfl,hp3,fun q=>by rw[zcT];simp,zaM.refl _ _⟩
 case round=>
  obtain⟨k,T,hk,rfl,hpT,HT,ht⟩:=hrel;have x4r:=(ht.same _ l4 (by omega)).trans x4;have q4:wr.cell? ⟨w2.heap.size,0,none⟩=some (.slice (some ⟨gA,0,none⟩) nw nw):=(zuO _ _ _ _ _ _ x4r:wr.cell? ⟨w2.heap.size,0,none⟩=_)
  by_cases hlt:k<n
  ·have had:=zij nw gA nw T k wr hpT.row (by omega) hnw hpT.lt;have hi1:(k:Int)<(n:Int):=by omega
   have HPT:Hid _:=hpT;have HTT:Hid _:=ht;clear hpT ht x4r
   go_wp2_with fail
   refine had.mono ?_;rintro e w5 ⟨rfl,hr5,hg5⟩;clear had;go_wp2
   go_roundw
   case rel=>exact⟨k+1,addT T k,by omega,by go_num,⟨hr5,zkv T HPT.out.lt k⟩,fun q=>by rw[zik,ztw,HT.out q,zuP];omega,HTT.out.grown hg5 (fun g e=>by cases e;exact .inl rfl)⟩
   case measure=>simp[intOf];omega
  ·have hkk:k=n:=by omega
   have hpA:zaB wr nw gA (allT n):=hpT.to (zlD _) fun p=>by rw[ztu,HT.out p,zin,hkk]
   have hbr:Below V.heap.size V wr:=hb03.trans ⟨ht.os,ht.tape,ht.output,ht.size,fun k hk=>ht.same k (by have:=hb03.size;omega) (by omega)⟩;have x1r:=(ht.same V.heap.size (zae x13) (by omega)).trans x13;have hi1:¬(k:Int)<(n:Int):=by omega
   have Hkk:Hid _:=hkk;have hmm:=@run_makeMap Tryz.prog;clear hkk hpT HT ht q4;have hS:=BcS.start (X:=zcn n f) hbr x1r x4r hpA (by have:=hb03.size;have:=zae x13;omega);obtain⟨W9,hW9⟩:∃W9,(((((wr.alloc (.cells #[] 3)).alloc (.cells #[.slice (some ⟨wr.heap.size,0,none⟩) 0 0] 24)).alloc (.cells #[] 105)).alloc (.cells #[.slice (some ⟨wr.heap.size+1+1,0,none⟩) 0 0] 119)).alloc (.map #[] 0)).alloc (.cells #[.map (some (wr.heap.size+1+1+1+1))] 123)=W9:=⟨_,rfl⟩;have Hs9:Hid (W9.heap.size=wr.heap.size+6):=by rw[<-hW9];show _=_;simp
   rw[hW9] at hS;have HS:Hid _:=hS;have HW9:Hid _:=hW9;have HVr:Hid (V.heap.size<=wr.heap.size):=hbr.size;clear hS hW9 hbr x1r x4r hpA hp3 x4 hb3 x13 hb03
   go_wp2_with fail
   rename_i K2 hK2
   rw[HW9.out];clear HW9 hmm;refine(wpIn_wide (n:=5)).1 ?_;refine zfr (encs:=zhw) (N:=256) (gf:=63) (I:=BcI V s nw gA w2.heap.size (wr.heap.size+1) (wr.heap.size+1+1+1) (wr.heap.size+1+1+1+1) (wr.heap.size+1+1+1+1+1) n f (posG bs).length (posR bs))
    (a₁:=fun c=>{tmps:=#[.pointer (some ⟨s,0,none⟩),.pointer (some ⟨V.heap.size,0,none⟩),.slice none 0 0,.slice none 0 0,.pointer (some ⟨w2.heap.size,0,none⟩),u5,.pointer (some ⟨wr.heap.size+1,0,none⟩),.pointer (some ⟨wr.heap.size+1+1+1,0,none⟩),.pointer (some ⟨wr.heap.size+1+1+1+1+1,0,none⟩),.int .i64 (c:Int),undef,undef,undef,.pointer (some ⟨s,0,none⟩),.pointer (some ⟨s,0,none⟩),.pointer (some ⟨s,0,none⟩),.pointer (some ⟨bt,0,none⟩),.slice (some ⟨gA,0,none⟩) nw nw,.pointer (some ⟨s,0,none⟩),.pointer (some ⟨s,0,none⟩),.pointer (some ⟨s,0,none⟩),.pointer (some ⟨bt,0,none⟩),.pointer (some ⟨bt,0,none⟩),.pointer (some ⟨bt,1,none⟩),.slice sa n sc,.int .i64 (n:Int),.int .i64 (k:Int),.bool false,u28,u29,u30,u31,u32,.slice (some ⟨wr.heap.size,0,none⟩) 0 0,.slice (some ⟨wr.heap.size+1+1,0,none⟩) 0 0,.map (some (wr.heap.size+1+1+1+1)),.int .i64 (c:Int),undef,undef,undef,undef,undef,undef,undef,undef,undef,undef,undef,undef,undef,undef,undef,undef,undef,undef,undef,undef,undef,undef,undef,undef,undef,undef],defers:=[]})
    ?h1 ?hg ?eg ?hseq ?hps ?hI ?h0 ?assign ?body ?done
   case h1=>omega
   case hg=>rfl
   case eg=>exact enters_of Tryz.func63 (by kernel_rfl) rfl
   case hseq=>exact zdn 4 (by omega)
   case hps=>exact fun _=>rfl
   case hI=>exact BcI.own _ _ _ _ _ _ _ _ _ _ _ _ _ _ (by have:=Hs9.out;omega) (by have:=Hs9.out;have:=HVr.out;omega)
   case h0=>exact⟨_,_,_,_,_,HS.out⟩
   case assign=>
    intro l k W K2 hK2;unfold zhw
    gi_wp2
    exact hK2
   case body=>
    rintro l0 c W5 hl0 ⟨g0,c0,g1,c1,gx,h⟩ hc;clear hK2 HS;have hN5:=H.out.below (h.bel.trans (below_drewN (Below.refl _ _) 0));have z1:W5.cell? ⟨V.heap.size,0,none⟩=some (.pointer (some ⟨s,0,none⟩)):=(zuO _ _ _ _ _ _ h.b1:W5.cell? ⟨V.heap.size,0,none⟩=_);have z4:W5.cell? ⟨w2.heap.size,0,none⟩=some (.slice (some ⟨gA,0,none⟩) nw nw):=(zuO _ _ _ _ _ _ h.b4:W5.cell? ⟨w2.heap.size,0,none⟩=_);have zs:W5.cell? ⟨s,0,none⟩=some (.pointer (some ⟨bt,0,none⟩)):=(zuO _ _ _ _ _ _ (zab H.out.box h.bel):W5.cell? ⟨s,0,none⟩=_);have HH:Hid _:=h;have Htk:Hid (∀nq,Calls Tryz.prog 88 #[.pointer (some ⟨bt,0,none⟩),.slice (some ⟨gA,0,none⟩) nw nw,.int .u8 (c:Int)] (W5.drewN nq) fun e w'=>PosR (W5.drewN nq) nw (fun q=>q<64*nw/\zaA (allT n) q=true/\f q c=true) e w'):=fun nq=>by
     have hb:=below_drewN (Below.refl W5.heap.size W5) nq;have hN:=H.out.below (h.bel.trans (hb.mono h.bel.size));exact zpM n nw bt gA nw c _ _ mk f (allT n) (W5.drewN nq) hN.tk.box hN.tk.setsAt hN.tk.mks (h.pA.below hb) (fun p _ hp=>(zin n p).1 hp) hnw hc hN.tk.bru (zbz hN.tk.bru)
    have hcw:IntKind.u8.wrap (c:Int)=(c:Int):=by simp[IntKind.wrap,IntKind.bits,IntKind.signed];omega
    have hcm:(c:Int)%256=(c:Int):=by omega
    have hκ:∀h,h<c->(keyB nw (zcn n f h)=keyB nw (zcn n f c)↔zbZ (posG bs).length (posR bs) h c=true):=fun h hh=>zrq H.out.nm hn64 (zhh n f) (fun _=>zlD _) (by omega) hc
    have Hidx:Hid _:=zhU (R:=posR bs) (K:=(posG bs).length) (fun h=>keyB nw (zcn n f h)) hκ;have Hadd:Hid _:=zm3 (R:=posR bs) (K:=(posG bs).length) (fun h=>keyB nw (zcn n f h)) hκ;have Hnew:Hid _:=zfy (R:=posR bs) (K:=(posG bs).length) (fun h=>keyB nw (zcn n f h)) hκ;have Hsuc:Hid _:=zba (posG bs).length (posR bs) c;have hhl:(zah (posG bs).length (posR bs) c).length<=256:=by have:=zcq (posG bs).length (posR bs) c;omega
    clear h hN5 hκ
    gi_wp2
    refine zbb 7 (fun w'=>∃n,w'=W5.drewN n) hmix ⟨1,rfl⟩ (by rintro ⟨_,_,h⟩;exact h) (by decide) (by kernel_rfl) rfl ?_;intro os hos;simp only[zus,zuu] at hos;subst hos
    repeat (go_big_quiet_step (fail))
    refine wpQuiet_nil ?_;rintro w' ⟨nq,rfl⟩ r' hr';simp only[ztI,ztJ] at hr';subst hr'
    go_wp2_with (go_at_call 88;refine(Htk.out nq).mono ?_;rintro e w6 ⟨gN,U,rfl,hgN,hpU,hUb,hb6⟩)
    have hb56:Below W5.heap.size W5 w6:=(below_drewN (Below.refl _ _) nq).trans hb6;have H6:=HH.out.on hb56;have hpN:zaB w6 nw gN (zcn n f c):=hpU.to (zlD _) fun p=>by
     rw[ztu,hUb,zhh,zin];exact⟨fun h=>h.2,fun h=>⟨by omega,h⟩⟩
    have HK6:Hid (KeepsFrom W9.heap.size W5 w6):=(zbg hb56).from _;have z8:∀s:ExtW w6,s.W.cell? ⟨wr.heap.size+1+1+1+1+1,0,none⟩=some (.map (some (wr.heap.size+1+1+1+1))):=fun s=>(zuO _ _ _ _ _ _ (zab H6.b8 s.h):s.W.cell? ⟨wr.heap.size+1+1+1+1+1,0,none⟩=_)
    have hkey:∀s:ExtW w6,Calls Tryz.prog 60 #[.slice (some ⟨gN,0,none⟩) nw nw] s.W fun e w'=>e=.returned (.string (keyB nw (zcn n f c)))/\∃s':ExtW w6,w'=s'.W:=fun s=>by
     refine(zoI nw gN nw (zcn n f c) s.W (hpN.below s.h) hnw).mono ?_;rintro e w' ⟨rfl,hw⟩;exact⟨rfl,⟨w',s.h.trans (hw.mono s.h.size)⟩,rfl⟩
    have HH6:Hid _:=H6;have HpN:Hid _:=hpN;clear H6 hpN hpU hUb hb6 hb56 HH Htk z1 z4 zs hcw hcm;have z80:w6.cell? ⟨wr.heap.size+1+1+1+1+1,0,none⟩=some (.map (some (wr.heap.size+1+1+1+1))):=z8 ⟨w6,Below.refl _ _⟩;have hky:=zoI nw gN nw (zcn n f c) w6.drew (HpN.out.below ⟨rfl,rfl,rfl,zuz _,fun _ _=>rfl⟩) hnw;have hnum:=fun(Wb:World) (hb:Below w6.heap.size w6 Wb)=>zfC (wr.heap.size+1+1+1+1) _ (keyB nw (zcn n f c)) Wb (HH6.out.on hb).mp
    have hnum2:Hid (∀(Wb:World),Below w6.heap.size w6 Wb->Calls Tryz.prog 59 #[.map (some (wr.heap.size+1+1+1+1)),.string (keyB nw (zcn n f c))] Wb fun e w'=>e=.returned (.tuple #[.int .i64 ((clsF (posG bs).length (posR bs) c:Nat):Int),.bool (!decide (clsF (posG bs).length (posR bs) c<(zah (posG bs).length (posR bs) c).length))])/\w'.heap[wr.heap.size+1+1+1+1]?=some (.map (regE Value.string ((zah (posG bs).length (posR bs) (c+1)).map fun h=>keyB nw (zcn n f h))) ((zah (posG bs).length (posR bs) (c+1)).map fun h=>keyB nw (zcn n f h)).length)/\Wb.grownBy w' (some (wr.heap.size+1+1+1+1))):=fun Wb hb=>by
     refine(hnum Wb hb).mono ?_;rintro e w' ⟨a,b,e3⟩;rw[Hidx.out] at a;rw[Hadd.out] at b;refine⟨?_,b,e3⟩;rw[a]
     by_cases hq:clsF (posG bs).length (posR bs) c<(zah (posG bs).length (posR bs) c).length
     ·have hin:=Hnew.out.2 hq;simp[hq,hin]
     ·have hin:keyB nw (zcn n f c)∉(zah (posG bs).length (posR bs) c).map fun h=>keyB nw (zcn n f h):=fun h=>hq (Hnew.out.1 h)
      rw[decide_eq_false hq];simp only[hin,not_false_eq_true,decide_true,Bool.not_false]
    clear hnum z8 hkey;generalize hkk2:keyB nw (zcn n f c)=key at *;generalize hcc2:clsF (posG bs).length (posR bs) c=cc at *;generalize hfb2:(!decide (cc<(zah (posG bs).length (posR bs) c).length))=fb at *;have Hkk2:Hid _:=hkk2;have Hcc2:Hid _:=hcc2;have Hfb2:Hid _:=hfb2;clear hkk2 hcc2 hfb2
    gi_wp2
    rename_i K3 hK3
    have hrest:∀(Wb w7:World),Below w6.heap.size w6 Wb->w7.heap[wr.heap.size+1+1+1+1]?=some (.map (regE Value.string ((zah (posG bs).length (posR bs) (c+1)).map fun h=>keyB nw (zcn n f h))) ((zah (posG bs).length (posR bs) (c+1)).map fun h=>keyB nw (zcn n f h)).length)->Wb.grownBy w7 (some (wr.heap.size+1+1+1+1))->
      K3 {tmps:=#[.pointer (some ⟨s,0,none⟩),.pointer (some ⟨V.heap.size,0,none⟩),.slice none 0 0,.slice none 0 0,.pointer (some ⟨w2.heap.size,0,none⟩),u5,.pointer (some ⟨wr.heap.size+1,0,none⟩),.pointer (some ⟨wr.heap.size+1+1+1,0,none⟩),.pointer (some ⟨wr.heap.size+1+1+1+1+1,0,none⟩),.int .i64 (c:Int),.slice (some ⟨gN,0,none⟩) nw nw,.int .i64 (cc:Int),.bool fb,.pointer (some ⟨s,0,none⟩),.pointer (some ⟨s,0,none⟩),.pointer (some ⟨s,0,none⟩),.pointer (some ⟨bt,0,none⟩),.slice (some ⟨gA,0,none⟩) nw nw,.pointer (some ⟨s,0,none⟩),.pointer (some ⟨s,0,none⟩),.pointer (some ⟨s,0,none⟩),.pointer (some ⟨bt,0,none⟩),.pointer (some ⟨bt,0,none⟩),.pointer (some ⟨bt,1,none⟩),.slice sa n sc,.int .i64 (n:Int),.int .i64 (k:Int),.bool false,u28,u29,u30,u31,u32,.slice (some ⟨wr.heap.size,0,none⟩) 0 0,.slice (some ⟨wr.heap.size+1+1,0,none⟩) 0 0,.map (some (wr.heap.size+1+1+1+1)),.int .i64 (c:Int),.pointer (some ⟨s,0,none⟩),.pointer (some ⟨s,0,none⟩),.pointer (some ⟨s,0,none⟩),.pointer (some ⟨bt,0,none⟩),.slice (some ⟨gA,0,none⟩) nw nw,.int .i64 (c:Int),.int .u8 (c:Int),.slice (some ⟨gN,0,none⟩) nw nw,.tuple #[.int .i64 (cc:Int),.bool fb],.map (some (wr.heap.size+1+1+1+1)),.slice (some ⟨gN,0,none⟩) nw nw,.string key,.tuple #[.int .i64 (cc:Int),.bool fb],.int .i64 (cc:Int),.bool fb,undef,undef,undef,undef,undef,undef,undef,undef,undef,undef,undef],defers:=[]} w7:=by
     intro Wb w7 hWb hm7 hg7;refine hK3 _ _ ?_;have HMr:Hid _:=(HH6.out.on hWb).reg hg7 hm7;have hBl:wr.heap.size+1+1+1+1<W9.heap.size:=by have:=Hs9.out;omega
     have HKr:Hid (KeepsFrom W9.heap.size W5 w7):=(HK6.out.trans ((zbg hWb).from _)).trans (KeepsFrom.of_grownBy hg7 (fun j e=>by cases e;omega));have HpN7:Hid (zaB w7 nw gN (zcn n f c)):=⟨(hg7.block _ (HpN.out.below hWb).glt (fun e=>by
      have e2:=Option.some.inj e;have q1:=(HpN.out.below hWb).row;rw[e2] at q1;exact za7 (q1.symm.trans (HH6.out.on hWb).mp))).trans (HpN.out.below hWb).row,HpN.out.lt⟩
     clear hm7 hg7 hWb hky z80;have hVs:V.heap.size<=w7.heap.size:=HMr.out.bel.size;have finish:∀(W8:World) (hs:List Nat) (m g1 c1:Nat) (gx:Nat->Nat),hs.length=m->hs=zah (posG bs).length (posR bs) (c+1)->KeepsFrom W9.heap.size W5 W8->BcS V W8 s nw gA w2.heap.size (wr.heap.size+1) (wr.heap.size+1+1+1) (wr.heap.size+1+1+1+1) (wr.heap.size+1+1+1+1+1) (allT n) (zcn n f) ((List.range c).map fun c=>(clsF (posG bs).length (posR bs) c:Int)) hs ((zah (posG bs).length (posR bs) (c+1)).map fun h=>keyB nw (zcn n f h)) g0 c c0 g1 m c1 gx->∃(g' c':Nat) (w8:World),W8.cell? ⟨wr.heap.size+1,0,none⟩=some (.slice (some ⟨g0,0,none⟩) c c0)/\(appW #[24,24] 24 #[.slice (some ⟨g0,0,none⟩) c c0,.slice (some ⟨W8.heap.size,0,none⟩) 1 1]).run Tryz.prog (W8.alloc (.cells #[.int .i64 (cc:Int)] 3))=.ok (.slice (some ⟨g',0,none⟩) (c+1) c') w8/\w8.cell? ⟨wr.heap.size+1,0,none⟩=some (.slice (some ⟨g0,0,none⟩) c c0)/\w8.frozen? ⟨wr.heap.size+1,0,none⟩=false/\Hid (KeepsFrom W9.heap.size W5 (w8.setCell ⟨wr.heap.size+1,0,none⟩ (.slice (some ⟨g',0,none⟩) (c+1) c'))/\BcI V s nw gA w2.heap.size (wr.heap.size+1) (wr.heap.size+1+1+1) (wr.heap.size+1+1+1+1) (wr.heap.size+1+1+1+1+1) n f (posG bs).length (posR bs) (c+1) (w8.setCell ⟨wr.heap.size+1,0,none⟩ (.slice (some ⟨g',0,none⟩) (c+1) c'))):=by
      intro W8 hs m g1 c1 gx hm he hK hS;obtain⟨g',c',w8,hap,ho8,hg8,-⟩:=zkC Tryz.underlying24 hjI hyI0 hyI1 hyI2 rfl (by omega) hS.o6 hS.bel.size (by omega) (.int .i64 (cc:Int)) rfl 24;obtain⟨q1,q2,hS8⟩:=hS.cls ho8 hg8;obtain⟨cur,hcur⟩:=zdf hS.o6;refine⟨g',c',w8,(zuO _ _ _ _ _ _ hS.b6:W8.cell? ⟨wr.heap.size+1,0,none⟩=_),hap,q1,q2,hK.trans (((KeepsOthers.of_grownBy hg8 fun j _ e ho=>by
       have e2:=Option.some.inj e;rw[<-e2,hcur] at ho;rw[<-Option.some.inj ho]
       rfl).trans (KeepsOthers.setCell _ _ _)).from _),?_⟩
      have e4:((List.range c).map fun c=>(clsF (posG bs).length (posR bs) c:Int))++[(cc:Int)]=(List.range (c+1)).map fun c=>(clsF (posG bs).length (posR bs) c:Int):=by rw[zun,zt9,<-Hcc2.out];rfl
      rw[e4] at hS8;subst hm;subst he;exact⟨_,_,_,_,_,hS8⟩
     cases fb
     ·have hlt:cc<(zah (posG bs).length (posR bs) c).length:=by have:=Hfb2.out;simpa using this
      obtain⟨g',c',w8,q0,hap,q1,q2,HF⟩:=finish w7 _ _ _ _ _ rfl (by have:=Hsuc.out;rw[zuV hlt] at this;exact this.symm) HKr.out HMr.out;clear finish hlt
      gi_wp2
      exact HF.out
     ·have hlt:¬cc<(zah (posG bs).length (posR bs) c).length:=by have:=Hfb2.out;simpa using this
      obtain⟨g2,c2,wh,haph,hoh,hgh,hath⟩:=zkC Tryz.underlying119 hjP hyP0 hyP1 hyP2 rfl (by omega) HMr.out.o7 hVs (by omega) (.slice (some ⟨gN,0,none⟩) nw nw) rfl 119;obtain⟨p1,p2,hSh⟩:=HMr.out.head hoh hgh hath HpN7.out;have p0:w7.cell? ⟨wr.heap.size+1+1+1,0,none⟩=some (.slice (some ⟨g1,0,none⟩) (zah (posG bs).length (posR bs) c).length c1):=(zuO _ _ _ _ _ _ HMr.out.b7:w7.cell? ⟨wr.heap.size+1+1+1,0,none⟩=_);have HKh:Hid (KeepsFrom W9.heap.size W5 (wh.setCell ⟨wr.heap.size+1+1+1,0,none⟩ (.slice (some ⟨g2,0,none⟩) ((zah (posG bs).length (posR bs) c).length+1) c2))):=by
       obtain⟨cur,hcur⟩:=zdf HMr.out.o7;exact HKr.out.trans (((KeepsOthers.of_grownBy hgh fun j _ e ho=>by
        have e2:=Option.some.inj e;rw[<-e2,hcur] at ho;rw[<-Option.some.inj ho]
        rfl).trans (KeepsOthers.setCell _ _ _)).from _)
      obtain⟨WX,hWX⟩:∃WX,wh.setCell ⟨wr.heap.size+1+1+1,0,none⟩ (.slice (some ⟨g2,0,none⟩) ((zah (posG bs).length (posR bs) c).length+1) c2)=WX:=⟨_,rfl⟩;rw[hWX] at hSh HKh;obtain⟨g',c',w8,q0,hap,q1,q2,HF⟩:=finish WX _ _ _ _ _ (by simp) (by have:=Hsuc.out;rw[zuU hlt] at this;exact this.symm) HKh.out hSh;clear finish hlt hoh hgh hath hSh
      gi_wp2
      exact HF.out
    gi_region_with_o (first
     |(refine⟨trivial,?_⟩;gi_at_call 60;refine(CallsIn.inRound l0 (callsIn_wide.2 hky)).mono ?_;rintro e Wb ⟨rfl,hWb⟩;have hWb2:Below w6.heap.size w6 Wb:=⟨hWb.os,hWb.tape,hWb.output,hWb.size,hWb.block⟩;have z81:Wb.cell? ⟨wr.heap.size+1+1+1+1+1,0,none⟩=some (.map (some (wr.heap.size+1+1+1+1))):=(zuO _ _ _ _ _ _ (zab HH6.out.b8 hWb2):Wb.cell? ⟨wr.heap.size+1+1+1+1+1,0,none⟩=_))
     |(refine⟨trivial,?_⟩;gi_at_call 59;refine(CallsIn.inRound l0 (callsIn_wide.2 (hnum2.out _ hWb2))).mono ?_;rintro e w7 ⟨rfl,hm7,hg7⟩))
    all_goals exact hrest _ _ hWb2 hm7 hg7
   case done=>
    rintro D W5 hDe ⟨g0,c0,g1,c1,gx,h⟩ hD;refine hK2 _ _ ?_;dsimp only;have z6:W5.cell? ⟨wr.heap.size+1,0,none⟩=some (.slice (some ⟨g0,0,none⟩) 256 c0):=(zuO _ _ _ _ _ _ h.b6:W5.cell? ⟨wr.heap.size+1,0,none⟩=_);have z7:W5.cell? ⟨wr.heap.size+1+1+1,0,none⟩=some (.slice (some ⟨g1,0,none⟩) (hdsG bs).length c1):=(zuO _ _ _ _ _ _ h.b7:W5.cell? ⟨wr.heap.size+1+1+1,0,none⟩=_);have HR:Hid (∀Wq:World,Wq.heap=W5.heap->Wq.os=W5.os->Wq.tape=W5.tape->Wq.output=W5.output->BcR V bs n nw f (.returned (.tuple #[.slice (some ⟨g0,0,none⟩) 256 c0,.slice (some ⟨g1,0,none⟩) (hdsG bs).length c1])) (Wq.putObj D (.deferred none))):=fun Wq h1 h2 h3 h4=>by
     have hcell:∀(b:Nat) (cs:Array Value) (t:TypeId),W5.heap[b]?=some (.cells cs t (0,0))->(Wq.putObj D (.deferred none)).heap[b]?=some (.cells cs t (0,0)):=fun b cs t hb=>(World.putObj_heap_other (fun e:b=D=>by rw[e,hD] at hb;cases hb)).trans (by rw[h1];exact hb)
     have hbq:Below V.heap.size V Wq:=⟨h2.trans h.bel.os,h3.trans h.bel.tape,h4.trans h.bel.output,by rw[h1];exact h.bel.size,fun k hk=>by rw[h1];exact h.bel.block k hk⟩;refine⟨g0,c0,g1,c1,gx,rfl,hbq.grown (grownBy_putObj' _ D _) hbq.size (fun q e=>by cases e;have:=Hs9.out;have:=HVr.out;omega),zas h.o6 fun k cs e=>hcell k cs _ e,zas h.o7 fun k cs e=>hcell k cs _ e,fun j hj=>⟨hcell _ _ _ (h.tk j hj).row,(h.tk j hj).lt⟩⟩
    have HD:Hid _:=hD;clear hD h HS hK2 H
    go_wp2_with fail
    go_region
    all_goals
     go_wp2;refine⟨by simp,.inl ⟨D,_,rfl,run_takeDeferred (by exact HD.out),.tuple #[.slice (some ⟨g0,0,none⟩) 256 c0,.slice (some ⟨g1,0,none⟩) (hdsG bs).length c1],by simp[results,Tryz.results54,go_sem],HR.out _ rfl rfl rfl rfl⟩⟩
end Go.Proofs.YthddplbodacjgaaGreatDoor
