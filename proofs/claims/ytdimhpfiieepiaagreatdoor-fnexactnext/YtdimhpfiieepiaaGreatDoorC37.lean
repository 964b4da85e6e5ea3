import Derived.Test.YtdimhpfiieepiaaGreatDoorC36
namespace Go.Proofs.YtdimhpfiieepiaaGreatDoor
open Option renaming some->za,none->zc
open Go renaming World->zb,Value->zd,TypeId->zl
open Obj renaming cells->ze
open Value renaming pointer->zf,int->zi,slice->zk
open Go.RowKit
section
variable {O O1 O2:Nat -> Prop}{w:zb}{r nw bt ga gl gm gv m s:Nat}{lv sS sP:zd}{L gx:Nat -> Nat}{Ts:Nat -> Nat -> Nat}{es:List (Int×Int)}{a b:cd}{v:ey}
attribute [local go_sem ↓] wp_at_zero wp_at_succ
def Nd(r gm gv:Nat)(sS sP:zd)(gx:Nat->Nat)(m:Nat)(k:Nat):Prop:=k=r\/k=gm\/k=gv\/sS.ownBlock=za k\/sP.ownBlock=za k\/∃i,i<m/\k=gx i
theorem eZ.least(h:eZ O w r nw bt ga gl lv L gm gv sS sP gx Ts m es):eZ (Nd r gm gv sS sP gx m) w r nw bt ga gl lv L gm gv sS sP gx Ts m es:=
 ⟨h.box,h.nm,h.mv,h.so,h.po,h.set,h.Ag,.inl rfl,.inr (.inl rfl),.inr (.inr (.inl rfl)),λ_ e=>.inr (.inr (.inr (.inl e))),λ_ e=>.inr (.inr (.inr (.inr (.inl e)))),λi hi=>.inr (.inr (.inr (.inr (.inr ⟨i,hi,rfl⟩)))),h.nd⟩
theorem eZ.Ug(h:eZ O w r nw bt ga gl lv L gm gv sS sP gx Ts m es){k:Nat}(hk:Nd r gm gv sS sP gx m k):O k:=by
 rcases hk with rfl|rfl|rfl|e|e|⟨i,hi,rfl⟩
 ·exact h.or
 ·exact h.om
 ·exact h.ov
 ·exact h.os k e
 ·exact h.op k e
 ·exact h.ox i hi
theorem eZ.noM(h:eZ O w r nw bt ga gl lv L gm gv sS sP gx Ts m es){k:Nat}(hk:Nd r gm gv sS sP gx m k){cs:Array zd}:w.heap[k]?≠za (ze cs 293 (0,0)):=λe=>by
 rcases hk with rfl|rfl|rfl|e2|e2|⟨i,hi,rfl⟩
 ·rw[h.box]at e;exact absurd (bP e) (by decide)
 ·rw[h.nm]at e;cases e
 ·rw[h.mv]at e;cases e
 ·obtain⟨-,aA,e3⟩:=ki h.so e2;rw[e3]at e;exact absurd (bP e) (by decide)
 ·obtain⟨-,aA,e3⟩:=ki h.po e2;rw[e3]at e;exact absurd (bP e) (by decide)
 ·rw[(h.set i hi).row]at e;exact absurd (bP e) (by decide)
theorem zmy{B:Nat}{n:Nat}{sv fv:zd}{lr mk:Nat->Nat}{Lk:Nat->Nat->Nat}{A:Nat->Nat}{f:Nat->Nat->Bool}(C:pE B w n nw bt ga gl lv sv fv lr mk Lk A L f)(hO:∀k,O k->B<=k/\k<w.heap.size)(h:eZ O w r nw bt ga gl lv L gm gv sS sP gx Ts m es)(hM:uc nw f Lk A Ts m es)(hS:Fw n nw Ts m)(i c:Nat)(b:Bool)(hi:i<m)(hc:c<256)(hm:m<=100000000):
  Calls Tryz.prog 147 #[zf (za ⟨r,0,zc⟩),zi .i64 i,.int .u8 c,.bool b] w λe w'=>II O w n r nw bt ga gl lv f Lk A L gm gv gx Ts m i c b e w'/\bR w w':=by
 refine(zs3 C (O:=Nd r gm gv sS sP gx m) (λk hk=>hO k (h.Ug hk)) h.least hM hS i c b hi hc hm).mono ?_;rintro e w' ⟨t,m',EH,EG,pF,iT,es',h1,h2,h3,h4,h5,h6,h7,h8,h9,tc⟩;exact⟨⟨t,m',EH,EG,pF,iT,es',h1,h2.mono λk hk=>hk.elim (λx=>.inl (h.Ug x)) .inr,h3,h4,h5,h6,h7,h8,h9,tc.mono λk _ hk=>h.Ug hk⟩,λmg f e=>(tc.same mg (ap.1 e).1 (λho=>h.noM ho e)).trans e⟩
structure ru(a a':cd):Prop where
 r:a'.r=a.r
 lo:a.m<=a'.m
 old:∀j,j<a.m->a'.gx j=a.gx j/\a'.Ts j=a.Ts j
theorem ru.refl(a:cd):ru a a:=⟨rfl,ai _,λ_ _=>⟨rfl,rfl⟩⟩
theorem ru.trans{c:cd}(h:ru a b)(k:ru b c):ru a c:=⟨k.r.trans h.r,aU h.lo k.lo,λj hj=>by
 have h1:=h.old j hj;have h2:=k.old j (bA hj h.lo);exact⟨h2.1.trans h1.1,h2.2.trans h1.2⟩⟩
def news(O:Nat->Prop)(w w':zb)(k:Nat):Prop:=O k\/(w.heap.size<=k/\k<w'.heap.size)
def zxi(O1 O2:Nat->Prop)(w:zb)(s:Nat)(v:ey)(a b:cd)(i c:Nat)(bg:Bool)(e:Ending)(w':zb):Prop:=
 ∃(t:Nat) (b':cd),e=.returned (zi .i64 t)/\t<b'.m/\b'.m<=b.m+1/\ru b b'/\xU v.nw v.f v.G v.L (b.Ts i) c bg (b'.Ts t)/\gR O1 (news O2 w w') w' s v a b'/\aE O2 w w'/\bR w w'
theorem zmx(h:gR O1 O2 w s v a b)(i c:Nat)(bg:Bool)(hi:i<b.m)(hc:c<256)(hm:b.m<=100000000):
  Calls Tryz.prog 147 #[zf (za ⟨b.r,0,zc⟩),zi .i64 i,.int .u8 c,.bool bg] w λe w'=>zxi O1 O2 w s v a b i c bg e w':=by
 refine(zmy h.c.c2 h.o2 h.rb.s h.rb.mv h.rb.EJ i c bg hi hc hm).mono ?_;rintro e w' ⟨⟨t,m',sS,sP,pF,iT,es',rfl,hR,ht,cO,cD,hold,hst,Tj,AU,tc⟩,km⟩;have hle:=h.c.c1.le;have hsz:=tc.size;have qD:∀k,k<v.B->w'.heap[k]?=w.heap[k]?:=λk hk=>tc.same k (by omega) (λho=>by have:=(h.o2 k ho).1;omega)
 refine⟨t,⟨b.r,b.gm,b.gv,sS,sP,pF,iT,m',es'⟩,rfl,ht,cD,⟨rfl,cO,hold⟩,hst,⟨(qD s h.c.s1).trans h.box,⟨h.c.c1.keep qD (by omega),h.c.c2.keep qD (by omega),h.c.p0,h.c.s0,h.c.s1,h.c.tb,h.c.ab,h.c.lb,h.c.sb,h.c.fb,h.c.bb,h.c.Gl,h.c.Gh,h.c.ne⟩,h.ra.keep (λk h1 _=>tc.same k (h.o1 k h1).2 (h.EB k h1)),⟨hR,Tj,AU,λx hx=>?_,by show 0<m';omega⟩,λk hk=>⟨(h.o1 k hk).1,bA (h.o1 k hk).2 hsz⟩,λk hk=>?_,λk h1 h2=>?_⟩,tc,km⟩
 ·show iT 0 x=0;rw[(hold 0 h.rb.pos).2];exact h.rb.zero x hx
 ·rcases hk with hk|hk
  ·exact⟨(h.o2 k hk).1,bA (h.o2 k hk).2 hsz⟩
  ·exact⟨by omega,hk.2⟩
 ·rcases h2 with h2|h2
  ·exact h.EB k h1 h2
  ·have:=(h.o1 k h1).2;omega
def zxh(O1 O2:Nat->Prop)(w:zb)(s:Nat)(v:ey)(a b:cd)(i c:Nat)(bg:Bool)(e:Ending)(w':zb):Prop:=
 ∃(t:Nat) (a':cd),e=.returned (zi .i64 t)/\t<a'.m/\a'.m<=a.m+1/\ru a a'/\xU v.nw v.f v.F v.A (a.Ts i) c bg (a'.Ts t)/\gR (news O1 w w') O2 w' s v a' b/\aE O1 w w'/\bR w w'
theorem zrG(h:gR O1 O2 w s v a b)(i c:Nat)(bg:Bool)(hi:i<a.m)(hc:c<256)(hm:a.m<=100000000):
  Calls Tryz.prog 147 #[zf (za ⟨a.r,0,zc⟩),zi .i64 i,.int .u8 c,.bool bg] w λe w'=>zxh O1 O2 w s v a b i c bg e w':=by
 refine(zmy h.c.c1 h.o1 h.ra.s h.ra.mv h.ra.EJ i c bg hi hc hm).mono ?_;rintro e w' ⟨⟨t,m',sS,sP,pF,iT,es',rfl,hR,ht,cO,cD,hold,hst,Tj,AU,tc⟩,km⟩;have hle:=h.c.c1.le;have hsz:=tc.size;have qD:∀k,k<v.B->w'.heap[k]?=w.heap[k]?:=λk hk=>tc.same k (by omega) (λho=>by have:=(h.o1 k ho).1;omega)
 refine⟨t,⟨a.r,a.gm,a.gv,sS,sP,pF,iT,m',es'⟩,rfl,ht,cD,⟨rfl,cO,hold⟩,hst,⟨(qD s h.c.s1).trans h.box,⟨h.c.c1.keep qD (by omega),h.c.c2.keep qD (by omega),h.c.p0,h.c.s0,h.c.s1,h.c.tb,h.c.ab,h.c.lb,h.c.sb,h.c.fb,h.c.bb,h.c.Gl,h.c.Gh,h.c.ne⟩,⟨hR,Tj,AU,λx hx=>?_,by show 0<m';omega⟩,h.rb.keep (λk h1 _=>tc.same k (h.o2 k h1).2 (λho=>h.EB k ho h1)),λk hk=>?_,λk hk=>⟨(h.o2 k hk).1,bA (h.o2 k hk).2 hsz⟩,λk h1 h2=>?_⟩,tc,km⟩
 ·show iT 0 x=0;rw[(hold 0 h.ra.pos).2];exact h.ra.zero x hx
 ·rcases hk with hk|hk
  ·exact⟨(h.o1 k hk).1,bA (h.o1 k hk).2 hsz⟩
  ·exact⟨by omega,hk.2⟩
 ·rcases h1 with h1|h1
  ·exact h.EB k h1 h2
  ·have:=(h.o2 k h2).2;omega
theorem gR.other{w':zb}(h:gR O1 O2 w s v a b){S:Nat->Prop}(tc:aE S w w')(hB:∀k,S k->v.B<=k)(h1:∀k,S k->¬O1 k)(h2:∀k,S k->¬O2 k):gR O1 O2 w' s v a b:=by
 have hle:=h.c.c1.le;have hsz:=tc.size;have qD:∀k,k<v.B->w'.heap[k]?=w.heap[k]?:=λk hk=>tc.same k (by omega) (λho=>by have:=hB k ho;omega)
 exact⟨(qD s h.c.s1).trans h.box,⟨h.c.c1.keep qD (by omega),h.c.c2.keep qD (by omega),h.c.p0,h.c.s0,h.c.s1,h.c.tb,h.c.ab,h.c.lb,h.c.sb,h.c.fb,h.c.bb,h.c.Gl,h.c.Gh,h.c.ne⟩,h.ra.keep (λk g _=>tc.same k (h.o1 k g).2 (λx=>h1 k x g)),h.rb.keep (λk g _=>tc.same k (h.o2 k g).2 (λx=>h2 k x g)),λk hk=>⟨(h.o1 k hk).1,bA (h.o1 k hk).2 hsz⟩,λk hk=>⟨(h.o2 k hk).1,bA (h.o2 k hk).2 hsz⟩,h.EB⟩
end
section
def uW(ps:List Nat):List zd:=ps.map λ(i:Nat)=>Value.int .i64 (i:Int)
theorem zld(ps:List Nat)(i:Nat):uW (ps++[i])=uW ps++[zi .i64 (i:Int)]:=by simp[uW]
theorem qb{w:zb}{g:Nat}{a0 a1 a2 a3:zd}{t:zl}(h:w.heap[g]?=za (ze #[a0,a1,a2,a3] t (0,0))):w.cell? ⟨g,0,zc⟩=za a0/\w.cell? ⟨g,1,zc⟩=za a1/\w.cell? ⟨g,2,zc⟩=za a2/\w.cell? ⟨g,3,zc⟩=za a3:=by
 have:∀o,w.cell? ⟨g,o,zc⟩=#[a0,a1,a2,a3][o]?:=λ_=>aO _ _ _ _ _ _ h
 exact⟨this 0,this 1,this 2,this 3⟩
structure gQ(w:zb)(O1 O2:Nat->Prop)(s:Nat)(v:ey)(a b:cd)(ne:Nat)(u:aJ)(M:PA)(E:Nat->Prop)(high t gs:Nat)(W:zb)(lo at' ug now:Nat)(b':cd)(O:Nat->Prop)(S:Nat->Nat)(pv:zd)(ps:List Nat):Prop where
 tc:aE O2 w W
 km:bR w W
 st:gR O1 O W s v a b'
 rn:ru b b'
 mb:b'.m+at'<=b.m+high
 o2:∀k,O2 k->O k
 zg:∀k,O k->O2 k\/w.heap.size<=k
 nt:¬O t
 ng:¬O gs
 np:∀k,pv.ownBlock=za k->¬O k
 box:W.heap[t]?=za (ze #[zf (za ⟨b.r,0,zc⟩),zk (za ⟨gs,0,zc⟩) ne ne,zi .i64 high,pv] 195 (0,0))
 sp:aH W ne gs S
 pa:W.ownsRow w.heap.size 3 1 pv ps.length (uW ps)
 tw:w.heap.size<=t
 gw:w.heap.size<=gs
 le:at'<=high
 len:ps.length+ug=high
 nw:now<b'.m
 bk:si v.nw (b'.Ts now) (gO u M E at')
 ix:∀j,j<ps.length->ps.getD j 0<b'.m/\si v.nw (b'.Ts (ps.getD j 0)) (gO u M E (high-1-j))
 ss:∀q,ax S q=true↔lo<=q/\zR u M E q
section
variable {w:zb} {O1 O2:Nat->Prop} {s:Nat} {v:ey} {a b:cd} {ne:Nat} {u:aJ} {M:PA} {E:Nat->Prop} {high t gs:Nat} {W:zb} {lo at' ug now:Nat} {b':cd} {O:Nat->Prop} {S:Nat->Nat} {pv:zd} {ps:List Nat}
theorem gQ.tg(h:gQ w O1 O2 s v a b ne u M E high t gs W lo at' ug now b' O S pv ps):t≠gs:=λe=>by
 have h1:=h.box;have h2:=h.sp.row;rw[e,h2]at h1;exact absurd (bP h1) (by decide)
theorem gQ.ED(h:gQ w O1 O2 s v a b ne u M E high t gs W lo at' ug now b' O S pv ps){k:Nat}(hk:pv.ownBlock=za k):k≠t/\k≠gs/\w.heap.size<=k:=by
 obtain⟨h1,aA,h2⟩:=ki h.pa hk;refine⟨λe=>?_,λe=>?_,h1⟩
 ·rw[e,h.box]at h2;exact absurd (bP h2) (by decide)
 ·rw[e,h.sp.row]at h2;exact absurd (bP h2) (by decide)
theorem gQ.Uj(h:gQ w O1 O2 s v a b ne u M E high t gs W lo at' ug now b' O S pv ps){T:Nat->Prop}{W':zb}(tc:aE T W W')(hT:∀k,T k->k=t\/k=gs\/pv.ownBlock=za k)(hB:v.B<=w.heap.size)(h1:∀k,O1 k->k<w.heap.size):aE O2 w W'/\bR w W'/\gR O1 O W' s v a b':=by
 have hw:∀k,T k->w.heap.size<=k:=λk hk=>by
  rcases hT k hk with e|e|e
  ·rw[e];exact h.tw
  ·rw[e];exact h.gw
  ·exact(h.ED e).2.2
 refine⟨⟨tc.os.trans h.tc.os,tc.tape.trans h.tc.tape,tc.output.trans h.tc.output,aU h.tc.size tc.size,λk hk hn=>(tc.same k (by have:=h.tc.size;omega) (λe=>by have:=hw k e;omega)).trans (h.tc.same k hk hn)⟩,h.km.trans λmg f e=>(tc.same mg (ap.1 e).1 (λe2=>?_)).trans e,h.st.other tc (λk e=>by have:=hw k e;omega) (λk e ho=>by have:=hw k e;have:=h1 k ho;omega) (λk e ho=>?_)⟩
 ·rcases hT mg e2 with e3|e3|e3
  ·rw[e3,h.box]at e;exact absurd (bP e) (by decide)
  ·rw[e3,h.sp.row]at e;exact absurd (bP e) (by decide)
  ·obtain⟨-,aA,e4⟩:=ki h.pa e3;rw[e4]at e;exact absurd (bP e) (by decide)
 ·rcases hT k e with e3|e3|e3
  ·rw[e3]at ho;exact h.nt ho
  ·rw[e3]at ho;exact h.ng ho
  ·exact h.np k e3 ho
theorem gQ.add(h:gQ w O1 O2 s v a b ne u M E high t gs W (at'+1) at' ug now b' O S pv ps){W':zb}(hr:W'.heap[gs]?=za (ze (kK ne (kP S at')) 236 (0,0)))(hg:W.grownBy W' (za gs))(hs:zR u M E at')(hB:v.B<=w.heap.size)(h1:∀k,O1 k->k<w.heap.size):gQ w O1 O2 s v a b ne u M E high t gs W' at' at' ug now b' O (kP S at') pv ps:=by
 have tc:aE (· = gs) W W':=(aE.refl _ W).grown hg (λk e=>by cases e;exact .inl rfl);obtain⟨m1,m2,m3⟩:=h.Uj tc (λk e=>.inr (.inl e)) hB h1;refine⟨m1,m2,m3,h.rn,h.mb,h.o2,h.zg,h.nt,h.ng,h.np,(tc.same t (ap.1 h.box).1 h.tg).trans h.box,⟨hr,IA S h.sp.lt at'⟩,kH h.pa λk e=>?_,h.tw,h.gw,h.le,h.len,h.nw,h.bk,h.ix,λq=>?_⟩
 ·obtain⟨-,aA,e4⟩:=ki h.pa e;exact tc.same k (ap.1 e4).1 (h.ED e).2.1
 ·rw[Il,sw,h.ss q];constructor
  ·rintro (⟨h2,h3⟩|h2)
   ·exact⟨by omega,h3⟩
   ·have e:q=at':=by simpa using h2
    subst e;exact⟨ai _,hs⟩
  ·rintro ⟨h2,h3⟩
   by_cases e:q=at'
   ·exact .inr (by simpa using e)
   ·exact .inl ⟨by omega,h3⟩
theorem gQ.skip(h:gQ w O1 O2 s v a b ne u M E high t gs W (at'+1) at' ug now b' O S pv ps)(hs:¬zR u M E at'):gQ w O1 O2 s v a b ne u M E high t gs W at' at' ug now b' O S pv ps:=
 ⟨h.tc,h.km,h.st,h.rn,h.mb,h.o2,h.zg,h.nt,h.ng,h.np,h.box,h.sp,h.pa,h.tw,h.gw,h.le,h.len,h.nw,h.bk,h.ix,λq=>(h.ss q).trans ⟨λ⟨h2,h3⟩=>⟨by omega,h3⟩,λ⟨h2,h3⟩=>⟨by
  rcases gh at' q with e|e
  ·exact e
  ·obtain rfl:q=at':=by omega
   exact absurd h3 hs,h3⟩⟩⟩
theorem gQ.drewN(n:Nat)(h:gQ w O1 O2 s v a b ne u M E high t gs W lo at' ug now b' O S pv ps)(hB:v.B<=w.heap.size)(h1:∀k,O1 k->k<w.heap.size):gQ w O1 O2 s v a b ne u M E high t gs (W.drewN n) lo at' ug now b' O S pv ps:=by
 obtain⟨m1,m2,m3⟩:=h.Uj (T:=λ_=>False) (W':=W.drewN n) ⟨rfl,rfl,rfl,ai _,λ_ _ _=>rfl⟩ (λk e=>e.elim) hB h1;exact⟨m1,m2,m3,h.rn,h.mb,h.o2,h.zg,h.nt,h.ng,h.np,h.box,⟨h.sp.row,h.sp.lt⟩,h.pa,h.tw,h.gw,h.le,h.len,h.nw,h.bk,h.ix,h.ss⟩
theorem gQ.read{p:Nat}(hR:py M v.n v.nw v.f v.F v.G v.A v.L)(h:gQ w O1 O2 s v a b ne u M E high t gs W lo (p+1) ug now b' O S pv ps){c:UInt8}(hc:u[p]?=za c){bg:Bool}(Sn:bg=true↔E (p+1)){x:Nat}{b2:cd}{W':zb}(hx:x<b2.m)(hm:b2.m<=b'.m+1)(hn:ru b' b2)(hs:xU v.nw v.f v.G v.L (b'.Ts now) c.toNat bg (b2.Ts x))(st:gR O1 (news O W W') W' s v a b2)(tc:aE O W W')(km:bR W W'):gQ w O1 O2 s v a b ne u M E high t gs W' lo p ug x b2 (news O W W') S pv ps:=by
 have hsz:=h.tc.size;have lt:∀k,k<W.heap.size->¬O k->¬news O W W' k:=λk h1 h2 h3=>h3.elim h2 λh4=>by omega
 have nh:=(ap.1 h.box).1;have du:∀k,pv.ownBlock=za k->k<W.heap.size:=λk e=>by obtain⟨-,aA,e4⟩:=ki h.pa e;exact(ap.1 e4).1
 refine⟨⟨tc.os.trans h.tc.os,tc.tape.trans h.tc.tape,tc.output.trans h.tc.output,aU h.tc.size tc.size,λk hk hn=>(tc.same k (by omega) (λe=>(h.zg k e).elim hn λe=>by omega)).trans (h.tc.same k hk hn)⟩,h.km.trans km,st,h.rn.trans hn,by have:=h.mb;omega,λk hk=>.inl (h.o2 k hk),λk hk=>hk.elim (h.zg k) λe=>.inr (by omega),lt t nh h.nt,lt gs h.sp.cj h.ng,λk e=>lt k (du k e) (h.np k e),(tc.same t nh h.nt).trans h.box,⟨(tc.same gs h.sp.cj h.ng).trans h.sp.row,h.sp.lt⟩,kH h.pa λk e=>tc.same k (du k e) (h.np k e),h.tw,h.gw,by have:=h.le;omega,h.len,hx,?_,λj hj=>?_,h.ss⟩
 ·exact zof hR hc Sn (λq h1 h2=>h.st.rb.EJ now q h.nw h1 h2) (λq h1 h2=>st.rb.EJ x q hx h1 h2) h.bk hs
 ·obtain⟨h1,h2⟩:=h.ix j hj;have:=hn.lo;exact⟨by omega,by rw[(hn.old _ h1).2];exact h2⟩
theorem gQ.push(h:gQ w O1 O2 s v a b ne u M E high t gs W lo at' (at'+1) now b' O S pv ps){W8:zb}{g cap:Nat}(az:W8.ownsRow w.heap.size 3 1 (zk (za ⟨g,0,zc⟩) (ps.length+1) cap) (ps.length+1) (uW ps++[zi .i64 (now:Int)]))(hg:W.grownBy W8 pv.ownBlock)(dg:pv.ownBlock=za g\/W.heap.size<=g)(hB:v.B<=w.heap.size)(h1:∀k,O1 k->k<w.heap.size):gQ w O1 O2 s v a b ne u M E high t gs (W8.setCell ⟨t,3,zc⟩ (zk (za ⟨g,0,zc⟩) (ps.length+1) cap)) lo at' at' now b' O S (zk (za ⟨g,0,zc⟩) (ps.length+1) cap) (ps++[now]):=by
 have tJ:aE (λk=>k=t\/pv.ownBlock=za k) W W8:=(aE.refl _ W).grown hg (λk e=>.inl (.inr e));have nh:=(ap.1 h.box).1;have b8:W8.heap[t]?=_:=(hg.block t nh (λe=>(h.ED e.symm).1 rfl)).trans h.box;have b9:=dF W8 t 3 _ _ (zk (za ⟨g,0,zc⟩) (ps.length+1) cap) b8;have ot:∀k,k≠t->(W8.setCell ⟨t,3,zc⟩ (zk (za ⟨g,0,zc⟩) (ps.length+1) cap)).heap[k]?=W8.heap[k]?:=λk e=>cu _ _ _ _ (show k≠t from e)
 have tc:aE (λk=>k=t\/pv.ownBlock=za k) W (W8.setCell ⟨t,3,zc⟩ (zk (za ⟨g,0,zc⟩) (ps.length+1) cap)):=⟨tJ.os,tJ.tape,tJ.output,by simpa using tJ.size,λk hk hn=>(ot k (λe=>hn (.inl e))).trans (tJ.same k hk hn)⟩;obtain⟨m1,m2,m3⟩:=h.Uj tc (λk e=>e.elim .inl λe=>.inr (.inr e)) hB h1;have hOl:∀k,O k->k<W.heap.size:=λk hk=>(h.st.o2 k hk).2
 refine⟨m1,m2,m3,h.rn,h.mb,h.o2,h.zg,h.nt,h.ng,λk e ho=>?_,b9,⟨(ot gs (λe=>h.tg e.symm)).trans ((hg.block gs h.sp.cj (λe=>(h.ED e.symm).2.1 rfl)).trans h.sp.row),h.sp.lt⟩,?_,h.tw,h.gw,h.le,by rw[pz,List.length_singleton];have:=h.len;omega,h.nw,h.bk,λj hj=>?_,h.ss⟩
 ·have e:g=k:=by simpa [Value.ownBlock]using e
  subst e;rcases dg with e2|e2
  ·exact h.np g e2 ho
  ·have:=hOl g ho;omega
 ·rw[pz,List.length_singleton,zld];refine kH az λk e=>?_
  have e:g=k:=by simpa [Value.ownBlock]using e
  subst e;refine ot g (λe2=>?_);rcases dg with e3|e3
  ·exact(h.ED e3).1 e2
  ·omega
 ·rw[pz,List.length_singleton]at hj
  by_cases e:j<ps.length
  ·rw[cL,qR e,<-cL];exact h.ix j e
  ·obtain rfl:j=ps.length:=by omega
   rw[cL,vo (ai _),zz];have e2:high-1-ps.length=at':=by have:=h.len;omega
   rw[e2];exact⟨h.nw,h.bk⟩
end
structure Mq(w:zb)(O1 O2:Nat->Prop)(s:Nat)(v:ey)(a b:cd)(ne:Nat)(u:aJ)(M:PA)(E:Nat->Prop)(high t gs:Nat)(W:zb)(b':cd)(O:Nat->Prop)(S:Nat->Nat)(pv:zd)(ps:List Nat):Prop where
 tc:aE O2 w W
 km:bR w W
 st:gR O1 O W s v a b'
 rn:ru b b'
 mb:b'.m<=b.m+high
 o2:∀k,O2 k->O k
 zg:∀k,O k->O2 k\/w.heap.size<=k
 nt:¬O t
 ng:¬O gs
 np:∀k,pv.ownBlock=za k->¬O k
 box:W.heap[t]?=za (ze #[zf (za ⟨b'.r,0,zc⟩),zk (za ⟨gs,0,zc⟩) ne ne,zi .i64 high,pv] 195 (0,0))
 sp:aH W ne gs S
 pa:W.ownsRow w.heap.size 3 1 pv ps.length (uW ps)
 tw:w.heap.size<=t
 gw:w.heap.size<=gs
 len:ps.length<=high
 ix:∀j,j<ps.length->ps.getD j 0<b'.m/\si v.nw (b'.Ts (ps.getD j 0)) (gO u M E (high-1-j))
 off:∀i p,i+ps.length<high->¬gO u M E i p
 ss:∀q,ax S q=true↔zR u M E q
theorem gQ.bottom{w:zb}{O1 O2:Nat->Prop}{s:Nat}{v:ey}{a b:cd}{ne:Nat}{u:aJ}{M:PA}{E:Nat->Prop}{high t gs:Nat}{W:zb}{now:Nat}{b':cd}{O:Nat->Prop}{S:Nat->Nat}{pv:zd}{ps:List Nat}(h:gQ w O1 O2 s v a b ne u M E high t gs W 0 0 0 now b' O S pv ps):Mq w O1 O2 s v a b ne u M E high t gs W b' O S pv ps:=
 ⟨h.tc,h.km,h.st,h.rn,by have:=h.mb;omega,h.o2,h.zg,h.nt,h.ng,h.np,by rw[h.rn.r];exact h.box,h.sp,h.pa,h.tw,h.gw,by have:=h.len;omega,h.ix,λi p hi=>by have:=h.len;omega,λq=>(h.ss q).trans ⟨λx=>x.2,λx=>⟨aZ _,x⟩⟩⟩
theorem gQ.early{w:zb}{O1 O2:Nat->Prop}{s:Nat}{v:ey}{a b:cd}{ne:Nat}{u:aJ}{M:PA}{E:Nat->Prop}{high t gs:Nat}{W:zb}{at':Nat}{b':cd}{O:Nat->Prop}{S:Nat->Nat}{pv:zd}{ps:List Nat}(hR:py M v.n v.nw v.f v.F v.G v.A v.L)(h:gQ w O1 O2 s v a b ne u M E high t gs W at' at' at' 0 b' O S pv ps)(hE:∀m,m<=at'->¬E m):Mq w O1 O2 s v a b ne u M E high t gs W b' O S pv ps:=by
 have ae:∀p,¬gO u M E at' p:=λp hb=>by
  have hp:=gO.lt hR hb;have hn:=hR.kC;have h1:=(h.bk p (by omega)).2 hb;have h2:=h.st.rb.zero (p/64) (by omega);unfold ax at h1;rw[h2]at h1;simp at h1
 have oX:∀i p,gO u M E i p->at'<i:=λi p hb=>zqE hE ae hb
 refine⟨h.tc,h.km,h.st,h.rn,by have:=h.mb;omega,h.o2,h.zg,h.nt,h.ng,h.np,by rw[h.rn.r];exact h.box,h.sp,h.pa,h.tw,h.gw,by have:=h.len;omega,h.ix,λi p hi hb=>by have:=h.len;have:=oX i p hb;omega,λq=>(h.ss q).trans ⟨λx=>x.2,λx=>⟨?_,x⟩⟩⟩;rcases x with ⟨h1,_⟩|⟨p,_,h1⟩
 ·rcases gh q at' with e|e
  ·exact absurd h1 (hE q (by omega))
  ·exact e
 ·have:=oX q p h1;omega
end
attribute [local go_sem ↓] wp_at_zero wp_at_succ
theorem Wp{a b:Array zd}{t u:zl}{f g:Nat×Nat}(h:za (Obj.cells a t f)=za (Obj.cells b u g)):a=b:=by cases h;rfl
structure ue(w:zb)(s:Nat)(p:Pt)(X:Nat->Prop)(v:ey)(a b:cd)(O1 O2:Nat->Prop):Prop where
 st:gR O1 O2 w s v a b
 rw:py (bY p 0) v.n v.nw v.f v.F v.G v.A v.L
 em:v.e=true↔(bY p 0).e
 nl:v.n<=2000
 G7:v.nw=((aF p).toNat+63)/64
 lo:∀k,v.b0<=k->k<v.B->X k
 x1:∀k,O1 k->X k
 x2:∀k,O2 k->X k
theorem ue.keep{w w':zb}{s:Nat}{p:Pt}{X:Nat->Prop}{v:ey}{a b:cd}{O1 O2:Nat->Prop}(h:ue w s p X v a b O1 O2)(hk:∀k,X k->w'.heap[k]?=w.heap[k]?)(hm:bR w w')(hz:w'.heap[0]?=w.heap[0]?)(hs:w.heap.size<=w'.heap.size):ue w' s p X v a b O1 O2:=
 ⟨h.st.keep (λk xn=>hk k (xn.elim (λx=>h.lo k x.1 x.2) λx=>x.elim (h.x1 k) (h.x2 k))) hm hz hs,h.rw,h.em,h.nl,h.G7,h.lo,h.x1,h.x2⟩
theorem ue.sX{w:zb}{s:Nat}{p:Pt}{X:Nat->Prop}{v:ey}{a b:cd}{O1 O2:Nat->Prop}(h:ue w s p X v a b O1 O2):X s:=h.lo s h.st.c.s0 h.st.c.s1
def Jm(w:zb)(p:Pt)(X:Nat->Prop)(k:zd):Prop:=k=zf zc\/∃s v a b O1 O2,k=zf (za ⟨s,0,zc⟩)/\ue w s p X v a b O1 O2/\a.m<=50000000/\b.m<=50000000
theorem Jm.keep{w w':zb}{p:Pt}{X:Nat->Prop}{k:zd}(h:Jm w p X k)(hk:∀k,X k->w'.heap[k]?=w.heap[k]?)(hm:bR w w')(hz:w'.heap[0]?=w.heap[0]?)(hs:w.heap.size<=w'.heap.size):Jm w' p X k:=by
 rcases h with h|⟨s,v,a,b,O1,O2,h1,h2,h3⟩
 ·exact .inl h
 ·exact .inr ⟨s,v,a,b,O1,O2,h1,h2.keep hk hm hz hs,h3⟩
structure cE(w0:zb)(pl:Nat)(Q:Nat->Option Pt)(Ow:Nat->Nat->Prop)(w:zb):Prop where
 os:w.os=w0.os
 tape:w.tape=w0.tape
 output:w.output=w0.output
 size:w0.heap.size<=w.heap.size
 old:∀k,k<w0.heap.size->Q k=zc->k≠pl->w.heap[k]?=w0.heap[k]?
 q0:Q 0=zc
 p0:pl≠0
 dR:fG w0
 wi:∃(x0 x1 x2:zd) (r0 room:Nat),w0.heap[pl]?=za (ze #[x0,x1,x2,zi .i64 r0] 189 (0,0))/\w.heap[pl]?=za (ze #[x0,x1,x2,zi .i64 room] 189 (0,0))/\room<=1048576
 pc:∀a p,Q a=za p->∃v f k,w0.heap[a]?=za (ze #[zf (za ⟨pl,0,zc⟩),v,f,zf zc] 222 (0,0))/\w.heap[a]?=za (ze #[zf (za ⟨pl,0,zc⟩),v,f,k] 222 (0,0))/\aR w0 v p/\aF p<=2000/\Jm w p (λk=>Ow k a) k
 ow:∀k a,Ow k a->w0.heap.size<=k/\k<w.heap.size
 dj:∀k a b,Ow k a->Ow k b->a=b
section
variable {w0:zb} {pl:Nat} {Q:Nat->Option Pt} {Ow:Nat->Nat->Prop} {w:zb}
theorem cE.AZ(h:cE w0 pl Q Ow w):pl<w0.heap.size:=by
 obtain⟨x0,x1,x2,r0,room,h1,_⟩:=h.wi;exact(ap.1 h1).1
theorem cE.pos(h:cE w0 pl Q Ow w):0<w0.heap.size:=by have:=h.AZ;omega
theorem cE.aQ(h:cE w0 pl Q Ow w){a:Nat}{p:Pt}(ha:Q a=za p):a<w0.heap.size:=by
 obtain⟨v,f,k,h1,_⟩:=h.pc a p ha;exact(ap.1 h1).1
theorem cE.zero(h:cE w0 pl Q Ow w):w.heap[0]?=w0.heap[0]?:=h.old 0 h.pos h.q0 (λe=>h.p0 e.symm)
theorem cE.eV(h:cE w0 pl Q Ow w){k:Nat}{cs:Array zd}{t:zl}(hk:w0.heap[k]?=za (ze cs t (0,0)))(h1:t≠222)(h2:t≠189):w.heap[k]?=za (ze cs t (0,0)):=by
 refine(h.old k (ap.1 hk).1 ?_ ?_).trans hk
 ·cases hq:Q k with
  |none=>rfl
  |some p=>
   obtain⟨v,f,x,h3,_⟩:=h.pc k p hq;rw[hk]at h3;exact absurd (bP h3) h1
 ·rintro rfl;obtain⟨x0,x1,x2,r0,room,h3,_⟩:=h.wi;rw[hk]at h3;exact absurd (bP h3) h2
theorem cE.marks(h:cE w0 pl Q Ow w):bR w0 w:=λmg f e=>h.eV e (by decide) (by decide)
theorem cE.ne(h:cE w0 pl Q Ow w){a:Nat}{p:Pt}(ha:Q a=za p):a≠pl:=by
 rintro rfl;obtain⟨v,f,x,h3,_⟩:=h.pc a p ha;obtain⟨x0,x1,x2,r0,room,h4,_⟩:=h.wi;rw[h3]at h4;exact absurd (bP h4) (by decide)
theorem cE.turn(h:cE w0 pl Q Ow w){a:Nat}{p:Pt}(ha:Q a=za p){X X':Nat->Prop}{w':zb}(hX:∀k,X k->w0.heap.size<=k/\(Ow k a\/∀b,¬Ow k b))(tc:aE (λk=>k=pl\/k=a\/X k) w w')(hm:bR w w')
  (du:∃(x0 x1 x2:zd) (r room:Nat),w.heap[pl]?=za (ze #[x0,x1,x2,zi .i64 r] 189 (0,0))/\w'.heap[pl]?=za (ze #[x0,x1,x2,zi .i64 room] 189 (0,0))/\room<=1048576)
  (yX:∃v f k k',w.heap[a]?=za (ze #[zf (za ⟨pl,0,zc⟩),v,f,k] 222 (0,0))/\w'.heap[a]?=za (ze #[zf (za ⟨pl,0,zc⟩),v,f,k'] 222 (0,0))/\Jm w' p X' k')
  (cV:∀k,X' k->w0.heap.size<=k/\k<w'.heap.size/\(Ow k a\/w.heap.size<=k\/∀b,¬Ow k b)):cE w0 pl Q (λk b=>(b=a/\X' k)\/(b≠a/\Ow k b)) w':=by
 have qp:=h.aQ ha;have TA:=h.AZ;have hsz:=h.size;have hsz':=tc.size;have kR:=h.ne ha;have Cz:∀k,k<w0.heap.size->¬X k:=λk hk hx=>by have:=(hX k hx).1;omega
 have hold:∀k,k<w0.heap.size->k≠pl->k≠a->w'.heap[k]?=w.heap[k]?:=λk h1 h2 h3=>tc.same k (by omega) (λe=>e.elim h2 λe=>e.elim h3 (Cz k h1))
 have hz:w'.heap[0]?=w.heap[0]?:=hold 0 h.pos (λe=>h.p0 e.symm) (λe=>by have:=h.q0;rw[e,ha]at this;cases this);refine⟨tc.os.trans h.os,tc.tape.trans h.tape,tc.output.trans h.output,by omega,λk h1 h2 h3=>(hold k h1 h3 (λe=>by rw[e,ha]at h2;cases h2)).trans (h.old k h1 h2 h3),h.q0,h.p0,h.dR,?_,λb q hb=>?_,λk b hk=>?_,λk b c hb hc=>?_⟩
 ·obtain⟨x0,x1,x2,r0,room,h1,h2,h3⟩:=h.wi;obtain⟨y0,y1,y2,s0,zzp,k1,k2,k3⟩:=du;rw[h2]at k1;have e:=Wp k1;simp only[Array.mk.injEq,List.cons.injEq,and_true]at e;obtain⟨rfl,rfl,rfl,-⟩:=e;exact⟨_,_,_,r0,zzp,h1,k2,k3⟩
 ·obtain⟨v,f,k,h1,h2,h3,h4,h5⟩:=h.pc b q hb
  by_cases e:b=a
  ·subst e;rw[ha]at hb;cases hb;obtain⟨v',f',k',k2,g1,g2,g3⟩:=yX;rw[h2]at g1;have e:=Wp g1;simp only[Array.mk.injEq,List.cons.injEq,and_true,true_and]at e;obtain⟨rfl,rfl,-⟩:=e;refine⟨_,_,k2,h1,g2,h3,h4,?_⟩;have:(λk=>(b=b/\X' k)\/(b≠b/\Ow k b))=X':=funext λk=>propext ⟨λx=>x.elim (λy=>y.2) (λy=>absurd rfl y.1),λx=>.inl ⟨rfl,x⟩⟩
   rw[this];exact g3
  ·have bu:=h.aQ hb;refine⟨v,f,k,h1,(hold b bu (h.ne hb) e).trans h2,h3,h4,?_⟩;have:(λk=>(b=a/\X' k)\/(b≠a/\Ow k b))=λk=>Ow k b:=funext λk=>propext ⟨λx=>x.elim (λy=>absurd y.1 e) (λy=>y.2),λx=>.inr ⟨e,x⟩⟩
   rw[this];refine h5.keep (λk hk=>?_) hm hz hsz';have il:=h.ow k b hk;refine tc.same k il.2 ?_;rintro (rfl|rfl|hx)
   ·omega
   ·omega
   ·rcases(hX k hx).2 with h6|h6
    ·exact e (h.dj k b a hk h6)
    ·exact h6 b hk
 ·rcases hk with ⟨rfl,hk⟩|⟨-,hk⟩
  ·exact⟨(cV k hk).1,(cV k hk).2.1⟩
  ·have:=h.ow k b hk;omega
 ·have key:∀d,d≠a->Ow k d->¬X' k:=λd hd ho hx=>by
   rcases(cV k hx).2.2 with h6|h6|h6
   ·exact hd (h.dj k d a ho h6)
   ·have:=h.ow k d ho;omega
   ·exact h6 d ho
  rcases hb with ⟨rfl,hb⟩|⟨h1,hb⟩<;>rcases hc with ⟨rfl,hc⟩|⟨h2,hc⟩
  ·rfl
  ·exact absurd hb (key c h2 hc)
  ·exact absurd hc (key b h1 hb)
  ·exact h.dj k b c hb hc
end
structure pB(pl a:Nat)(Ow:Nat->Nat->Prop)(w:zb)(aI:Nat->Nat->Prop)(w':zb)(X:Nat->Prop):Prop where
 tc:aE (λk=>k=pl\/k=a\/Ow k a) w w'
 km:bR w w'
 Ut:∀k b,b≠a->(aI k b↔Ow k b)
 own:∀k,aI k a->Ow k a\/w.heap.size<=k
 xs:∀k,X k->Ow k a\/w.heap.size<=k
theorem pB.refl(pl a:Nat)(Ow:Nat->Nat->Prop)(w:zb):pB pl a Ow w Ow w (λk=>Ow k a):=⟨aE.refl _ _,λ_ _ e=>e,λ_ _ _=>Iff.rfl,λ_ h=>.inl h,λ_ h=>.inl h⟩
structure lS(w0:zb)(pl:Nat)(Q:Nat->Option Pt)(a:Nat)(p:Pt)(Ow:Nat->Nat->Prop)(w:zb)(s:Nat)(X:Nat->Prop)(v:ey)(ra rb:cd)(O1 O2:Nat->Prop):Prop where
 inv:cE w0 pl Q Ow w
 q:Q a=za p
 st:ue w s p X v ra rb O1 O2
 x0:∀k,X k->w0.heap.size<=k/\k<w.heap.size
 x1:((∀k,X k↔Ow k a)/\w.cell? ⟨a,3,zc⟩=za (zf (za ⟨s,0,zc⟩)))\/∀k b,X k->¬Ow k b
theorem lS.step{w0:zb}{pl:Nat}{Q:Nat->Option Pt}{a:Nat}{p:Pt}{Ow:Nat->Nat->Prop}{w:zb}{s:Nat}{X:Nat->Prop}{v:ey}{ra rb:cd}{O1 O2:Nat->Prop}(h:lS w0 pl Q a p Ow w s X v ra rb O1 O2){w':zb}{X':Nat->Prop}{v':ey}{wj zj:cd}{zO wU:Nat->Prop}(tc:aE X w w')(hm:bR w w')(st:ue w' s p X' v' wj zj zO wU)(ha:wj.m<=50000000)(hb:zj.m<=50000000)(cV:∀k,X' k->X k\/w.heap.size<=k)(hl:∀k,X' k->k<w'.heap.size):
  ∃aI,lS w0 pl Q a p aI w' s X' v' wj zj zO wU/\(∀k b,aI k b->Ow k b\/X' k)/\∀jo nj,pB pl a jo nj Ow w X->pB pl a jo nj aI w' X':=by
 have TA:=h.inv.AZ;have qp:=h.inv.aQ h.q;have hsz:=h.inv.size;have du:=h.inv.wi;have yX:=h.inv.pc a p h.q;have Cz:∀k,k<w0.heap.size->¬X k:=λk hk hx=>by have:=(h.x0 k hx).1;omega
 obtain⟨x0,x1,x2,r0,room,-,h2,h3⟩:=du;obtain⟨v0,f0,k0,-,g2,-,-,-⟩:=yX;have p2:w'.heap[pl]?=_:=(tc.same pl (by omega) (Cz pl TA)).trans h2;have a2:w'.heap[a]?=_:=(tc.same a (by omega) (Cz a qp)).trans g2;have Ox:∀k,X' k->w0.heap.size<=k/\k<w'.heap.size:=λk hk=>⟨(cV k hk).elim (λh1=>(h.x0 k h1).1) (λh1=>by omega),hl k hk⟩
 have tcW:aE (λk=>k=pl\/k=a\/X k) w w':=tc.mono λk _ hk=>.inr (.inr hk)
 have Zm:∀aI,(∀k b,b≠a->(aI k b↔Ow k b))->(∀k,aI k a->Ow k a\/X' k)->∀jo nj,pB pl a jo nj Ow w X->pB pl a jo nj aI w' X':=λaI h1 h2 jo nj c=>by
  have TQ:∀k,X' k->jo k a\/nj.heap.size<=k:=λk hk=>by
   rcases cV k hk with h5|h5
   ·exact c.xs k h5
   ·have:=c.tc.size;exact .inr (by omega)
  refine⟨⟨tc.os.trans c.tc.os,tc.tape.trans c.tc.tape,tc.output.trans c.tc.output,aU c.tc.size tc.size,λk hk hn=>?_⟩,c.km.trans hm,λk b hb=>(h1 k b hb).trans (c.Ut k b hb),λk hk=>?_,TQ⟩
  ·refine(tc.same k (by have:=c.tc.size;omega) (λhx=>?_)).trans (c.tc.same k hk hn);rcases c.xs k hx with h5|h5
   ·exact hn (.inr (.inr h5))
   ·omega
  ·rcases h2 k hk with h5|h5
   ·exact c.own k h5
   ·exact TQ k h5
 rcases h.x1 with ⟨x1,jy⟩|x1
 ·have il:k0=zf (za ⟨s,0,zc⟩):=by
   have:w.cell? ⟨a,3,zc⟩=za k0:=(aO _ _ _ _ _ _ g2:_=_);rw[this]at jy;exact Option.some.inj jy
  subst il;refine⟨_,⟨h.inv.turn h.q (X:=X) (X':=X') (λk hk=>⟨(h.x0 k hk).1,.inl ((x1 k).1 hk)⟩) tcW hm ⟨_,_,_,_,_,h2,p2,h3⟩ ⟨_,_,_,_,g2,a2,.inr ⟨s,v',wj,zj,zO,wU,rfl,st,ha,hb⟩⟩ (λk hk=>⟨(Ox k hk).1,(Ox k hk).2,?_⟩),h.q,st,Ox,.inl ⟨λk=>⟨λhk=>.inl ⟨rfl,hk⟩,λhk=>hk.elim (λx=>x.2) (λx=>absurd rfl x.1)⟩,(aO _ _ _ _ _ _ a2:_=_)⟩⟩,λk b hk=>hk.elim (λy=>.inr y.2) (λy=>.inl y.2),Zm _ (λk b hb=>⟨λx=>x.elim (λy=>absurd y.1 hb) (λy=>y.2),λx=>.inr ⟨hb,x⟩⟩) (λk hk=>hk.elim (λy=>.inr y.2) (λy=>absurd rfl y.1))⟩;rcases cV k hk with h5|h5
  ·exact .inl ((x1 k).1 h5)
  ·exact .inr (.inl h5)
 ·have hz:w'.heap[0]?=w.heap[0]?:=tc.same 0 (by have:=h.inv.pos;omega) (Cz 0 h.inv.pos);refine⟨Ow,⟨⟨tc.os.trans h.inv.os,tc.tape.trans h.inv.tape,tc.output.trans h.inv.output,aU hsz tc.size,λk g1 g2 g3=>(tc.same k (by omega) (Cz k g1)).trans (h.inv.old k g1 g2 g3),h.inv.q0,h.inv.p0,h.inv.dR,?_,λb q hb=>?_,λk b hk=>?_,h.inv.dj⟩,h.q,st,Ox,.inr λk b hk ho=>?_⟩,λ_ _ hk=>.inl hk,Zm Ow (λ_ _ _=>Iff.rfl) (λk hk=>.inl hk)⟩
  ·obtain⟨y0,y1,y2,r0,room,k1,k2,k3⟩:=h.inv.wi;exact⟨_,_,_,_,_,k1,(tc.same pl (by omega) (Cz pl TA)).trans k2,k3⟩
  ·obtain⟨v1,f1,k1,q1,q2,q3,q4,q5⟩:=h.inv.pc b q hb;have bu:=h.inv.aQ hb;exact⟨v1,f1,k1,q1,(tc.same b (by omega) (Cz b bu)).trans q2,q3,q4,q5.keep (λk hk=>tc.same k (h.inv.ow k b hk).2 (λhx=>x1 k b hx hk)) hm hz tc.size⟩
  ·have:=h.inv.ow k b hk;have:=tc.size;omega
  ·rcases cV k hk with h5|h5
   ·exact x1 k b h5 ho
   ·have:=h.inv.ow k b ho;omega
theorem lS.below{w0:zb}{pl:Nat}{Q:Nat->Option Pt}{a:Nat}{p:Pt}{Ow:Nat->Nat->Prop}{w:zb}{s:Nat}{X:Nat->Prop}{v:ey}{ra rb:cd}{O1 O2:Nat->Prop}(h:lS w0 pl Q a p Ow w s X v ra rb O1 O2){w':zb}(hi:cE w0 pl Q Ow w')(hb:Below w.heap.size w w'):lS w0 pl Q a p Ow w' s X v ra rb O1 O2:=by
 have qp:=h.inv.aQ h.q;have hsz:=h.inv.size;have gX:=h.inv.pos;refine⟨hi,h.q,h.st.keep (λk hk=>hb.block k (h.x0 k hk).2) (bR.of hb) (hb.block 0 (by omega)) hb.size,λk hk=>⟨(h.x0 k hk).1,bA (h.x0 k hk).2 hb.size⟩,?_⟩;rcases h.x1 with ⟨h1,h2⟩|h1
 ·exact .inl ⟨h1,(hb.cell (p:=⟨a,3,zc⟩) (by show a<w.heap.size;omega)).trans h2⟩
 ·exact .inr h1
theorem pB.below{pl a:Nat}{Ow dQ:Nat->Nat->Prop}{w w1 w2:zb}{X:Nat->Prop}(c:pB pl a Ow w dQ w1 X)(hb:Below w1.heap.size w1 w2):pB pl a Ow w dQ w2 X:=⟨c.tc.trans (.cH hb),c.km.trans (bR.of hb),c.Ut,c.own,c.xs⟩
structure da(w0:zb)(pl:Nat)(Q:Nat->Option Pt)(Ow:Nat->Nat->Prop)(w:zb)(aI:Nat->Nat->Prop)(w':zb):Prop where
 inv:cE w0 pl Q aI w'
 size:w.heap.size<=w'.heap.size
 eG:∀k,w0.heap.size<=k->k<w.heap.size->(∀b,¬Ow k b)->w'.heap[k]?=w.heap[k]?/\∀b,¬aI k b
theorem da.trans{w0:zb}{pl:Nat}{Q:Nat->Option Pt}{Ow dQ pC:Nat->Nat->Prop}{w w1 w2:zb}(h:da w0 pl Q Ow w dQ w1)(k:da w0 pl Q dQ w1 pC w2):da w0 pl Q Ow w pC w2:=
 ⟨k.inv,aU h.size k.size,λj h1 h2 h3=>by
  obtain⟨e1,f1⟩:=h.eG j h1 h2 h3;obtain⟨e2,f2⟩:=k.eG j h1 (bA h2 h.size) f1;exact⟨e2.trans e1,f2⟩⟩
theorem cE.below{w0:zb}{pl:Nat}{Q:Nat->Option Pt}{Ow:Nat->Nat->Prop}{w w':zb}(h:cE w0 pl Q Ow w)(hb:Below w.heap.size w w'):cE w0 pl Q Ow w':=by
 have hsz:=h.size;have iY:=hb.size;refine⟨hb.os.trans h.os,hb.tape.trans h.tape,hb.output.trans h.output,by omega,λk h1 h2 h3=>(hb.block k (by omega)).trans (h.old k h1 h2 h3),h.q0,h.p0,h.dR,?_,λb q hq=>?_,λk b hk=>?_,h.dj⟩
 ·obtain⟨x0,x1,x2,r0,room,h1,h2,h3⟩:=h.wi;exact⟨_,_,_,_,_,h1,(hb.block pl (by have:=h.AZ;omega)).trans h2,h3⟩
 ·obtain⟨v1,f1,k1,q1,q2,q3,q4,q5⟩:=h.pc b q hq;exact⟨v1,f1,k1,q1,(hb.block b (by have:=h.aQ hq;omega)).trans q2,q3,q4,q5.keep (λk hk=>hb.block k (h.ow k b hk).2) (bR.of hb) (hb.block 0 (by have:=h.pos;omega)) iY⟩
 ·have:=h.ow k b hk;omega
theorem da.cH{w0:zb}{pl:Nat}{Q:Nat->Option Pt}{Ow:Nat->Nat->Prop}{w w':zb}(h:cE w0 pl Q Ow w)(hb:Below w.heap.size w w'):da w0 pl Q Ow w Ow w':=
 ⟨h.below hb,hb.size,λk _ h2 h3=>⟨hb.block k h2,h3⟩⟩
theorem da.below{w0:zb}{pl:Nat}{Q:Nat->Option Pt}{Ow dQ:Nat->Nat->Prop}{w w1 w2:zb}(h:da w0 pl Q Ow w dQ w1)(hb:Below w1.heap.size w1 w2):da w0 pl Q Ow w dQ w2:=h.trans (.cH h.inv hb)
theorem lS.zh{w0:zb}{pl:Nat}{Q:Nat->Option Pt}{a:Nat}{p:Pt}{Ow:Nat->Nat->Prop}{w:zb}{s:Nat}{X:Nat->Prop}{v:ey}{ra rb:cd}{O1 O2:Nat->Prop}(h:lS w0 pl Q a p Ow w s X v ra rb O1 O2){jo:Nat->Nat->Prop}{nj:zb}(c:pB pl a jo nj Ow w X):da w0 pl Q jo nj Ow w:=
 ⟨h.inv,c.tc.size,λk h1 h2 h3=>⟨c.tc.same k h2 (λe=>by
  have:=h.inv.AZ;have:=h.inv.aQ h.q;rcases e with e|e|e
  ·omega
  ·omega
  ·exact h3 a e),λb hb=>by
  by_cases e:b=a
  ·subst e;rcases c.own k hb with h5|h5
   ·exact h3 b h5
   ·omega
  ·exact h3 b ((c.Ut k b e).1 hb)⟩⟩
end Go.Proofs.YtdimhpfiieepiaaGreatDoor
