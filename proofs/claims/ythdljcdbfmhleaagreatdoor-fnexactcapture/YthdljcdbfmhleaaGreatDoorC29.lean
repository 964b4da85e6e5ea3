import Derived.Test.YthdljcdbfmhleaaGreatDoorC28
namespace Go.Proofs.YthdljcdbfmhleaaGreatDoor
open Go.RowKit
section
variable {O O1 O2:Nat -> Prop}{w:World}{r nw bt ga gl gm gv m s:Nat}{lv sS sP:Value}{L gx:Nat -> Nat}{Ts:Nat -> Nat -> Nat}{es:List (Int×Int)}{a b:RdV}{v:StV}
attribute [local go_sem ↓] Go.wp_at_zero Go.wp_at_succ
def Omin(r gm gv:Nat)(sS sP:Value)(gx:Nat->Nat)(m:Nat)(k:Nat):Prop:=k=r\/k=gm\/k=gv\/sS.ownBlock=some k\/sP.ownBlock=some k\/∃i,i<m/\k=gx i
theorem RdS.least(h:RdS O w r nw bt ga gl lv L gm gv sS sP gx Ts m es):RdS (Omin r gm gv sS sP gx m) w r nw bt ga gl lv L gm gv sS sP gx Ts m es:=
 ⟨h.box,h.nm,h.mv,h.so,h.po,h.set,h.dif,.inl rfl,.inr (.inl rfl),.inr (.inr (.inl rfl)),fun _ e=>.inr (.inr (.inr (.inl e))),fun _ e=>.inr (.inr (.inr (.inr (.inl e)))),fun i hi=>.inr (.inr (.inr (.inr (.inr ⟨i,hi,rfl⟩)))),h.nd⟩
theorem RdS.leastO(h:RdS O w r nw bt ga gl lv L gm gv sS sP gx Ts m es){k:Nat}(hk:Omin r gm gv sS sP gx m k):O k:=by
 rcases hk with rfl|rfl|rfl|e|e|⟨i,hi,rfl⟩
 ·exact h.or
 ·exact h.om
 ·exact h.ov
 ·exact h.os k e
 ·exact h.op k e
 ·exact h.ox i hi
theorem RdS.noM(h:RdS O w r nw bt ga gl lv L gm gv sS sP gx Ts m es){k:Nat}(hk:Omin r gm gv sS sP gx m k){cs:Array Value}:w.heap[k]?≠some (.cells cs 197 (0,0)):=fun e=>by
 rcases hk with rfl|rfl|rfl|e2|e2|⟨i,hi,rfl⟩
 ·rw[h.box] at e;exact absurd (zad e) (by decide)
 ·rw[h.nm] at e;cases e
 ·rw[h.mv] at e;cases e
 ·obtain⟨-,cur,e3⟩:=zaP h.so e2;rw[e3] at e;exact absurd (zad e) (by decide)
 ·obtain⟨-,cur,e3⟩:=zaP h.po e2;rw[e3] at e;exact absurd (zad e) (by decide)
 ·rw[(h.set i hi).row] at e;exact absurd (zad e) (by decide)
theorem zkO{B:Nat}{n:Nat}{sv fv:Value}{lr mk:Nat->Nat}{Lk:Nat->Nat->Nat}{A:Nat->Nat}{f:Nat->Nat->Bool}(C:StC B w n nw bt ga gl lv sv fv lr mk Lk A L f)(hO:∀k,O k->B<=k/\k<w.heap.size)(h:RdS O w r nw bt ga gl lv L gm gv sS sP gx Ts m es)(hM:MvOk nw f Lk A Ts m es)(hS:ziW n nw Ts m)(i c:Nat)(b:Bool)(hi:i<m)(hc:c<256)(hm:m<=100000000):
  Calls Tryz.prog 92 #[.pointer (some ⟨r,0,none⟩),.int .i64 i,.int .u8 c,.bool b] w fun e w'=>zk2 O w n r nw bt ga gl lv f Lk A L gm gv gx Ts m i c b e w'/\zaJ w w':=by
 refine(zql C (O:=Omin r gm gv sS sP gx m) (fun k hk=>hO k (h.leastO hk)) h.least hM hS i c b hi hc hm).mono ?_;rintro e w' ⟨t,m',sS',sP',gx',Ts',es',h1,h2,h3,h4,h5,h6,h7,h8,h9,tc⟩;exact⟨⟨t,m',sS',sP',gx',Ts',es',h1,h2.mono fun k hk=>hk.elim (fun x=>.inl (h.leastO x)) .inr,h3,h4,h5,h6,h7,h8,h9,tc.mono fun k _ hk=>h.leastO hk⟩,fun mg f e=>(tc.same mg (zrc.1 e).1 (fun ho=>h.noM ho e)).trans e⟩
structure RdN(a a':RdV):Prop where
 r:a'.r=a.r
 lo:a.m<=a'.m
 old:∀j,j<a.m->a'.gx j=a.gx j/\a'.Ts j=a.Ts j
theorem RdN.refl(a:RdV):RdN a a:=⟨rfl,zsa _,fun _ _=>⟨rfl,rfl⟩⟩
theorem RdN.trans{c:RdV}(h:RdN a b)(k:RdN b c):RdN a c:=⟨k.r.trans h.r,zsb h.lo k.lo,fun j hj=>by
 have h1:=h.old j hj;have h2:=k.old j (zsc hj h.lo);exact⟨h2.1.trans h1.1,h2.2.trans h1.2⟩⟩
def news(O:Nat->Prop)(w w':World)(k:Nat):Prop:=O k\/(w.heap.size<=k/\k<w'.heap.size)
def RdBk(O1 O2:Nat->Prop)(w:World)(s:Nat)(v:StV)(a b:RdV)(i c:Nat)(bg:Bool)(e:Ending)(w':World):Prop:=
 ∃(t:Nat) (b':RdV),e=.returned (.int .i64 t)/\t<b'.m/\b'.m<=b.m+1/\RdN b b'/\zfg v.nw v.f v.G v.L (b.Ts i) c bg (b'.Ts t)/\Strd O1 (news O2 w w') w' s v a b'/\zan O2 w w'/\zaJ w w'
theorem zkN(h:Strd O1 O2 w s v a b)(i c:Nat)(bg:Bool)(hi:i<b.m)(hc:c<256)(hm:b.m<=100000000):
  Calls Tryz.prog 92 #[.pointer (some ⟨b.r,0,none⟩),.int .i64 i,.int .u8 c,.bool bg] w fun e w'=>RdBk O1 O2 w s v a b i c bg e w':=by
 refine(zkO h.c.c2 h.o2 h.rb.s h.rb.mv h.rb.sets i c bg hi hc hm).mono ?_;rintro e w' ⟨⟨t,m',sS,sP,gx',Ts',es',rfl,hR,ht,hm1,hm2,hold,hst,hmv,hsb,tc⟩,km⟩;have hle:=h.c.c1.le;have hsz:=tc.size;have lowB:∀k,k<v.B->w'.heap[k]?=w.heap[k]?:=fun k hk=>tc.same k (by omega) (fun ho=>by have:=(h.o2 k ho).1;omega)
 refine⟨t,⟨b.r,b.gm,b.gv,sS,sP,gx',Ts',m',es'⟩,rfl,ht,hm2,⟨rfl,hm1,hold⟩,hst,⟨(lowB s h.c.s1).trans h.box,⟨h.c.c1.keep lowB (by omega),h.c.c2.keep lowB (by omega),h.c.p0,h.c.s0,h.c.s1,h.c.tb,h.c.ab,h.c.lb,h.c.sb,h.c.fb,h.c.bb,h.c.frb,h.c.brb,h.c.ne⟩,h.ra.keep (fun k h1 _=>tc.same k (h.o1 k h1).2 (h.o12 k h1)),⟨hR,hmv,hsb,fun x hx=>?_,by show 0<m';omega⟩,fun k hk=>⟨(h.o1 k hk).1,zsc (h.o1 k hk).2 hsz⟩,fun k hk=>?_,fun k h1 h2=>?_⟩,tc,km⟩
 ·show Ts' 0 x=0;rw[(hold 0 h.rb.pos).2];exact h.rb.zero x hx
 ·rcases hk with hk|hk
  ·exact⟨(h.o2 k hk).1,zsc (h.o2 k hk).2 hsz⟩
  ·exact⟨by omega,hk.2⟩
 ·rcases h2 with h2|h2
  ·exact h.o12 k h1 h2
  ·have:=(h.o1 k h1).2;omega
def RdAh(O1 O2:Nat->Prop)(w:World)(s:Nat)(v:StV)(a b:RdV)(i c:Nat)(bg:Bool)(e:Ending)(w':World):Prop:=
 ∃(t:Nat) (a':RdV),e=.returned (.int .i64 t)/\t<a'.m/\a'.m<=a.m+1/\RdN a a'/\zfg v.nw v.f v.F v.A (a.Ts i) c bg (a'.Ts t)/\Strd (news O1 w w') O2 w' s v a' b/\zan O1 w w'/\zaJ w w'
theorem zo8(h:Strd O1 O2 w s v a b)(i c:Nat)(bg:Bool)(hi:i<a.m)(hc:c<256)(hm:a.m<=100000000):
  Calls Tryz.prog 92 #[.pointer (some ⟨a.r,0,none⟩),.int .i64 i,.int .u8 c,.bool bg] w fun e w'=>RdAh O1 O2 w s v a b i c bg e w':=by
 refine(zkO h.c.c1 h.o1 h.ra.s h.ra.mv h.ra.sets i c bg hi hc hm).mono ?_;rintro e w' ⟨⟨t,m',sS,sP,gx',Ts',es',rfl,hR,ht,hm1,hm2,hold,hst,hmv,hsb,tc⟩,km⟩;have hle:=h.c.c1.le;have hsz:=tc.size;have lowB:∀k,k<v.B->w'.heap[k]?=w.heap[k]?:=fun k hk=>tc.same k (by omega) (fun ho=>by have:=(h.o1 k ho).1;omega)
 refine⟨t,⟨a.r,a.gm,a.gv,sS,sP,gx',Ts',m',es'⟩,rfl,ht,hm2,⟨rfl,hm1,hold⟩,hst,⟨(lowB s h.c.s1).trans h.box,⟨h.c.c1.keep lowB (by omega),h.c.c2.keep lowB (by omega),h.c.p0,h.c.s0,h.c.s1,h.c.tb,h.c.ab,h.c.lb,h.c.sb,h.c.fb,h.c.bb,h.c.frb,h.c.brb,h.c.ne⟩,⟨hR,hmv,hsb,fun x hx=>?_,by show 0<m';omega⟩,h.rb.keep (fun k h1 _=>tc.same k (h.o2 k h1).2 (fun ho=>h.o12 k ho h1)),fun k hk=>?_,fun k hk=>⟨(h.o2 k hk).1,zsc (h.o2 k hk).2 hsz⟩,fun k h1 h2=>?_⟩,tc,km⟩
 ·show Ts' 0 x=0;rw[(hold 0 h.ra.pos).2];exact h.ra.zero x hx
 ·rcases hk with hk|hk
  ·exact⟨(h.o1 k hk).1,zsc (h.o1 k hk).2 hsz⟩
  ·exact⟨by omega,hk.2⟩
 ·rcases h1 with h1|h1
  ·exact h.o12 k h1 h2
  ·have:=(h.o2 k h2).2;omega
theorem Strd.other{w':World}(h:Strd O1 O2 w s v a b){S:Nat->Prop}(tc:zan S w w')(hB:∀k,S k->v.B<=k)(h1:∀k,S k->¬O1 k)(h2:∀k,S k->¬O2 k):Strd O1 O2 w' s v a b:=by
 have hle:=h.c.c1.le;have hsz:=tc.size;have lowB:∀k,k<v.B->w'.heap[k]?=w.heap[k]?:=fun k hk=>tc.same k (by omega) (fun ho=>by have:=hB k ho;omega)
 exact⟨(lowB s h.c.s1).trans h.box,⟨h.c.c1.keep lowB (by omega),h.c.c2.keep lowB (by omega),h.c.p0,h.c.s0,h.c.s1,h.c.tb,h.c.ab,h.c.lb,h.c.sb,h.c.fb,h.c.bb,h.c.frb,h.c.brb,h.c.ne⟩,h.ra.keep (fun k g _=>tc.same k (h.o1 k g).2 (fun x=>h1 k x g)),h.rb.keep (fun k g _=>tc.same k (h.o2 k g).2 (fun x=>h2 k x g)),fun k hk=>⟨(h.o1 k hk).1,zsc (h.o1 k hk).2 hsz⟩,fun k hk=>⟨(h.o2 k hk).1,zsc (h.o2 k hk).2 hsz⟩,h.o12⟩
end
section
def zcC(ps:List Nat):List Value:=ps.map fun(i:Nat)=>Value.int .i64 (i:Int)
theorem zjn(ps:List Nat)(i:Nat):zcC (ps++[i])=zcC ps++[.int .i64 (i:Int)]:=by simp[zcC]
theorem za1{w:World}{g:Nat}{a0 a1 a2 a3:Value}{t:TypeId}(h:w.heap[g]?=some (.cells #[a0,a1,a2,a3] t (0,0))):w.cell? ⟨g,0,none⟩=some a0/\w.cell? ⟨g,1,none⟩=some a1/\w.cell? ⟨g,2,none⟩=some a2/\w.cell? ⟨g,3,none⟩=some a3:=by
 have:∀o,w.cell? ⟨g,o,none⟩=#[a0,a1,a2,a3][o]?:=fun _=>zsm _ _ _ _ _ _ h
 exact⟨this 0,this 1,this 2,this 3⟩
structure BkS(w:World)(O1 O2:Nat->Prop)(s:Nat)(v:StV)(a b:RdV)(ne:Nat)(u:Word)(M:PA)(E:Nat->Prop)(high t gs:Nat)(W:World)(lo at' at0 now:Nat)(b':RdV)(O:Nat->Prop)(S:Nat->Nat)(pv:Value)(ps:List Nat):Prop where
 tc:zan O2 w W
 km:zaJ w W
 st:Strd O1 O W s v a b'
 rn:RdN b b'
 mb:b'.m+at'<=b.m+high
 o2:∀k,O2 k->O k
 o2':∀k,O k->O2 k\/w.heap.size<=k
 nt:¬O t
 ng:¬O gs
 np:∀k,pv.ownBlock=some k->¬O k
 box:W.heap[t]?=some (.cells #[.pointer (some ⟨b.r,0,none⟩),.slice (some ⟨gs,0,none⟩) ne ne,.int .i64 high,pv] 131 (0,0))
 sp:zal W ne gs S
 pa:W.ownsRow w.heap.size 3 1 pv ps.length (zcC ps)
 tw:w.heap.size<=t
 gw:w.heap.size<=gs
 le:at'<=high
 len:ps.length+at0=high
 nw:now<b'.m
 bk:zdG v.nw (b'.Ts now) (Back u M E at')
 ix:∀j,j<ps.length->ps.getD j 0<b'.m/\zdG v.nw (b'.Ts (ps.getD j 0)) (Back u M E (high-1-j))
 ss:∀q,zae S q=true↔lo<=q/\Sta u M E q
section
variable {w:World} {O1 O2:Nat->Prop} {s:Nat} {v:StV} {a b:RdV} {ne:Nat} {u:Word} {M:PA} {E:Nat->Prop} {high t gs:Nat} {W:World} {lo at' at0 now:Nat} {b':RdV} {O:Nat->Prop} {S:Nat->Nat} {pv:Value} {ps:List Nat}
theorem BkS.tg(h:BkS w O1 O2 s v a b ne u M E high t gs W lo at' at0 now b' O S pv ps):t≠gs:=fun e=>by
 have h1:=h.box;have h2:=h.sp.row;rw[e,h2] at h1;exact absurd (zad h1) (by decide)
theorem BkS.pne(h:BkS w O1 O2 s v a b ne u M E high t gs W lo at' at0 now b' O S pv ps){k:Nat}(hk:pv.ownBlock=some k):k≠t/\k≠gs/\w.heap.size<=k:=by
 obtain⟨h1,cur,h2⟩:=zaP h.pa hk;refine⟨fun e=>?_,fun e=>?_,h1⟩
 ·rw[e,h.box] at h2;exact absurd (zad h2) (by decide)
 ·rw[e,h.sp.row] at h2;exact absurd (zad h2) (by decide)
theorem BkS.mine(h:BkS w O1 O2 s v a b ne u M E high t gs W lo at' at0 now b' O S pv ps){T:Nat->Prop}{W':World}(tc:zan T W W')(hT:∀k,T k->k=t\/k=gs\/pv.ownBlock=some k)(hB:v.B<=w.heap.size)(h1:∀k,O1 k->k<w.heap.size):zan O2 w W'/\zaJ w W'/\Strd O1 O W' s v a b':=by
 have hw:∀k,T k->w.heap.size<=k:=fun k hk=>by
  rcases hT k hk with e|e|e
  ·rw[e];exact h.tw
  ·rw[e];exact h.gw
  ·exact(h.pne e).2.2
 refine⟨⟨tc.os.trans h.tc.os,tc.tape.trans h.tc.tape,tc.output.trans h.tc.output,zsb h.tc.size tc.size,fun k hk hn=>(tc.same k (by have:=h.tc.size;omega) (fun e=>by have:=hw k e;omega)).trans (h.tc.same k hk hn)⟩,h.km.trans fun mg f e=>(tc.same mg (zrc.1 e).1 (fun e2=>?_)).trans e,h.st.other tc (fun k e=>by have:=hw k e;omega) (fun k e ho=>by have:=hw k e;have:=h1 k ho;omega) (fun k e ho=>?_)⟩
 ·rcases hT mg e2 with e3|e3|e3
  ·rw[e3,h.box] at e;exact absurd (zad e) (by decide)
  ·rw[e3,h.sp.row] at e;exact absurd (zad e) (by decide)
  ·obtain⟨-,cur,e4⟩:=zaP h.pa e3;rw[e4] at e;exact absurd (zad e) (by decide)
 ·rcases hT k e with e3|e3|e3
  ·rw[e3] at ho;exact h.nt ho
  ·rw[e3] at ho;exact h.ng ho
  ·exact h.np k e3 ho
theorem BkS.add(h:BkS w O1 O2 s v a b ne u M E high t gs W (at'+1) at' at0 now b' O S pv ps){W':World}(hr:W'.heap[gs]?=some (.cells (zca ne (addT S at')) 185 (0,0)))(hg:W.grownBy W' (some gs))(hs:Sta u M E at')(hB:v.B<=w.heap.size)(h1:∀k,O1 k->k<w.heap.size):BkS w O1 O2 s v a b ne u M E high t gs W' at' at' at0 now b' O (addT S at') pv ps:=by
 have tc:zan (· = gs) W W':=(zan.refl _ W).grown hg (fun k e=>by cases e;exact .inl rfl);obtain⟨m1,m2,m3⟩:=h.mine tc (fun k e=>.inr (.inl e)) hB h1;refine⟨m1,m2,m3,h.rn,h.mb,h.o2,h.o2',h.nt,h.ng,h.np,(tc.same t (zrc.1 h.box).1 h.tg).trans h.box,⟨hr,zeq S h.sp.lt at'⟩,zaO h.pa fun k e=>?_,h.tw,h.gw,h.le,h.len,h.nw,h.bk,h.ix,fun q=>?_⟩
 ·obtain⟨-,cur,e4⟩:=zaP h.pa e;exact tc.same k (zrc.1 e4).1 (h.pne e).2.1
 ·rw[zdn,zrg,h.ss q];constructor
  ·rintro (⟨h2,h3⟩|h2)
   ·exact⟨by omega,h3⟩
   ·have e:q=at':=by simpa using h2
    subst e;exact⟨zsa _,hs⟩
  ·rintro ⟨h2,h3⟩
   by_cases e:q=at'
   ·exact .inr (by simpa using e)
   ·exact .inl ⟨by omega,h3⟩
theorem BkS.skip(h:BkS w O1 O2 s v a b ne u M E high t gs W (at'+1) at' at0 now b' O S pv ps)(hs:¬Sta u M E at'):BkS w O1 O2 s v a b ne u M E high t gs W at' at' at0 now b' O S pv ps:=
 ⟨h.tc,h.km,h.st,h.rn,h.mb,h.o2,h.o2',h.nt,h.ng,h.np,h.box,h.sp,h.pa,h.tw,h.gw,h.le,h.len,h.nw,h.bk,h.ix,fun q=>(h.ss q).trans ⟨fun⟨h2,h3⟩=>⟨by omega,h3⟩,fun⟨h2,h3⟩=>⟨by
  rcases zsd at' q with e|e
  ·exact e
  ·obtain rfl:q=at':=by omega
   exact absurd h3 hs,h3⟩⟩⟩
theorem BkS.drewN(n:Nat)(h:BkS w O1 O2 s v a b ne u M E high t gs W lo at' at0 now b' O S pv ps)(hB:v.B<=w.heap.size)(h1:∀k,O1 k->k<w.heap.size):BkS w O1 O2 s v a b ne u M E high t gs (W.drewN n) lo at' at0 now b' O S pv ps:=by
 obtain⟨m1,m2,m3⟩:=h.mine (T:=fun _=>False) (W':=W.drewN n) ⟨rfl,rfl,rfl,zsa _,fun _ _ _=>rfl⟩ (fun k e=>e.elim) hB h1;exact⟨m1,m2,m3,h.rn,h.mb,h.o2,h.o2',h.nt,h.ng,h.np,h.box,⟨h.sp.row,h.sp.lt⟩,h.pa,h.tw,h.gw,h.le,h.len,h.nw,h.bk,h.ix,h.ss⟩
theorem BkS.read{p:Nat}(hR:zcZ M v.n v.nw v.f v.F v.G v.A v.L)(h:BkS w O1 O2 s v a b ne u M E high t gs W lo (p+1) at0 now b' O S pv ps){c:UInt8}(hc:u[p]?=some c){bg:Bool}(hbg:bg=true↔E (p+1)){x:Nat}{b2:RdV}{W':World}(hx:x<b2.m)(hm:b2.m<=b'.m+1)(hn:RdN b' b2)(hs:zfg v.nw v.f v.G v.L (b'.Ts now) c.toNat bg (b2.Ts x))(st:Strd O1 (news O W W') W' s v a b2)(tc:zan O W W')(km:zaJ W W'):BkS w O1 O2 s v a b ne u M E high t gs W' lo p at0 x b2 (news O W W') S pv ps:=by
 have hsz:=h.tc.size;have lt:∀k,k<W.heap.size->¬O k->¬news O W W' k:=fun k h1 h2 h3=>h3.elim h2 fun h4=>by omega
 have htl:=(zrc.1 h.box).1;have hpl:∀k,pv.ownBlock=some k->k<W.heap.size:=fun k e=>by obtain⟨-,cur,e4⟩:=zaP h.pa e;exact(zrc.1 e4).1
 refine⟨⟨tc.os.trans h.tc.os,tc.tape.trans h.tc.tape,tc.output.trans h.tc.output,zsb h.tc.size tc.size,fun k hk hn=>(tc.same k (by omega) (fun e=>(h.o2' k e).elim hn fun e=>by omega)).trans (h.tc.same k hk hn)⟩,h.km.trans km,st,h.rn.trans hn,by have:=h.mb;omega,fun k hk=>.inl (h.o2 k hk),fun k hk=>hk.elim (h.o2' k) fun e=>.inr (by omega),lt t htl h.nt,lt gs h.sp.glt h.ng,fun k e=>lt k (hpl k e) (h.np k e),(tc.same t htl h.nt).trans h.box,⟨(tc.same gs h.sp.glt h.ng).trans h.sp.row,h.sp.lt⟩,zaO h.pa fun k e=>tc.same k (hpl k e) (h.np k e),h.tw,h.gw,by have:=h.le;omega,h.len,hx,?_,fun j hj=>?_,h.ss⟩
 ·exact zmb hR hc hbg (fun q h1 h2=>h.st.rb.sets now q h.nw h1 h2) (fun q h1 h2=>st.rb.sets x q hx h1 h2) h.bk hs
 ·obtain⟨h1,h2⟩:=h.ix j hj;have:=hn.lo;exact⟨by omega,by rw[(hn.old _ h1).2];exact h2⟩
theorem BkS.push(h:BkS w O1 O2 s v a b ne u M E high t gs W lo at' (at'+1) now b' O S pv ps){W8:World}{g cap:Nat}(hown:W8.ownsRow w.heap.size 3 1 (.slice (some ⟨g,0,none⟩) (ps.length+1) cap) (ps.length+1) (zcC ps++[.int .i64 (now:Int)]))(hg:W.grownBy W8 pv.ownBlock)(hat:pv.ownBlock=some g\/W.heap.size<=g)(hB:v.B<=w.heap.size)(h1:∀k,O1 k->k<w.heap.size):BkS w O1 O2 s v a b ne u M E high t gs (W8.setCell ⟨t,3,none⟩ (.slice (some ⟨g,0,none⟩) (ps.length+1) cap)) lo at' at' now b' O S (.slice (some ⟨g,0,none⟩) (ps.length+1) cap) (ps++[now]):=by
 have tc8:zan (fun k=>k=t\/pv.ownBlock=some k) W W8:=(zan.refl _ W).grown hg (fun k e=>.inl (.inr e));have htl:=(zrc.1 h.box).1;have b8:W8.heap[t]?=_:=(hg.block t htl (fun e=>(h.pne e.symm).1 rfl)).trans h.box;have b9:=zsr W8 t 3 _ _ (.slice (some ⟨g,0,none⟩) (ps.length+1) cap) b8;have ot:∀k,k≠t->(W8.setCell ⟨t,3,none⟩ (.slice (some ⟨g,0,none⟩) (ps.length+1) cap)).heap[k]?=W8.heap[k]?:=fun k e=>zsq _ _ _ _ (show k≠t from e)
 have tc:zan (fun k=>k=t\/pv.ownBlock=some k) W (W8.setCell ⟨t,3,none⟩ (.slice (some ⟨g,0,none⟩) (ps.length+1) cap)):=⟨tc8.os,tc8.tape,tc8.output,by simpa using tc8.size,fun k hk hn=>(ot k (fun e=>hn (.inl e))).trans (tc8.same k hk hn)⟩;obtain⟨m1,m2,m3⟩:=h.mine tc (fun k e=>e.elim .inl fun e=>.inr (.inr e)) hB h1;have hOl:∀k,O k->k<W.heap.size:=fun k hk=>(h.st.o2 k hk).2
 refine⟨m1,m2,m3,h.rn,h.mb,h.o2,h.o2',h.nt,h.ng,fun k e ho=>?_,b9,⟨(ot gs (fun e=>h.tg e.symm)).trans ((hg.block gs h.sp.glt (fun e=>(h.pne e.symm).2.1 rfl)).trans h.sp.row),h.sp.lt⟩,?_,h.tw,h.gw,h.le,by rw[zrK,List.length_singleton];have:=h.len;omega,h.nw,h.bk,fun j hj=>?_,h.ss⟩
 ·have e:g=k:=by simpa [Value.ownBlock] using e
  subst e;rcases hat with e2|e2
  ·exact h.np g e2 ho
  ·have:=hOl g ho;omega
 ·rw[zrK,List.length_singleton,zjn];refine zaO hown fun k e=>?_
  have e:g=k:=by simpa [Value.ownBlock] using e
  subst e;refine ot g (fun e2=>?_);rcases hat with e3|e3
  ·exact(h.pne e3).1 e2
  ·omega
 ·rw[zrK,List.length_singleton] at hj
  by_cases e:j<ps.length
  ·rw[zrw,zry e,<-zrw];exact h.ix j e
  ·obtain rfl:j=ps.length:=by omega
   rw[zrw,zrz (zsa _),zsh];have e2:high-1-ps.length=at':=by have:=h.len;omega
   rw[e2];exact⟨h.nw,h.bk⟩
end
structure zl8(w:World)(O1 O2:Nat->Prop)(s:Nat)(v:StV)(a b:RdV)(ne:Nat)(u:Word)(M:PA)(E:Nat->Prop)(high t gs:Nat)(W:World)(b':RdV)(O:Nat->Prop)(S:Nat->Nat)(pv:Value)(ps:List Nat):Prop where
 tc:zan O2 w W
 km:zaJ w W
 st:Strd O1 O W s v a b'
 rn:RdN b b'
 mb:b'.m<=b.m+high
 o2:∀k,O2 k->O k
 o2':∀k,O k->O2 k\/w.heap.size<=k
 nt:¬O t
 ng:¬O gs
 np:∀k,pv.ownBlock=some k->¬O k
 box:W.heap[t]?=some (.cells #[.pointer (some ⟨b'.r,0,none⟩),.slice (some ⟨gs,0,none⟩) ne ne,.int .i64 high,pv] 131 (0,0))
 sp:zal W ne gs S
 pa:W.ownsRow w.heap.size 3 1 pv ps.length (zcC ps)
 tw:w.heap.size<=t
 gw:w.heap.size<=gs
 len:ps.length<=high
 ix:∀j,j<ps.length->ps.getD j 0<b'.m/\zdG v.nw (b'.Ts (ps.getD j 0)) (Back u M E (high-1-j))
 off:∀i p,i+ps.length<high->¬Back u M E i p
 ss:∀q,zae S q=true↔Sta u M E q
theorem BkS.bottom{w:World}{O1 O2:Nat->Prop}{s:Nat}{v:StV}{a b:RdV}{ne:Nat}{u:Word}{M:PA}{E:Nat->Prop}{high t gs:Nat}{W:World}{now:Nat}{b':RdV}{O:Nat->Prop}{S:Nat->Nat}{pv:Value}{ps:List Nat}(h:BkS w O1 O2 s v a b ne u M E high t gs W 0 0 0 now b' O S pv ps):zl8 w O1 O2 s v a b ne u M E high t gs W b' O S pv ps:=
 ⟨h.tc,h.km,h.st,h.rn,by have:=h.mb;omega,h.o2,h.o2',h.nt,h.ng,h.np,by rw[h.rn.r];exact h.box,h.sp,h.pa,h.tw,h.gw,by have:=h.len;omega,h.ix,fun i p hi=>by have:=h.len;omega,fun q=>(h.ss q).trans ⟨fun x=>x.2,fun x=>⟨zsj _,x⟩⟩⟩
theorem BkS.early{w:World}{O1 O2:Nat->Prop}{s:Nat}{v:StV}{a b:RdV}{ne:Nat}{u:Word}{M:PA}{E:Nat->Prop}{high t gs:Nat}{W:World}{at':Nat}{b':RdV}{O:Nat->Prop}{S:Nat->Nat}{pv:Value}{ps:List Nat}(hR:zcZ M v.n v.nw v.f v.F v.G v.A v.L)(h:BkS w O1 O2 s v a b ne u M E high t gs W at' at' at' 0 b' O S pv ps)(hE:∀m,m<=at'->¬E m):zl8 w O1 O2 s v a b ne u M E high t gs W b' O S pv ps:=by
 have hb0:∀p,¬Back u M E at' p:=fun p hb=>by
  have hp:=Back.lt hR hb;have hn:=hR.n64;have h1:=(h.bk p (by omega)).2 hb;have h2:=h.st.rb.zero (p/64) (by omega);unfold zae at h1;rw[h2] at h1;simp at h1
 have hlow:∀i p,Back u M E i p->at'<i:=fun i p hb=>zoe hE hb0 hb
 refine⟨h.tc,h.km,h.st,h.rn,by have:=h.mb;omega,h.o2,h.o2',h.nt,h.ng,h.np,by rw[h.rn.r];exact h.box,h.sp,h.pa,h.tw,h.gw,by have:=h.len;omega,h.ix,fun i p hi hb=>by have:=h.len;have:=hlow i p hb;omega,fun q=>(h.ss q).trans ⟨fun x=>x.2,fun x=>⟨?_,x⟩⟩⟩;rcases x with ⟨h1,_⟩|⟨p,_,h1⟩
 ·rcases zsd q at' with e|e
  ·exact absurd h1 (hE q (by omega))
  ·exact e
 ·have:=hlow q p h1;omega
end
attribute [local go_sem ↓] Go.wp_at_zero Go.wp_at_succ
theorem zki{a b:Array Value}{t u:TypeId}{f g:Nat×Nat}(h:some (Obj.cells a t f)=some (Obj.cells b u g)):a=b:=by cases h;rfl
structure StrQ(w:World)(s:Nat)(p:Pt)(X:Nat->Prop)(v:StV)(a b:RdV)(O1 O2:Nat->Prop):Prop where
 st:Strd O1 O2 w s v a b
 rw:zcZ (unD p 0) v.n v.nw v.f v.F v.G v.A v.L
 em:v.e=true↔(unD p 0).e
 nl:v.n<=2000
 nwe:v.nw=((wPt p).toNat+63)/64
 lo:∀k,v.b0<=k->k<v.B->X k
 x1:∀k,O1 k->X k
 x2:∀k,O2 k->X k
theorem StrQ.keep{w w':World}{s:Nat}{p:Pt}{X:Nat->Prop}{v:StV}{a b:RdV}{O1 O2:Nat->Prop}(h:StrQ w s p X v a b O1 O2)(hk:∀k,X k->w'.heap[k]?=w.heap[k]?)(hm:zaJ w w')(hz:w'.heap[0]?=w.heap[0]?)(hs:w.heap.size<=w'.heap.size):StrQ w' s p X v a b O1 O2:=
 ⟨h.st.keep (fun k hk'=>hk k (hk'.elim (fun x=>h.lo k x.1 x.2) fun x=>x.elim (h.x1 k) (h.x2 k))) hm hz hs,h.rw,h.em,h.nl,h.nwe,h.lo,h.x1,h.x2⟩
theorem StrQ.sX{w:World}{s:Nat}{p:Pt}{X:Nat->Prop}{v:StV}{a b:RdV}{O1 O2:Nat->Prop}(h:StrQ w s p X v a b O1 O2):X s:=h.lo s h.st.c.s0 h.st.c.s1
def KpS(w:World)(p:Pt)(X:Nat->Prop)(k:Value):Prop:=k=.pointer none\/∃s v a b O1 O2,k=.pointer (some ⟨s,0,none⟩)/\StrQ w s p X v a b O1 O2/\a.m<=50000000/\b.m<=50000000
theorem KpS.keep{w w':World}{p:Pt}{X:Nat->Prop}{k:Value}(h:KpS w p X k)(hk:∀k,X k->w'.heap[k]?=w.heap[k]?)(hm:zaJ w w')(hz:w'.heap[0]?=w.heap[0]?)(hs:w.heap.size<=w'.heap.size):KpS w' p X k:=by
 rcases h with h|⟨s,v,a,b,O1,O2,h1,h2,h3⟩
 ·exact .inl h
 ·exact .inr ⟨s,v,a,b,O1,O2,h1,h2.keep hk hm hz hs,h3⟩
structure PnI(w0:World)(pl:Nat)(Q:Nat->Option Pt)(Ow:Nat->Nat->Prop)(w:World):Prop where
 os:w.os=w0.os
 tape:w.tape=w0.tape
 output:w.output=w0.output
 size:w0.heap.size<=w.heap.size
 old:∀k,k<w0.heap.size->Q k=none->k≠pl->w.heap[k]?=w0.heap[k]?
 q0:Q 0=none
 p0:pl≠0
 bru:zaY w0
 plan:∃(x0 x1 x2:Value) (r0 room:Nat),w0.heap[pl]?=some (.cells #[x0,x1,x2,.int .i64 r0] 83 (0,0))/\w.heap[pl]?=some (.cells #[x0,x1,x2,.int .i64 room] 83 (0,0))/\room<=1048576
 pc:∀a p,Q a=some p->∃v f k,w0.heap[a]?=some (.cells #[.pointer (some ⟨pl,0,none⟩),v,f,.pointer none] 114 (0,0))/\w.heap[a]?=some (.cells #[.pointer (some ⟨pl,0,none⟩),v,f,k] 114 (0,0))/\zai w0 v p/\wPt p<=2000/\KpS w p (fun k=>Ow k a) k
 ow:∀k a,Ow k a->w0.heap.size<=k/\k<w.heap.size
 dj:∀k a b,Ow k a->Ow k b->a=b
section
variable {w0:World} {pl:Nat} {Q:Nat->Option Pt} {Ow:Nat->Nat->Prop} {w:World}
theorem PnI.pl0(h:PnI w0 pl Q Ow w):pl<w0.heap.size:=by
 obtain⟨x0,x1,x2,r0,room,h1,_⟩:=h.plan;exact(zrc.1 h1).1
theorem PnI.pos(h:PnI w0 pl Q Ow w):0<w0.heap.size:=by have:=h.pl0;omega
theorem PnI.alt(h:PnI w0 pl Q Ow w){a:Nat}{p:Pt}(ha:Q a=some p):a<w0.heap.size:=by
 obtain⟨v,f,k,h1,_⟩:=h.pc a p ha;exact(zrc.1 h1).1
theorem PnI.zero(h:PnI w0 pl Q Ow w):w.heap[0]?=w0.heap[0]?:=h.old 0 h.pos h.q0 (fun e=>h.p0 e.symm)
theorem PnI.typ(h:PnI w0 pl Q Ow w){k:Nat}{cs:Array Value}{t:TypeId}(hk:w0.heap[k]?=some (.cells cs t (0,0)))(h1:t≠114)(h2:t≠83):w.heap[k]?=some (.cells cs t (0,0)):=by
 refine(h.old k (zrc.1 hk).1 ?_ ?_).trans hk
 ·cases hq:Q k with
  |none=>rfl
  |some p=>
   obtain⟨v,f,x,h3,_⟩:=h.pc k p hq;rw[hk] at h3;exact absurd (zad h3) h1
 ·rintro rfl;obtain⟨x0,x1,x2,r0,room,h3,_⟩:=h.plan;rw[hk] at h3;exact absurd (zad h3) h2
theorem PnI.marks(h:PnI w0 pl Q Ow w):zaJ w0 w:=fun mg f e=>h.typ e (by decide) (by decide)
theorem PnI.ne(h:PnI w0 pl Q Ow w){a:Nat}{p:Pt}(ha:Q a=some p):a≠pl:=by
 rintro rfl;obtain⟨v,f,x,h3,_⟩:=h.pc a p ha;obtain⟨x0,x1,x2,r0,room,h4,_⟩:=h.plan;rw[h3] at h4;exact absurd (zad h4) (by decide)
theorem PnI.turn(h:PnI w0 pl Q Ow w){a:Nat}{p:Pt}(ha:Q a=some p){X X':Nat->Prop}{w':World}(hX:∀k,X k->w0.heap.size<=k/\(Ow k a\/∀b,¬Ow k b))(tc:zan (fun k=>k=pl\/k=a\/X k) w w')(hm:zaJ w w')
  (hpl:∃(x0 x1 x2:Value) (r room:Nat),w.heap[pl]?=some (.cells #[x0,x1,x2,.int .i64 r] 83 (0,0))/\w'.heap[pl]?=some (.cells #[x0,x1,x2,.int .i64 room] 83 (0,0))/\room<=1048576)
  (hpc:∃v f k k',w.heap[a]?=some (.cells #[.pointer (some ⟨pl,0,none⟩),v,f,k] 114 (0,0))/\w'.heap[a]?=some (.cells #[.pointer (some ⟨pl,0,none⟩),v,f,k'] 114 (0,0))/\KpS w' p X' k')
  (hX':∀k,X' k->w0.heap.size<=k/\k<w'.heap.size/\(Ow k a\/w.heap.size<=k\/∀b,¬Ow k b)):PnI w0 pl Q (fun k b=>(b=a/\X' k)\/(b≠a/\Ow k b)) w':=by
 have hal:=h.alt ha;have hpl0:=h.pl0;have hsz:=h.size;have hsz':=tc.size;have hap:=h.ne ha;have hnX:∀k,k<w0.heap.size->¬X k:=fun k hk hx=>by have:=(hX k hx).1;omega
 have hold:∀k,k<w0.heap.size->k≠pl->k≠a->w'.heap[k]?=w.heap[k]?:=fun k h1 h2 h3=>tc.same k (by omega) (fun e=>e.elim h2 fun e=>e.elim h3 (hnX k h1))
 have hz:w'.heap[0]?=w.heap[0]?:=hold 0 h.pos (fun e=>h.p0 e.symm) (fun e=>by have:=h.q0;rw[e,ha] at this;cases this);refine⟨tc.os.trans h.os,tc.tape.trans h.tape,tc.output.trans h.output,by omega,fun k h1 h2 h3=>(hold k h1 h3 (fun e=>by rw[e,ha] at h2;cases h2)).trans (h.old k h1 h2 h3),h.q0,h.p0,h.bru,?_,fun b q hb=>?_,fun k b hk=>?_,fun k b c hb hc=>?_⟩
 ·obtain⟨x0,x1,x2,r0,room,h1,h2,h3⟩:=h.plan;obtain⟨y0,y1,y2,s0,room',k1,k2,k3⟩:=hpl;rw[h2] at k1;have e:=zki k1;simp only[Array.mk.injEq,List.cons.injEq,and_true] at e;obtain⟨rfl,rfl,rfl,-⟩:=e;exact⟨_,_,_,r0,room',h1,k2,k3⟩
 ·obtain⟨v,f,k,h1,h2,h3,h4,h5⟩:=h.pc b q hb
  by_cases e:b=a
  ·subst e;rw[ha] at hb;cases hb;obtain⟨v',f',k',k2,g1,g2,g3⟩:=hpc;rw[h2] at g1;have e:=zki g1;simp only[Array.mk.injEq,List.cons.injEq,and_true,true_and] at e;obtain⟨rfl,rfl,-⟩:=e;refine⟨_,_,k2,h1,g2,h3,h4,?_⟩;have:(fun k=>(b=b/\X' k)\/(b≠b/\Ow k b))=X':=funext fun k=>propext ⟨fun x=>x.elim (fun y=>y.2) (fun y=>absurd rfl y.1),fun x=>.inl ⟨rfl,x⟩⟩
   rw[this];exact g3
  ·have hbl:=h.alt hb;refine⟨v,f,k,h1,(hold b hbl (h.ne hb) e).trans h2,h3,h4,?_⟩;have:(fun k=>(b=a/\X' k)\/(b≠a/\Ow k b))=fun k=>Ow k b:=funext fun k=>propext ⟨fun x=>x.elim (fun y=>absurd y.1 e) (fun y=>y.2),fun x=>.inr ⟨e,x⟩⟩
   rw[this];refine h5.keep (fun k hk=>?_) hm hz hsz';have hk0:=h.ow k b hk;refine tc.same k hk0.2 ?_;rintro (rfl|rfl|hx)
   ·omega
   ·omega
   ·rcases(hX k hx).2 with h6|h6
    ·exact e (h.dj k b a hk h6)
    ·exact h6 b hk
 ·rcases hk with ⟨rfl,hk⟩|⟨-,hk⟩
  ·exact⟨(hX' k hk).1,(hX' k hk).2.1⟩
  ·have:=h.ow k b hk;omega
 ·have key:∀d,d≠a->Ow k d->¬X' k:=fun d hd ho hx=>by
   rcases(hX' k hx).2.2 with h6|h6|h6
   ·exact hd (h.dj k d a ho h6)
   ·have:=h.ow k d ho;omega
   ·exact h6 d ho
  rcases hb with ⟨rfl,hb⟩|⟨h1,hb⟩<;>rcases hc with ⟨rfl,hc⟩|⟨h2,hc⟩
  ·rfl
  ·exact absurd hb (key c h2 hc)
  ·exact absurd hc (key b h1 hb)
  ·exact h.dj k b c hb hc
end
structure Chg(pl a:Nat)(Ow:Nat->Nat->Prop)(w:World)(Ow':Nat->Nat->Prop)(w':World)(X:Nat->Prop):Prop where
 tc:zan (fun k=>k=pl\/k=a\/Ow k a) w w'
 km:zaJ w w'
 oth:∀k b,b≠a->(Ow' k b↔Ow k b)
 own:∀k,Ow' k a->Ow k a\/w.heap.size<=k
 xs:∀k,X k->Ow k a\/w.heap.size<=k
theorem Chg.refl(pl a:Nat)(Ow:Nat->Nat->Prop)(w:World):Chg pl a Ow w Ow w (fun k=>Ow k a):=⟨zan.refl _ _,fun _ _ e=>e,fun _ _ _=>Iff.rfl,fun _ h=>.inl h,fun _ h=>.inl h⟩
structure StrO(w0:World)(pl:Nat)(Q:Nat->Option Pt)(a:Nat)(p:Pt)(Ow:Nat->Nat->Prop)(w:World)(s:Nat)(X:Nat->Prop)(v:StV)(ra rb:RdV)(O1 O2:Nat->Prop):Prop where
 inv:PnI w0 pl Q Ow w
 q:Q a=some p
 st:StrQ w s p X v ra rb O1 O2
 x0:∀k,X k->w0.heap.size<=k/\k<w.heap.size
 x1:((∀k,X k↔Ow k a)/\w.cell? ⟨a,3,none⟩=some (.pointer (some ⟨s,0,none⟩)))\/∀k b,X k->¬Ow k b
theorem StrO.step{w0:World}{pl:Nat}{Q:Nat->Option Pt}{a:Nat}{p:Pt}{Ow:Nat->Nat->Prop}{w:World}{s:Nat}{X:Nat->Prop}{v:StV}{ra rb:RdV}{O1 O2:Nat->Prop}(h:StrO w0 pl Q a p Ow w s X v ra rb O1 O2){w':World}{X':Nat->Prop}{v':StV}{ra' rb':RdV}{O1' O2':Nat->Prop}(tc:zan X w w')(hm:zaJ w w')(st:StrQ w' s p X' v' ra' rb' O1' O2')(ha:ra'.m<=50000000)(hb:rb'.m<=50000000)(hX':∀k,X' k->X k\/w.heap.size<=k)(hl:∀k,X' k->k<w'.heap.size):
  ∃Ow',StrO w0 pl Q a p Ow' w' s X' v' ra' rb' O1' O2'/\(∀k b,Ow' k b->Ow k b\/X' k)/\∀Ow0 w00,Chg pl a Ow0 w00 Ow w X->Chg pl a Ow0 w00 Ow' w' X':=by
 have hpl0:=h.inv.pl0;have hal:=h.inv.alt h.q;have hsz:=h.inv.size;have hpl:=h.inv.plan;have hpc:=h.inv.pc a p h.q;have hnX:∀k,k<w0.heap.size->¬X k:=fun k hk hx=>by have:=(h.x0 k hx).1;omega
 obtain⟨x0,x1,x2,r0,room,-,h2,h3⟩:=hpl;obtain⟨v0,f0,k0,-,g2,-,-,-⟩:=hpc;have p2:w'.heap[pl]?=_:=(tc.same pl (by omega) (hnX pl hpl0)).trans h2;have a2:w'.heap[a]?=_:=(tc.same a (by omega) (hnX a hal)).trans g2;have hx0':∀k,X' k->w0.heap.size<=k/\k<w'.heap.size:=fun k hk=>⟨(hX' k hk).elim (fun h1=>(h.x0 k h1).1) (fun h1=>by omega),hl k hk⟩
 have tcW:zan (fun k=>k=pl\/k=a\/X k) w w':=tc.mono fun k _ hk=>.inr (.inr hk)
 have chg:∀Ow',(∀k b,b≠a->(Ow' k b↔Ow k b))->(∀k,Ow' k a->Ow k a\/X' k)->∀Ow0 w00,Chg pl a Ow0 w00 Ow w X->Chg pl a Ow0 w00 Ow' w' X':=fun Ow' h1 h2 Ow0 w00 c=>by
  have hsx:∀k,X' k->Ow0 k a\/w00.heap.size<=k:=fun k hk=>by
   rcases hX' k hk with h5|h5
   ·exact c.xs k h5
   ·have:=c.tc.size;exact .inr (by omega)
  refine⟨⟨tc.os.trans c.tc.os,tc.tape.trans c.tc.tape,tc.output.trans c.tc.output,zsb c.tc.size tc.size,fun k hk hn=>?_⟩,c.km.trans hm,fun k b hb=>(h1 k b hb).trans (c.oth k b hb),fun k hk=>?_,hsx⟩
  ·refine(tc.same k (by have:=c.tc.size;omega) (fun hx=>?_)).trans (c.tc.same k hk hn);rcases c.xs k hx with h5|h5
   ·exact hn (.inr (.inr h5))
   ·omega
  ·rcases h2 k hk with h5|h5
   ·exact c.own k h5
   ·exact hsx k h5
 rcases h.x1 with ⟨x1,x2'⟩|x1
 ·have hk0:k0=.pointer (some ⟨s,0,none⟩):=by
   have:w.cell? ⟨a,3,none⟩=some k0:=(zsm _ _ _ _ _ _ g2:_=_);rw[this] at x2';exact Option.some.inj x2'
  subst hk0;refine⟨_,⟨h.inv.turn h.q (X:=X) (X':=X') (fun k hk=>⟨(h.x0 k hk).1,.inl ((x1 k).1 hk)⟩) tcW hm ⟨_,_,_,_,_,h2,p2,h3⟩ ⟨_,_,_,_,g2,a2,.inr ⟨s,v',ra',rb',O1',O2',rfl,st,ha,hb⟩⟩ (fun k hk=>⟨(hx0' k hk).1,(hx0' k hk).2,?_⟩),h.q,st,hx0',.inl ⟨fun k=>⟨fun hk=>.inl ⟨rfl,hk⟩,fun hk=>hk.elim (fun x=>x.2) (fun x=>absurd rfl x.1)⟩,(zsm _ _ _ _ _ _ a2:_=_)⟩⟩,fun k b hk=>hk.elim (fun y=>.inr y.2) (fun y=>.inl y.2),chg _ (fun k b hb=>⟨fun x=>x.elim (fun y=>absurd y.1 hb) (fun y=>y.2),fun x=>.inr ⟨hb,x⟩⟩) (fun k hk=>hk.elim (fun y=>.inr y.2) (fun y=>absurd rfl y.1))⟩;rcases hX' k hk with h5|h5
  ·exact .inl ((x1 k).1 h5)
  ·exact .inr (.inl h5)
 ·have hz:w'.heap[0]?=w.heap[0]?:=tc.same 0 (by have:=h.inv.pos;omega) (hnX 0 h.inv.pos);refine⟨Ow,⟨⟨tc.os.trans h.inv.os,tc.tape.trans h.inv.tape,tc.output.trans h.inv.output,zsb hsz tc.size,fun k g1 g2 g3=>(tc.same k (by omega) (hnX k g1)).trans (h.inv.old k g1 g2 g3),h.inv.q0,h.inv.p0,h.inv.bru,?_,fun b q hb=>?_,fun k b hk=>?_,h.inv.dj⟩,h.q,st,hx0',.inr fun k b hk ho=>?_⟩,fun _ _ hk=>.inl hk,chg Ow (fun _ _ _=>Iff.rfl) (fun k hk=>.inl hk)⟩
  ·obtain⟨y0,y1,y2,r0,room,k1,k2,k3⟩:=h.inv.plan;exact⟨_,_,_,_,_,k1,(tc.same pl (by omega) (hnX pl hpl0)).trans k2,k3⟩
  ·obtain⟨v1,f1,k1,q1,q2,q3,q4,q5⟩:=h.inv.pc b q hb;have hbl:=h.inv.alt hb;exact⟨v1,f1,k1,q1,(tc.same b (by omega) (hnX b hbl)).trans q2,q3,q4,q5.keep (fun k hk=>tc.same k (h.inv.ow k b hk).2 (fun hx=>x1 k b hx hk)) hm hz tc.size⟩
  ·have:=h.inv.ow k b hk;have:=tc.size;omega
  ·rcases hX' k hk with h5|h5
   ·exact x1 k b h5 ho
   ·have:=h.inv.ow k b ho;omega
theorem StrO.below{w0:World}{pl:Nat}{Q:Nat->Option Pt}{a:Nat}{p:Pt}{Ow:Nat->Nat->Prop}{w:World}{s:Nat}{X:Nat->Prop}{v:StV}{ra rb:RdV}{O1 O2:Nat->Prop}(h:StrO w0 pl Q a p Ow w s X v ra rb O1 O2){w':World}(hi:PnI w0 pl Q Ow w')(hb:Below w.heap.size w w'):StrO w0 pl Q a p Ow w' s X v ra rb O1 O2:=by
 have hal:=h.inv.alt h.q;have hsz:=h.inv.size;have hpos:=h.inv.pos;refine⟨hi,h.q,h.st.keep (fun k hk=>hb.block k (h.x0 k hk).2) (zaJ.of hb) (hb.block 0 (by omega)) hb.size,fun k hk=>⟨(h.x0 k hk).1,zsc (h.x0 k hk).2 hb.size⟩,?_⟩;rcases h.x1 with ⟨h1,h2⟩|h1
 ·exact .inl ⟨h1,(hb.cell (p:=⟨a,3,none⟩) (by show a<w.heap.size;omega)).trans h2⟩
 ·exact .inr h1
theorem Chg.below{pl a:Nat}{Ow Ow1:Nat->Nat->Prop}{w w1 w2:World}{X:Nat->Prop}(c:Chg pl a Ow w Ow1 w1 X)(hb:Below w1.heap.size w1 w2):Chg pl a Ow w Ow1 w2 X:=⟨c.tc.trans (.of_below hb),c.km.trans (zaJ.of hb),c.oth,c.own,c.xs⟩
structure PnT(w0:World)(pl:Nat)(Q:Nat->Option Pt)(Ow:Nat->Nat->Prop)(w:World)(Ow':Nat->Nat->Prop)(w':World):Prop where
 inv:PnI w0 pl Q Ow' w'
 size:w.heap.size<=w'.heap.size
 fre:∀k,w0.heap.size<=k->k<w.heap.size->(∀b,¬Ow k b)->w'.heap[k]?=w.heap[k]?/\∀b,¬Ow' k b
theorem PnT.trans{w0:World}{pl:Nat}{Q:Nat->Option Pt}{Ow Ow1 Ow2:Nat->Nat->Prop}{w w1 w2:World}(h:PnT w0 pl Q Ow w Ow1 w1)(k:PnT w0 pl Q Ow1 w1 Ow2 w2):PnT w0 pl Q Ow w Ow2 w2:=
 ⟨k.inv,zsb h.size k.size,fun j h1 h2 h3=>by
  obtain⟨e1,f1⟩:=h.fre j h1 h2 h3;obtain⟨e2,f2⟩:=k.fre j h1 (zsc h2 h.size) f1;exact⟨e2.trans e1,f2⟩⟩
theorem PnI.below{w0:World}{pl:Nat}{Q:Nat->Option Pt}{Ow:Nat->Nat->Prop}{w w':World}(h:PnI w0 pl Q Ow w)(hb:Below w.heap.size w w'):PnI w0 pl Q Ow w':=by
 have hsz:=h.size;have hbs:=hb.size;refine⟨hb.os.trans h.os,hb.tape.trans h.tape,hb.output.trans h.output,by omega,fun k h1 h2 h3=>(hb.block k (by omega)).trans (h.old k h1 h2 h3),h.q0,h.p0,h.bru,?_,fun b q hq=>?_,fun k b hk=>?_,h.dj⟩
 ·obtain⟨x0,x1,x2,r0,room,h1,h2,h3⟩:=h.plan;exact⟨_,_,_,_,_,h1,(hb.block pl (by have:=h.pl0;omega)).trans h2,h3⟩
 ·obtain⟨v1,f1,k1,q1,q2,q3,q4,q5⟩:=h.pc b q hq;exact⟨v1,f1,k1,q1,(hb.block b (by have:=h.alt hq;omega)).trans q2,q3,q4,q5.keep (fun k hk=>hb.block k (h.ow k b hk).2) (zaJ.of hb) (hb.block 0 (by have:=h.pos;omega)) hbs⟩
 ·have:=h.ow k b hk;omega
theorem PnT.of_below{w0:World}{pl:Nat}{Q:Nat->Option Pt}{Ow:Nat->Nat->Prop}{w w':World}(h:PnI w0 pl Q Ow w)(hb:Below w.heap.size w w'):PnT w0 pl Q Ow w Ow w':=
 ⟨h.below hb,hb.size,fun k _ h2 h3=>⟨hb.block k h2,h3⟩⟩
theorem PnT.below{w0:World}{pl:Nat}{Q:Nat->Option Pt}{Ow Ow1:Nat->Nat->Prop}{w w1 w2:World}(h:PnT w0 pl Q Ow w Ow1 w1)(hb:Below w1.heap.size w1 w2):PnT w0 pl Q Ow w Ow1 w2:=h.trans (.of_below h.inv hb)
theorem StrO.plT{w0:World}{pl:Nat}{Q:Nat->Option Pt}{a:Nat}{p:Pt}{Ow:Nat->Nat->Prop}{w:World}{s:Nat}{X:Nat->Prop}{v:StV}{ra rb:RdV}{O1 O2:Nat->Prop}(h:StrO w0 pl Q a p Ow w s X v ra rb O1 O2){Ow0:Nat->Nat->Prop}{w00:World}(c:Chg pl a Ow0 w00 Ow w X):PnT w0 pl Q Ow0 w00 Ow w:=
 ⟨h.inv,c.tc.size,fun k h1 h2 h3=>⟨c.tc.same k h2 (fun e=>by
  have:=h.inv.pl0;have:=h.inv.alt h.q;rcases e with e|e|e
  ·omega
  ·omega
  ·exact h3 a e),fun b hb=>by
  by_cases e:b=a
  ·subst e;rcases c.own k hb with h5|h5
   ·exact h3 b h5
   ·omega
  ·exact h3 b ((c.oth k b e).1 hb)⟩⟩
end Go.Proofs.YthdljcdbfmhleaaGreatDoor
