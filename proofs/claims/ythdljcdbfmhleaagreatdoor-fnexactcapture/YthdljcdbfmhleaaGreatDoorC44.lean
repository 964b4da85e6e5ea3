import Derived.Test.YthdljcdbfmhleaaGreatDoorC40
namespace Go.Proofs.YthdljcdbfmhleaaGreatDoor
set_option maxHeartbeats 4000000
set_option maxRecDepth 100000
open Go.RowKit
attribute [local go_sem ↓] Go.wp_at_zero Go.wp_at_succ
section
theorem Tryz.sizePair:(Tryz.prog.info? 50).map (·.size)=some 2:=by kernel_rfl
def zms(ats:Array TypeId)(ty:TypeId)(args:Array Value):Sem Value:=Builtin.copy_ ats ty args
theorem zhW(ty:TypeId)(args:Array Value):Builtin.copy_ #[26,26] ty args=zms #[26,26] ty args:=rfl
attribute [local go_sem ↓] zhW
theorem zeK(x y:Value)(hx:x.oneCell'=true)(hy:y.oneCell'=true){n j c g dc sl sc:Nat}{a:Addr}{W:World}(hR:W.heap[g]?=some (.cells (rp2 x y (.int .i64 0) (.int .i64 0) n j).toArray 50 (0,0)))(hj:j<=n)(hc:c=min sl (n-j))(hs:∀i,i<c*2->W.cell? (a.add i)=some (if i%2=0 then x else y))(ty:TypeId)(dl:Nat)(hdl:dl=n-j)(o:Nat)(ho:o=j*2):
  ∃W',(zms #[26,26] ty #[.slice (some ⟨g,o,none⟩) dl dc,.slice (some a) sl sc]).run Tryz.prog W=.ok (.int .i64 (c:Int)) W'/\W'.heap[g]?=some (.cells (rp2 x y (.int .i64 0) (.int .i64 0) n (j+c)).toArray 50 (0,0))/\W.grownBy W' (some g):=by
 subst ho;have h:=zeY (P:=Tryz.prog) W 26 26 ty 50 g (j*2) dl dc a sl sc (rp2 x y (.int .i64 0) (.int .i64 0) n j).toArray 50 (pr2 x y c) c Tryz.underlying26 Tryz.sizePair hR (by rw[hdl];exact hc) (zcQ x y c)
  (fun i v hv=>by
   by_cases hi:i<c*2
   ·rw[zjS x y hi] at hv;cases hv;exact hs i hi
   ·rw[zrE (by rw[zcQ];omega)] at hv;cases hv) (by rw[zcQ,zr4,zf3];omega) (by
   intro v hv;obtain⟨k,-,rfl⟩:=zrV.1 hv;split
   ·exact hx
   ·exact hy)
 refine⟨_,h,?_,⟨rfl,rfl,rfl,by simp[World.setRow],fun k _ hk=>setRow_other W g k _ (fun e=>hk (by rw[e]))⟩⟩;rw[setRow_heap W g _ _ _ _ hR];have e:=zgQ x y (.int .i64 0) (.int .i64 0) (n:=n) (j:=j) (c:=c) (by omega);unfold splice at e;rw[zrl,e]
theorem zhu(x y:Value)(ox:x.oneCell'=true)(oy:y.oneCell'=true)(g0 n:Nat)(w:World)(hx:w.cell? ⟨g0,0,none⟩=some x)(hy:w.cell? ⟨g0,1,none⟩=some y)(hn:n<=4000):
  Calls Tryz.prog 67 #[.slice (some ⟨g0,0,none⟩) 1 1,.int .i64 (n:Int)] w fun e w'=>e=.returned (.slice (some ⟨w.heap.size,0,none⟩) n n)/\w'.ownsRow w.heap.size 50 2 (.slice (some ⟨w.heap.size,0,none⟩) n n) n (pr2 x y n)/\Below w.heap.size w w':=by
 obtain⟨i0,hi,hz0,hz1,hz2⟩:=info_parts Tryz.infoPair;have hm:=znd n w hn;have hg0:g0<w.heap.size:=block_lt_of_cell hx;have hi2:(n:Int)<=4000:=by omega
 obtain⟨c0,hc0⟩:∃c,c=min 1 n:=⟨_,rfl⟩;have hsrc:∀W,Below w.heap.size w W->∀i,i<c0*2->W.cell? ((⟨g0,0,none⟩:Addr).add i)=some (if i%2=0 then x else y):=fun W hb i hi=>by
  obtain rfl|rfl:i=0\/i=1:=by omega
  ·exact(hb.cell (p:=⟨g0,0,none⟩) hg0).trans hx
  ·exact(hb.cell (p:=⟨g0,1,none⟩) hg0).trans hy
 go_enter Tryz.func67,Tryz.ntmps67
 go_wp2_with (first|(go_at_call 93;refine hm.mono ?_;rintro e w' ⟨rfl,hw'⟩;subst w')|(refine wpList_make_full _ rfl _ _ 26 rfl w.heap.size 50 i0 _ 2 Tryz.underlying26 hi hz0 hz1 _ _ _ _ n rfl rfl rfl rfl (by rw[hz2];omega) (by unfold maxLen;omega) (zsa _) ?_;intro w1 hown1 hgrow1;have hb1:Below w.heap.size w w1:=(Below.refl _ _).grown hgrow1 (zsa _) (by intro k h;cases h);have HR:Hid (w1.heap[w.heap.size]?=some (.cells (rp2 x y (.int .i64 0) (.int .i64 0) n 0).toArray 50 (0,0))):=(by have h:=zbC hown1;rw[show (Value.agg #[.int .i64 0,.int .i64 0]).cells=#[.int .i64 0,.int .i64 0] from rfl,zkC x y] at h;exact h);clear hown1 hgrow1;obtain⟨w2,hcp,hR2,hg2⟩:=zeK x y ox oy (sc:=1) (a:=⟨g0,0,none⟩) (dc:=n) HR.out (zsj _) (c:=c0) (sl:=1) (by omega) (hsrc _ hb1) 3 n rfl 0 rfl;have HR2:Hid (w2.heap[w.heap.size]?=some (.cells (rp2 x y (.int .i64 0) (.int .i64 0) n c0).toArray 50 (0,0))):=(by rw[zsi] at hR2;exact hR2);have hB2:Hid (Below w.heap.size w w2):=hb1.grown hg2 hb1.size (fun q e=>by cases e;exact zsa _);clear hR2 hg2))
 clear hx hy hcp hb1 hm HR hsrc
 go_loopw [8] (fun i wr=>∃(j:Nat),(1<=j\/n=0)/\j<=n/\i=.int .i64 j/\Hid (wr.heap[w.heap.size]?=some (.cells (rp2 x y (.int .i64 0) (.int .i64 0) n j).toArray 50 (0,0)))/\Hid (Below w.heap.size w wr))
  (fun i _=>n-(intOf i).toNat)
 case atStart=>exact⟨c0,by omega,by omega,by rw[hc0],HR2,hB2⟩
 case round=>
  obtain⟨j,hj1,hj,rfl,HR,HB⟩:=hrel
  by_cases hj2:j<n
  ·have hj1':1<=j:=by omega
   have hi3:(j:Int)<(n:Int):=by omega
   have hi4:¬n=j:=by omega
   obtain⟨c,hc⟩:∃c,c=min j (n-j):=⟨_,rfl⟩;obtain⟨w5,hcp,hR5,hg5⟩:=zeK x y ox oy (W:=wr.drew) (sc:=n) (a:=⟨w.heap.size,0,none⟩) (dc:=n-j) HR.out hj (c:=c) (sl:=j) hc (fun i hi=>by
    have e:(⟨w.heap.size,0,none⟩:Addr).add i=⟨w.heap.size,i,none⟩:=by unfold Addr.add;split<;>simp_all
    have hr:wr.drew.heap[w.heap.size]?=some (.cells (rp2 x y (.int .i64 0) (.int .i64 0) n j).toArray 50 (0,0)):=HR.out;have e2:i<j*2:=by omega
    rw[e,zsm _ _ _ _ _ _ hr,List.getElem?_toArray,zdf _ _ _ _ (by omega),zst e2]) 3 (n-j) rfl (j*2) rfl
   have HR5:Hid _:=hR5;have HB5:Hid (Below w.heap.size w w5):=by
    have hB1:Below w.heap.size w wr.drew:=HB.out.trans ⟨rfl,rfl,rfl,zsa _,fun _ _=>rfl⟩;exact hB1.grown hg5 hB1.size (fun q e=>by cases e;exact zsa _)
   have hc1:1<=c:=by omega
   have hc2:j+c<=n:=by omega
   have hc3:(j:Int)+(c:Int)<=4000:=by omega
   clear hR5 hg5 hc;go_wp2
   go_big_region
   go_wp2
   go_roundw
   case rel=>exact⟨j+c,by omega,hc2,by simp,HR5,HB5⟩
   case measure=>simp[intOf];omega
  ·have hjj:j=n:=by omega
   subst hjj;go_wp2;refine zsl (v:=.slice (some ⟨w.heap.size,0,none⟩) j j) (by simp[results,Tryz.results67,go_sem]) rfl ⟨rfl,?_,HB.out⟩;have:=HR.out;rw[zkQ] at this;exact zgP this (zsa _) (zcQ _ _ _) (by unfold maxLen;omega)
end
theorem zog{P:Prop}{q:Bool}(h:q=true↔P)(k:¬P):q=false:=by
 cases q
 ·rfl
 ·exact absurd (h.1 rfl) k
theorem zh5(ns:List zak)(n:Nat)(hE:zbO ns n)(w:World)(ao:Option Addr)(c gl cl gr cr:Nat)(t:ByteArray)(mn:Nat)(mx:Int)(i j:Nat)(hmn:mn<=255)(hmx:mx=-1\/((mn:Int)<=mx/\mx<=255))(hbr:BrAt w ns (.slice ao ns.length c) gl gr)(hi:i<=t.size)(hj:j<=t.size)(ht:t.size<=4096):
  Calls Tryz.prog 55 #[.agg #[.slice ao ns.length c,.slice (some ⟨gl,0,none⟩) ns.length cl,.slice (some ⟨gr,0,none⟩) ns.length cr,.string t],.int .i64 n,.int .i64 mn,.int .i64 mx,.int .i64 i,.int .i64 j] w fun e w'=>zpM w (Lg t.data.toList (.rep (tOf ns n) mn mx) i j) e w':=by
 have hb0:Below w.heap.size w (w.alloc (.cells #[.slice ao ns.length c,.slice (some ⟨gl,0,none⟩) ns.length cl,.slice (some ⟨gr,0,none⟩) ns.length cr,.string t] 46)):=(Below.refl _ _).alloc (zsa _) _;have k0:(w.alloc (.cells #[.slice ao ns.length c,.slice (some ⟨gl,0,none⟩) ns.length cl,.slice (some ⟨gr,0,none⟩) ns.length cr,.string t] 46)).heap[w.heap.size]?=some (BoxB ao ns c gl cl gr cr t):=zsp _ _;have hOnly:=fun(W:World)=>zjO t.size i W hi (by omega)
 have hEnds:∀(W:World) (g:Nat),Below w.heap.size w W->zbe W g (zdu t.size i)->
   Calls Tryz.prog 54 #[.agg #[.slice ao ns.length c,.slice (some ⟨gl,0,none⟩) ns.length cl,.slice (some ⟨gr,0,none⟩) ns.length cr,.string t],.int .i64 n,.int .i64 mn,.int .i64 mx,.slice (some ⟨g,0,none⟩) (t.size+1) (t.size+1)] W fun r w'=>zl7 W t (t.size+1) (zaU t.data.toList (In (.rep (tOf ns n) mn mx)) (· = i)) r w':=fun W g h1 h2=>
  zhU ns n hE W ao c gl cl gr cr t g (t.size+1) (t.size+1) (zdu t.size i) _ mn mx (hbr.below h1) h2 (by simp[zdu]) (zeA t.size i hi) ht hmn hmx
 clear hE hbr hmn hmx;generalize hT:Pt.rep (tOf ns n) mn mx=T at *;generalize hU:t.data.toList=u at *;obtain⟨q0,q1,q2,q3⟩:=zaC k0;obtain⟨W0,hW0⟩:∃W0,w.alloc (.cells #[.slice ao ns.length c,.slice (some ⟨gl,0,none⟩) ns.length cl,.slice (some ⟨gr,0,none⟩) ns.length cr,.string t] 46)=W0:=⟨_,rfl⟩;rw[hW0] at hb0 k0 q0 q1 q2 q3;have hl0:=zbQ k0;have bl0:=hb0.drew;have hi0:(0:Int)<=(j:Int):=by omega
 have hi1:(j:Int)<(t.size:Int)+1:=by omega
 clear k0
 go_enter Tryz.func55,Tryz.ntmps55
 go_wp2;clear hW0
 go_region_with (first|(go_at_call 31;refine(hOnly _).mono ?_;rintro r w3 ⟨rfl,hB3,hb3⟩;have bl3:=hb3.size;have z0:=(hb3.cell (p:=⟨w.heap.size,0,none⟩) hl0).trans q0;have z1:=(hb3.cell (p:=⟨w.heap.size,1,none⟩) hl0).trans q1;have z2:=(hb3.cell (p:=⟨w.heap.size,2,none⟩) hl0).trans q2;have z3:=(hb3.cell (p:=⟨w.heap.size,3,none⟩) hl0).trans q3)|(go_at_call 54;refine(hEnds _ _ (zaa bl0 bl0.size hb3) hB3).mono ?_;rintro r w4 ⟨g4,c4,S4,rfl,hB4,hl4,hs4,hb4⟩;have hcell:=hB4.2 j (by omega);obtain⟨q,hq⟩:∃q,S4.getD j false=q:=⟨_,rfl⟩;rw[hq] at hcell;have Hq:Hid _:=hq;clear hq))
 all_goals
  have bel:=zaa (zaa bl0 bl0.size hb3) (zaa bl0 bl0.size hb3).size hb4;have hiff:q=true↔Lg u T i j:=by rw[<-Hq.out];exact zmA hs4
  go_wp2;go_ret;exact⟨q,rfl,hiff,bel⟩
def CpC(ns:List zak)(x:Nat)(t:ByteArray)(mn:Nat)(mx:Int)(i j:Nat)(l:List Up):Prop:=
 ∀(w:World) (ao:Option Addr) (c gl cl gr cr B g cap m:Nat) (sp:List (Int×Int)),BrAt w ns (.slice ao ns.length c) gl gr->w.ownsRow B 50 2 (.slice (some ⟨g,0,none⟩) m cap) m (pv sp)->sp.length=m->B<=w.heap.size->0<m->m<=1048576->i<=j->j<=t.size->t.size<=4096->(∀z∈l,1<=z.1/\z.1<(m:Int))->mn<=255->(mx=-1\/((mn:Int)<=mx/\mx<=255))->
  Calls Tryz.prog 33 #[.agg #[.slice ao ns.length c,.slice (some ⟨gl,0,none⟩) ns.length cl,.slice (some ⟨gr,0,none⟩) ns.length cr,.string t],.int .i64 x,.int .i64 mn,.int .i64 mx,.int .i64 i,.int .i64 j,.slice (some ⟨g,0,none⟩) m cap] w fun e w'=>PlcR B w m (upG sp l) e w'
theorem zok(ns:List zak)(x:Nat)(t:ByteArray)(mn:Nat)(mx:Int)(i j:Nat)(h:mn=0/\mx=0):CpC ns x t mn mx i j []:=by
 obtain⟨rfl,rfl⟩:=h;intro w ao c gl cl gr cr B g cap m sp hbr hown hsm hB hm0 hm1 hij hjt ht hg hmn hmx;obtain⟨W0,hW0⟩:∃W0,w.alloc (.cells #[.slice ao ns.length c,.slice (some ⟨gl,0,none⟩) ns.length cl,.slice (some ⟨gr,0,none⟩) ns.length cr,.string t] 46)=W0:=⟨_,rfl⟩;have hb0:Below w.heap.size w W0:=by rw[<-hW0];exact(Below.refl _ _).alloc (zsa _) _
 have k0:W0.heap[w.heap.size]?=some (BoxB ao ns c gl cl gr cr t):=by rw[<-hW0];exact zsp _ _
 clear k0
 go_enter Tryz.func33,Tryz.ntmps33
 go_wp2;exact zsl (v:=.slice (some ⟨g,0,none⟩) m cap) (by simp[results,Tryz.results33,go_sem]) rfl ⟨g,cap,rfl,zab hown hb0,hb0⟩
theorem zom(ns:List zak)(x:Nat)(t:ByteArray)(mn:Nat)(mx:Int)(i j:Nat)(h:mn=0/\mx=-1/\i=j):CpC ns x t mn mx i j []:=by
 obtain⟨rfl,rfl,rfl⟩:=h;intro w ao c gl cl gr cr B g cap m sp hbr hown hsm hB hm0 hm1 hij hjt ht hg hmn hmx;obtain⟨W0,hW0⟩:∃W0,w.alloc (.cells #[.slice ao ns.length c,.slice (some ⟨gl,0,none⟩) ns.length cl,.slice (some ⟨gr,0,none⟩) ns.length cr,.string t] 46)=W0:=⟨_,rfl⟩;have hb0:Below w.heap.size w W0:=by rw[<-hW0];exact(Below.refl _ _).alloc (zsa _) _
 have k0:W0.heap[w.heap.size]?=some (BoxB ao ns c gl cl gr cr t):=by rw[<-hW0];exact zsp _ _
 clear k0
 go_enter Tryz.func33,Tryz.ntmps33
 go_wp2;exact zsl (v:=.slice (some ⟨g,0,none⟩) m cap) (by simp[results,Tryz.results33,go_sem]) rfl ⟨g,cap,rfl,zab hown hb0,hb0⟩
theorem zmp(ns:List zak)(x:Nat)(hE:zbO ns x)(hX:PlcC ns x)(t:ByteArray)(n mn:Nat)(mx:Int)(hn:n=mn+1)(hp:0<mx)(i j cut:Nat)(l1 l2:List Up)(hG:Gre (fun k=>Lg t.data.toList (tOf ns x) i k/\Lg t.data.toList (.rep (tOf ns x) ((mn:Nat):Int) (mx-1)) k j) (i) j cut)(hp1:Pl t.data.toList (tOf ns x) i cut l1)(ih:CpC ns x t (mn) (mx-1) cut j l2):CpC ns x t (n) (mx) i j (l1++l2):=by
 intro w ao c gl cl gr cr B g cap m sp hbr hown hsm hB hm0 hm1 hij hjt ht hg hmn hmx;obtain⟨W0,hW0⟩:∃W0,w.alloc (.cells #[.slice ao ns.length c,.slice (some ⟨gl,0,none⟩) ns.length cl,.slice (some ⟨gr,0,none⟩) ns.length cr,.string t] 46)=W0:=⟨_,rfl⟩;have hb0:Below w.heap.size w W0:=by rw[<-hW0];exact(Below.refl _ _).alloc (zsa _) _
 have k0:W0.heap[w.heap.size]?=some (BoxB ao ns c gl cl gr cr t):=by rw[<-hW0];exact zsp _ _
 have hn2:0<n:=by omega
 have hd1:decide (0<n)=true:=by simp[hn2]
 have hn1:(n:Int)-1=(mn:Int):=by omega
 have hn0:(0:Int)<(n:Int):=by omega
 have hd2:decide (0<mx)=true:=by simp[hp]
 have hc1:=hG.1;have hc2:=hG.2.1;have hIn:=fun(kk:Nat) (W:World) (hb:Below w.heap.size w W) (hkk:kk<=t.size)=>zeP ns x hE W ao c gl cl gr cr t i kk (hbr.below hb) (by omega) hkk ht
 have hCo:=fun(kk:Nat) (W:World) (hb:Below w.heap.size w W) (hkk:kk<=t.size)=>zh5 ns x hE W ao c gl cl gr cr t (mn) (mx-1) kk j (by omega) (by omega) (hbr.below hb) hkk hjt ht
 have hX':=fun(W:World) (hb:Below w.heap.size w W) (h1:W.ownsRow B 50 2 (.slice (some ⟨g,0,none⟩) m cap) m (pv sp))=>hX W ao c gl cl gr cr t B i cut g cap m sp l1 (hbr.below hb) h1 hsm (zsb hB hb.size) hm0 hm1 (by omega) (zsb hc2 hjt) ht (fun z hz=>hg z (zrR.2 (.inl hz))) hp1
 have hY':=fun(W:World) (hb:Below w.heap.size w W) (g' cap':Nat) (h1:W.ownsRow B 50 2 (.slice (some ⟨g',0,none⟩) m cap') m (pv (upG sp l1)))=>ih W ao c gl cl gr cr B g' cap' m (upG sp l1) (hbr.below hb) h1 (by rw[zcy];exact hsm) (zsb hB hb.size) hm0 hm1 hc2 hjt ht (fun z hz=>hg z (zrR.2 (.inr hz))) (by omega) (by omega)
 have Hc3:Hid (Lg t.data.toList (tOf ns x) i cut/\Lg t.data.toList (.rep (tOf ns x) ((mn:Nat):Int) (mx-1)) cut j):=hG.2.2.1;have Hc4:Hid (∀k,cut<k->k<=j->¬(Lg t.data.toList (tOf ns x) i k/\Lg t.data.toList (.rep (tOf ns x) ((mn:Nat):Int) (mx-1)) k j)):=hG.2.2.2;have Hu:Hid (upG sp (l1++l2)=upG (upG sp l1) l2):=zeG sp l1 l2;have HB:Hid (B<=w.heap.size):=hB;clear hG hp1 ih hE hX hbr hg hB;clear hn
 go_enter Tryz.func33,Tryz.ntmps33
 go_wp2;clear hW0
 go_loopw [18] (fun k wr=>∃kk:Nat,cut<=kk/\kk<=j/\k=.int .i64 kk/\Below w.heap.size w wr/\wr.heap[w.heap.size]?=some (BoxB ao ns c gl cl gr cr t))
  (fun k _=>(intOf k).toNat)
 case atStart=>exact⟨j,hc2,zsa _,rfl,hb0,k0⟩
 case round=>
  clear k0;obtain⟨kk,hk1,hk2,rfl,hbr,kr⟩:=hrel;obtain⟨a0,a1,a2,a3⟩:=zaC kr;have hkt:kk<=t.size:=by omega
  have hge:(((i:Nat):Int))<=(kk:Int):=by omega
  have hge2:(i:Int)<=(kk:Int):=by omega
  obtain⟨b1,hb1⟩:∃b:Bool,(b=true↔Lg t.data.toList (tOf ns x) i kk):=by
   by_cases h:Lg t.data.toList (tOf ns x) i kk
   ·exact⟨true,⟨fun _=>h,fun _=>rfl⟩⟩
   ·exact⟨false,⟨fun k=>(by cases k),fun k=>absurd k h⟩⟩
  have Hb1:Hid (b1=true↔Lg t.data.toList (tOf ns x) i kk):=hb1;clear hb1
  go_wp2_with fail
  refine(hIn kk _ hbr hkt).mono ?_;rintro e w4 ⟨q,rfl,hq,hb4⟩;obtain rfl:q=b1:=by
   have:=hq.trans Hb1.out.symm;cases q<;>cases b1<;>simp_all
  clear hq;have kr4:=zat kr hb4;have hbr4:=zaa hbr hbr.size hb4;obtain⟨c0,c1,c2,c3⟩:=zaC kr4;clear a0 a1 a2 a3 kr hbr hb4;cases q
  ·have hne:cut≠kk:=fun h=>by
    have:=Hb1.out.2 (h ▸ Hc3.out.1);cases this
   go_wp2
   go_roundw
   case rel=>exact⟨kk-1,by omega,by omega,by go_num,hbr4,kr4⟩
   case measure=>simp[intOf];omega
  ·go_wp2_with fail
   refine(hCo kk _ hbr4 hkt).mono ?_;rintro e w5 ⟨q,rfl,hq,hb5⟩;have Hq:Hid (q=true↔Lg t.data.toList (.rep (tOf ns x) ((mn:Nat):Int) (mx-1)) kk j):=hq;clear hq;have kr5:=zat kr4 hb5;have hbr5:=zaa hbr4 hbr4.size hb5;obtain⟨d0,d1,d2,d3⟩:=zaC kr5;clear c0 c1 c2 c3 kr4 hbr4 hb5;cases q
   ·have hne:cut≠kk:=fun h=>by
     have:=Hq.out.2 (h ▸ Hc3.out.2);cases this
    go_wp2
    go_roundw
    case rel=>exact⟨kk-1,by omega,by omega,by go_num,hbr5,kr5⟩
    case measure=>simp[intOf];omega
   ·have heq:kk=cut:=by
     rcases zsd cut kk with h|h
     ·exact absurd ⟨Hb1.out.1 (by first|trivial|rfl),Hq.out.1 (by first|trivial|rfl)⟩ (Hc4.out kk h hk2)
     ·omega
    subst heq;go_wp2;have hb6:=hbr5.drew;have kr6:=zat kr5 ((Below.refl w5.heap.size w5).drew);obtain⟨e0,e1,e2,e3⟩:=zaC kr6;have own6:=zab hown hb6;clear hIn hCo d0 d1 d2 d3
    go_region_with (first|(go_at_call 16;refine(hX' _ hb6 own6).mono ?_;rintro e w8 ⟨g8,cap8,rfl,own8,hb8⟩;clear hX';have kr8:=zat kr6 hb8;obtain⟨f0,f1,f2,f3⟩:=zaC kr8;have hb9:=zaa hb6 hb6.size hb8)|(go_at_call 33;refine(hY' _ hb9 g8 cap8 own8).mono ?_;rintro e w9 ⟨g9,cap9,rfl,own9,hb10⟩))
    all_goals
     have bel:=zaa hb9 hb9.size hb10;rw[<-Hu.out] at own9;go_wp2;exact zsl (v:=.slice (some ⟨g9,0,none⟩) m cap9) (by simp[results,Tryz.results33,go_sem]) rfl ⟨g9,cap9,rfl,own9,bel⟩
theorem zmo(ns:List zak)(x:Nat)(hE:zbO ns x)(hX:PlcC ns x)(t:ByteArray)(n mn:Nat)(hn:n=mn+1)(i j cut:Nat)(l1 l2:List Up)(hG:Gre (fun k=>Lg t.data.toList (tOf ns x) i k/\Lg t.data.toList (.rep (tOf ns x) ((mn:Nat):Int) (-1)) k j) (i) j cut)(hp1:Pl t.data.toList (tOf ns x) i cut l1)(ih:CpC ns x t (mn) (-1) cut j l2):CpC ns x t (n) (-1) i j (l1++l2):=by
 intro w ao c gl cl gr cr B g cap m sp hbr hown hsm hB hm0 hm1 hij hjt ht hg hmn hmx;obtain⟨W0,hW0⟩:∃W0,w.alloc (.cells #[.slice ao ns.length c,.slice (some ⟨gl,0,none⟩) ns.length cl,.slice (some ⟨gr,0,none⟩) ns.length cr,.string t] 46)=W0:=⟨_,rfl⟩;have hb0:Below w.heap.size w W0:=by rw[<-hW0];exact(Below.refl _ _).alloc (zsa _) _
 have k0:W0.heap[w.heap.size]?=some (BoxB ao ns c gl cl gr cr t):=by rw[<-hW0];exact zsp _ _
 have hn2:0<n:=by omega
 have hd1:decide (0<n)=true:=by simp[hn2]
 have hn1:(n:Int)-1=(mn:Int):=by omega
 have hn0:(0:Int)<(n:Int):=by omega
 have hc1:=hG.1;have hc2:=hG.2.1;have hIn:=fun(kk:Nat) (W:World) (hb:Below w.heap.size w W) (hkk:kk<=t.size)=>zeP ns x hE W ao c gl cl gr cr t i kk (hbr.below hb) (by omega) hkk ht
 have hCo:=fun(kk:Nat) (W:World) (hb:Below w.heap.size w W) (hkk:kk<=t.size)=>zh5 ns x hE W ao c gl cl gr cr t (mn) (-1) kk j (by omega) (by omega) (hbr.below hb) hkk hjt ht
 have hX':=fun(W:World) (hb:Below w.heap.size w W) (h1:W.ownsRow B 50 2 (.slice (some ⟨g,0,none⟩) m cap) m (pv sp))=>hX W ao c gl cl gr cr t B i cut g cap m sp l1 (hbr.below hb) h1 hsm (zsb hB hb.size) hm0 hm1 (by omega) (zsb hc2 hjt) ht (fun z hz=>hg z (zrR.2 (.inl hz))) hp1
 have hY':=fun(W:World) (hb:Below w.heap.size w W) (g' cap':Nat) (h1:W.ownsRow B 50 2 (.slice (some ⟨g',0,none⟩) m cap') m (pv (upG sp l1)))=>ih W ao c gl cl gr cr B g' cap' m (upG sp l1) (hbr.below hb) h1 (by rw[zcy];exact hsm) (zsb hB hb.size) hm0 hm1 hc2 hjt ht (fun z hz=>hg z (zrR.2 (.inr hz))) (by omega) (by omega)
 have Hc3:Hid (Lg t.data.toList (tOf ns x) i cut/\Lg t.data.toList (.rep (tOf ns x) ((mn:Nat):Int) (-1)) cut j):=hG.2.2.1;have Hc4:Hid (∀k,cut<k->k<=j->¬(Lg t.data.toList (tOf ns x) i k/\Lg t.data.toList (.rep (tOf ns x) ((mn:Nat):Int) (-1)) k j)):=hG.2.2.2;have Hu:Hid (upG sp (l1++l2)=upG (upG sp l1) l2):=zeG sp l1 l2;have HB:Hid (B<=w.heap.size):=hB;clear hG hp1 ih hE hX hbr hg hB;clear hn
 go_enter Tryz.func33,Tryz.ntmps33
 go_wp2;clear hW0
 go_loopw [18] (fun k wr=>∃kk:Nat,cut<=kk/\kk<=j/\k=.int .i64 kk/\Below w.heap.size w wr/\wr.heap[w.heap.size]?=some (BoxB ao ns c gl cl gr cr t))
  (fun k _=>(intOf k).toNat)
 case atStart=>exact⟨j,hc2,zsa _,rfl,hb0,k0⟩
 case round=>
  clear k0;obtain⟨kk,hk1,hk2,rfl,hbr,kr⟩:=hrel;obtain⟨a0,a1,a2,a3⟩:=zaC kr;have hkt:kk<=t.size:=by omega
  have hge:(((i:Nat):Int))<=(kk:Int):=by omega
  have hge2:(i:Int)<=(kk:Int):=by omega
  obtain⟨b1,hb1⟩:∃b:Bool,(b=true↔Lg t.data.toList (tOf ns x) i kk):=by
   by_cases h:Lg t.data.toList (tOf ns x) i kk
   ·exact⟨true,⟨fun _=>h,fun _=>rfl⟩⟩
   ·exact⟨false,⟨fun k=>(by cases k),fun k=>absurd k h⟩⟩
  have Hb1:Hid (b1=true↔Lg t.data.toList (tOf ns x) i kk):=hb1;clear hb1
  go_wp2_with fail
  refine(hIn kk _ hbr hkt).mono ?_;rintro e w4 ⟨q,rfl,hq,hb4⟩;obtain rfl:q=b1:=by
   have:=hq.trans Hb1.out.symm;cases q<;>cases b1<;>simp_all
  clear hq;have kr4:=zat kr hb4;have hbr4:=zaa hbr hbr.size hb4;obtain⟨c0,c1,c2,c3⟩:=zaC kr4;clear a0 a1 a2 a3 kr hbr hb4;cases q
  ·have hne:cut≠kk:=fun h=>by
    have:=Hb1.out.2 (h ▸ Hc3.out.1);cases this
   go_wp2
   go_roundw
   case rel=>exact⟨kk-1,by omega,by omega,by go_num,hbr4,kr4⟩
   case measure=>simp[intOf];omega
  ·go_wp2_with fail
   refine(hCo kk _ hbr4 hkt).mono ?_;rintro e w5 ⟨q,rfl,hq,hb5⟩;have Hq:Hid (q=true↔Lg t.data.toList (.rep (tOf ns x) ((mn:Nat):Int) (-1)) kk j):=hq;clear hq;have kr5:=zat kr4 hb5;have hbr5:=zaa hbr4 hbr4.size hb5;obtain⟨d0,d1,d2,d3⟩:=zaC kr5;clear c0 c1 c2 c3 kr4 hbr4 hb5;cases q
   ·have hne:cut≠kk:=fun h=>by
     have:=Hq.out.2 (h ▸ Hc3.out.2);cases this
    go_wp2
    go_roundw
    case rel=>exact⟨kk-1,by omega,by omega,by go_num,hbr5,kr5⟩
    case measure=>simp[intOf];omega
   ·have heq:kk=cut:=by
     rcases zsd cut kk with h|h
     ·exact absurd ⟨Hb1.out.1 (by first|trivial|rfl),Hq.out.1 (by first|trivial|rfl)⟩ (Hc4.out kk h hk2)
     ·omega
    subst heq;go_wp2;have hb6:=hbr5.drew;have kr6:=zat kr5 ((Below.refl w5.heap.size w5).drew);obtain⟨e0,e1,e2,e3⟩:=zaC kr6;have own6:=zab hown hb6;clear hIn hCo d0 d1 d2 d3
    go_region_with (first|(go_at_call 16;refine(hX' _ hb6 own6).mono ?_;rintro e w8 ⟨g8,cap8,rfl,own8,hb8⟩;clear hX';have kr8:=zat kr6 hb8;obtain⟨f0,f1,f2,f3⟩:=zaC kr8;have hb9:=zaa hb6 hb6.size hb8)|(go_at_call 33;refine(hY' _ hb9 g8 cap8 own8).mono ?_;rintro e w9 ⟨g9,cap9,rfl,own9,hb10⟩))
    all_goals
     have bel:=zaa hb9 hb9.size hb10;rw[<-Hu.out] at own9;go_wp2;exact zsl (v:=.slice (some ⟨g9,0,none⟩) m cap9) (by simp[results,Tryz.results33,go_sem]) rfl ⟨g9,cap9,rfl,own9,bel⟩
theorem zpY(ns:List zak)(x:Nat)(hE:zbO ns x)(hX:PlcC ns x)(t:ByteArray)(mx:Int)(hp:0<mx)(i j cut:Nat)(l1 l2:List Up)(hG:Gre (fun k=>Lg t.data.toList (tOf ns x) i k/\Lg t.data.toList (.rep (tOf ns x) ((0:Nat):Int) (mx-1)) k j) (i) j cut)(hp1:Pl t.data.toList (tOf ns x) i cut l1)(ih:CpC ns x t (0) (mx-1) cut j l2):CpC ns x t (0) (mx) i j (l1++l2):=by
 intro w ao c gl cl gr cr B g cap m sp hbr hown hsm hB hm0 hm1 hij hjt ht hg hmn hmx;obtain⟨W0,hW0⟩:∃W0,w.alloc (.cells #[.slice ao ns.length c,.slice (some ⟨gl,0,none⟩) ns.length cl,.slice (some ⟨gr,0,none⟩) ns.length cr,.string t] 46)=W0:=⟨_,rfl⟩;have hb0:Below w.heap.size w W0:=by rw[<-hW0];exact(Below.refl _ _).alloc (zsa _) _
 have k0:W0.heap[w.heap.size]?=some (BoxB ao ns c gl cl gr cr t):=by rw[<-hW0];exact zsp _ _
 have hd2:decide (0<mx)=true:=by simp[hp]
 have hd3:(mx==0)=false:=by simp;omega
 have hd4:(mx == -1)=false:=by simp;omega
 have hc1:=hG.1;have hc2:=hG.2.1;have hIn:=fun(kk:Nat) (W:World) (hb:Below w.heap.size w W) (hkk:kk<=t.size)=>zeP ns x hE W ao c gl cl gr cr t i kk (hbr.below hb) (by omega) hkk ht
 have hCo:=fun(kk:Nat) (W:World) (hb:Below w.heap.size w W) (hkk:kk<=t.size)=>zh5 ns x hE W ao c gl cl gr cr t (0) (mx-1) kk j (by omega) (by omega) (hbr.below hb) hkk hjt ht
 have hX':=fun(W:World) (hb:Below w.heap.size w W) (h1:W.ownsRow B 50 2 (.slice (some ⟨g,0,none⟩) m cap) m (pv sp))=>hX W ao c gl cl gr cr t B i cut g cap m sp l1 (hbr.below hb) h1 hsm (zsb hB hb.size) hm0 hm1 (by omega) (zsb hc2 hjt) ht (fun z hz=>hg z (zrR.2 (.inl hz))) hp1
 have hY':=fun(W:World) (hb:Below w.heap.size w W) (g' cap':Nat) (h1:W.ownsRow B 50 2 (.slice (some ⟨g',0,none⟩) m cap') m (pv (upG sp l1)))=>ih W ao c gl cl gr cr B g' cap' m (upG sp l1) (hbr.below hb) h1 (by rw[zcy];exact hsm) (zsb hB hb.size) hm0 hm1 hc2 hjt ht (fun z hz=>hg z (zrR.2 (.inr hz))) (by omega) (by omega)
 have Hc3:Hid (Lg t.data.toList (tOf ns x) i cut/\Lg t.data.toList (.rep (tOf ns x) ((0:Nat):Int) (mx-1)) cut j):=hG.2.2.1;have Hc4:Hid (∀k,cut<k->k<=j->¬(Lg t.data.toList (tOf ns x) i k/\Lg t.data.toList (.rep (tOf ns x) ((0:Nat):Int) (mx-1)) k j)):=hG.2.2.2;have Hu:Hid (upG sp (l1++l2)=upG (upG sp l1) l2):=zeG sp l1 l2;have HB:Hid (B<=w.heap.size):=hB;clear hG hp1 ih hE hX hbr hg hB;simp only[show ((0:Nat):Int)=0 from rfl] at hCo hY' ⊢
 go_enter Tryz.func33,Tryz.ntmps33
 go_wp2;clear hW0
 go_loopw [18] (fun k wr=>∃kk:Nat,cut<=kk/\kk<=j/\k=.int .i64 kk/\Below w.heap.size w wr/\wr.heap[w.heap.size]?=some (BoxB ao ns c gl cl gr cr t))
  (fun k _=>(intOf k).toNat)
 case atStart=>exact⟨j,hc2,zsa _,rfl,hb0,k0⟩
 case round=>
  clear k0;obtain⟨kk,hk1,hk2,rfl,hbr,kr⟩:=hrel;obtain⟨a0,a1,a2,a3⟩:=zaC kr;have hkt:kk<=t.size:=by omega
  have hge:(((i:Nat):Int))<=(kk:Int):=by omega
  have hge2:(i:Int)<=(kk:Int):=by omega
  obtain⟨b1,hb1⟩:∃b:Bool,(b=true↔Lg t.data.toList (tOf ns x) i kk):=by
   by_cases h:Lg t.data.toList (tOf ns x) i kk
   ·exact⟨true,⟨fun _=>h,fun _=>rfl⟩⟩
   ·exact⟨false,⟨fun k=>(by cases k),fun k=>absurd k h⟩⟩
  have Hb1:Hid (b1=true↔Lg t.data.toList (tOf ns x) i kk):=hb1;clear hb1
  go_wp2_with fail
  refine(hIn kk _ hbr hkt).mono ?_;rintro e w4 ⟨q,rfl,hq,hb4⟩;obtain rfl:q=b1:=by
   have:=hq.trans Hb1.out.symm;cases q<;>cases b1<;>simp_all
  clear hq;have kr4:=zat kr hb4;have hbr4:=zaa hbr hbr.size hb4;obtain⟨c0,c1,c2,c3⟩:=zaC kr4;clear a0 a1 a2 a3 kr hbr hb4;cases q
  ·have hne:cut≠kk:=fun h=>by
    have:=Hb1.out.2 (h ▸ Hc3.out.1);cases this
   go_wp2
   go_roundw
   case rel=>exact⟨kk-1,by omega,by omega,by go_num,hbr4,kr4⟩
   case measure=>simp[intOf];omega
  ·go_wp2_with fail
   refine(hCo kk _ hbr4 hkt).mono ?_;rintro e w5 ⟨q,rfl,hq,hb5⟩;have Hq:Hid (q=true↔Lg t.data.toList (.rep (tOf ns x) ((0:Nat):Int) (mx-1)) kk j):=hq;clear hq;have kr5:=zat kr4 hb5;have hbr5:=zaa hbr4 hbr4.size hb5;obtain⟨d0,d1,d2,d3⟩:=zaC kr5;clear c0 c1 c2 c3 kr4 hbr4 hb5;cases q
   ·have hne:cut≠kk:=fun h=>by
     have:=Hq.out.2 (h ▸ Hc3.out.2);cases this
    go_wp2
    go_roundw
    case rel=>exact⟨kk-1,by omega,by omega,by go_num,hbr5,kr5⟩
    case measure=>simp[intOf];omega
   ·have heq:kk=cut:=by
     rcases zsd cut kk with h|h
     ·exact absurd ⟨Hb1.out.1 (by first|trivial|rfl),Hq.out.1 (by first|trivial|rfl)⟩ (Hc4.out kk h hk2)
     ·omega
    subst heq;go_wp2;have hb6:=hbr5.drew;have kr6:=zat kr5 ((Below.refl w5.heap.size w5).drew);obtain⟨e0,e1,e2,e3⟩:=zaC kr6;have own6:=zab hown hb6;clear hIn hCo d0 d1 d2 d3
    go_region_with (first|(go_at_call 16;refine(hX' _ hb6 own6).mono ?_;rintro e w8 ⟨g8,cap8,rfl,own8,hb8⟩;clear hX';have kr8:=zat kr6 hb8;obtain⟨f0,f1,f2,f3⟩:=zaC kr8;have hb9:=zaa hb6 hb6.size hb8)|(go_at_call 33;refine(hY' _ hb9 g8 cap8 own8).mono ?_;rintro e w9 ⟨g9,cap9,rfl,own9,hb10⟩))
    all_goals
     have bel:=zaa hb9 hb9.size hb10;rw[<-Hu.out] at own9;go_wp2;exact zsl (v:=.slice (some ⟨g9,0,none⟩) m cap9) (by simp[results,Tryz.results33,go_sem]) rfl ⟨g9,cap9,rfl,own9,bel⟩
theorem zol(ns:List zak)(x:Nat)(hE:zbO ns x)(hX:PlcC ns x)(t:ByteArray)(i j cut:Nat)(l1 l2:List Up)(hG:Gre (fun k=>Lg t.data.toList (tOf ns x) i k/\Lg t.data.toList (.rep (tOf ns x) ((0:Nat):Int) (-1)) k j) (i+1) j cut)(hp1:Pl t.data.toList (tOf ns x) i cut l1)(ih:CpC ns x t (0) (-1) cut j l2):CpC ns x t (0) (-1) i j (l1++l2):=by
 intro w ao c gl cl gr cr B g cap m sp hbr hown hsm hB hm0 hm1 hij hjt ht hg hmn hmx;obtain⟨W0,hW0⟩:∃W0,w.alloc (.cells #[.slice ao ns.length c,.slice (some ⟨gl,0,none⟩) ns.length cl,.slice (some ⟨gr,0,none⟩) ns.length cr,.string t] 46)=W0:=⟨_,rfl⟩;have hb0:Below w.heap.size w W0:=by rw[<-hW0];exact(Below.refl _ _).alloc (zsa _) _
 have k0:W0.heap[w.heap.size]?=some (BoxB ao ns c gl cl gr cr t):=by rw[<-hW0];exact zsp _ _
 have hij2:((i:Int)==(j:Int))=false:=by have:=hG.1;have:=hG.2.1;simp;omega
 have hc1:=hG.1;have hc2:=hG.2.1;have hIn:=fun(kk:Nat) (W:World) (hb:Below w.heap.size w W) (hkk:kk<=t.size)=>zeP ns x hE W ao c gl cl gr cr t i kk (hbr.below hb) (by omega) hkk ht
 have hCo:=fun(kk:Nat) (W:World) (hb:Below w.heap.size w W) (hkk:kk<=t.size)=>zh5 ns x hE W ao c gl cl gr cr t (0) (-1) kk j (by omega) (by omega) (hbr.below hb) hkk hjt ht
 have hX':=fun(W:World) (hb:Below w.heap.size w W) (h1:W.ownsRow B 50 2 (.slice (some ⟨g,0,none⟩) m cap) m (pv sp))=>hX W ao c gl cl gr cr t B i cut g cap m sp l1 (hbr.below hb) h1 hsm (zsb hB hb.size) hm0 hm1 (by omega) (zsb hc2 hjt) ht (fun z hz=>hg z (zrR.2 (.inl hz))) hp1
 have hY':=fun(W:World) (hb:Below w.heap.size w W) (g' cap':Nat) (h1:W.ownsRow B 50 2 (.slice (some ⟨g',0,none⟩) m cap') m (pv (upG sp l1)))=>ih W ao c gl cl gr cr B g' cap' m (upG sp l1) (hbr.below hb) h1 (by rw[zcy];exact hsm) (zsb hB hb.size) hm0 hm1 hc2 hjt ht (fun z hz=>hg z (zrR.2 (.inr hz))) (by omega) (by omega)
 have Hc3:Hid (Lg t.data.toList (tOf ns x) i cut/\Lg t.data.toList (.rep (tOf ns x) ((0:Nat):Int) (-1)) cut j):=hG.2.2.1;have Hc4:Hid (∀k,cut<k->k<=j->¬(Lg t.data.toList (tOf ns x) i k/\Lg t.data.toList (.rep (tOf ns x) ((0:Nat):Int) (-1)) k j)):=hG.2.2.2;have Hu:Hid (upG sp (l1++l2)=upG (upG sp l1) l2):=zeG sp l1 l2;have HB:Hid (B<=w.heap.size):=hB;clear hG hp1 ih hE hX hbr hg hB;simp only[show ((0:Nat):Int)=0 from rfl] at hCo hY' ⊢
 go_enter Tryz.func33,Tryz.ntmps33
 go_wp2;clear hW0
 go_loopw [18] (fun k wr=>∃kk:Nat,cut<=kk/\kk<=j/\k=.int .i64 kk/\Below w.heap.size w wr/\wr.heap[w.heap.size]?=some (BoxB ao ns c gl cl gr cr t))
  (fun k _=>(intOf k).toNat)
 case atStart=>exact⟨j,hc2,zsa _,rfl,hb0,k0⟩
 case round=>
  clear k0;obtain⟨kk,hk1,hk2,rfl,hbr,kr⟩:=hrel;obtain⟨a0,a1,a2,a3⟩:=zaC kr;have hkt:kk<=t.size:=by omega
  have hge:(((i+1:Nat):Int))<=(kk:Int):=by omega
  have hge2:(i:Int)<=(kk:Int):=by omega
  obtain⟨b1,hb1⟩:∃b:Bool,(b=true↔Lg t.data.toList (tOf ns x) i kk):=by
   by_cases h:Lg t.data.toList (tOf ns x) i kk
   ·exact⟨true,⟨fun _=>h,fun _=>rfl⟩⟩
   ·exact⟨false,⟨fun k=>(by cases k),fun k=>absurd k h⟩⟩
  have Hb1:Hid (b1=true↔Lg t.data.toList (tOf ns x) i kk):=hb1;clear hb1
  go_wp2_with fail
  refine(hIn kk _ hbr hkt).mono ?_;rintro e w4 ⟨q,rfl,hq,hb4⟩;obtain rfl:q=b1:=by
   have:=hq.trans Hb1.out.symm;cases q<;>cases b1<;>simp_all
  clear hq;have kr4:=zat kr hb4;have hbr4:=zaa hbr hbr.size hb4;obtain⟨c0,c1,c2,c3⟩:=zaC kr4;clear a0 a1 a2 a3 kr hbr hb4;cases q
  ·have hne:cut≠kk:=fun h=>by
    have:=Hb1.out.2 (h ▸ Hc3.out.1);cases this
   go_wp2
   go_roundw
   case rel=>exact⟨kk-1,by omega,by omega,by go_num,hbr4,kr4⟩
   case measure=>simp[intOf];omega
  ·go_wp2_with fail
   refine(hCo kk _ hbr4 hkt).mono ?_;rintro e w5 ⟨q,rfl,hq,hb5⟩;have Hq:Hid (q=true↔Lg t.data.toList (.rep (tOf ns x) ((0:Nat):Int) (-1)) kk j):=hq;clear hq;have kr5:=zat kr4 hb5;have hbr5:=zaa hbr4 hbr4.size hb5;obtain⟨d0,d1,d2,d3⟩:=zaC kr5;clear c0 c1 c2 c3 kr4 hbr4 hb5;cases q
   ·have hne:cut≠kk:=fun h=>by
     have:=Hq.out.2 (h ▸ Hc3.out.2);cases this
    go_wp2
    go_roundw
    case rel=>exact⟨kk-1,by omega,by omega,by go_num,hbr5,kr5⟩
    case measure=>simp[intOf];omega
   ·have heq:kk=cut:=by
     rcases zsd cut kk with h|h
     ·exact absurd ⟨Hb1.out.1 (by first|trivial|rfl),Hq.out.1 (by first|trivial|rfl)⟩ (Hc4.out kk h hk2)
     ·omega
    subst heq;go_wp2;have hb6:=hbr5.drew;have kr6:=zat kr5 ((Below.refl w5.heap.size w5).drew);obtain⟨e0,e1,e2,e3⟩:=zaC kr6;have own6:=zab hown hb6;clear hIn hCo d0 d1 d2 d3
    go_region_with (first|(go_at_call 16;refine(hX' _ hb6 own6).mono ?_;rintro e w8 ⟨g8,cap8,rfl,own8,hb8⟩;clear hX';have kr8:=zat kr6 hb8;obtain⟨f0,f1,f2,f3⟩:=zaC kr8;have hb9:=zaa hb6 hb6.size hb8)|(go_at_call 33;refine(hY' _ hb9 g8 cap8 own8).mono ?_;rintro e w9 ⟨g9,cap9,rfl,own9,hb10⟩))
    all_goals
     have bel:=zaa hb9 hb9.size hb10;rw[<-Hu.out] at own9;go_wp2;exact zsl (v:=.slice (some ⟨g9,0,none⟩) m cap9) (by simp[results,Tryz.results33,go_sem]) rfl ⟨g9,cap9,rfl,own9,bel⟩
end Go.Proofs.YthdljcdbfmhleaaGreatDoor
