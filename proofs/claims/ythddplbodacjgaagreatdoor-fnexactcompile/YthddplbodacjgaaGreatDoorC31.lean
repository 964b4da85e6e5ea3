import Derived.Test.YthddplbodacjgaaGreatDoorC30
namespace Go.Proofs.YthddplbodacjgaaGreatDoor
set_option maxHeartbeats 4000000
set_option maxRecDepth 100000
open Go.RowKit
variable {w W:World}{nw wt:Nat}{em:Bool}{A:Nat -> Nat}{ft fe:Int}{r:Ending}{tg fn:Nat -> Int}
attribute [local go_sem] Oper.semAt_some
def scC(bt nw gs:Nat)(t0 e0:Int)(gl:Nat)(t1 e1:Int)(gf wt:Nat):Array Value:=#[.pointer (some ⟨bt,0,none⟩),.slice (some ⟨gs,0,none⟩) nw nw,.int .i64 t0,.int .i64 e0,.slice (some ⟨gl,0,none⟩) nw nw,.int .i64 t1,.int .i64 e1,.slice (some ⟨gf,0,none⟩) wt wt]
theorem OpnA.box{b o gF:Nat}{T:Nat->Nat}{t e:Int}{C:Array Value}(h:OpnA w b o nw gF em T A t e ft fe r W)(hC:w.heap[b]?=some (.cells C 111 (0,0)))(hne:b≠gF):
  r=.returned (.tuple #[])/\W.heap[b]?=some (.cells (if em=true then (C.setIfInBounds (o+1) (.int .i64 (min t ft))).setIfInBounds (o+1+1) (.int .i64 (min e fe)) else C) 111 (0,0))/\zaB W nw gF (orT T A)/\zaM (fun k=>k=gF\/k=b) w W:=by
 obtain⟨rfl,W1,h1,h2,h3,h4⟩:=h;have hC1:=(h1.same b (zae hC) hne).trans hC;have t1:zaM (fun k=>k=gF\/k=b) w W1:=h1.mono fun k _ e=>.inl e
 cases em
 ·rw[h3 rfl];exact⟨rfl,hC1,h2,t1⟩
 ·rw[h4 rfl];refine⟨rfl,?_,?_,(t1.grown (zaN _ _ _ _) (fun g e=>by cases e;exact .inl (.inr rfl))).grown (zaN _ _ _ _) (fun g e=>by cases e;exact .inl (.inr rfl))⟩
  ·exact zuT _ _ _ _ _ _ (zuT _ _ _ _ _ _ hC1)
  ·exact⟨(zuS _ _ _ _ (by exact fun e=>hne e.symm)).trans ((zuS _ _ _ _ (by exact fun e=>hne e.symm)).trans h2.row),h2.lt⟩
def zbR(wt:Nat)(tg fn:Nat->Int):Array Value:=((List.range (wt*2)).map fun i=>Value.int .i64 (if i%2=0 then tg (i/2) else fn (i/2))).toArray
theorem zdG(wt:Nat)(tg fn:Nat->Int){p:Nat}(h:p<wt):(zbR wt tg fn)[p*2]?=some (.int .i64 (tg p)):=by
 have h1:p*2%2=0:=by omega
 have h2:p*2/2=p:=by omega
 unfold zbR;rw[ztZ,ztW,List.getElem?_range (by omega),Option.map_some,h1,h2,zuV rfl]
theorem zgx(wt:Nat)(tg fn:Nat->Int){p:Nat}(h:p<wt):(zbR wt tg fn)[p*2+1]?=some (.int .i64 (fn p)):=by
 have h1:(p*2+1)%2=1:=by omega
 have h2:(p*2+1)/2=p:=by omega
 unfold zbR;rw[ztZ,ztW,List.getElem?_range (by omega),Option.map_some,h1,h2,zuU (by omega)]
theorem zjo(wt:Nat)(tg fn:Nat->Int)(p:Nat)(x y:Int):((zbR wt tg fn).setIfInBounds (p*2) (.int .i64 x)).setIfInBounds (p*2+1) (.int .i64 y)=zbR wt (fun q=>if q=p then x else tg q) (fun q=>if q=p then y else fn q):=by
 apply ztn
 intro i;rw[ztq,ztq];have hsz:(zbR wt tg fn).size=wt*2:=by simp[zbR]
 rw[Array.size_setIfInBounds,hsz]
 by_cases hi:i<wt*2
 ·have g1:(zbR wt tg fn)[i]?=some (.int .i64 (if i%2=0 then tg (i/2) else fn (i/2))):=by simp[zbR,hi]
  have g2:(zbR wt (fun q=>if q=p then x else tg q) (fun q=>if q=p then y else fn q))[i]?=some (.int .i64 (if i%2=0 then (if i/2=p then x else tg (i/2)) else (if i/2=p then y else fn (i/2)))):=by simp[zbR,hi]
  rw[g1,g2]
  by_cases h1:p*2+1=i
  ·rw[zuV h1,zuV (by omega),zuU (by omega),zuV (by omega)]
  ·rw[zuU h1]
   by_cases h2:p*2=i
   ·rw[zuV h2,zuV (by omega),zuV (by omega),zuV (by omega)]
   ·rw[zuU h2]
    by_cases h3:i%2=0
    ·rw[zuV h3,zuV h3,zuU (by omega)]
    ·rw[zuU h3,zuU h3,zuU (by omega)]
 ·have g1:(zbR wt tg fn)[i]?=none:=by rw[zto (by rw[hsz];omega)]
  have g2:(zbR wt (fun q=>if q=p then x else tg q) (fun q=>if q=p then y else fn q))[i]?=none:=by rw[zto (by simp[zbR];omega)]
  rw[g1,g2]
  by_cases h1:p*2+1=i
  ·rw[zuV h1,zuU (by omega)]
  ·rw[zuU h1]
   by_cases h2:p*2=i
   ·rw[zuV h2,zuU (by omega)]
   ·rw[zuU h2]
theorem zdW{tg' fn':Nat->Int}(h1:∀p,p<wt->tg p=tg' p)(h2:∀p,p<wt->fn p=fn' p):zbR wt tg fn=zbR wt tg' fn':=by
 unfold zbR;rw[zua fun i hi=>?_];have hi':i<wt*2:=by simpa using hi
 rw[h1 (i/2) (by omega),h2 (i/2) (by omega)]
def AdmR(w:World)(s bt nw gs:Nat)(t0 e0:Int)(gl:Nat)(t1 e1:Int)(gf wt:Nat)(A0 A1 A L:Nat->Nat)(tg fn:Nat->Int)(bol em:Bool)(ft fe:Int)(r:Ending)(W:World):Prop:=
 r=.returned (.tuple #[])/\W.heap[s]?=some (.cells (scC bt nw gs (if em=true then min t0 ft else t0) (if em=true then min e0 fe else e0) gl (if (em && !bol)=true then min t1 ft else t1) (if (em && !bol)=true then min e1 fe else e1) gf wt) 111 (0,0))/\
  zaB W nw gs (orT A0 A)/\zaB W nw gl (if bol=true then A1 else orT A1 A)/\W.heap[gf]?=some (.cells (zbR wt (fun p=>if zaA L p=true then ft else tg p) (fun p=>if zaA L p=true then fe else fn p)) 103 (0,0))/\zaM (fun k=>k=s\/k=gs\/k=gl\/k=gf) w W
theorem zbD{n:Nat}{ob:Obj}(h:w.heap.size=n):(w.alloc ob).heap[n]?=some ob:=by subst h;exact zuR _ _
theorem AdmR.put{s bt gs:Nat}{t0 e0:Int}{gl:Nat}{t1 e1:Int}{gf:Nat}{A0 A1 L:Nat->Nat}{bol:Bool}(h:AdmR w s bt nw gs t0 e0 gl t1 e1 gf wt A0 A1 A L tg fn bol em ft fe r W){D:Nat}(hD:w.heap.size<=D)(h1:s<w.heap.size)(h2:gs<w.heap.size)(h3:gl<w.heap.size)(h4:gf<w.heap.size)(o:Obj):AdmR w s bt nw gs t0 e0 gl t1 e1 gf wt A0 A1 A L tg fn bol em ft fe r (W.putObj D o):=by
 obtain⟨a1,a2,a3,a4,a5,a6⟩:=h;exact⟨a1,(World.putObj_heap_other (by omega)).trans a2,⟨(World.putObj_heap_other (by omega)).trans a3.row,a3.lt⟩,⟨(World.putObj_heap_other (by omega)).trans a4.row,a4.lt⟩,(World.putObj_heap_other (by omega)).trans a5,a6.grown (grownBy_putObj' W D o) (fun g e=>by cases e;exact .inr hD)⟩
theorem zqg(s bt nw gs gl gf wt ga gz:Nat)(t0 e0 t1 e1:Int)(A0 A1 A L:Nat->Nat)(tg fn:Nat->Int)(r:Nat)(bol eol em:Bool)(na:Option Addr)(nn nc:Nat)(w:World)
  (hC:w.heap[s]?=some (.cells (scC bt nw gs t0 e0 gl t1 e1 gf wt) 111 (0,0))) (h0:zaB w nw gs A0) (h1:zaB w nw gl A1) (hF:w.heap[gf]?=some (.cells (zbR wt tg fn) 103 (0,0))) (hf:FrAt w nw ga gz A L)
  (d1:gs≠ga) (d2:gl≠ga) (d3:gs≠gl) (hm:∀p,zaA L p=true->p<wt) (hnw:nw<=1000) (hwt:wt<=4000) (hw64:wt<=64*nw) (hB:zbj w):
  Calls Tryz.prog 52 #[.pointer (some ⟨s,0,none⟩),.int .i64 (r:Int),.agg #[.bool bol,.bool eol,.slice na nn nc],.agg #[.bool em,.slice (some ⟨ga,0,none⟩) nw nw,.slice (some ⟨gz,0,none⟩) nw nw]] w
   (AdmR w s bt nw gs t0 e0 gl t1 e1 gf wt A0 A1 A L tg fn bol em (if eol=true then 100 else (r:Int)) r):=by
 refine(callsIn_wide (n:=5)).1 ?_;refine callsIn_of_wp_marks Tryz.func52 rfl trivial ?_ rfl;simp only[Tryz.ntmps52,zuo,zt2,zt4,Nat.reduceAdd,Nat.reduceSub,ztr,zts,zum,ztE,zuj,ztF];cases eol
 ·obtain⟨W0,hW0⟩:∃W0,(((w.alloc (.cells #[.pointer (some ⟨s,0,none⟩)] 63)).alloc (.cells #[.bool bol,.bool false,.slice na nn nc] 76)).alloc (.cells #[.bool em,.slice (some ⟨ga,0,none⟩) nw nw,.slice (some ⟨gz,0,none⟩) nw nw] 115)).alloc (.cells #[.int .i64 (r:Int),.int .i64 (r:Int)] 103)=W0:=⟨_,rfl⟩;have hb0:Below w.heap.size w W0:=by rw[<-hW0];exact((((Below.refl _ _).alloc (zuz _) _).alloc (by simp) _).alloc (by simp;omega) _).alloc (by simp;omega) _
  have hsz:W0.heap.size=w.heap.size+1+1+1+1:=by rw[<-hW0];simp
  have x4:W0.heap[w.heap.size]?=some (.cells #[.pointer (some ⟨s,0,none⟩)] 63 (0,0)):=by rw[<-hW0];exact zao (zao (zao (zuR _ _)))
  have x6:W0.heap[w.heap.size+1]?=some (.cells #[.bool bol,.bool false,.slice na nn nc] 76 (0,0)):=by rw[<-hW0];exact zao (zao (zbD (by simp)))
  have x7:W0.heap[w.heap.size+1+1]?=some (.cells #[.bool em,.slice (some ⟨ga,0,none⟩) nw nw,.slice (some ⟨gz,0,none⟩) nw nw] 115 (0,0)):=by rw[<-hW0];exact zao (zbD (by simp))
  have x8:W0.heap[w.heap.size+1+1+1]?=some (.cells #[.int .i64 (r:Int),.int .i64 (r:Int)] 103 (0,0)):=by rw[<-hW0];exact zbD (by simp)
  have yC:=(hb0.block s (zae hC)).trans hC;have yF:=(hb0.block gf (zae hF)).trans hF;have y0:=h0.below hb0;have y1:=h1.below hb0;have ya:=hf.fi.below hb0;have yz:=hf.la.below hb0;have yb:zbj W0:=hB.keep (hb0.block 0 (zbz hB));have ls:=zae hC;have lf:=zae hF;have l0:=h0.glt;have l1:=h1.glt;have la:=hf.fi.glt;have lz:=hf.la.glt;have n1:s≠gf:=fun e=>by rw[e,hF] at hC;exact absurd (zak hC) (by decide)
  have n2:gf≠gs:=fun e=>by have:=h0.row;rw[<-e,hF] at this;exact absurd (zak this) (by decide)
  have n3:gf≠gl:=fun e=>by have:=h1.row;rw[<-e,hF] at this;exact absurd (zak this) (by decide)
  have n4:gf≠ga:=fun e=>by have:=hf.fi.row;rw[<-e,hF] at this;exact absurd (zak this) (by decide)
  have n5:s≠gs:=fun e=>by have:=h0.row;rw[<-e,hC] at this;exact absurd (zak this) (by decide)
  have n6:s≠gl:=fun e=>by have:=h1.row;rw[<-e,hC] at this;exact absurd (zak this) (by decide)
  have n7:s≠ga:=fun e=>by have:=hf.fi.row;rw[<-e,hC] at this;exact absurd (zak this) (by decide)
  have n8:gf≠gz:=fun e=>by have:=hf.la.row;rw[<-e,hF] at this;exact absurd (zak this) (by decide)
  have n0:gf≠0:=fun e=>by
   have h9:=hB 0 (by omega);have hF':=hF;rw[e] at hF';rw[zuO _ _ _ _ _ _ hF'] at h9;rcases zuy wt with hw0|hw0
   ·subst hw0;rw[zto (by simp[zbR])] at h9;cases h9
   ·have:=zdG wt tg fn hw0;rw[Nat.zero_mul] at this;rw[this] at h9;cases h9
  obtain⟨p60,p61,p62,-,-,-⟩:=zac x6;obtain⟨p70,p71,p72,-,-,-⟩:=zac x7
  gi_wp2
  rename_i K hK
  clear hW0 p60 p61 p62 p70 p71 p72;refine zcF (by omega) (gf:=80) (fb:=#[.slice (some ⟨gz,0,none⟩) nw nw]) (lb:=#[]) rfl (enters_of Tryz.func80 (by kernel_rfl) rfl)
   (T:=[0,gz]) (by intro k hk;simp at hk;omega)
   (zci 4 nw gz nw L (by omega) hnw W0 yz yb) (fun _=>rfl)
   (fun pre W=>zaM (fun k=>k=gf) W0 W/\W.heap[gf]?=some (.cells (zbR wt (fun p=>if p∈zbt pre then (r:Int) else tg p) (fun p=>if p∈zbt pre then (r:Int) else fn p)) 103 (0,0)))
   (fun _ _ _=>False)
   (fun s A B hs ht=>⟨hs.1.turn ht,ht.same _ _ hs.2 (.inr rfl)⟩)
   (fun c s A B hs ht=>hs)
   ⟨zaM.refl _ _,by rw[yF];simp[zbt]⟩
   (fun x=>{tmps:=#[.pointer (some ⟨s,0,none⟩),.int .i64 (r:Int),.agg #[.bool bol,.bool false,.slice na nn nc],.agg #[.bool em,.slice (some ⟨ga,0,none⟩) nw nw,.slice (some ⟨gz,0,none⟩) nw nw],.pointer (some ⟨w.heap.size,0,none⟩),undef,.pointer (some ⟨w.heap.size+1,0,none⟩),.pointer (some ⟨w.heap.size+1+1,0,none⟩),.pointer (some ⟨w.heap.size+1+1+1,0,none⟩),.int .i64 (x.1:Int),.int .i64 (r:Int),.int .i64 (r:Int),.agg #[.int .i64 (r:Int),.int .i64 (r:Int)],.pointer (some ⟨w.heap.size+1,1,none⟩),.bool false,undef,.pointer (some ⟨w.heap.size+1+1,2,none⟩),.slice (some ⟨gz,0,none⟩) nw nw,.func (.func 80) #[.slice (some ⟨gz,0,none⟩) nw nw] #[],.int .i64 (x.1:Int),undef,undef,undef,undef,undef,undef,undef,undef,undef,undef,undef,undef,undef,undef,undef,undef,undef,undef,undef,undef,undef,undef],defers:=[]})
   ?assign ?body ?done ?stop
  case assign=>
   intro l x W K hK
   gi_wp2
   exact hK
  case stop=>
   rintro D c pre W hD _ hf;exact hf.elim
  case body=>
   rintro l pre ⟨x,hx⟩ W hl ⟨ht,hR⟩ hlen;have hxw:=hm x hx.2;have z4:W.cell? ⟨w.heap.size,0,none⟩=some (.pointer (some ⟨s,0,none⟩)):=(zuO _ _ _ _ _ _ ((ht.same _ (by omega) (by omega)).trans x4):W.cell? ⟨w.heap.size,0,none⟩=_);have x8':=(ht.same (w.heap.size+1+1+1) (by omega) (by omega)).trans x8;have z8:W.cell? ⟨w.heap.size+1+1+1,0,none⟩=some (.int .i64 (r:Int)):=(zuO _ _ _ _ _ _ x8':W.cell? ⟨w.heap.size+1+1+1,0,none⟩=_);have z9:W.cell? ⟨w.heap.size+1+1+1,1,none⟩=some (.int .i64 (r:Int)):=(zuO _ _ _ _ _ _ x8':W.cell? ⟨w.heap.size+1+1+1,1,none⟩=_);have zs:W.cell? ⟨s,7,none⟩=some (.slice (some ⟨gf,0,none⟩) wt wt):=(zuO _ _ _ _ _ _ ((ht.same s (by omega) n1).trans yC):W.cell? ⟨s,7,none⟩=_);have q0:W.cell? ⟨gf,x*2,none⟩=some (.int .i64 (if x∈zbt pre then (r:Int) else tg x)):=by rw[zuO _ _ _ _ _ _ hR,zdG _ _ _ hxw]
   have q1:W.cell? ⟨gf,x*2+1,none⟩=some (.int .i64 (if x∈zbt pre then (r:Int) else fn x)):=by rw[zuO _ _ _ _ _ _ hR,zgx _ _ _ hxw]
   have f0:=zuQ _ _ (x*2) _ _ hR;have f1:=zuQ _ _ (x*2+1) _ _ hR;have HR:Hid (∀nq,(((W.drewN nq).setCell ⟨gf,x*2,none⟩ (.int .i64 (r:Int))).setCell ⟨gf,x*2+1,none⟩ (.int .i64 (r:Int))).heap[gf]?=some (.cells (zbR wt (fun p=>if p∈zbt (pre++[(⟨x,hx⟩:Mem nw L)]) then (r:Int) else tg p) (fun p=>if p∈zbt (pre++[(⟨x,hx⟩:Mem nw L)]) then (r:Int) else fn p)) 103 (0,0))):=fun nq=>by
    have h5:=zuT _ _ (x*2+1) _ _ (.int .i64 (r:Int)) (zuT (W.drewN nq) gf (x*2) _ _ (.int .i64 (r:Int)) hR);rw[zjo] at h5;rw[h5,zdW (fun p _=>?_) (fun p _=>?_)]
    ·rw[zbQ]
     by_cases e:p=x
     ·subst e;simp
     ·simp[e]
    ·rw[zbQ]
     by_cases e:p=x
     ·subst e;simp
     ·simp[e]
   have HT:Hid _:=ht;have hi0:(0:Int)<=(x:Int):=by omega
   have hi1:(x:Int)<(wt:Int):=by omega
   have hmix:Tryz.prog.follows .mixedOrders=true:=by kernel_rfl
   generalize (if x∈zbt pre then (r:Int) else tg x)=u0 at *;generalize (if x∈zbt pre then (r:Int) else fn x)=u1 at *;clear hR ht x8' hK;dsimp only
   gi_wp2
   refine zbb 6 (fun w'=>∃n,w'=W.drewN n) hmix ⟨1,rfl⟩ (by rintro ⟨_,_,h⟩;exact h) (by decide) (by kernel_rfl) rfl ?_;intro os hos;simp only[zus,zuu] at hos;subst hos
   repeat (go_big_quiet_step (fail))
   refine wpQuiet_nil ?_;rintro w' ⟨nq,rfl⟩ r' hr';simp only[ztI,ztJ] at hr';subst hr';go_wp2
   gi_wp2
   have hbq:Below W.heap.size W (W.drewN nq):=below_drewN (Below.refl _ _) nq;refine⟨((zbg hbq).from _).trans (((KeepsOthers.setCell _ _ _).from _).trans ((KeepsOthers.setCell _ _ _).from _)),fun k hk=>?_,?_,HR.out nq⟩
   ·have hk':k≠gf:=by simp at hk;omega
    exact(zuS _ _ _ _ (by exact hk')).trans (zuS _ _ _ _ (by exact hk'))
   ·exact((HT.out.trans (zaM.of_below hbq)).grown (zaN _ _ _ _) (fun g e=>by cases e;exact .inl rfl)).grown (zaN _ _ _ _) (fun g e=>by cases e;exact .inl rfl)
  case done=>
   rintro D ys W hD hys ⟨ht,hR⟩ hK2;refine hK _ _ (wpIn_wide.2 ?_);dsimp only;have hR2:W.heap[gf]?=some (.cells (zbR wt (fun p=>if zaA L p=true then (r:Int) else tg p) (fun p=>if zaA L p=true then (r:Int) else fn p)) 103 (0,0)):=by
    have hmem:∀p,p<wt->(p∈zbt ys↔zaA L p=true):=fun p hp=>(hys p).trans ⟨fun h=>h.2,fun h=>⟨by have:=hm p h;omega,h⟩⟩
    rw[hR,zdW (fun p hp=>?_) (fun p hp=>?_)]
    ·by_cases e:zaA L p=true
     ·rw[zuV ((hmem p hp).2 e),zuV e]
     ·rw[zuU (fun h=>e ((hmem p hp).1 h)),zuU e]
    ·by_cases e:zaA L p=true
     ·rw[zuV ((hmem p hp).2 e),zuV e]
     ·rw[zuU (fun h=>e ((hmem p hp).1 h)),zuU e]
   have HW:∀(k:Nat) (o:Obj),W0.heap[k]?=some o->k≠gf->W.heap[k]?=some o:=fun k o h hk=>(ht.same k (ztp.1 h).1 hk).trans h
   have v4:=HW _ _ x4 (by omega);have v6:=HW _ _ x6 (by omega);have v7:=HW _ _ x7 (by omega);have v8:=HW _ _ x8 (by omega);have vC:=HW _ _ yC n1;have v0:zaB W nw gs A0:=⟨HW _ _ y0.row n2.symm,y0.lt⟩;have v1:zaB W nw gl A1:=⟨HW _ _ y1.row n3.symm,y1.lt⟩;have va:zaB W nw ga A:=⟨HW _ _ ya.row n4.symm,ya.lt⟩;have T0:zaM (fun k=>k=s\/k=gs\/k=gl\/k=gf) w W:=(zaM.of_below hb0).trans ⟨ht.os,ht.tape,ht.output,ht.size,fun k hk hn=>ht.same k hk (fun e=>hn (.inr (.inr (.inr e))))⟩;have hDl:=(ztp.1 hK2).1;have hWs:=ht.size;have b4:W.cell? ⟨w.heap.size,0,none⟩=some (.pointer (some ⟨s,0,none⟩)):=(zuO _ _ _ _ _ _ v4:W.cell? ⟨w.heap.size,0,none⟩=_);obtain⟨c0,c1,c2,-,-,-⟩:=zac v7;have d0:W.cell? ⟨w.heap.size+1+1+1,0,none⟩=some (.int .i64 (r:Int)):=(zuO _ _ _ _ _ _ v8:W.cell? ⟨w.heap.size+1+1+1,0,none⟩=_);have d8:W.cell? ⟨w.heap.size+1+1+1,1,none⟩=some (.int .i64 (r:Int)):=(zuO _ _ _ _ _ _ v8:W.cell? ⟨w.heap.size+1+1+1,1,none⟩=_);have hca:=zds s 1 nw gs ga gz em _ A0 A t0 e0 (r:Int) r W.drew vC rfl rfl rfl ⟨v0.row,v0.lt⟩ ⟨va.row,va.lt⟩ d1 hnw;have Hys:Hid _:=hR2;have HT0:Hid _:=T0;have HD:Hid _:=hK2;clear hK hR hR2 ht HW hys T0 hK2 yb yz ya y1 y0 yF yC x8 x7 x6 x4
   go_wp2_with fail
   go_region_held3 (fun w'=>w'.cell? ⟨w.heap.size,0,none⟩=some (.pointer (some ⟨s,0,none⟩))/\(w'.cell? ⟨w.heap.size+1+1,0,none⟩=some (.bool em)/\w'.cell? ⟨w.heap.size+1+1,1,none⟩=some (.slice (some ⟨ga,0,none⟩) nw nw)/\w'.cell? ⟨w.heap.size+1+1,2,none⟩=some (.slice (some ⟨gz,0,none⟩) nw nw))/\w'.cell? ⟨w.heap.size+1+1+1,0,none⟩=some (.int .i64 (r:Int))/\w'.cell? ⟨w.heap.size+1+1+1,1,none⟩=some (.int .i64 (r:Int))) ((first|exact⟨b4,⟨c0,c1,c2⟩,d0,d8⟩|exact⟨b41,⟨c01,c11,c21⟩,d01,d81⟩|go_keep)) ((go_at_call 81;refine hca.mono ?_;rintro q w1 hq;obtain⟨rfl,hC1,hp1,tt1⟩:=hq.box vC n5;have HW1:∀(k:Nat) (o:Obj),W.heap[k]?=some o->k≠gs->k≠s->w1.heap[k]?=some o:=(fun k o h h1 h2=>(tt1.same k (ztp.1 h).1 (by omega)).trans h);have v41:=HW1 _ _ v4 (by omega) (by omega);have v61:=HW1 _ _ v6 (by omega) (by omega);have v71:=HW1 _ _ v7 (by omega) (by omega);have v81:=HW1 _ _ v8 (by omega) (by omega);have b41:w1.cell? ⟨w.heap.size,0,none⟩=some (.pointer (some ⟨s,0,none⟩)):=(zuO _ _ _ _ _ _ v41:w1.cell? ⟨w.heap.size,0,none⟩=_);obtain⟨c01,c11,c21,-,-,-⟩:=zac v71;have d01:w1.cell? ⟨w.heap.size+1+1+1,0,none⟩=some (.int .i64 (r:Int)):=(zuO _ _ _ _ _ _ v81:w1.cell? ⟨w.heap.size+1+1+1,0,none⟩=_);have d81:w1.cell? ⟨w.heap.size+1+1+1,1,none⟩=some (.int .i64 (r:Int)):=(zuO _ _ _ _ _ _ v81:w1.cell? ⟨w.heap.size+1+1+1,1,none⟩=_)))
   have hC1':w1.heap[s]?=some (.cells (scC bt nw gs (if em=true then min t0 (r:Int) else t0) (if em=true then min e0 (r:Int) else e0) gl t1 e1 gf wt) 111 (0,0)):=by
    rw[hC1];cases em<;>rfl
   have e60:w1.cell? ⟨w.heap.size+1,0,none⟩=some (.bool bol):=(zac v61).1;have q1:zaB w1 nw gl A1:=⟨HW1 _ _ v1.row d3.symm n6.symm,v1.lt⟩;have qa:zaB w1 nw ga A:=⟨HW1 _ _ va.row d1.symm n7.symm,va.lt⟩;have qF:=HW1 _ _ Hys.out n2 n1.symm;have qD:=HW1 _ _ HD.out (by omega) (by omega);have T1:zaM (fun k=>k=s\/k=gs\/k=gl\/k=gf) w w1:=HT0.out.trans ⟨tt1.os,tt1.tape,tt1.output,tt1.size,fun k hk hn=>tt1.same k hk (fun e=>e.elim (fun e=>hn (.inr (.inl e))) (fun e=>hn (.inl e)))⟩;have hDw:w.heap.size<=D:=by omega
   have HqD:Hid _:=qD;have HqF:Hid _:=qF;have HT1:Hid _:=T1;have Hp1:Hid _:=hp1;have HC1:Hid _:=hC1';clear qD qF T1 hp1 hC1' hC1 hca b4 c0 c1 c2 d0 d8 v4 v6 v7 v8 vC HW1 Hys HT0 HD tt1;cases bol
   ·have hcb:=zds s 4 nw gl ga gz em _ A1 A t1 e1 (r:Int) r w1.drew HC1.out rfl rfl rfl ⟨q1.row,q1.lt⟩ ⟨qa.row,qa.lt⟩ d2 hnw
    go_wp2_with fail
    go_region_held3 (fun w'=>w'.cell? ⟨w.heap.size,0,none⟩=some (.pointer (some ⟨s,0,none⟩))/\(w'.cell? ⟨w.heap.size+1+1,0,none⟩=some (.bool em)/\w'.cell? ⟨w.heap.size+1+1,1,none⟩=some (.slice (some ⟨ga,0,none⟩) nw nw)/\w'.cell? ⟨w.heap.size+1+1,2,none⟩=some (.slice (some ⟨gz,0,none⟩) nw nw))/\w'.cell? ⟨w.heap.size+1+1+1,0,none⟩=some (.int .i64 (r:Int))/\w'.cell? ⟨w.heap.size+1+1+1,1,none⟩=some (.int .i64 (r:Int))) ((first|exact⟨b41,⟨c01,c11,c21⟩,d01,d81⟩|exact⟨b42,⟨c02,c12,c22⟩,d02,d82⟩|go_keep)) ((go_at_call 81;refine hcb.mono ?_;rintro q w2 hq;obtain⟨rfl,hC2,hp2,tt2⟩:=hq.box HC1.out n6;have HW2:∀(k:Nat) (o:Obj),w1.heap[k]?=some o->k≠gl->k≠s->w2.heap[k]?=some o:=(fun k o h h1 h2=>(tt2.same k (ztp.1 h).1 (by omega)).trans h);have v42:=HW2 _ _ v41 (by omega) (by omega);have v72:=HW2 _ _ v71 (by omega) (by omega);have v82:=HW2 _ _ v81 (by omega) (by omega);have b42:w2.cell? ⟨w.heap.size,0,none⟩=some (.pointer (some ⟨s,0,none⟩)):=(zuO _ _ _ _ _ _ v42:w2.cell? ⟨w.heap.size,0,none⟩=_);obtain⟨c02,c12,c22,-,-,-⟩:=zac v72;have d02:w2.cell? ⟨w.heap.size+1+1+1,0,none⟩=some (.int .i64 (r:Int)):=(zuO _ _ _ _ _ _ v82:w2.cell? ⟨w.heap.size+1+1+1,0,none⟩=_);have d82:w2.cell? ⟨w.heap.size+1+1+1,1,none⟩=some (.int .i64 (r:Int)):=(zuO _ _ _ _ _ _ v82:w2.cell? ⟨w.heap.size+1+1+1,1,none⟩=_)))
    have HF2:Hid (AdmR w s bt nw gs t0 e0 gl t1 e1 gf wt A0 A1 A L tg fn false em (r:Int) r (.returned (.tuple #[])) w2):=by
     refine⟨rfl,?_,⟨HW2 _ _ Hp1.out.row d3 n5.symm,Hp1.out.lt⟩,hp2,HW2 _ _ HqF.out n3 n1.symm,HT1.out.trans ⟨tt2.os,tt2.tape,tt2.output,tt2.size,fun k hk hn=>tt2.same k hk (fun e=>e.elim (fun e=>hn (.inr (.inr (.inl e)))) (fun e=>hn (.inl e)))⟩⟩;rw[hC2];cases em<;>rfl
    have HD2:Hid _:=HW2 _ _ HqD.out (by omega) (by omega);clear hC2 hp2 tt2 HW2 hcb;go_wp2;refine⟨by simp,.inl ⟨_,_,rfl,run_takeDeferred HD2.out,?_⟩⟩;exact⟨.tuple #[],by simp[results,Tryz.results52,go_sem],HF2.out.put hDw ls l0 l1 lf _⟩
   ·have HF2:Hid (AdmR w s bt nw gs t0 e0 gl t1 e1 gf wt A0 A1 A L tg fn true em (r:Int) r (.returned (.tuple #[])) w1):=by
     refine⟨rfl,?_,Hp1.out,q1,HqF.out,HT1.out⟩;rw[HC1.out];cases em<;>rfl
    go_wp2;refine⟨by simp,.inl ⟨_,_,rfl,run_takeDeferred HqD.out,?_⟩⟩;exact⟨.tuple #[],by simp[results,Tryz.results52,go_sem],HF2.out.put hDw ls l0 l1 lf _⟩
 ·obtain⟨W0,hW0⟩:∃W0,(((w.alloc (.cells #[.pointer (some ⟨s,0,none⟩)] 63)).alloc (.cells #[.bool bol,.bool true,.slice na nn nc] 76)).alloc (.cells #[.bool em,.slice (some ⟨ga,0,none⟩) nw nw,.slice (some ⟨gz,0,none⟩) nw nw] 115)).alloc (.cells #[.int .i64 100,.int .i64 (r:Int)] 103)=W0:=⟨_,rfl⟩;have hb0:Below w.heap.size w W0:=by rw[<-hW0];exact((((Below.refl _ _).alloc (zuz _) _).alloc (by simp) _).alloc (by simp;omega) _).alloc (by simp;omega) _
  have hsz:W0.heap.size=w.heap.size+1+1+1+1:=by rw[<-hW0];simp
  have x4:W0.heap[w.heap.size]?=some (.cells #[.pointer (some ⟨s,0,none⟩)] 63 (0,0)):=by rw[<-hW0];exact zao (zao (zao (zuR _ _)))
  have x6:W0.heap[w.heap.size+1]?=some (.cells #[.bool bol,.bool true,.slice na nn nc] 76 (0,0)):=by rw[<-hW0];exact zao (zao (zbD (by simp)))
  have x7:W0.heap[w.heap.size+1+1]?=some (.cells #[.bool em,.slice (some ⟨ga,0,none⟩) nw nw,.slice (some ⟨gz,0,none⟩) nw nw] 115 (0,0)):=by rw[<-hW0];exact zao (zbD (by simp))
  have x8:W0.heap[w.heap.size+1+1+1]?=some (.cells #[.int .i64 100,.int .i64 (r:Int)] 103 (0,0)):=by rw[<-hW0];exact zbD (by simp)
  have yC:=(hb0.block s (zae hC)).trans hC;have yF:=(hb0.block gf (zae hF)).trans hF;have y0:=h0.below hb0;have y1:=h1.below hb0;have ya:=hf.fi.below hb0;have yz:=hf.la.below hb0;have yb:zbj W0:=hB.keep (hb0.block 0 (zbz hB));have ls:=zae hC;have lf:=zae hF;have l0:=h0.glt;have l1:=h1.glt;have la:=hf.fi.glt;have lz:=hf.la.glt;have n1:s≠gf:=fun e=>by rw[e,hF] at hC;exact absurd (zak hC) (by decide)
  have n2:gf≠gs:=fun e=>by have:=h0.row;rw[<-e,hF] at this;exact absurd (zak this) (by decide)
  have n3:gf≠gl:=fun e=>by have:=h1.row;rw[<-e,hF] at this;exact absurd (zak this) (by decide)
  have n4:gf≠ga:=fun e=>by have:=hf.fi.row;rw[<-e,hF] at this;exact absurd (zak this) (by decide)
  have n5:s≠gs:=fun e=>by have:=h0.row;rw[<-e,hC] at this;exact absurd (zak this) (by decide)
  have n6:s≠gl:=fun e=>by have:=h1.row;rw[<-e,hC] at this;exact absurd (zak this) (by decide)
  have n7:s≠ga:=fun e=>by have:=hf.fi.row;rw[<-e,hC] at this;exact absurd (zak this) (by decide)
  have n8:gf≠gz:=fun e=>by have:=hf.la.row;rw[<-e,hF] at this;exact absurd (zak this) (by decide)
  have n0:gf≠0:=fun e=>by
   have h9:=hB 0 (by omega);have hF':=hF;rw[e] at hF';rw[zuO _ _ _ _ _ _ hF'] at h9;rcases zuy wt with hw0|hw0
   ·subst hw0;rw[zto (by simp[zbR])] at h9;cases h9
   ·have:=zdG wt tg fn hw0;rw[Nat.zero_mul] at this;rw[this] at h9;cases h9
  obtain⟨p60,p61,p62,-,-,-⟩:=zac x6;obtain⟨p70,p71,p72,-,-,-⟩:=zac x7
  gi_wp2
  rename_i K hK
  clear hW0 p60 p61 p62 p70 p71 p72;refine zcF (by omega) (gf:=80) (fb:=#[.slice (some ⟨gz,0,none⟩) nw nw]) (lb:=#[]) rfl (enters_of Tryz.func80 (by kernel_rfl) rfl)
   (T:=[0,gz]) (by intro k hk;simp at hk;omega)
   (zci 4 nw gz nw L (by omega) hnw W0 yz yb) (fun _=>rfl)
   (fun pre W=>zaM (fun k=>k=gf) W0 W/\W.heap[gf]?=some (.cells (zbR wt (fun p=>if p∈zbt pre then 100 else tg p) (fun p=>if p∈zbt pre then (r:Int) else fn p)) 103 (0,0)))
   (fun _ _ _=>False)
   (fun s A B hs ht=>⟨hs.1.turn ht,ht.same _ _ hs.2 (.inr rfl)⟩)
   (fun c s A B hs ht=>hs)
   ⟨zaM.refl _ _,by rw[yF];simp[zbt]⟩
   (fun x=>{tmps:=#[.pointer (some ⟨s,0,none⟩),.int .i64 (r:Int),.agg #[.bool bol,.bool true,.slice na nn nc],.agg #[.bool em,.slice (some ⟨ga,0,none⟩) nw nw,.slice (some ⟨gz,0,none⟩) nw nw],.pointer (some ⟨w.heap.size,0,none⟩),undef,.pointer (some ⟨w.heap.size+1,0,none⟩),.pointer (some ⟨w.heap.size+1+1,0,none⟩),.pointer (some ⟨w.heap.size+1+1+1,0,none⟩),.int .i64 (x.1:Int),.int .i64 (r:Int),.int .i64 (r:Int),.agg #[.int .i64 (r:Int),.int .i64 (r:Int)],.pointer (some ⟨w.heap.size+1,1,none⟩),.bool true,.pointer (some ⟨w.heap.size+1+1+1,0,none⟩),.pointer (some ⟨w.heap.size+1+1,2,none⟩),.slice (some ⟨gz,0,none⟩) nw nw,.func (.func 80) #[.slice (some ⟨gz,0,none⟩) nw nw] #[],.int .i64 (x.1:Int),undef,undef,undef,undef,undef,undef,undef,undef,undef,undef,undef,undef,undef,undef,undef,undef,undef,undef,undef,undef,undef,undef],defers:=[]})
   ?assign ?body ?done ?stop
  case assign=>
   intro l x W K hK
   gi_wp2
   exact hK
  case stop=>
   rintro D c pre W hD _ hf;exact hf.elim
  case body=>
   rintro l pre ⟨x,hx⟩ W hl ⟨ht,hR⟩ hlen;have hxw:=hm x hx.2;have z4:W.cell? ⟨w.heap.size,0,none⟩=some (.pointer (some ⟨s,0,none⟩)):=(zuO _ _ _ _ _ _ ((ht.same _ (by omega) (by omega)).trans x4):W.cell? ⟨w.heap.size,0,none⟩=_);have x8':=(ht.same (w.heap.size+1+1+1) (by omega) (by omega)).trans x8;have z8:W.cell? ⟨w.heap.size+1+1+1,0,none⟩=some (.int .i64 100):=(zuO _ _ _ _ _ _ x8':W.cell? ⟨w.heap.size+1+1+1,0,none⟩=_);have z9:W.cell? ⟨w.heap.size+1+1+1,1,none⟩=some (.int .i64 (r:Int)):=(zuO _ _ _ _ _ _ x8':W.cell? ⟨w.heap.size+1+1+1,1,none⟩=_);have zs:W.cell? ⟨s,7,none⟩=some (.slice (some ⟨gf,0,none⟩) wt wt):=(zuO _ _ _ _ _ _ ((ht.same s (by omega) n1).trans yC):W.cell? ⟨s,7,none⟩=_);have q0:W.cell? ⟨gf,x*2,none⟩=some (.int .i64 (if x∈zbt pre then 100 else tg x)):=by rw[zuO _ _ _ _ _ _ hR,zdG _ _ _ hxw]
   have q1:W.cell? ⟨gf,x*2+1,none⟩=some (.int .i64 (if x∈zbt pre then (r:Int) else fn x)):=by rw[zuO _ _ _ _ _ _ hR,zgx _ _ _ hxw]
   have f0:=zuQ _ _ (x*2) _ _ hR;have f1:=zuQ _ _ (x*2+1) _ _ hR;have HR:Hid (∀nq,(((W.drewN nq).setCell ⟨gf,x*2,none⟩ (.int .i64 100)).setCell ⟨gf,x*2+1,none⟩ (.int .i64 (r:Int))).heap[gf]?=some (.cells (zbR wt (fun p=>if p∈zbt (pre++[(⟨x,hx⟩:Mem nw L)]) then 100 else tg p) (fun p=>if p∈zbt (pre++[(⟨x,hx⟩:Mem nw L)]) then (r:Int) else fn p)) 103 (0,0))):=fun nq=>by
    have h5:=zuT _ _ (x*2+1) _ _ (.int .i64 (r:Int)) (zuT (W.drewN nq) gf (x*2) _ _ (.int .i64 100) hR);rw[zjo] at h5;rw[h5,zdW (fun p _=>?_) (fun p _=>?_)]
    ·rw[zbQ]
     by_cases e:p=x
     ·subst e;simp
     ·simp[e]
    ·rw[zbQ]
     by_cases e:p=x
     ·subst e;simp
     ·simp[e]
   have HT:Hid _:=ht;have hi0:(0:Int)<=(x:Int):=by omega
   have hi1:(x:Int)<(wt:Int):=by omega
   have hmix:Tryz.prog.follows .mixedOrders=true:=by kernel_rfl
   generalize (if x∈zbt pre then 100 else tg x)=u0 at *;generalize (if x∈zbt pre then (r:Int) else fn x)=u1 at *;clear hR ht x8' hK;dsimp only
   gi_wp2
   refine zbb 6 (fun w'=>∃n,w'=W.drewN n) hmix ⟨1,rfl⟩ (by rintro ⟨_,_,h⟩;exact h) (by decide) (by kernel_rfl) rfl ?_;intro os hos;simp only[zus,zuu] at hos;subst hos
   repeat (go_big_quiet_step (fail))
   refine wpQuiet_nil ?_;rintro w' ⟨nq,rfl⟩ r' hr';simp only[ztI,ztJ] at hr';subst hr';go_wp2
   gi_wp2
   have hbq:Below W.heap.size W (W.drewN nq):=below_drewN (Below.refl _ _) nq;refine⟨((zbg hbq).from _).trans (((KeepsOthers.setCell _ _ _).from _).trans ((KeepsOthers.setCell _ _ _).from _)),fun k hk=>?_,?_,HR.out nq⟩
   ·have hk':k≠gf:=by simp at hk;omega
    exact(zuS _ _ _ _ (by exact hk')).trans (zuS _ _ _ _ (by exact hk'))
   ·exact((HT.out.trans (zaM.of_below hbq)).grown (zaN _ _ _ _) (fun g e=>by cases e;exact .inl rfl)).grown (zaN _ _ _ _) (fun g e=>by cases e;exact .inl rfl)
  case done=>
   rintro D ys W hD hys ⟨ht,hR⟩ hK2;refine hK _ _ (wpIn_wide.2 ?_);dsimp only;have hR2:W.heap[gf]?=some (.cells (zbR wt (fun p=>if zaA L p=true then 100 else tg p) (fun p=>if zaA L p=true then (r:Int) else fn p)) 103 (0,0)):=by
    have hmem:∀p,p<wt->(p∈zbt ys↔zaA L p=true):=fun p hp=>(hys p).trans ⟨fun h=>h.2,fun h=>⟨by have:=hm p h;omega,h⟩⟩
    rw[hR,zdW (fun p hp=>?_) (fun p hp=>?_)]
    ·by_cases e:zaA L p=true
     ·rw[zuV ((hmem p hp).2 e),zuV e]
     ·rw[zuU (fun h=>e ((hmem p hp).1 h)),zuU e]
    ·by_cases e:zaA L p=true
     ·rw[zuV ((hmem p hp).2 e),zuV e]
     ·rw[zuU (fun h=>e ((hmem p hp).1 h)),zuU e]
   have HW:∀(k:Nat) (o:Obj),W0.heap[k]?=some o->k≠gf->W.heap[k]?=some o:=fun k o h hk=>(ht.same k (ztp.1 h).1 hk).trans h
   have v4:=HW _ _ x4 (by omega);have v6:=HW _ _ x6 (by omega);have v7:=HW _ _ x7 (by omega);have v8:=HW _ _ x8 (by omega);have vC:=HW _ _ yC n1;have v0:zaB W nw gs A0:=⟨HW _ _ y0.row n2.symm,y0.lt⟩;have v1:zaB W nw gl A1:=⟨HW _ _ y1.row n3.symm,y1.lt⟩;have va:zaB W nw ga A:=⟨HW _ _ ya.row n4.symm,ya.lt⟩;have T0:zaM (fun k=>k=s\/k=gs\/k=gl\/k=gf) w W:=(zaM.of_below hb0).trans ⟨ht.os,ht.tape,ht.output,ht.size,fun k hk hn=>ht.same k hk (fun e=>hn (.inr (.inr (.inr e))))⟩;have hDl:=(ztp.1 hK2).1;have hWs:=ht.size;have b4:W.cell? ⟨w.heap.size,0,none⟩=some (.pointer (some ⟨s,0,none⟩)):=(zuO _ _ _ _ _ _ v4:W.cell? ⟨w.heap.size,0,none⟩=_);obtain⟨c0,c1,c2,-,-,-⟩:=zac v7;have d0:W.cell? ⟨w.heap.size+1+1+1,0,none⟩=some (.int .i64 100):=(zuO _ _ _ _ _ _ v8:W.cell? ⟨w.heap.size+1+1+1,0,none⟩=_);have d8:W.cell? ⟨w.heap.size+1+1+1,1,none⟩=some (.int .i64 (r:Int)):=(zuO _ _ _ _ _ _ v8:W.cell? ⟨w.heap.size+1+1+1,1,none⟩=_);have hca:=zds s 1 nw gs ga gz em _ A0 A t0 e0 100 r W.drew vC rfl rfl rfl ⟨v0.row,v0.lt⟩ ⟨va.row,va.lt⟩ d1 hnw;have Hys:Hid _:=hR2;have HT0:Hid _:=T0;have HD:Hid _:=hK2;clear hK hR hR2 ht HW hys T0 hK2 yb yz ya y1 y0 yF yC x8 x7 x6 x4
   go_wp2_with fail
   go_region_held3 (fun w'=>w'.cell? ⟨w.heap.size,0,none⟩=some (.pointer (some ⟨s,0,none⟩))/\(w'.cell? ⟨w.heap.size+1+1,0,none⟩=some (.bool em)/\w'.cell? ⟨w.heap.size+1+1,1,none⟩=some (.slice (some ⟨ga,0,none⟩) nw nw)/\w'.cell? ⟨w.heap.size+1+1,2,none⟩=some (.slice (some ⟨gz,0,none⟩) nw nw))/\w'.cell? ⟨w.heap.size+1+1+1,0,none⟩=some (.int .i64 100)/\w'.cell? ⟨w.heap.size+1+1+1,1,none⟩=some (.int .i64 (r:Int))) ((first|exact⟨b4,⟨c0,c1,c2⟩,d0,d8⟩|exact⟨b41,⟨c01,c11,c21⟩,d01,d81⟩|go_keep)) ((go_at_call 81;refine hca.mono ?_;rintro q w1 hq;obtain⟨rfl,hC1,hp1,tt1⟩:=hq.box vC n5;have HW1:∀(k:Nat) (o:Obj),W.heap[k]?=some o->k≠gs->k≠s->w1.heap[k]?=some o:=(fun k o h h1 h2=>(tt1.same k (ztp.1 h).1 (by omega)).trans h);have v41:=HW1 _ _ v4 (by omega) (by omega);have v61:=HW1 _ _ v6 (by omega) (by omega);have v71:=HW1 _ _ v7 (by omega) (by omega);have v81:=HW1 _ _ v8 (by omega) (by omega);have b41:w1.cell? ⟨w.heap.size,0,none⟩=some (.pointer (some ⟨s,0,none⟩)):=(zuO _ _ _ _ _ _ v41:w1.cell? ⟨w.heap.size,0,none⟩=_);obtain⟨c01,c11,c21,-,-,-⟩:=zac v71;have d01:w1.cell? ⟨w.heap.size+1+1+1,0,none⟩=some (.int .i64 100):=(zuO _ _ _ _ _ _ v81:w1.cell? ⟨w.heap.size+1+1+1,0,none⟩=_);have d81:w1.cell? ⟨w.heap.size+1+1+1,1,none⟩=some (.int .i64 (r:Int)):=(zuO _ _ _ _ _ _ v81:w1.cell? ⟨w.heap.size+1+1+1,1,none⟩=_)))
   have hC1':w1.heap[s]?=some (.cells (scC bt nw gs (if em=true then min t0 100 else t0) (if em=true then min e0 (r:Int) else e0) gl t1 e1 gf wt) 111 (0,0)):=by
    rw[hC1];cases em<;>rfl
   have e60:w1.cell? ⟨w.heap.size+1,0,none⟩=some (.bool bol):=(zac v61).1;have q1:zaB w1 nw gl A1:=⟨HW1 _ _ v1.row d3.symm n6.symm,v1.lt⟩;have qa:zaB w1 nw ga A:=⟨HW1 _ _ va.row d1.symm n7.symm,va.lt⟩;have qF:=HW1 _ _ Hys.out n2 n1.symm;have qD:=HW1 _ _ HD.out (by omega) (by omega);have T1:zaM (fun k=>k=s\/k=gs\/k=gl\/k=gf) w w1:=HT0.out.trans ⟨tt1.os,tt1.tape,tt1.output,tt1.size,fun k hk hn=>tt1.same k hk (fun e=>e.elim (fun e=>hn (.inr (.inl e))) (fun e=>hn (.inl e)))⟩;have hDw:w.heap.size<=D:=by omega
   have HqD:Hid _:=qD;have HqF:Hid _:=qF;have HT1:Hid _:=T1;have Hp1:Hid _:=hp1;have HC1:Hid _:=hC1';clear qD qF T1 hp1 hC1' hC1 hca b4 c0 c1 c2 d0 d8 v4 v6 v7 v8 vC HW1 Hys HT0 HD tt1;cases bol
   ·have hcb:=zds s 4 nw gl ga gz em _ A1 A t1 e1 100 r w1.drew HC1.out rfl rfl rfl ⟨q1.row,q1.lt⟩ ⟨qa.row,qa.lt⟩ d2 hnw
    go_wp2_with fail
    go_region_held3 (fun w'=>w'.cell? ⟨w.heap.size,0,none⟩=some (.pointer (some ⟨s,0,none⟩))/\(w'.cell? ⟨w.heap.size+1+1,0,none⟩=some (.bool em)/\w'.cell? ⟨w.heap.size+1+1,1,none⟩=some (.slice (some ⟨ga,0,none⟩) nw nw)/\w'.cell? ⟨w.heap.size+1+1,2,none⟩=some (.slice (some ⟨gz,0,none⟩) nw nw))/\w'.cell? ⟨w.heap.size+1+1+1,0,none⟩=some (.int .i64 100)/\w'.cell? ⟨w.heap.size+1+1+1,1,none⟩=some (.int .i64 (r:Int))) ((first|exact⟨b41,⟨c01,c11,c21⟩,d01,d81⟩|exact⟨b42,⟨c02,c12,c22⟩,d02,d82⟩|go_keep)) ((go_at_call 81;refine hcb.mono ?_;rintro q w2 hq;obtain⟨rfl,hC2,hp2,tt2⟩:=hq.box HC1.out n6;have HW2:∀(k:Nat) (o:Obj),w1.heap[k]?=some o->k≠gl->k≠s->w2.heap[k]?=some o:=(fun k o h h1 h2=>(tt2.same k (ztp.1 h).1 (by omega)).trans h);have v42:=HW2 _ _ v41 (by omega) (by omega);have v72:=HW2 _ _ v71 (by omega) (by omega);have v82:=HW2 _ _ v81 (by omega) (by omega);have b42:w2.cell? ⟨w.heap.size,0,none⟩=some (.pointer (some ⟨s,0,none⟩)):=(zuO _ _ _ _ _ _ v42:w2.cell? ⟨w.heap.size,0,none⟩=_);obtain⟨c02,c12,c22,-,-,-⟩:=zac v72;have d02:w2.cell? ⟨w.heap.size+1+1+1,0,none⟩=some (.int .i64 100):=(zuO _ _ _ _ _ _ v82:w2.cell? ⟨w.heap.size+1+1+1,0,none⟩=_);have d82:w2.cell? ⟨w.heap.size+1+1+1,1,none⟩=some (.int .i64 (r:Int)):=(zuO _ _ _ _ _ _ v82:w2.cell? ⟨w.heap.size+1+1+1,1,none⟩=_)))
    have HF2:Hid (AdmR w s bt nw gs t0 e0 gl t1 e1 gf wt A0 A1 A L tg fn false em 100 r (.returned (.tuple #[])) w2):=by
     refine⟨rfl,?_,⟨HW2 _ _ Hp1.out.row d3 n5.symm,Hp1.out.lt⟩,hp2,HW2 _ _ HqF.out n3 n1.symm,HT1.out.trans ⟨tt2.os,tt2.tape,tt2.output,tt2.size,fun k hk hn=>tt2.same k hk (fun e=>e.elim (fun e=>hn (.inr (.inr (.inl e)))) (fun e=>hn (.inl e)))⟩⟩;rw[hC2];cases em<;>rfl
    have HD2:Hid _:=HW2 _ _ HqD.out (by omega) (by omega);clear hC2 hp2 tt2 HW2 hcb;go_wp2;refine⟨by simp,.inl ⟨_,_,rfl,run_takeDeferred HD2.out,?_⟩⟩;exact⟨.tuple #[],by simp[results,Tryz.results52,go_sem],HF2.out.put hDw ls l0 l1 lf _⟩
   ·have HF2:Hid (AdmR w s bt nw gs t0 e0 gl t1 e1 gf wt A0 A1 A L tg fn true em 100 r (.returned (.tuple #[])) w1):=by
     refine⟨rfl,?_,Hp1.out,q1,HqF.out,HT1.out⟩;rw[HC1.out];cases em<;>rfl
    go_wp2;refine⟨by simp,.inl ⟨_,_,rfl,run_takeDeferred HqD.out,?_⟩⟩;exact⟨.tuple #[],by simp[results,Tryz.results52,go_sem],HF2.out.put hDw ls l0 l1 lf _⟩
end Go.Proofs.YthddplbodacjgaaGreatDoor
