import Derived.Test.YtdimhpfiieepiaaGreatDoorC13
import Derived.Test.YtdimhpfiieepiaaGreatDoorC18
namespace Go.Proofs.YtdimhpfiieepiaaGreatDoor
set_option maxHeartbeats 4000000
set_option maxRecDepth 100000
section
variable{S:Nat -> Prop}{w A B:World}
open Go.RowKit
attribute [local go_sem] Oper.semAt_some
structure zam(S:Nat->Prop)(w W:World):Prop where
 os:W.os=w.os
 tape:W.tape=w.tape
 output:W.output=w.output
 size:w.heap.size<=W.heap.size
 same:∀k,k<w.heap.size->¬S k->W.heap[k]?=w.heap[k]?
theorem zam.refl(S:Nat->Prop)(w:World):zam S w w:=⟨rfl,rfl,rfl,zvJ _,fun _ _ _=>rfl⟩
theorem zam.turn(h:zam S w A)(t:zfv w.heap.size A B):zam S w B:=
 ⟨t.os.trans h.os,t.tape.trans h.tape,t.output.trans h.output,zvK h.size t.size,fun k hk hs=>by
  have e:=h.same k hk hs;have hA:k<A.heap.size:=zvL hk h.size;rw[<-e,t.same k _ (zuF hA) (.inl hk),zuF hA]⟩
theorem zam.grown{o:Option Nat}(h:zam S w A)(hg:A.grownBy B o)(hS:∀g,o=some g->S g\/w.heap.size<=g):zam S w B:=
 ⟨hg.os.trans h.os,hg.tape.trans h.tape,hg.output.trans h.output,zvK h.size hg.size,fun k hk hs=>by
  refine(hg.block k (zvL hk h.size) (fun e=>?_)).trans (h.same k hk hs);rcases hS k e.symm with h1|h1
  ·exact hs h1
  ·omega⟩
theorem zam.trans(h:zam S w A)(k:zam S A B):zam S w B:=
 ⟨k.os.trans h.os,k.tape.trans h.tape,k.output.trans h.output,zvK h.size k.size,fun i hi hs=>(k.same i (zvL hi h.size) hs).trans (h.same i hi hs)⟩
theorem zam.of_below(h:Below w.heap.size w A):zam S w A:=⟨h.os,h.tape,h.output,h.size,fun k hk _=>h.block k hk⟩
theorem zam.mono{S':Nat->Prop}(h:zam S w A)(hs:∀k,k<w.heap.size->S k->S' k):zam S' w A:=⟨h.os,h.tape,h.output,h.size,fun k hk hn=>h.same k hk fun q=>hn (hs k hk q)⟩
theorem zar.touch{W:World}{nw g:Nat}{T:Nat->Nat}(h:zar w nw g T)(t:zam S w W)(hs:¬S g):zar W nw g T:=⟨(t.same g h.glt hs).trans h.row,h.lt⟩
structure Fol(W:World)(n nw:Nat)(fr:Nat->Nat)(F:Nat->Nat->Nat):Prop where
 rows:∀p,p<n->zar W nw (fr p) (F p)
 inj:∀p q,p<n->q<n->fr p=fr q->p=q
theorem ztq(n nw bt g1 c1 g2 c2:Nat)(sv fv:Value)(fr:Nat->Nat)(F:Nat->Nat->Nat)(T1 T2:Nat->Nat)(w:World)
  (hbox:zfu w bt nw sv fv) (hfv:0<n->∃gf cf:Nat,fv=.slice (some ⟨gf,0,none⟩) n cf/\gf<w.heap.size/\(∀p,p<n->w.cell? ⟨gf,p,none⟩=some (.slice (some ⟨fr p,0,none⟩) nw nw))/\∀p,p<n->fr p≠gf) (hF:Fol w n nw fr F) (h1:zar w nw g1 T1) (h2:zar w nw g2 T2)
  (hd1:∀p,p<n->fr p≠g1) (hd2:∀p,p<n->fr p≠g2) (hd0:∀p,p<n->fr p≠0) (hdb:∀p,p<n->fr p≠bt) (hm:∀p,p<64*nw->zai T1 p=true->p<n) (hn64:n<=64*nw) (hnw:nw<=1000) (hB:za7 w) (h0:0<w.heap.size):
  Calls Tryz.prog 202 #[.pointer (some ⟨bt,0,none⟩),.slice (some ⟨g1,0,none⟩) nw c1,.slice (some ⟨g2,0,none⟩) nw c2] w fun e w'=>e=.returned (.tuple #[])/\Fol w' n nw fr (fun p=>if zai T1 p=true then orT (F p) T2 else F p)/\zam (fun k=>∃p,p<n/\k=fr p) w w':=by
 refine(callsIn_wide (n:=5)).1 ?_;refine callsIn_of_wp_marks Tryz.func202 rfl trivial ?_ rfl;simp only[Tryz.ntmps202,zvA,zvi,zvk,Nat.reduceAdd,Nat.reduceSub,zuI,zuJ,zvx,zuT,zvw,zuU]
 gi_wp2
 obtain⟨W0,hW0⟩:∃W0,((w.alloc (.cells #[.pointer (some ⟨bt,0,none⟩)] 224)).alloc (.cells #[.slice (some ⟨g2,0,none⟩) nw c2] 193))=W0:=⟨_,rfl⟩;have hb0:Below w.heap.size w W0:=by rw[<-hW0];exact((Below.refl _ _).alloc (zvJ _) _).alloc (by simp) _
 have hsz:W0.heap.size=w.heap.size+1+1:=by rw[<-hW0];simp
 have x3:W0.heap[w.heap.size]?=some (.cells #[.pointer (some ⟨bt,0,none⟩)] 224 (0,0)):=by rw[<-hW0];exact zak (zvZ _ _)
 have x5:W0.heap[w.heap.size+1]?=some (.cells #[.slice (some ⟨g2,0,none⟩) nw c2] 193 (0,0)):=by
  rw[<-hW0];have:=zvZ (w.alloc (.cells #[.pointer (some ⟨bt,0,none⟩)] 224)) (.cells #[.slice (some ⟨g2,0,none⟩) nw c2] 193)
  simpa using this
 rw[hW0];clear hW0;have hfl:∀p,p<n->fr p<w.heap.size:=fun p hp=>(hF.rows p hp).glt
 have hbt:bt<w.heap.size:=(zuH.1 hbox).1;have y1:zar W0 nw g1 T1:=h1.below hb0;have y2:zar W0 nw g2 T2:=h2.below hb0;have yb:za7 W0:=hB.keep (hb0.block 0 h0);have yx:zfu W0 bt nw sv fv:=(hb0.block bt hbt).trans hbox;have yr:∀p,p<n->zar W0 nw (fr p) (F p):=fun p hp=>(hF.rows p hp).below hb0
 refine zct (by omega) (gf:=165) (fb:=#[.slice (some ⟨g1,0,none⟩) nw c1]) (lb:=#[]) rfl (enters_of Tryz.func165 (by kernel_rfl) rfl)
  (T:=[0,g1]) (by intro k hk;have:=y1.glt;simp at hk;omega)
  (zcC 4 nw g1 c1 T1 (by omega) hnw W0 y1 yb) (fun _=>rfl)
  (fun pre W=>zam (fun k=>∃p,p<n/\k=fr p) W0 W/\∀p,p<n->zar W nw (fr p) (if p∈zco pre then orT (F p) T2 else F p))
  (fun _ _ _=>False)
  (fun s A B hs ht=>⟨hs.1.turn ht,fun p hp=>⟨ht.same _ _ (hs.2 p hp).row (.inr rfl),(hs.2 p hp).lt⟩⟩)
  (fun c s A B hs ht=>hs)
  ⟨zam.refl _ _,fun p hp=>by rw[zv2 (by simp[zco])];exact yr p hp⟩
  (fun x=>{tmps:=#[.pointer (some ⟨bt,0,none⟩),.slice (some ⟨g1,0,none⟩) nw c1,.slice (some ⟨g2,0,none⟩) nw c2,.pointer (some ⟨w.heap.size,0,none⟩),undef,.pointer (some ⟨w.heap.size+1,0,none⟩),.int .i64 (x.1:Int),.slice (some ⟨g1,0,none⟩) nw c1,.func (.func 165) #[.slice (some ⟨g1,0,none⟩) nw c1] #[],.int .i64 (x.1:Int),undef,undef,undef,undef,undef,undef,undef,undef,undef],defers:=[]})
  ?assign ?body ?done ?stop
 case assign=>
  intro l x W K hK
  gi_wp2
  exact hK
 case stop=>
  rintro D c pre W hD _ hf;exact hf.elim
 case body=>
  rintro l pre ⟨x,hx⟩ W hl ⟨ht,hr⟩ hlen;have hxn:=hm x hx.1 hx.2;obtain⟨gf,cf,rfl,hgf,hfv,hdf⟩:=hfv (by omega);have yf:∀p,p<n->W0.cell? ⟨gf,p,none⟩=some (.slice (some ⟨fr p,0,none⟩) nw nw):=fun p hp=>(hb0.cell (p:=⟨gf,p,none⟩) hgf).trans (hfv p hp)
  have hs3:¬∃p,p<n/\w.heap.size=fr p:=fun⟨p,hp,e⟩=>by have:=hfl p hp;omega
  have hs5:¬∃p,p<n/\w.heap.size+1=fr p:=fun⟨p,hp,e⟩=>by have:=hfl p hp;omega
  have z3:W.cell? ⟨w.heap.size,0,none⟩=some (.pointer (some ⟨bt,0,none⟩)):=(zvW _ _ _ _ _ _ ((ht.same _ (by omega) hs3).trans x3):W.cell? ⟨w.heap.size,0,none⟩=_);have z5:W.cell? ⟨w.heap.size+1,0,none⟩=some (.slice (some ⟨g2,0,none⟩) nw c2):=(zvW _ _ _ _ _ _ ((ht.same _ (by omega) hs5).trans x5):W.cell? ⟨w.heap.size+1,0,none⟩=_);have zb:W.cell? ⟨bt,2,none⟩=some (.slice (some ⟨gf,0,none⟩) n cf):=(zvW _ _ _ _ _ _ ((ht.same bt (by omega) (fun⟨p,hp,e⟩=>hdb p hp e.symm)).trans yx):W.cell? ⟨bt,2,none⟩=_);have zf:W.cell? ⟨gf,x,none⟩=some (.slice (some ⟨fr x,0,none⟩) nw nw):=(show W.cell? ⟨gf,x,none⟩=W0.cell? ⟨gf,x,none⟩ from World.cell?_of_block (ht.same gf (by omega) (fun⟨p,hp,e⟩=>hdf p hp e.symm))).trans (yf x hxn);have hj:=zdn nw (fr x) g2 nw c2 _ T2 W.drew ⟨(hr x hxn).row,(hr x hxn).lt⟩ ⟨(y2.touch ht (fun⟨p,hp,e⟩=>hd2 p hp e.symm)).row,y2.lt⟩ (hd2 x hxn) hnw;have hi0:(0:Int)<=(x:Int):=by omega
  have hi1:(x:Int)<(n:Int):=by omega
  have hmix:Tryz.prog.follows Departure.mixedOrders=true:=by kernel_rfl
  dsimp only
  gi_wp2
  gi_region_with_o (refine⟨trivial,?_⟩;gi_at_call 168;refine(CallsIn.inRound l (callsIn_wide.2 hj)).mono ?_;rintro e w' ⟨rfl,hp',hg'⟩)
  all_goals
   gi_wp2
   refine⟨KeepsFrom.of_grownBy (W:=W) (row:=some (fr x)) ⟨hg'.os,hg'.tape,hg'.output,hg'.size,hg'.block⟩ (fun j e=>by cases e;have:=hfl x hxn;omega),fun k hk=>?_,ht.grown (A:=W) (o:=some (fr x)) ⟨hg'.os,hg'.tape,hg'.output,hg'.size,hg'.block⟩ (fun g e=>by cases e;exact .inl ⟨x,hxn,rfl⟩),fun p hp=>?_⟩
   ·refine hg'.block k ?_ (fun e=>?_)
    ·have:=ht.size;have:=y1.glt;simp at hk;show k<W.heap.size;omega
    ·have e':k=fr x:=by simpa using e
     simp at hk;rcases hk with hk|hk
     ·exact hd0 x hxn (by omega)
     ·exact hd1 x hxn (by omega)
   ·rw[zb6]
    by_cases e:p=x
    ·subst e;rw[zv3 (by simp)];refine⟨?_,zsM (hF.rows p hp).lt h2.lt⟩;rw[hp'.row]
     congr 2
     refine zeU fun i _=>?_
     by_cases hin:p∈zco pre
     ·rw[zv3 hin];unfold orT;rw[Nat.or_assoc,Nat.or_self]
     ·rw[zv2 hin]
    ·have hq:=hr p hp;have e2:(p∈zco pre++[x])↔p∈zco pre:=by simp[e]
     refine⟨(hg'.block (fr p) hq.glt (fun q=>e (hF.inj p x hp hxn (by simpa using q)))).trans ?_,?_⟩
     ·by_cases hin:p∈zco pre
      ·rw[zv3 (e2.2 hin)];rw[zv3 hin] at hq;exact hq.row
      ·rw[zv2 (fun h=>hin (e2.1 h))];rw[zv2 hin] at hq;exact hq.row
     ·by_cases hin:p∈zco pre
      ·rw[zv3 (e2.2 hin)];rw[zv3 hin] at hq;exact hq.lt
      ·rw[zv2 (fun h=>hin (e2.1 h))];rw[zv2 hin] at hq;exact hq.lt
 case done=>
  rintro D ys W hD hys ⟨ht,hr⟩ hK
  gi_wp2
  have hgp:=grownBy_putObj' W D (.deferred none);refine⟨by simp,.inl ⟨_,_,rfl,run_takeDeferred hK,?_⟩⟩;refine⟨.tuple #[],by simp[results,Tryz.results202,go_sem],rfl,⟨fun p hp=>?_,hF.inj⟩,(zam.of_below hb0).trans ?_⟩
  ·have hq:=hr p hp;have hpm:(p∈zco ys)↔zai T1 p=true:=(hys p).trans ⟨fun h=>h.2,fun h=>⟨by omega,h⟩⟩;have hne:fr p≠D:=by have:=hfl p hp;omega
   have hrow:(W.putObj D (.deferred none)).heap[fr p]?=W.heap[fr p]?:=World.putObj_heap_other hne
   by_cases hb:zai T1 p=true
   ·rw[zv3 hb];rw[zv3 (hpm.2 hb)] at hq;exact⟨hrow.trans hq.row,hq.lt⟩
   ·rw[zv2 hb];rw[zv2 (fun h=>hb (hpm.1 h))] at hq;exact⟨hrow.trans hq.row,hq.lt⟩
  ·exact ht.grown hgp (fun g e=>.inr (by cases e;exact hD))
end
section
variable{w:World}{nw g:Nat}
open Go.RowKit
theorem zar.put{b o:Nat}{T:Nat->Nat}{v:Value}(h:zar w nw g T)(hne:g≠b):zar (w.setCell ⟨b,o,none⟩ v) nw g T:=h.grown (zaK w b o v) (by simpa using hne)
structure FrAt(w:World)(nw ga gl:Nat)(A L:Nat->Nat):Prop where
 fi:zar w nw ga A
 la:zar w nw gl L
 ne:ga≠gl
theorem FrAt.below{w':World}{ga gl:Nat}{A L:Nat->Nat}(h:FrAt w nw ga gl A L)(hb:Below w.heap.size w w'):FrAt w' nw ga gl A L:=⟨h.fi.below hb,h.la.below hb,h.ne⟩
def zuy(w:World)(nw:Nat)(b:Bool)(e:Ending)(w':World):Prop:=
 ∃ga gl:Nat,e=.returned (.agg #[.bool b,.slice (some ⟨ga,0,none⟩) nw nw,.slice (some ⟨gl,0,none⟩) nw nw])/\w.heap.size<=ga/\w.heap.size<=gl/\FrAt w' nw ga gl za0 za0/\Below w.heap.size w w'
theorem zaf{a b c:Value}{t:TypeId}(h:w.heap[g]?=some (.cells #[a,b,c] t (0,0))):w.cell? ⟨g,0,none⟩=some a/\w.cell? ⟨g,1,none⟩=some b/\w.cell? ⟨g,2,none⟩=some c/\w.frozen? ⟨g,0,none⟩=false/\w.frozen? ⟨g,1,none⟩=false/\w.frozen? ⟨g,2,none⟩=false:=by
 have:∀o,w.cell? ⟨g,o,none⟩=#[a,b,c][o]?:=fun _=>zvW _ _ _ _ _ _ h
 exact⟨this 0,this 1,this 2,zvY _ _ 0 _ _ h,zvY _ _ 1 _ _ h,zvY _ _ 2 _ _ h⟩
theorem zk9(nw bt:Nat)(b:Bool)(sv fv:Value)(w:World)(hbox:zfu w bt nw sv fv)(hnw:nw<=1000):
  Calls Tryz.prog 190 #[.pointer (some ⟨bt,0,none⟩),.bool b] w fun e w'=>zuy w nw b e w':=by
 have hbt:bt<w.heap.size:=(zuH.1 hbox).1;have hb0:Below w.heap.size w (w.alloc (.cells #[.bool false,.slice none 0 0,.slice none 0 0] 226)):=(Below.refl _ _).alloc (zvJ _) _;have x0:(w.alloc (.cells #[.bool false,.slice none 0 0,.slice none 0 0] 226)).heap[w.heap.size]?=some (.cells #[.bool false,.slice none 0 0,.slice none 0 0] 226 (0,0)):=zvZ _ _;have hn1:=zeO nw bt sv fv _ ((hb0.block bt hbt).trans hbox) hnw
 go_enter Tryz.func190,Tryz.ntmps190
 go_wp2_with fail
 refine hn1.mono ?_;rintro e w1 ⟨rfl,hp1,hg1⟩;have hb1:Below w.heap.size w w1:=hb0.grown hg1 (by simp) (fun k e=>by cases e);have x1:=(hg1.block _ (by simp) (by simp)).trans x0;have hn2:=zeO nw bt sv fv w1 ((hb1.block bt hbt).trans hbox) hnw;simp only[World.size_alloc] at hp1;obtain⟨ga,hga⟩:∃ga,ga=w.heap.size+1:=⟨_,rfl⟩;rw[<-hga] at hp1;have hgal:w.heap.size<ga:=by omega
 go_wp2_with fail
 refine hn2.mono ?_;rintro e w2 ⟨rfl,hp2,hg2⟩;have hb2:Below w.heap.size w w2:=hb1.grown hg2 hb1.size (fun k e=>by cases e);have x2:=(hg2.block _ (zvL (by simp) hg1.size) (by simp)).trans x1;have hp1':=hp1.grown hg2 (by simp);obtain⟨c0,c1,c2,f0,f1,f2⟩:=zaf x2;have hl1:=hp1.glt;have hl2:=hp2.glt;clear x0 x1 hn1 hn2 hg1 hg2 hb0 hp1;go_wp2;subst hga;refine zvV (v:=.agg #[.bool b,.slice (some ⟨w.heap.size+1,0,none⟩) nw nw,.slice (some ⟨w1.heap.size,0,none⟩) nw nw]) (by simp[results,Tryz.results190,go_sem,c0,c1,c2]) rfl ⟨_,_,rfl,by omega,by omega,⟨((hp1'.put (by omega)).put (by omega)).put (by omega),((hp2.put (by omega)).put (by omega)).put (by omega),by omega⟩,?_⟩;exact((hb2.setCell (p:=⟨w.heap.size,0,none⟩) (by simp) _).setCell (p:=⟨w.heap.size,1,none⟩) (by simp) _).setCell (p:=⟨w.heap.size,2,none⟩) (by simp) _
def zuz(w:World)(nw ga gl:Nat)(b:Bool)(A L:Nat->Nat)(e:Ending)(w':World):Prop:=
 e=.returned (.agg #[.bool b,.slice (some ⟨ga,0,none⟩) nw nw,.slice (some ⟨gl,0,none⟩) nw nw])/\FrAt w' nw ga gl A L/\zam (fun k=>k=ga\/k=gl) w w'
theorem zo8(nw bt ga gl ha hl:Nat)(b c:Bool)(A L A' L':Nat->Nat)(w:World)(h1:FrAt w nw ga gl A L)(h2:FrAt w nw ha hl A' L')(d1:ga≠ha)(d2:ga≠hl)(d4:gl≠hl)(hnw:nw<=1000):
  Calls Tryz.prog 188 #[.pointer (some ⟨bt,0,none⟩),.agg #[.bool b,.slice (some ⟨ga,0,none⟩) nw nw,.slice (some ⟨gl,0,none⟩) nw nw],.agg #[.bool c,.slice (some ⟨ha,0,none⟩) nw nw,.slice (some ⟨hl,0,none⟩) nw nw]] w fun e w'=>zuz w nw ga gl (b || c) (orT A A') (orT L L') e w':=by
 obtain⟨W0,hW0⟩:∃W0,((w.alloc (.cells #[.bool b,.slice (some ⟨ga,0,none⟩) nw nw,.slice (some ⟨gl,0,none⟩) nw nw] 226)).alloc (.cells #[.bool c,.slice (some ⟨ha,0,none⟩) nw nw,.slice (some ⟨hl,0,none⟩) nw nw] 226)).alloc (.cells #[.bool false,.slice none 0 0,.slice none 0 0] 226)=W0:=⟨_,rfl⟩;have hb0:Below w.heap.size w W0:=by rw[<-hW0];exact(((Below.refl _ _).alloc (zvJ _) _).alloc (by simp) _).alloc (by simp;omega) _
 have x4:W0.heap[w.heap.size]?=some (.cells #[.bool b,.slice (some ⟨ga,0,none⟩) nw nw,.slice (some ⟨gl,0,none⟩) nw nw] 226 (0,0)):=by rw[<-hW0];exact zak (zak (zvZ _ _))
 have x5:W0.heap[w.heap.size+1]?=some (.cells #[.bool c,.slice (some ⟨ha,0,none⟩) nw nw,.slice (some ⟨hl,0,none⟩) nw nw] 226 (0,0)):=by
  rw[<-hW0];refine zak ?_;have:=zvZ (w.alloc (.cells #[.bool b,.slice (some ⟨ga,0,none⟩) nw nw,.slice (some ⟨gl,0,none⟩) nw nw] 226)) (.cells #[.bool c,.slice (some ⟨ha,0,none⟩) nw nw,.slice (some ⟨hl,0,none⟩) nw nw] 226)
  simpa using this
 have x6:W0.heap[w.heap.size+1+1]?=some (.cells #[.bool false,.slice none 0 0,.slice none 0 0] 226 (0,0)):=by
  rw[<-hW0];have:=zvZ ((w.alloc (.cells #[.bool b,.slice (some ⟨ga,0,none⟩) nw nw,.slice (some ⟨gl,0,none⟩) nw nw] 226)).alloc (.cells #[.bool c,.slice (some ⟨ha,0,none⟩) nw nw,.slice (some ⟨hl,0,none⟩) nw nw] 226)) (.cells #[.bool false,.slice none 0 0,.slice none 0 0] 226)
  simpa using this
 have l1:=h1.fi.glt;have l2:=h1.la.glt;have l3:=h2.fi.glt;have l4:=h2.la.glt;have hne:=h1.ne;have y1:=h1.below hb0;have y2:=h2.below hb0;have hj1:=zdn nw ga ha nw nw A A' W0 y1.fi y2.fi d1 hnw;have hsz:W0.heap.size=w.heap.size+1+1+1:=by rw[<-hW0];simp
 obtain⟨a0,a1,a2,-,-,-⟩:=zaf x4;obtain⟨b0,b1,b2,-,-,-⟩:=zaf x5
 go_enter Tryz.func188,Tryz.ntmps188
 go_wp2_with fail
 clear a0 a1 a2 b0 b1 b2 hW0;refine hj1.mono ?_;rintro e w1 ⟨rfl,hp1,hg1⟩;have hs1:=hg1.size;have u4:=(hg1.block (w.heap.size) (by omega) (by simp;omega)).trans x4;have u5:=(hg1.block (w.heap.size+1) (by omega) (by simp;omega)).trans x5;have u6:=(hg1.block (w.heap.size+1+1) (by omega) (by simp;omega)).trans x6;have z1:=y1.la.grown hg1 (by simpa using hne.symm);have z2:=y2.la.grown hg1 (by simpa using d2.symm);have hj2:=zdn nw gl hl nw nw L L' w1 z1 z2 d4 hnw;obtain⟨a0,a1,a2,-,-,-⟩:=zaf u4;obtain⟨b0,b1,b2,-,-,-⟩:=zaf u5
 go_wp2_with fail
 clear a0 a1 a2 b0 b1 b2;refine hj2.mono ?_;rintro e w2 ⟨rfl,hp2,hg2⟩;have hs2:=hg2.size;have v4:=(hg2.block (w.heap.size) (by omega) (by simp;omega)).trans u4;have v5:=(hg2.block (w.heap.size+1) (by omega) (by simp;omega)).trans u5;have v6:=(hg2.block (w.heap.size+1+1) (by omega) (by simp;omega)).trans u6;have hpa:=hp1.grown hg2 (by simpa using hne);have ht:zam (fun k=>k=ga\/k=gl) w w2:=((zam.of_below hb0).trans ((zam.refl _ W0).grown hg1 (fun g e=>by cases e;exact .inl (.inl rfl)))).grown hg2 (fun g e=>by cases e;exact .inl (.inr rfl));obtain⟨a0,a1,a2,-,-,-⟩:=zaf v4;obtain⟨b0,b1,b2,-,-,-⟩:=zaf v5;obtain⟨e0,e1,e2,f0,f1,f2⟩:=zaf v6;clear hj1 hj2 hg1 hg2 x4 x5 x6 u4 u5 u6 v4 v5 v6 y1 y2 z1 z2 hp1 hb0;cases b
 all_goals
  go_wp2;refine zvV (v:=.agg #[.bool _,.slice (some ⟨ga,0,none⟩) nw nw,.slice (some ⟨gl,0,none⟩) nw nw]) (by simp[results,Tryz.results188,go_sem,e0,e1,e2]) rfl ⟨rfl,⟨((hpa.put (by omega)).put (by omega)).put (by omega),((hp2.put (by omega)).put (by omega)).put (by omega),hne⟩,?_⟩;exact((ht.grown (zaK _ _ _ _) (fun g e=>.inr (by cases e;omega))).grown (zaK _ _ _ _) (fun g e=>.inr (by cases e;omega))).grown (zaK _ _ _ _) (fun g e=>.inr (by cases e;omega))
end
section
open Go.RowKit
attribute [local go_sem ↓] Go.wp_at_zero Go.wp_at_succ
def zbT(f:Int×Int)(n:Nat):List (Int×Int):=f::List.replicate n (-1,-1)
theorem zcD(f:Int×Int)(n:Nat):(zbT f n).length=n+1:=by simp[zbT]
theorem zql(sp:List (Int×Int))(a b:Int):pv (sp++[(a,b)])=pv sp++[.int .i64 a,.int .i64 b]:=by
 unfold pv;rw[zvh,show [(a,b)].length=1 from rfl,zpn]
 congr 1
 ·exact znL _ fun k hk=>by
   unfold pvF;rw[zu3,zu3,zu5 hk]
 ·simp[pvF,List.getD_eq_getElem?_getD]
theorem zoc(f:Int×Int)(n:Nat):zbT f (n+1)=zbT f n++[(-1,-1)]:=by simp[zbT,List.replicate_succ']
theorem zum(w:World)(B:Nat)(a b:Int)(hB:B<=w.heap.size)(H:Nat)(hH:w.heap.size=H):(w.alloc (.cells #[.int .i64 a,.int .i64 b] 71)).ownsRow B 71 2 (.slice (some ⟨H,0,none⟩) 1 1) 1 (pv (zbT (a,b) 0)):=by
 subst hH;refine⟨by simp[zfe,zbT],.inr ⟨w.heap.size,1,#[.int .i64 a,.int .i64 b],rfl,hB,zvZ _ _,zvJ _,by unfold maxLen;omega,rfl,by simp[pv,pvF,zbT]⟩⟩
theorem zmV(v:Value)(G:Nat)(a b:Int)(w:World)(hG:G<=500)(B:Nat)(hB:B<=w.heap.size):
  Calls Tryz.prog 31 #[.agg #[v,.int .i64 G],.agg #[.int .i64 a,.int .i64 b]] w fun e w'=>∃g cap,e=.returned (.slice (some ⟨g,0,none⟩) (G+1) cap)/\w'.ownsRow B 71 2 (.slice (some ⟨g,0,none⟩) (G+1) cap) (G+1) (pv (zbT (a,b) G))/\Below w.heap.size w w':=by
 obtain⟨i0,hi,hz0,hz1,hz2⟩:=info_parts Tryz.infoPair;obtain⟨W0,hW0⟩:∃W0,((w.alloc (.cells #[v,.int .i64 G] 69)).alloc (.cells #[.int .i64 a,.int .i64 b] 71)).alloc (.cells #[.int .i64 a,.int .i64 b] 71)=W0:=⟨_,rfl⟩;have hb0:Below w.heap.size w W0:=by rw[<-hW0];exact(((Below.refl _ _).alloc (zvJ _) _).alloc (by simp) _).alloc (by simp;omega) _
 have k0:W0.heap[w.heap.size]?=some (.cells #[v,.int .i64 G] 69 (0,0)):=by rw[<-hW0];exact zak (zak (zvZ _ _))
 have own0:W0.ownsRow B 71 2 (.slice (some ⟨w.heap.size+1+1,0,none⟩) 1 1) 1 (pv (zbT (a,b) 0)):=by rw[<-hW0];exact zum _ _ _ _ (by simp;omega) _ (by simp)
 go_enter Tryz.func31,Tryz.ntmps31
 go_wp2;clear hW0
 go_loopw [5,6] (fun sv i wr=>∃k g cap:Nat,w.heap.size<=g/\k<=G/\sv=.slice (some ⟨g,0,none⟩) (k+1) cap/\i=.int .i64 ((k+1:Nat):Int)/\Below w.heap.size w wr/\wr.heap[w.heap.size]?=some (.cells #[v,.int .i64 G] 69 (0,0))/\wr.ownsRow B 71 2 (.slice (some ⟨g,0,none⟩) (k+1) cap) (k+1) (pv (zbT (a,b) k)))
  (fun _ i _=>G+1-(intOf i).toNat)
 case atStart=>exact⟨0,_,1,by omega,zvT _,rfl,rfl,hb0,k0,own0⟩
 case round=>
  clear own0 k0 hb0;obtain⟨k,g,cap,hgB,hk,rfl,rfl,hb,kr,own⟩:=hrel;have c1:wr.cell? ⟨w.heap.size,1,none⟩=some (.int .i64 G):=(zvW _ _ _ _ _ _ kr:wr.cell? ⟨w.heap.size,1,none⟩=_);have hlw:w.heap.size<wr.heap.size:=zcp kr;have hgw:g≠w.heap.size:=fun e=>by
   rcases own.2 with ⟨h,_⟩|⟨g',c',cur,hv,_,hh,_⟩
   ·cases h
   ·cases hv
    rw[e,kr] at hh;injection hh with hh
    injection hh with _ hh
    exact absurd hh (by decide)
  by_cases hlt:k<G
  ·have hle:((k+1:Nat):Int)<=(G:Int):=by omega
   have hd:decide (((k+1:Nat):Int)<=(G:Int))=true:=by simp;omega
   have Hkk:Hid (pv (zbT (a,b) k)++[Value.int .i64 (-1),.int .i64 (-1)]=pv (zbT (a,b) (k+1))):=by show _=_;rw[zoc,zql]
   obtain⟨kk,hkk⟩:∃kk,k+1=kk:=⟨_,rfl⟩;rw[hkk] at hle hd own ⊢;have Hk2:Hid (k+1=kk):=hkk;clear hkk
   go_wp2_with (refine za9 rfl (.tmp 15) (.tmp 17) 33 rfl wr #[.int .i64 (-1),.int .i64 (-1)] 71 rfl wr.heap.size rfl B i0 _ 2 16 Tryz.underlying33 hi hz0 hz1 hz2 rfl (by omega) _ kk _ rfl own rfl rfl (by intro u hu;simp at hu;subst hu;rfl) (by omega) (by omega) (by have:=hb.size;omega) ?_;intro g1 cap1 w1 own1 grow1 at1)
   have hb1:=hb.grown grow1 hb.size (by intro k' h;have h:some g=some k':=h;injection h with h;omega);have kr1:=(grow1.block _ hlw (by intro h;have h:some w.heap.size=some g:=h;injection h with h;omega)).trans kr;have own2:w1.ownsRow B 71 2 (.slice (some ⟨g1,0,none⟩) (kk+1) cap1) (kk+1) (pv (zbT (a,b) (k+1))):=by rw[<-Hkk.out];exact own1
   have hg1:w.heap.size<=g1:=by
    rcases at1 with h|h
    ·have h:some g=some g1:=h;injection h with h
     omega
    ·have:=hb.size;omega
   go_roundw
   case rel=>exact⟨k+1,g1,cap1,hg1,by omega,by rw[Hk2.out],by congr 1;have:=Hk2.out;omega,hb1,kr1,by have h:=own2;rw[Hk2.out] at h ⊢;exact h⟩
   case measure=>simp[intOf];have:=Hk2.out;omega
  ·obtain rfl:k=G:=by omega
   have hd:decide (((k+1:Nat):Int)<=(k:Int))=false:=by simp;omega
   obtain⟨kk,hkk⟩:∃kk,k+1=kk:=⟨_,rfl⟩;rw[hkk] at hd own ⊢;have hd3:¬kk<=k:=by omega
   have hd4:decide (kk<=k)=false:=by simp;omega
   have Hk2:Hid (k+1=kk):=hkk;clear hkk;go_wp2;exact zvV (v:=.slice (some ⟨g,0,none⟩) kk cap) (by simp[results,Tryz.results31,go_sem]) rfl ⟨g,cap,by rw[Hk2.out],by rw[Hk2.out];exact own,hb⟩
theorem capK{w2 W W':World}{a b:Nat}{x0 x1 x2 y0 y1:Value}(ha:a<w2.heap.size)(hb:b<w2.heap.size)(h:Below w2.heap.size w2 W/\W.cell? ⟨a,0,none⟩=some x0/\W.cell? ⟨a,1,none⟩=some x1/\W.cell? ⟨a,2,none⟩=some x2/\W.cell? ⟨b,0,none⟩=some y0/\W.cell? ⟨b,1,none⟩=some y1)(k:Below W.heap.size W W'):Below w2.heap.size w2 W'/\W'.cell? ⟨a,0,none⟩=some x0/\W'.cell? ⟨a,1,none⟩=some x1/\W'.cell? ⟨a,2,none⟩=some x2/\W'.cell? ⟨b,0,none⟩=some y0/\W'.cell? ⟨b,1,none⟩=some y1:=by
 obtain⟨h0,h1,h2,h3,h4,h5⟩:=h;have hz:=h0.size;have hc:∀d o,d<w2.heap.size->W'.cell? ⟨d,o,none⟩=W.cell? ⟨d,o,none⟩:=fun d o hl=>k.cell (p:=⟨d,o,none⟩) (show d<_ by omega)
 exact⟨zaa h0 h0.size k,(hc _ _ ha).trans h1,(hc _ _ ha).trans h2,(hc _ _ ha).trans h3,(hc _ _ hb).trans h4,(hc _ _ hb).trans h5⟩
def CapR(G:Int)(bs:List zah)(t:ByteArray)(a e:Int)(cl:Bool)(r:List (Int×Int)):Prop:=
 (¬zeF G bs t a e cl/\r=[])\/(zdA G bs t a e=true/\∃k,k<bs.length/\(∀j,j<k->¬zaP (bs.getD j .zero) t a.toNat e.toNat cl)/\zaP (bs.getD k .zero) t a.toNat e.toNat cl/\∃l,Pl t.data.toList (tOf (bs.getD k .zero).nodes ((bs.getD k .zero).nodes.length-1)) a.toNat e.toNat l/\r=upG (zbT (a,e) G.toNat) l)
def CapA(w:World)(r:List (Int×Int))(e:Ending)(w':World):Prop:=∃v,e=.returned v/\w'.ownsRow w.heap.size 71 2 v r.length (pv r)/\Below w.heap.size w w'
theorem zhX{lo:Nat}(G:Int)(v:Value)(bs:List zah)(t:ByteArray)(a e:Int)(cl:Bool)(r:List (Int×Int))(w:World)(hs:zao lo w v bs)(hsm:Small bs)(hr:CapR G bs t a e cl r):
  Calls Tryz.prog 33 #[.agg #[v,.int .i64 G],.string t,.int .i64 a,.int .i64 e,.bool cl] w fun x w'=>CapA w r x w':=by
 have hs0:=hs;obtain⟨ao,cap,rfl,hm,hc⟩:=hs;have hb0:Below w.heap.size w (w.alloc (.cells #[.slice ao bs.length cap,.int .i64 G] 69)):=(Below.refl _ _).alloc (zvJ _) _;have k0:(w.alloc (.cells #[.slice ao bs.length cap,.int .i64 G] 69)).heap[w.heap.size]?=some (.cells #[.slice ao bs.length cap,.int .i64 G] 69 (0,0)):=zvZ _ _;have hsp:=zkF G _ bs t a e _ (hs0.below hb0) hsm;have Hr:Hid (CapR G bs t a e cl r):=hr;have Hnil:Hid (∀W:World,Below w.heap.size w W->r=[]->CapA w r (.returned (.slice (some ⟨W.heap.size,0,none⟩) 0 0)) (W.alloc (.cells #[] 71))):=fun W hb e=>by
  subst e;exact⟨_,rfl,zcF W _ 2 w.heap.size W.heap.size hb.size rfl,hb.alloc hb.size _⟩
 clear hs0 hr
 go_enter Tryz.func33,Tryz.ntmps33
 go_wp2_with fail
 refine hsp.mono ?_;rintro x w1 ⟨rfl,hb1⟩;have bl:=zaa hb0 hb0.size hb1;have p0:=zaz k0 hb1;have q0:w1.cell? ⟨w.heap.size,0,none⟩=some (.slice ao bs.length cap):=(zvW _ _ _ _ _ _ p0:w1.cell? ⟨w.heap.size,0,none⟩=_);clear hsp hb1 hb0 k0;cases hq:zdA G bs t a e
 ·have hN:CapA w r (.returned (.slice (some ⟨w1.heap.size,0,none⟩) 0 0)) (w1.alloc (.cells #[] 71)):=Hnil.out w1 bl (by
   rcases Hr.out with h|h
   ·exact h.2
   ·rw[hq] at h;exact absurd h.1 (by simp))
  have HN:Hid _:=hN;clear hN Hnil Hr;go_wp2;exact zvV (v:=.slice (some ⟨w1.heap.size,0,none⟩) 0 0) (by simp[results,Tryz.results33,go_sem]) rfl HN.out
 have hq0:=hq;unfold zdA zbP at hq0;simp only[zuK,zvX] at hq0;obtain⟨⟨⟨⟨⟨⟨⟨hb1,hGG⟩,-⟩,hall⟩,-⟩,-⟩,-⟩,ht,ha0,hae,het⟩:=hq0;have hgr:=zhr (G:=G) (bs:=bs) (by unfold zdA at hq;simp only[zuK] at hq;exact hq.1);obtain⟨a',rfl⟩:∃a':Nat,a=a':=⟨a.toNat,by omega⟩;obtain⟨e',rfl⟩:∃e':Nat,e=e':=⟨e.toNat,by omega⟩;obtain⟨n,rfl⟩:∃n:Nat,G=n:=⟨G.toNat,by omega⟩;have hae':a'<=e':=by omega
 have het':e'<=t.size:=by omega
 have hn5:n<=500:=by omega
 have hfor:=fun(k:Nat) (hk:k<bs.length)=>by
  have hmem:bs.getD k .zero∈bs:=by rw[zu3,zva hk];exact zvg _
  have hkb:=zuP.1 hall _ hmem;simp only[zuK] at hkb;exact(show _/\_ from⟨hkb,ze7 _ hkb.1⟩)
 have hbel:=fun(k:Nat) (hk:k<bs.length) (W:World) (ao:Option Addr) (c:Nat) (h:zaI lo W (.slice ao (bs.getD k .zero).nodes.length c) (bs.getD k .zero).nodes)=>zh9 (bs.getD k .zero) ao c t a' e' cl W h (hsm.2 k hk).1 (hfor k hk).1.1 (hfor k hk).1.2 (hfor k hk).2.2 (hfor k hk).2.1 hae' het' ht
 have hready:=fun(k:Nat) (hk:k<bs.length) (W:World) (bol eol:Bool) (ao:Option Addr) (c:Nat) (h:zaI lo W (.slice ao (bs.getD k .zero).nodes.length c) (bs.getD k .zero).nodes)=>zm4 bol eol ao c (bs.getD k .zero).nodes t W h (hsm.2 k hk).1 (hfor k hk).1.1
 have hplace:=fun(k:Nat) (hk:k<bs.length)=>zqf (bs.getD k .zero).nodes (hfor k hk).2.2 (hfor k hk).1.2 ((bs.getD k .zero).nodes.length-1) (by have:=(hfor k hk).2.1;omega)
 have htree:=fun(k:Nat) (hk:k<bs.length)=>zmo (bs.getD k .zero).nodes (hfor k hk).2.2 (hfor k hk).1.2 ((bs.getD k .zero).nodes.length-1) (by have:=(hfor k hk).2.1;omega)
 have hlens:=fun(k:Nat) (hk:k<bs.length)=>(show 0<(bs.getD k .zero).nodes.length/\(bs.getD k .zero).nodes.length<=1048576 from⟨(hfor k hk).2.1,(hsm.2 k hk).1⟩)
 have Hq:Hid _:=hq;have Hgr:Hid _:=hgr;have Htree:Hid _:=htree;have hlen:=hsm.1;clear hall hsm hq hgr hfor htree;go_wp2
 go_loopw [23] (fun i wr=>∃k:Nat,k<=bs.length/\i=.int .i64 k/\Below w.heap.size w wr/\wr.heap[w.heap.size]?=some (.cells #[.slice ao bs.length cap,.int .i64 n] 69 (0,0))/\Hid (∀j,j<k->¬zaP (bs.getD j .zero) t a' e' cl))
  (fun i _=>bs.length-(intOf i).toNat)
 case atStart=>exact⟨0,zvT _,rfl,bl,p0,fun j hj=>absurd hj (zvQ _)⟩
 case round=>
  clear p0 q0 bl;obtain⟨k,hk,rfl,hb,kr,HN⟩:=hrel
  by_cases hlt:k<bs.length
  ·obtain⟨b,o,nv,bd,rfl,Hn,hbl,c0,c1,c2,hnv⟩:=hc.elem hb hlt;have hbk:=hbel k hlt;have hrd:=hready k hlt;have hpk:=hplace k hlt;have hln:=hlens k hlt;have Htr:=Htree.out k hlt;rw[Hn.out] at hbk hrd hpk hln Htr;have HTr:Hid _:=Htr;obtain⟨nao,ncap,rfl,hnm,hnc⟩:=hnv;have hnv:zaI lo wr (.slice nao bd.nodes.length ncap) bd.nodes:=⟨nao,ncap,rfl,hnm,hnc⟩;obtain⟨W2,hW2⟩:∃W2,wr.alloc (.cells #[.bool bd.bol,.bool bd.eol,.slice nao bd.nodes.length ncap] 115)=W2:=⟨_,rfl⟩;have hba:Below w.heap.size w W2:=by rw[<-hW2];exact hb.alloc hb.size _
   have hbr2:Below wr.heap.size wr W2:=by rw[<-hW2];exact(Below.refl _ _).alloc (zvJ _) _
   have kb:W2.heap[wr.heap.size]?=some (.cells #[.bool bd.bol,.bool bd.eol,.slice nao bd.nodes.length ncap] 115 (0,0)):=by rw[<-hW2];exact zvZ _ _
   have kr2:=zaz kr hbr2;have hnv2:=hnv.below hbr2;have hcall:=hbk _ nao ncap hnv2;obtain⟨z0,z1,z2,-,-,-⟩:=zaf kb;clear hbk hbel hready hplace hlens hnc hc hnv hbr2 Htr Htree;have HB:Hid (zaP (bs.getD k .zero) t a' e' cl=zaP bd t a' e' cl):=by show _=_;rw[Hn.out]
   go_wp2_with fail
   refine hcall.mono ?_;rintro x w2 ⟨q,rfl,hiff,hb2⟩;have bl2:=zaa hba hba.size hb2;have kb2:=zaz kb hb2;have kr3:=zaz kr2 hb2;have hnv3:=hnv2.below hb2;clear hcall z0 z1 z2 hnv2 kb kr2 hW2;cases q
   ·go_wp2
    go_roundw
    case rel=>exact⟨k+1,by omega,by go_num,bl2,kr3,fun j hj=>by
     by_cases ej:j=k
     ·subst ej;rw[HB.out,<-hiff];simp
     ·exact HN.out j (by omega)⟩
    case measure=>simp[intOf];omega
   ·have hB1:zaP bd t a' e' cl:=by first|exact hiff.1 rfl|exact hiff.1 trivial
    obtain⟨l,hl,hre⟩:∃l,Pl t.data.toList (tOf bd.nodes (bd.nodes.length-1)) a' e' l/\r=upG (zbT ((a':Int),(e':Int)) n) l:=by
     rcases Hr.out with ⟨h,_⟩|⟨_,j,hj,h1,h2,l,h3,h4⟩
     ·exact absurd ⟨Hq.out,k,hlt,by rw[show (a':Int).toNat=a' by omega,show (e':Int).toNat=e' by omega,HB.out];exact hB1⟩ h
     ·rw[show (a':Int).toNat=a' by omega,show (e':Int).toNat=e' by omega] at h2 h3;rw[show (n:Int).toNat=n by omega] at h4;have e:j=k:=by
       rcases zvN j k with c|c|c
       ·exact absurd h2 (HN.out j c)
       ·exact c
       ·have:=h1 k c;rw[show (a':Int).toNat=a' by omega,show (e':Int).toNat=e' by omega,HB.out] at this;exact absurd hB1 this
      subst e;rw[Hn.out] at h3;exact⟨l,h3,h4⟩
    have hgl:∀x∈l,1<=x.1/\x.1<((n+1:Nat):Int):=fun x hx=>by
     have h1:=zd7 _ _ _ _ hl x hx;have h2:=HTr.out.2 _ h1;have h3:=Hgr.out _ (zfz bs k hlt _ (by rw[Hn.out];exact h2));omega
    have hPl:=fun(z:Int) (W:World) (gl cl' gr cr g' cap':Nat) (hz:z=((bd.nodes.length-1:Nat):Int)) (h0:Below w.heap.size w W) (h1:BrAt W bd.nodes (.slice nao bd.nodes.length ncap) gl gr) (h2:W.ownsRow w.heap.size 71 2 (.slice (some ⟨g',0,none⟩) (n+1) cap') (n+1) (pv (zbT ((a':Int),(e':Int)) n)))=>by
     have:=hpk W nao ncap gl cl' gr cr t w.heap.size a' e' g' cap' (n+1) (zbT ((a':Int),(e':Int)) n) l h1 h2 (zcD _ _) h0.size (by omega) (by omega) hae' het' ht hgl hl;rw[<-hz] at this;exact this
    have hwr:∀z:Int,z=IntKind.i64.wrap ((bd.nodes.length:Int)-1)->z=((bd.nodes.length-1:Nat):Int):=fun z h=>by rw[h,IntKind.wrap_i64];omega
    have Hre:Hid (r=upG (zbT ((a':Int),(e':Int)) n) l):=hre;have hz1:((bd.nodes.length:Int)-1)=((bd.nodes.length-1:Nat):Int):=by omega
    obtain⟨y0,y1,y2,-,-,-⟩:=zaf kb2;have u0:w2.cell? ⟨w.heap.size,0,none⟩=some (.slice (some ⟨b,o,none⟩) bs.length cap):=(zvW _ _ _ _ _ _ kr3:w2.cell? ⟨w.heap.size,0,none⟩=_);have u1:w2.cell? ⟨w.heap.size,1,none⟩=some (.int .i64 n):=(zvW _ _ _ _ _ _ kr3:w2.cell? ⟨w.heap.size,1,none⟩=_);have lb:=zcp kb2;have lr:=zcp kr3;clear hre hl hgl hpk hB1 hiff Hnil Hr HB HN kb2 kr3;have HB0:Below w2.heap.size w2 w2.drew:=(Below.refl _ _).drew;go_wp2
    go_region_held3 (fun w'=>Below w2.heap.size w2 w'/\w'.cell? ⟨wr.heap.size,0,none⟩=some (.bool bd.bol)/\w'.cell? ⟨wr.heap.size,1,none⟩=some (.bool bd.eol)/\w'.cell? ⟨wr.heap.size,2,none⟩=some (.slice nao bd.nodes.length ncap)/\w'.cell? ⟨w.heap.size,0,none⟩=some (.slice (some ⟨b,o,none⟩) bs.length cap)/\w'.cell? ⟨w.heap.size,1,none⟩=some (.int .i64 n)) ((first|exact⟨HB0,y0,y1,y2,u0,u1⟩|exact capK lb lr (by assumption) hb5|exact capK lb lr (by assumption) hb6|exact capK lb lr (by assumption) hb7|go_keep)) ((first|(have h5:=hbr5;have h6:=own6;go_at_call 66;refine(hPl _ _ gl cl2 gr cr g6 cap6 (by first|rfl|exact hwr _ rfl|exact hz1) (by first|exact zaa bl2 bl2.size (‹Below w2.heap.size w2 _/\_›).1) (by first|exact hbr5|exact hbr5.below hb6) (by first|exact own6|exact zac own6 hb5)).mono ?_;rintro x w7 ⟨g7,cap7,rfl,own7,hb7⟩)|(go_at_call 67;refine(hrd _ bd.bol bd.eol nao ncap (hnv3.below (by first|exact HB0|exact(‹Below w2.heap.size w2 _/\_›).1))).mono ?_;rintro x w5 ⟨hb5,gl,cl2,gr,cr,rfl,hbr5⟩)|(go_at_call 31;refine(zmV _ n a' e' _ hn5 w.heap.size (by first|exact zvK bl2.size HB0.size|exact zvK bl2.size (‹Below w2.heap.size w2 _/\_›).1.size)).mono ?_;rintro x w6 ⟨g6,cap6,rfl,own6,hb6⟩)))
    all_goals
     have hfin:=‹Below w2.heap.size w2 _/\_›;have bel:=zaa bl2 bl2.size hfin.1;rw[<-Hre.out] at own7;have Hlen:Hid (n+1=r.length):=by show _=_;rw[Hre.out,zdp,zcD]
     go_wp2;exact zvV (v:=.slice (some ⟨g7,0,none⟩) (n+1) cap7) (by simp[results,Tryz.results33,go_sem]) rfl ⟨_,rfl,by rw[<-Hlen.out];exact own7,bel⟩
  ·have hN:CapA w r (.returned (.slice (some ⟨wr.heap.size,0,none⟩) 0 0)) (wr.alloc (.cells #[] 71)):=Hnil.out wr hb (by
    rcases Hr.out with h|⟨_,j,hj,_,h,_⟩
    ·exact h.2
    ·rw[show (a':Int).toNat=a' by omega,show (e':Int).toNat=e' by omega] at h;exact absurd h (HN.out j (by omega)))
   have HN2:Hid _:=hN;clear hN Hnil Hr hbel hready hplace hlens;go_wp2;exact zvV (v:=.slice (some ⟨wr.heap.size,0,none⟩) 0 0) (by simp[results,Tryz.results33,go_sem]) rfl HN2.out
end
section
variable{G a e:Int}{bs:List zah}{t:ByteArray}
theorem zpI{P:Nat->Prop}:∀(n k:Nat),k<=n->P k->∃j,j<=k/\P j/\∀i,i<j->¬P i
 |0,k,h,hp=>⟨k,zvJ _,hp,fun i hi=>by omega⟩
 |n+1,k,h,hp=>by
  by_cases he:∃i,i<k/\P i
  ·obtain⟨i,h1,h2⟩:=he;obtain⟨j,a,b,c⟩:=zpI n i (by omega) h2;exact⟨j,by omega,b,c⟩
  ·exact⟨k,zvJ _,hp,fun i hi hq=>he ⟨i,hi,hq⟩⟩
theorem znb(h:zdA G bs t a e=true){k:Nat}(hk:k<bs.length):zcA (bs.getD k .zero).nodes=true/\(bs.getD k .zero).nodes.all zaB=true:=by
 unfold zdA zbP at h;simp only[zuK,zvX] at h;obtain⟨⟨⟨⟨⟨⟨⟨-,-⟩,-⟩,hall⟩,-⟩,-⟩,-⟩,-⟩:=h;have hmem:bs.getD k .zero∈bs:=by rw[zu3,zva hk];exact zvg _
 have hkb:=zuP.1 hall _ hmem;simp only[zuK] at hkb;exact hkb
theorem ztH(h:zdA G bs t a e=true):t.size<=4096/\0<=a/\a<=e/\e<=t.size:=by
 unfold zdA at h;simp only[zuK,zvX] at h;exact h.2
theorem zoQ(G:Int)(bs:List zah)(t:ByteArray)(a e:Int)(cl:Bool):∃r,CapR G bs t a e cl r:=by
 by_cases h:zeF G bs t a e cl
 ·obtain⟨h1,k0,h2,h3⟩:=h;obtain⟨k,hk,hb,hf⟩:=zpI (P:=fun k=>zaP (bs.getD k .zero) t a.toNat e.toNat cl) k0 k0 (zvJ _) h3;obtain⟨b1,b2,b3,b4⟩:=ztH h1;obtain⟨s1,s2⟩:=znb h1 (k:=k) (by omega);obtain⟨p1,p2⟩:=ze7 _ s1;have ho:=(zmo (bs.getD k .zero).nodes p2 s2 ((bs.getD k .zero).nodes.length-1) (by omega)).1;have htl:t.data.toList.length=t.size:=by simp
  obtain⟨l,hl⟩:=zc4 (u:=t.data.toList) _ ho a.toNat e.toNat ⟨by omega,by omega,hb.2⟩;exact⟨_,.inr ⟨h1,k,by omega,hf,hb,l,hl,rfl⟩⟩
 ·exact⟨[],.inl ⟨h,rfl⟩⟩
theorem zrd{cl:Bool}{r:List (Int×Int)}(h:CapR G bs t a e cl r):r.length<=501:=by
 rcases h with ⟨-,rfl⟩|⟨h1,k,-,-,-,l,-,rfl⟩
 ·simp
 ·unfold zdA zbP at h1;simp only[zuK,zvX] at h1;obtain⟨⟨⟨⟨⟨⟨⟨-,hG⟩,-⟩,-⟩,-⟩,-⟩,-⟩,-⟩:=h1;rw[zdp,zcD];omega
end
variable{d:TabD}{rs:List zaG}{s:zbs}
open Go.RowKit
attribute [local go_sem ↓] Go.wp_at_zero Go.wp_at_succ
def matB(rs:List zaG)(d:TabD):Bool:=zc2 rs&&tabB d&&zaL (-1) (rs.length-1) d.tag&&zaL (-1) (rs.length-1) d.fin
def zd3(rs:List zaG)(d:TabD)(s:zbs):Bool:=matB rs d&&zcq s&&decide (s.S<d.base.length)
def runT(d:TabD)(t:ByteArray)(n:Nat)(q:Int):Nat->Int
 |0=>q
 |k+1=>zcb d (runT d t n q k).toNat (t.data.toList.getD (n+k) 0).toNat
def stT(d:TabD)(s:zbs)(b:Nat):Int:=runT d s.B s.N.toNat s.S (b-s.N.toNat)
def namT(d:TabD)(s:zbs)(b:Nat):Int:=if s.C&&b==s.B.size then d.fin.getD (stT d s b).toNat 0 else d.tag.getD (stT d s b).toNat 0
structure AnsD where
 kind:Int
 rule:Int
 start:Int
 fin:Int
 spans:List (Int×Int)
def AnsD.zero:AnsD:=⟨0,0,0,0,[]⟩
def zfX(r:zaG)(t:ByteArray)(b:Nat)(cl:Bool)(a:Int):Prop:=
 (a=-1/\∀k:Nat,k<=b->¬zeF r.groups r.branches t k b cl)\/∃k:Nat,a=k/\k<=b/\zeF r.groups r.branches t k b cl/\∀j:Nat,j<k->¬zeF r.groups r.branches t j b cl
def zeW(r:zaG)(t:ByteArray)(a:Int)(b:Nat)(cl:Bool)(sp:List (Int×Int)):Prop:=
 (a=-1/\sp=zbT (-1,-1) r.groups.toNat)\/(0<=a/\CapR r.groups r.branches t a b cl sp)
def NxR(rs:List zaG)(d:TabD)(s s':zbs)(x:AnsD):Prop:=
 (zd3 rs d s=false/\s'=.zero/\x=.zero)\/
 (zd3 rs d s=true/\∃b:Nat,s.N.toNat<=b/\b<=s.B.size/\(∀j,s.N.toNat<=j->j<b->namT d s j=-1)/\0<=namT d s b/\
  ∃a sp,zfX (rs.getD (namT d s b).toNat .zero) s.B b s.C a/\zeW (rs.getD (namT d s b).toNat .zero) s.B a b s.C sp/\s'=⟨s.L,s.B.extract b s.B.size,s.C,0,0⟩/\x=⟨1,namT d s b,a,b,sp⟩)\/
 (zd3 rs d s=true/\(∀j,s.N.toNat<=j->j<=s.B.size->namT d s j=-1)/\s'=⟨s.L,s.B,s.C,stT d s s.B.size,s.B.size⟩/\x=⟨if s.C then 3 else 2,0,0,0,[]⟩)
def sesV(s:zbs):Value:=.agg #[.int .i64 s.L,.string s.B,.bool s.C,.int .i64 s.S,.int .i64 s.N]
def ansV(x:AnsD)(v:Value):Value:=.agg #[.int .i64 x.kind,.int .i64 x.rule,.int .i64 x.start,.int .i64 x.fin,v]
def NxA(w:World)(s:zbs)(x:AnsD)(e:Ending)(w':World):Prop:=
 ∃v,e=.returned (.tuple #[sesV s,ansV x v])/\w'.ownsRow w.heap.size 71 2 v x.spans.length (pv x.spans)/\Below w.heap.size w w'
theorem zrO(h:zbX d){s c:Nat}(hs:s<d.base.length):0<=zcb d s c/\zcb d s c<d.base.length:=by
 unfold zcb;split
 ·rename_i hk
  have:=zem h.ns (k:=za6 d s c) (by rw[h.nk];exact hk.1);unfold zeh;omega
 ·have:=zem h.ds (k:=s) (by rw[h.dl];exact hs);unfold zci;omega
theorem zqA(h:zbX d)(t:ByteArray)(n:Nat){q:Int}(hq:0<=q)(hq2:q<d.base.length):∀k,0<=runT d t n q k/\runT d t n q k<d.base.length
 |0=>⟨hq,hq2⟩
 |k+1=>by
  have:=zqA h t n hq hq2 k;exact zrO h (by omega)
theorem zb1(h:zd3 rs d s=true):zc2 rs=true/\zbX d/\zaL (-1) (rs.length-1) d.tag=true/\zaL (-1) (rs.length-1) d.fin=true/\1<=s.L/\s.L<=4096/\(s.B.size:Int)<=s.L/\0<=s.N/\s.N<=s.B.size/\0<=s.S/\s.S<d.base.length:=by
 simp only[zd3,matB,zcq,zuK,zvX,zbR] at h;obtain⟨⟨⟨⟨⟨a,b⟩,c⟩,e⟩,⟨⟨⟨f1,f2⟩,g⟩,i1,i2⟩,j1,j2⟩,k⟩:=h;exact⟨a,zqJ b,c,e,f1,f2,g,i1,i2,j1,k⟩
theorem zkH(h:zd3 rs d s=true)(b:Nat):0<=stT d s b/\stT d s b<d.base.length:=by
 obtain⟨-,hf,-,-,-,-,-,-,-,h1,h2⟩:=zb1 h;exact zqA hf _ _ h1 h2 _
theorem zlH(h:zd3 rs d s=true)(b:Nat):-1<=namT d s b/\namT d s b<rs.length:=by
 obtain⟨-,hf,ht,he,-⟩:=zb1 h;have hb:=zkH h b;unfold namT;split
 ·have:=zem he (k:=(stT d s b).toNat) (by rw[hf.el];omega);omega
 ·have:=zem ht (k:=(stT d s b).toNat) (by rw[hf.tl];omega);omega
theorem znc{b:Nat}(hb:s.N.toNat<=b)(c:Nat)(hc:(s.B.data.toList.getD b 0).toNat=c):stT d s (b+1)=zcb d (stT d s b).toNat c:=by
 unfold stT;rw[show b+1-s.N.toNat=(b-s.N.toNat)+1 from by omega];show zcb d _ _=_;rw[show s.N.toNat+(b-s.N.toNat)=b from by omega,hc]
end Go.Proofs.YtdimhpfiieepiaaGreatDoor
