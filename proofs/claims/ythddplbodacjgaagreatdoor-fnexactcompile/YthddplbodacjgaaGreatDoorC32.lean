import Derived.Test.YthddplbodacjgaaGreatDoorC31
import Derived.Deep.RegionLaw
import Derived.Deep.Cut
import Derived.Deep.CutRange
namespace Go.Proofs.YthddplbodacjgaaGreatDoor
set_option maxHeartbeats 4000000
set_option maxRecDepth 100000
open Go.RowKit
section
attribute [local go_sem] Oper.semAt_some
def MemR(P:Int->Prop)(tg:Nat->Int)(Q:Nat->Prop)(r:Int):Prop:=P r\/∃p,Q p/\r=tg p/\tg p<100
theorem zbF.mem{P:Int->Prop}{tg:Nat->Int}{nw:Nat}{T:Nat->Nat}{pre:List (Mem nw T)}{t:Int}{x:Mem nw T}(h:zbF (MemR P tg (fun p=>p∈zbt pre)) t)(hx:tg x.1<=100):zbF (MemR P tg (fun p=>p∈zbt (pre++[x]))) (Min.min t (tg x.1)):=by
 refine(h.min hx).congr fun r=>?_
 unfold MemR;rw[zbQ];constructor
 ·rintro ((h1|⟨p,h1,h2⟩)|⟨h1,h2⟩)
  ·exact .inl h1
  ·exact .inr ⟨p,zuc.2 (.inl h1),h2⟩
  ·exact .inr ⟨x.1,by simp,h1,h2⟩
 ·rintro (h1|⟨p,h1,h2,h3⟩)
  ·exact .inl (.inl h1)
  ·rcases zuc.1 h1 with h1|h1
   ·exact .inl (.inr ⟨p,h1,h2,h3⟩)
   ·rw[zui] at h1;subst h1;exact .inr ⟨h2,h3⟩
theorem zi6{W:World}{b D:Nat}{u0 u1:Value}{t:TypeId}(h:W.heap[b]?=some (.cells #[u0,u1] t (0,0)))(x y:Value)(hD:b≠D)(o:Obj):(((W.setCell ⟨b,0,none⟩ x).setCell ⟨b,1,none⟩ y).putObj D o).cell? ⟨b,0,none⟩=some x/\(((W.setCell ⟨b,0,none⟩ x).setCell ⟨b,1,none⟩ y).putObj D o).cell? ⟨b,1,none⟩=some y:=by
 have h2:=(World.putObj_heap_other (w:=(W.setCell ⟨b,0,none⟩ x).setCell ⟨b,1,none⟩ y) (o:=o) hD).trans (zuT _ _ 1 _ _ y (zuT W b 0 _ _ x h));exact⟨(zuO _ _ _ _ _ _ h2:_),(zuO _ _ _ _ _ _ h2:_)⟩
def FndR(w:World)(Pt Pe:Int->Prop)(tg fn:Nat->Int)(T:Nat->Nat)(e:Ending)(W:World):Prop:=
 ∃tt te:Int,zbF (MemR Pt tg (fun p=>zaA T p=true)) tt/\zbF (MemR Pe fn (fun p=>zaA T p=true)) te/\e=.returned (.agg #[.int .i64 (if tt=100 then -1 else tt),.int .i64 (if te=100 then -1 else te)])/\Below w.heap.size w W
theorem zmW(s bt nw gs gl gf wt gT cT gO:Nat)(t0 e0 t1 e1:Int)(T:Nat->Nat)(tg fn:Nat->Int)(Pt Pe:Int->Prop)(t e:Int)(w:World)
  (hC:w.heap[s]?=some (.cells (scC bt nw gs t0 e0 gl t1 e1 gf wt) 111 (0,0))) (hF:w.heap[gf]?=some (.cells (zbR wt tg fn) 103 (0,0))) (hT:zaB w nw gT T) (hm:∀p,zaA T p=true->p<wt) (ht:zbF Pt t) (he:zbF Pe e) (h1:∀p,p<wt->tg p<=100/\fn p<=100)
  (hnw:nw<=1000) (hw64:wt<=64*nw) (hB:zbj w):
  Calls Tryz.prog 55 #[.pointer (some ⟨s,0,none⟩),.slice (some ⟨gT,0,none⟩) nw cT,.agg #[.slice (some ⟨gO,0,none⟩) nw nw,.int .i64 t,.int .i64 e]] w (FndR w Pt Pe tg fn T):=by
 refine(callsIn_wide (n:=5)).1 ?_;refine callsIn_of_wp_marks Tryz.func55 rfl trivial ?_ rfl;simp only[Tryz.ntmps55,zuo,zt2,zt4,Nat.reduceAdd,Nat.reduceSub,ztr,zts,zum,ztE,zuj,ztF];obtain⟨W0,hW0⟩:∃W0,(((w.alloc (.cells #[.pointer (some ⟨s,0,none⟩)] 63)).alloc (.cells #[.slice (some ⟨gO,0,none⟩) nw nw,.int .i64 t,.int .i64 e] 108)).alloc (.cells #[.int .i64 0,.int .i64 0] 103)).alloc (.cells #[.int .i64 t,.int .i64 e] 103)=W0:=⟨_,rfl⟩;have hb0:Below w.heap.size w W0:=by rw[<-hW0];exact((((Below.refl _ _).alloc (zuz _) _).alloc (by simp) _).alloc (by simp;omega) _).alloc (by simp;omega) _
 have hsz:W0.heap.size=w.heap.size+1+1+1+1:=by rw[<-hW0];simp
 have x3:W0.heap[w.heap.size]?=some (.cells #[.pointer (some ⟨s,0,none⟩)] 63 (0,0)):=by rw[<-hW0];exact zao (zao (zao (zuR _ _)))
 have x6:W0.heap[w.heap.size+1+1]?=some (.cells #[.int .i64 0,.int .i64 0] 103 (0,0)):=by rw[<-hW0];exact zao (zbD (by simp))
 have x7:W0.heap[w.heap.size+1+1+1]?=some (.cells #[.int .i64 t,.int .i64 e] 103 (0,0)):=by rw[<-hW0];exact zbD (by simp)
 have yC:=(hb0.block s (zae hC)).trans hC;have yF:=(hb0.block gf (zae hF)).trans hF;have yT:=hT.below hb0;have yb:zbj W0:=hB.keep (hb0.block 0 (zbz hB));have lT:=hT.glt;have ls:=zae hC;have lf:=zae hF;have lb:=zbz hB
 gi_wp2
 rename_i K hK
 try rw[hW0]
 clear hW0;refine zcF (by omega) (gf:=80) (fb:=#[.slice (some ⟨gT,0,none⟩) nw cT]) (lb:=#[]) rfl (enters_of Tryz.func80 (by kernel_rfl) rfl)
  (T:=[0,gT]) (by intro k hk;simp at hk;omega)
  (zci 4 nw gT cT T (by omega) hnw W0 yT yb) (fun _=>rfl)
  (fun pre W=>zaM (fun k=>k=w.heap.size+1+1+1) W0 W/\∃tt te:Int,W.heap[w.heap.size+1+1+1]?=some (.cells #[.int .i64 tt,.int .i64 te] 103 (0,0))/\zbF (MemR Pt tg (fun p=>p∈zbt pre)) tt/\zbF (MemR Pe fn (fun p=>p∈zbt pre)) te)
  (fun _ _ _=>False)
  (fun s A B hs ht=>⟨hs.1.turn ht,by obtain⟨tt,te,h1,h2⟩:=hs.2;exact⟨tt,te,ht.same _ _ h1 (.inr rfl),h2⟩⟩)
  (fun c s A B hs ht=>hs)
  ⟨zaM.refl _ _,t,e,x7,ht.congr fun r=>by simp[MemR,zbt],he.congr fun r=>by simp[MemR,zbt]⟩
  (fun x=>{tmps:=#[.pointer (some ⟨s,0,none⟩),.slice (some ⟨gT,0,none⟩) nw cT,.agg #[.slice (some ⟨gO,0,none⟩) nw nw,.int .i64 t,.int .i64 e],.pointer (some ⟨w.heap.size,0,none⟩),undef,.pointer (some ⟨w.heap.size+1,0,none⟩),.pointer (some ⟨w.heap.size+1+1,0,none⟩),.pointer (some ⟨w.heap.size+1+1+1,0,none⟩),.int .i64 (x.1:Int),.pointer (some ⟨w.heap.size+1,1,none⟩),.agg #[.int .i64 t,.int .i64 e],.slice (some ⟨gT,0,none⟩) nw cT,.func (.func 80) #[.slice (some ⟨gT,0,none⟩) nw cT] #[],.int .i64 (x.1:Int),undef,undef,undef,undef,undef,undef,undef,undef,undef,undef,undef,undef,undef,undef,undef,undef,undef,undef],defers:=[]})
  ?assign ?body ?done ?stop
 case assign=>
  intro l x W K hK
  gi_wp2
  exact hK
 case stop=>
  rintro D c pre W hD _ hf;exact hf.elim
 case body=>
  rintro l pre ⟨x,hx⟩ W hl ⟨ht,tt,te,hR,hlt,hle⟩ hlen;have hxw:=hm x hx.2;have z3:W.cell? ⟨w.heap.size,0,none⟩=some (.pointer (some ⟨s,0,none⟩)):=(zuO _ _ _ _ _ _ ((ht.same _ (by omega) (by omega)).trans x3):W.cell? ⟨w.heap.size,0,none⟩=_);have zs:W.cell? ⟨s,7,none⟩=some (.slice (some ⟨gf,0,none⟩) wt wt):=(zuO _ _ _ _ _ _ ((ht.same s (by omega) (by omega)).trans yC):W.cell? ⟨s,7,none⟩=_);have hFW:=(ht.same gf (by omega) (by omega)).trans yF;have q0:W.cell? ⟨gf,x*2,none⟩=some (.int .i64 (tg x)):=by rw[zuO _ _ _ _ _ _ hFW,zdG _ _ _ hxw]
  have q1:W.cell? ⟨gf,x*2+1,none⟩=some (.int .i64 (fn x)):=by rw[zuO _ _ _ _ _ _ hFW,zgx _ _ _ hxw]
  have r0:W.cell? ⟨w.heap.size+1+1+1,0,none⟩=some (.int .i64 tt):=(zuO _ _ _ _ _ _ hR:W.cell? ⟨w.heap.size+1+1+1,0,none⟩=_);have r1:W.cell? ⟨w.heap.size+1+1+1,1,none⟩=some (.int .i64 te):=(zuO _ _ _ _ _ _ hR:W.cell? ⟨w.heap.size+1+1+1,1,none⟩=_);have HT:Hid _:=ht;have HR:Hid _:=hR;have HL1:Hid _:=hlt.mem (x:=⟨x,hx⟩) (h1 x hxw).1;have HL2:Hid _:=hle.mem (x:=⟨x,hx⟩) (h1 x hxw).2;have hle2:=fun nq=>zmd tt te (tg x) (fn x) (W.drewN nq)
  have hi0:(0:Int)<=(x:Int):=by omega
  have hi1:(x:Int)<(wt:Int):=by omega
  have hmix:Tryz.prog.follows .mixedOrders=true:=by kernel_rfl
  generalize tg x=u0 at *;generalize fn x=u1 at *;clear hR ht hFW hK hlt hle;dsimp only
  gi_wp2
  refine zbb 8 (fun w'=>∃n,w'=W.drewN n) hmix ⟨1,rfl⟩ (by rintro ⟨_,_,h⟩;exact h) (by decide) (by kernel_rfl) rfl ?_;intro os hos;simp only[zus,zuu] at hos;subst hos
  repeat (go_big_quiet_step (fail))
  refine wpQuiet_nil ?_;rintro w' ⟨nq,rfl⟩ r' hr';simp only[ztI,ztJ] at hr';subst hr'
  go_wp2_with (go_at_call 89;refine(hle2 nq).mono ?_;rintro q w2 ⟨rfl,hb2⟩;have hR2:w2.heap[w.heap.size+1+1+1]?=some (.cells #[.int .i64 tt,.int .i64 te] 103 (0,0)):=(hb2.block _ (zae HR.out)).trans HR.out;have r02:w2.cell? ⟨w.heap.size+1+1+1,0,none⟩=some (.int .i64 tt):=(zuO _ _ _ _ _ _ hR2:w2.cell? ⟨w.heap.size+1+1+1,0,none⟩=_);have r12:w2.cell? ⟨w.heap.size+1+1+1,1,none⟩=some (.int .i64 te):=(zuO _ _ _ _ _ _ hR2:w2.cell? ⟨w.heap.size+1+1+1,1,none⟩=_);have f02:=zuQ _ _ 0 _ _ hR2;have f12:=zuQ _ _ 1 _ _ hR2)
  gi_wp2
  have hbq:Below W.heap.size W w2:=(below_drewN (Below.refl _ _) nq).trans hb2;have h5:=zuT _ _ 1 _ _ (.int .i64 (min te u1)) (zuT w2 (w.heap.size+1+1+1) 0 _ _ (.int .i64 (min tt u0)) hR2);refine⟨((zbg hbq).from _).trans (((KeepsOthers.setCell _ _ _).from _).trans ((KeepsOthers.setCell _ _ _).from _)),fun k hk=>?_,?_,_,_,h5,HL1.out,HL2.out⟩
  ·have hk':k≠w.heap.size+1+1+1:=by simp at hk;omega
   have hk2:k<W.heap.size:=by have:=HT.out.size;simp at hk;omega
   exact((zuS _ _ _ _ (by exact hk')).trans (zuS _ _ _ _ (by exact hk'))).trans (hbq.block k hk2)
  ·exact((HT.out.trans (zaM.of_below hbq)).grown (zaN _ _ _ _) (fun g e=>by cases e;exact .inl rfl)).grown (zaN _ _ _ _) (fun g e=>by cases e;exact .inl rfl)
 case done=>
  rintro D ys W hD hys ⟨ht,tt,te,hR,hlt,hle⟩ hK2;refine hK _ _ (wpIn_wide.2 ?_);dsimp only;have hmem:∀p,(p∈zbt ys)=(zaA T p=true):=fun p=>propext ((hys p).trans ⟨fun h=>h.2,fun h=>⟨by have:=hm p h;omega,h⟩⟩)
  simp only[hmem] at hlt hle;have HB:Hid (Below w.heap.size w W):=hb0.trans ⟨ht.os,ht.tape,ht.output,ht.size,fun k hk=>ht.same k (by omega) (by omega)⟩;have hR6:=(ht.same (w.heap.size+1+1) (by omega) (by omega)).trans x6;have r0:W.cell? ⟨w.heap.size+1+1+1,0,none⟩=some (.int .i64 tt):=(zuO _ _ _ _ _ _ hR:W.cell? ⟨w.heap.size+1+1+1,0,none⟩=_);have r1:W.cell? ⟨w.heap.size+1+1+1,1,none⟩=some (.int .i64 te):=(zuO _ _ _ _ _ _ hR:W.cell? ⟨w.heap.size+1+1+1,1,none⟩=_);have f0:=zuQ _ _ 0 _ _ hR;have f1:=zuQ _ _ 1 _ _ hR;have k0:W.cell? ⟨w.heap.size+1+1,0,none⟩=some (.int .i64 0):=(zuO _ _ _ _ _ _ hR6:W.cell? ⟨w.heap.size+1+1,0,none⟩=_);have k1:W.cell? ⟨w.heap.size+1+1,1,none⟩=some (.int .i64 0):=(zuO _ _ _ _ _ _ hR6:W.cell? ⟨w.heap.size+1+1,1,none⟩=_);have f2:=zuQ _ _ 0 _ _ hR6;have f3:=zuQ _ _ 1 _ _ hR6;have HD:Hid _:=hK2;have HR6:Hid _:=hR6;have HL1:Hid _:=hlt;have HL2:Hid _:=hle;have hDw:w.heap.size+1+1+1<D:=by omega
  clear hlt hle hK2 hR6 hR ht hys hmem hK x3 x6 x7 yC yF yT yb hb0 hsz hD;have Hfin:Hid (∀(X:World) (a b:Int),Below w.heap.size w X->a=(if tt=100 then -1 else tt)->b=(if te=100 then -1 else te)->FndR w Pt Pe tg fn T (.returned (.agg #[.int .i64 a,.int .i64 b])) (X.putObj D (.deferred none))):=fun X a b hX ha hb=>by
   subst ha;subst hb;exact⟨tt,te,HL1.out,HL2.out,rfl,hX.grown (grownBy_putObj' _ D _) hX.size (fun q e=>by cases e;omega)⟩
  by_cases h1:tt=100
  ·have g1:(tt==100)=true:=by simpa using h1
   have H1:Hid (-1=(if tt=100 then -1 else tt)):=(zuV h1).symm;clear h1
   by_cases h2:te=100
   ·have g2:(te==100)=true:=by simpa using h2
    have H2:Hid (-1=(if te=100 then -1 else te)):=(zuV h2).symm;clear h2;go_wp2;have hX6:((W.setCell ⟨w.heap.size+1+1+1,0,none⟩ (.int .i64 (-1))).setCell ⟨w.heap.size+1+1+1,1,none⟩ (.int .i64 (-1))).heap[w.heap.size+1+1]?=some (.cells #[.int .i64 0,.int .i64 0] 103 (0,0)):=by
     repeat (refine(zuS _ _ _ _ (by dsimp only;omega)).trans ?_)
     exact HR6.out
    obtain⟨z0,z1⟩:=zi6 (D:=D) hX6 (.int .i64 (-1)) (.int .i64 (-1)) (by omega) (.deferred none);refine⟨by simp,.inl ⟨D,_,rfl,run_takeDeferred ?_,.agg #[.int .i64 (-1),.int .i64 (-1)],by simp[results,Tryz.results55,go_sem,z0,z1],Hfin.out _ (-1) (-1) ?_ H1.out H2.out⟩⟩
    ·repeat (refine(zuS _ _ _ _ (by dsimp only;omega)).trans ?_)
     exact HD.out
    ·repeat (refine Below.setCell ?_ (by dsimp only;omega) _)
     exact HB.out
   ·have g2:(te==100)=false:=by simpa using h2
    have H2:Hid (te=(if te=100 then -1 else te)):=(zuU h2).symm;clear h2;go_wp2;have hX6:(W.setCell ⟨w.heap.size+1+1+1,0,none⟩ (.int .i64 (-1))).heap[w.heap.size+1+1]?=some (.cells #[.int .i64 0,.int .i64 0] 103 (0,0)):=by
     repeat (refine(zuS _ _ _ _ (by dsimp only;omega)).trans ?_)
     exact HR6.out
    obtain⟨z0,z1⟩:=zi6 (D:=D) hX6 (.int .i64 (-1)) (.int .i64 te) (by omega) (.deferred none);refine⟨by simp,.inl ⟨D,_,rfl,run_takeDeferred ?_,.agg #[.int .i64 (-1),.int .i64 te],by simp[results,Tryz.results55,go_sem,z0,z1],Hfin.out _ (-1) te ?_ H1.out H2.out⟩⟩
    ·repeat (refine(zuS _ _ _ _ (by dsimp only;omega)).trans ?_)
     exact HD.out
    ·repeat (refine Below.setCell ?_ (by dsimp only;omega) _)
     exact HB.out
  ·have g1:(tt==100)=false:=by simpa using h1
   have H1:Hid (tt=(if tt=100 then -1 else tt)):=(zuU h1).symm;clear h1
   by_cases h2:te=100
   ·have g2:(te==100)=true:=by simpa using h2
    have H2:Hid (-1=(if te=100 then -1 else te)):=(zuV h2).symm;clear h2;go_wp2;have hX6:(W.setCell ⟨w.heap.size+1+1+1,1,none⟩ (.int .i64 (-1))).heap[w.heap.size+1+1]?=some (.cells #[.int .i64 0,.int .i64 0] 103 (0,0)):=by
     repeat (refine(zuS _ _ _ _ (by dsimp only;omega)).trans ?_)
     exact HR6.out
    obtain⟨z0,z1⟩:=zi6 (D:=D) hX6 (.int .i64 tt) (.int .i64 (-1)) (by omega) (.deferred none);refine⟨by simp,.inl ⟨D,_,rfl,run_takeDeferred ?_,.agg #[.int .i64 tt,.int .i64 (-1)],by simp[results,Tryz.results55,go_sem,z0,z1],Hfin.out _ tt (-1) ?_ H1.out H2.out⟩⟩
    ·repeat (refine(zuS _ _ _ _ (by dsimp only;omega)).trans ?_)
     exact HD.out
    ·repeat (refine Below.setCell ?_ (by dsimp only;omega) _)
     exact HB.out
   ·have g2:(te==100)=false:=by simpa using h2
    have H2:Hid (te=(if te=100 then -1 else te)):=(zuU h2).symm;clear h2;go_wp2;have hX6:W.heap[w.heap.size+1+1]?=some (.cells #[.int .i64 0,.int .i64 0] 103 (0,0)):=by
     repeat (refine(zuS _ _ _ _ (by dsimp only;omega)).trans ?_)
     exact HR6.out
    obtain⟨z0,z1⟩:=zi6 (D:=D) hX6 (.int .i64 tt) (.int .i64 te) (by omega) (.deferred none);refine⟨by simp,.inl ⟨D,_,rfl,run_takeDeferred ?_,.agg #[.int .i64 tt,.int .i64 te],by simp[results,Tryz.results55,go_sem,z0,z1],Hfin.out _ tt te ?_ H1.out H2.out⟩⟩
    ·repeat (refine(zuS _ _ _ _ (by dsimp only;omega)).trans ?_)
     exact HD.out
    ·repeat (refine Below.setCell ?_ (by dsimp only;omega) _)
     exact HB.out
end
section
variable {B nw g ga gl n bt n' o k ha hl:Nat}{b c:Bool}{w W W1 W2:World}{S D E:Nat -> Prop}{T A L mk fr mk' fr' A' L':Nat -> Nat}{f f':Nat -> Nat -> Bool}{F F':Nat -> Nat -> Nat}{M N:GA}{sv fv v:Value}{cs:Array Value}
structure Kp(B:Nat)(w W:World):Prop where
 os:W.os=w.os
 tape:W.tape=w.tape
 output:W.output=w.output
 size:w.heap.size<=W.heap.size
 low:∀k,k<B->W.heap[k]?=w.heap[k]?
 typ:∀(k:Nat) (cs:Array Value) (t:TypeId),w.heap[k]?=some (.cells cs t (0,0))->t≠159->t≠163->t≠105->W.heap[k]?=some (.cells cs t (0,0))
theorem Kp.trans{a b c:World}(h:Kp B a b)(k:Kp B b c):Kp B a c:=
 ⟨k.os.trans h.os,k.tape.trans h.tape,k.output.trans h.output,zuA h.size k.size,fun i hi=>(k.low i hi).trans (h.low i hi),fun i cs t e h1 h2 h3=>k.typ i cs t (h.typ i cs t e h1 h2 h3) h1 h2 h3⟩
theorem Kp.of_below(hB:B<=w.heap.size)(h:Below w.heap.size w W):Kp B w W:=
 ⟨h.os,h.tape,h.output,h.size,fun k hk=>h.block k (by omega),fun k cs t e _ _ _=>(h.block k (ztp.1 e).1).trans e⟩
theorem Kp.of_touch(t:zaM S w W)(hB:B<=w.heap.size)(hS:∀k,k<w.heap.size->S k->B<=k/\∃cs t,w.heap[k]?=some (.cells cs t (0,0))/\(t=159\/t=163\/t=105)):Kp B w W:=
 ⟨t.os,t.tape,t.output,t.size,fun k hk=>t.same k (by omega) (fun hs=>by have:=(hS k (by omega) hs).1;omega),fun k cs u e h1 h2 h3=>by
  have hlt:=(ztp.1 e).1;refine(t.same k hlt (fun hs=>?_)).trans e;obtain⟨-,cs',u',e',hu⟩:=hS k hlt hs;rw[e] at e';have:=zak e';subst this;rcases hu with hu|hu|hu
  ·exact h1 hu
  ·exact h2 hu
  ·exact h3 hu⟩
theorem Kp.touch(h:Kp B w W1)(hB:B<=w.heap.size)(t:zaM S W1 W2)(hS:∀k,k<w.heap.size->S k->W2.heap[k]?=W1.heap[k]?):Kp B w W2:=by
 have same:∀k,k<w.heap.size->W2.heap[k]?=W1.heap[k]?:=fun k hk=>by
  by_cases hs:S k
  ·exact hS k hk hs
  ·exact t.same k (zuB hk h.size) hs
 exact⟨t.os.trans h.os,t.tape.trans h.tape,t.output.trans h.output,zuA h.size t.size,fun k hk=>(same k (by omega)).trans (h.low k hk),fun k cs t e h1 h2 h3=>(same k (ztp.1 e).1).trans (h.typ k cs t e h1 h2 h3)⟩
theorem Kp.pos(h:Kp B w W)(hp:zaB w nw g T):zaB W nw g T:=⟨h.typ _ _ _ hp.row (by decide) (by decide) (by decide),hp.lt⟩
theorem Kp.frag(h:Kp B w W)(hp:FrAt w nw ga gl A L):FrAt W nw ga gl A L:=⟨h.pos hp.fi,h.pos hp.la,hp.ne⟩
theorem Kp.keepM(h:Kp B w W):zdv w W:=fun _ _ e=>h.typ _ _ _ e (by decide) (by decide) (by decide)
def tkOf(f:Nat->Nat->Bool)(p:Nat)(c:UInt8):Prop:=f p c.toNat=true
def zgz(F:Nat->Nat->Nat)(p q:Nat):Prop:=zaA (F p) q=true
def inT(T:Nat->Nat)(p:Nat):Prop:=zaA T p=true
structure WrD(B:Nat)(w:World)(n nw bt:Nat)(mk:Nat->Nat)(f:Nat->Nat->Bool)(fr:Nat->Nat)(F:Nat->Nat->Nat)(W:World)(n' ga gl:Nat)(b:Bool)(M:GA)(sv fv:Value)(mk':Nat->Nat)(f':Nat->Nat->Bool)(fr':Nat->Nat)(F':Nat->Nat->Nat)(A L:Nat->Nat):Prop where
 tk:Trk B W n' nw bt sv fv mk' f' fr' F'
 fg:FrAt W nw ga gl A L
 le:n<=n'
 na:w.heap.size<=ga
 nl:w.heap.size<=gl
 ea:∀p,p<n'->fr' p≠ga
 el:∀p,p<n'->fr' p≠gl
 old:∀p,p<n->mk' p=mk p/\f' p=f p/\fr' p=fr p/\F' p=F p
 new:∀p,n<=p->p<n'->w.heap.size<=fr' p
 good:zcm (tkOf f') (zgz F') (fun p=>n<=p/\p<n') (b=true) (inT A) (inT L) M
 kp:Kp B w W
 hB:B<=w.heap.size
theorem WrD.start{w0:World}
  (h:WrD B w n nw bt mk f fr F W n' ga gl b M sv fv mk' f' fr' F' A L) (hb:Below w0.heap.size w0 w) (hB:B<=w0.heap.size):WrD B w0 n nw bt mk f fr F W n' ga gl b M sv fv mk' f' fr' F' A L:=
 have hs:=hb.size
 ⟨h.tk,h.fg,h.le,by have:=h.na;omega,by have:=h.nl;omega,h.ea,h.el,h.old,fun p h1 h2=>by have:=h.new p h1 h2;omega,h.good,(Kp.of_below hB hb).trans h.kp,hB⟩
theorem WrD.below
  (h:WrD B w n nw bt mk f fr F W n' ga gl b M sv fv mk' f' fr' F' A L) (hb:Below W.heap.size W W2):WrD B w n nw bt mk f fr F W2 n' ga gl b M sv fv mk' f' fr' F' A L:=
 ⟨h.tk.below hb,h.fg.below hb,h.le,h.na,h.nl,h.ea,h.el,h.old,h.new,h.good,h.kp.trans (Kp.of_below (zuA h.hB h.kp.size) hb),h.hB⟩
theorem Trk.putF{b:Nat}(h:Trk B w n nw bt sv fv mk f fr F)(hb:w.heap[b]?=some (.cells cs 115 (0,0)))(h0:b≠0):Trk B (w.setCell ⟨b,o,none⟩ v) n nw bt sv fv mk f fr F:=by
 have hk:∀(k:Nat) (a:Array Value) (u:TypeId),w.heap[k]?=some (.cells a u (0,0))->u≠115->(w.setCell ⟨b,o,none⟩ v).heap[k]?=some (.cells a u (0,0)):=fun k a u hk hne=>
  ((zaN w b o v).block k (ztp.1 hk).1 (fun e=>by cases e;rw[hb] at hk;exact hne (zak hk).symm)).trans hk
 exact⟨hk _ _ _ h.box (by decide),zas h.so fun k cs e=>hk k cs _ e (by decide),zas h.fo fun k cs e=>hk k cs _ e (by decide),⟨fun p hp=>⟨hk _ _ _ (h.fol.rows p hp).row (by decide),(h.fol.rows p hp).lt⟩,h.fol.inj⟩,fun p hp=>hk _ _ _ (h.mks p hp) (by decide),h.n64,h.nwl,h.bru.keep ((zaN w b o v).block 0 (zbz h.bru) (fun e=>h0 (by cases e;rfl))),h.bb,h.b0⟩
theorem zaB.putF{b:Nat}(h:zaB w nw g T)(hb:w.heap[b]?=some (.cells cs 115 (0,0))):zaB (w.setCell ⟨b,o,none⟩ v) nw g T:=
 h.put (fun e=>by subst e;have:=h.row;rw[hb] at this;exact absurd (zak this) (by decide))
theorem WrD.putF
  (h:WrD B w n nw bt mk f fr F W n' ga gl b M sv fv mk' f' fr' F' A L) (hb:W.heap[k]?=some (.cells cs 115 (0,0))) (h0:w.heap.size<=k) (h1:0<w.heap.size):WrD B w n nw bt mk f fr F (W.setCell ⟨k,o,none⟩ v) n' ga gl b M sv fv mk' f' fr' F' A L:=
 ⟨h.tk.putF hb (by omega),⟨h.fg.fi.putF hb,h.fg.la.putF hb,h.fg.ne⟩,h.le,h.na,h.nl,h.ea,h.el,h.old,h.new,h.good,h.kp.touch h.hB ((zaM.refl (fun j=>j=k) W).grown (zaN W k o v) (fun g e=>by cases e;exact .inl rfl)) (fun j hj e=>by omega),h.hB⟩
structure Pair(B:Nat)(w:World)(n nw bt:Nat)(mk:Nat->Nat)(f:Nat->Nat->Bool)(fr:Nat->Nat)(F:Nat->Nat->Nat)(W:World)(n' ga gl ha hl:Nat)(b c:Bool)(D E:Nat->Prop)(M N:GA)(sv fv:Value)(mk':Nat->Nat)(f':Nat->Nat->Bool)(fr':Nat->Nat)(F':Nat->Nat->Nat)(A L A' L':Nat->Nat):Prop where
 tk:Trk B W n' nw bt sv fv mk' f' fr' F'
 x:FrAt W nw ga gl A L
 y:FrAt W nw ha hl A' L'
 le:n<=n'
 na:w.heap.size<=ga
 nl:w.heap.size<=gl
 ma:w.heap.size<=ha
 ml:w.heap.size<=hl
 aa:ga≠ha
 al:ga≠hl
 la:gl≠ha
 ll:gl≠hl
 e1:∀p,p<n'->fr' p≠ga
 e2:∀p,p<n'->fr' p≠gl
 e3:∀p,p<n'->fr' p≠ha
 e4:∀p,p<n'->fr' p≠hl
 old:∀p,p<n->mk' p=mk p/\f' p=f p/\fr' p=fr p/\F' p=F p
 new:∀p,n<=p->p<n'->w.heap.size<=fr' p
 gx:zcm (tkOf f') (zgz F') D (b=true) (inT A) (inT L) M
 gy:zcm (tkOf f') (zgz F') E (c=true) (inT A') (inT L') N
 dj:∀p,D p->¬E p
 un:∀p,D p\/E p↔n<=p/\p<n'
 kp:Kp B w W
 hB:B<=w.heap.size
theorem Pair.swap
  (h:Pair B w n nw bt mk f fr F W n' ga gl ha hl b c D E M N sv fv mk' f' fr' F' A L A' L'):Pair B w n nw bt mk f fr F W n' ha hl ga gl c b E D N M sv fv mk' f' fr' F' A' L' A L:=
 ⟨h.tk,h.y,h.x,h.le,h.ma,h.ml,h.na,h.nl,h.aa.symm,h.la.symm,h.al.symm,h.ll.symm,h.e3,h.e4,h.e1,h.e2,h.old,h.new,h.gy,h.gx,fun p a b=>h.dj p b a,fun p=>(Or.comm).trans (h.un p),h.kp,h.hB⟩
theorem WrD.pair{W1':World}{n1 n2:Nat}{sv2 fv2:Value}{mk1 mk2:Nat->Nat}{f1 f2:Nat->Nat->Bool}{fr1 fr2:Nat->Nat}{F1 F2:Nat->Nat->Nat}
  (h:WrD B w n nw bt mk f fr F W1 n1 ga gl b M sv fv mk1 f1 fr1 F1 A L) (hb:Below W1.heap.size W1 W1') (k:WrD B W1' n1 nw bt mk1 f1 fr1 F1 W2 n2 ha hl c N sv2 fv2 mk2 f2 fr2 F2 A' L'):
  Pair B w n nw bt mk f fr F W2 n2 ga gl ha hl b c (fun p=>n<=p/\p<n1) (fun p=>n1<=p/\p<n2) M N sv2 fv2 mk2 f2 fr2 F2 A L A' L':=by
 have s1:=h.kp.size;have s2:=hb.size;have lga:=h.fg.fi.glt;have lgl:=h.fg.la.glt;have q1:=h.na;have q2:=h.nl;have q3:=k.na;have q4:=k.nl;have l1:=h.le;have l2:=k.le;have hfr:∀p,p<n2->∀g,g<W1.heap.size->(∀p,p<n1->fr1 p≠g)->fr2 p≠g:=fun p hp g hg h1 e=>by
  by_cases hpn:p<n1
  ·rw[(k.old p hpn).2.2.1] at e;exact h1 p hpn e
  ·have:=k.new p (by omega) hp;omega
 refine⟨k.tk,k.kp.frag (h.fg.below hb),k.fg,by omega,q1,q2,by omega,by omega,by omega,by omega,by omega,by omega,fun p hp=>hfr p hp ga lga h.ea,fun p hp=>hfr p hp gl lgl h.el,k.ea,k.el,fun p hp=>?_,fun p h1 h2=>?_,?_,k.good,fun p a b=>by omega,fun p=>by omega,h.kp.trans ((Kp.of_below (by have:=h.hB;omega) hb).trans k.kp),h.hB⟩
 ·obtain⟨a1,a2,a3,a4⟩:=h.old p hp;obtain⟨b1,b2,b3,b4⟩:=k.old p (by omega);exact⟨b1.trans a1,b2.trans a2,b3.trans a3,b4.trans a4⟩
 ·by_cases hpn:p<n1
  ·rw[(k.old p hpn).2.2.1];exact h.new p h1 hpn
  ·have:=k.new p (by omega) h2;omega
 ·refine(h.good.congr (fol':=zgz F2) fun p q hp=>?_).tk fun p c hp=>?_
  ·unfold zgz;rw[(k.old p hp.2).2.2.2]
  ·unfold tkOf;rw[(k.old p hp.2).2.1]
theorem zmm(T U:Nat->Nat)(p:Nat):inT (orT T U) p↔inT T p\/inT U p:=by unfold inT;rw[zg3,ztw]
theorem Pair.alt
  (h:Pair B w n nw bt mk f fr F W n' ga gl ha hl b c D E M N sv fv mk' f' fr' F' A L A' L') (hf:FrAt W2 nw ga gl (orT A A') (orT L L')) (t:zaM (fun k=>k=ga\/k=gl) W W2):
  WrD B w n nw bt mk f fr F W2 n' ga gl (b || c) (GA.alt M N) sv fv mk' f' fr' F' (orT A A') (orT L L'):=by
 have q1:=h.na;have q2:=h.nl;refine⟨h.tk.turn t (fun k _ e=>?_) ⟨fun p hp=>(h.tk.fol.rows p hp).touch t (fun e=>?_),h.tk.fol.inj⟩,hf,h.le,h.na,h.nl,h.e1,h.e2,h.old,h.new,?_,h.kp.touch h.hB t (fun k hk e=>by omega),h.hB⟩
 ·rcases e with rfl|rfl
  ·exact⟨_,_,h.x.fi⟩
  ·exact⟨_,_,h.x.la⟩
 ·rcases e with e|e
  ·exact h.e1 p hp e
  ·exact h.e2 p hp e
 ·exact(zow h.gx h.gy h.dj).dom h.un (by simp) (fun p=>(zmm _ _ _).symm) (fun p=>(zmm _ _ _).symm)
theorem zpx(F:Nat->Nat->Nat)(L A:Nat->Nat)(p q:Nat):zgz (fun p=>if zaA L p=true then orT (F p) A else F p) p q↔zgz F p q\/(inT L p/\inT A q):=by
 show zaA (if zaA L p=true then orT (F p) A else F p) q=true↔zaA (F p) q=true\/(zaA L p=true/\zaA A q=true)
 by_cases e:zaA L p=true
 ·rw[zuV e,zg3,ztw];simp[e]
 ·rw[zuU e];simp[e]
theorem Pair.seq{e:Ending}
  (h:Pair B w n nw bt mk f fr F W n' ga gl ha hl b c D E M N sv fv mk' f' fr' F' A L A' L')
  (hs:zrT W n' nw bt sv fv fr' (fun p=>if zaA L p=true then orT (F' p) A' else F' p) ga hl (b&&c) (if b=true then orT A A' else A) (if c=true then orT L' L else L') e W2):
  WrD B w n nw bt mk f fr F W2 n' ga hl (b&&c) (GA.seq M N) sv fv mk' f' fr' (fun p=>if zaA L p=true then orT (F' p) A' else F' p) (if b=true then orT A A' else A) (if c=true then orT L' L else L'):=by
 obtain⟨-,hf,htk,t⟩:=hs;have q1:=h.na;have q2:=h.ml;have hL:∀p,zaA L p=true->n<=p/\p<n':=fun p hp=>(h.un p).1 (.inl (h.gx.la p hp))
 have hold:∀p,p<n->(if zaA L p=true then orT (F' p) A' else F' p)=F' p:=fun p hp=>by
  rw[zuU (fun e=>by have:=hL p e;omega)]
 refine⟨h.tk.turn t (fun k _ e=>?_) htk.fol,hf,h.le,h.na,h.ml,h.e1,h.e4,fun p hp=>?_,h.new,?_,h.kp.touch h.hB t (fun k hk e=>?_),h.hB⟩
 ·rcases e with rfl|rfl|⟨p,hp,rfl⟩
  ·exact⟨_,_,h.x.fi⟩
  ·exact⟨_,_,h.y.la⟩
  ·exact⟨_,_,h.tk.fol.rows p hp⟩
 ·obtain⟨a1,a2,a3,a4⟩:=h.old p hp;exact⟨a1,a2,a3,(hold p hp).trans a4⟩
 ·refine(zoy (fol':=zgz (fun p=>if zaA L p=true then orT (F' p) A' else F' p)) (f:=inT (if b=true then orT A A' else A)) (l:=inT (if c=true then orT L' L else L')) h.gx h.gy h.dj (fun p q _=>?_) (fun p=>?_) (fun p=>?_)).dom h.un (by simp) (fun _=>Iff.rfl) (fun _=>Iff.rfl)
  ·exact zpx F' L A' p q
  ·cases b
   ·simp
   ·rw[zuV rfl,zmm];simp
  ·cases c
   ·simp
   ·rw[zuV rfl,zmm];simp
 ·rcases e with e|e|⟨p,hp,e⟩
  ·omega
  ·omega
  ·have hpn:p<n:=by
    rcases zuC p n with h1|h1
    ·exact h1
    ·have:=h.new p h1 hp;omega
   have r1:=(h.tk.fol.rows p hp).row;have r2:=(htk.fol.rows p hp).row;rw[hold p hpn] at r2;rw[e,r1,r2]
theorem WrD.words
  (h:WrD B w n nw bt mk f fr F W n' ga gl b M sv fv mk' f' fr' F' A L) (hl:M=N):WrD B w n nw bt mk f fr F W n' ga gl b N sv fv mk' f' fr' F' A L:=
 ⟨h.tk,h.fg,h.le,h.na,h.nl,h.ea,h.el,h.old,h.new,h.good.words hl,h.kp,h.hB⟩
theorem WrD.opt
  (h:WrD B w n nw bt mk f fr F W n' ga gl b M sv fv mk' f' fr' F' A L):WrD B w n nw bt mk f fr F W n' ga gl true (GA.opt M) sv fv mk' f' fr' F' A L:=
 ⟨h.tk,h.fg,h.le,h.na,h.nl,h.ea,h.el,h.old,h.new,h.good.opt.dom (fun _=>Iff.rfl) (by simp) (fun _=>Iff.rfl) (fun _=>Iff.rfl),h.kp,h.hB⟩
theorem WrD.star
  (h:WrD B w n nw bt mk f fr F W n' ga gl b M sv fv mk' f' fr' F' A L) (htk:TrkL W2 n' nw bt sv fv fr' (fun p=>if zaA L p=true then orT (F' p) A else F' p)) (t:zaM (fun k=>∃p,p<n'/\k=fr' p) W W2):
  WrD B w n nw bt mk f fr F W2 n' ga gl true (GA.star M) sv fv mk' f' fr' (fun p=>if zaA L p=true then orT (F' p) A else F' p) A L:=by
 have hL:∀p,zaA L p=true->n<=p/\p<n':=fun p hp=>h.good.la p hp
 have hold:∀p,p<n->(if zaA L p=true then orT (F' p) A else F' p)=F' p:=fun p hp=>by
  rw[zuU (fun e=>by have:=hL p e;omega)]
 refine⟨h.tk.turn t (fun k _ ⟨p,hp,e⟩=>⟨_,_,e ▸ h.tk.fol.rows p hp⟩) htk.fol,⟨h.fg.fi.touch t (fun⟨p,hp,e⟩=>h.ea p hp e.symm),h.fg.la.touch t (fun⟨p,hp,e⟩=>h.el p hp e.symm),h.fg.ne⟩,h.le,h.na,h.nl,h.ea,h.el,fun p hp=>?_,h.new,?_,h.kp.touch h.hB t (fun k hk ⟨p,hp,e⟩=>?_),h.hB⟩
 ·obtain⟨a1,a2,a3,a4⟩:=h.old p hp;exact⟨a1,a2,a3,(hold p hp).trans a4⟩
 ·exact(zm0 (fol':=zgz (fun p=>if zaA L p=true then orT (F' p) A else F' p)) h.good (fun p q _=>zpx F' L A p q)).dom (fun _=>Iff.rfl) (by simp) (fun _=>Iff.rfl) (fun _=>Iff.rfl)
 ·have hpn:p<n:=by
   rcases zuC p n with h1|h1
   ·exact h1
   ·have:=h.new p h1 hp;omega
  have r1:=(h.tk.fol.rows p hp).row;have r2:=(htk.fol.rows p hp).row;rw[hold p hpn] at r2;rw[e,r1,r2]
theorem zqc(p:Nat):inT zbm p↔False:=by unfold inT;rw[zcT];simp
theorem WrD.bare(h:Trk B w n nw bt sv fv mk f fr F){ga gl:Nat}(b:Bool)(na:w.heap.size<=ga)(nl:w.heap.size<=gl)(hf:FrAt W nw ga gl zbm zbm)(hb:Below w.heap.size w W):
  WrD B w n nw bt mk f fr F W n ga gl b (GA.eps b) sv fv mk f fr F zbm zbm:=by
 have hbt:bt<w.heap.size:=(ztp.1 h.box).1;have hB:B<=w.heap.size:=by have:=h.bb;omega
 have hfl:∀p,p<n->fr p<w.heap.size:=fun p hp=>(h.fol.rows p hp).glt
 exact⟨h.below hb,hf,zuz _,na,nl,fun p hp=>by have:=hfl p hp;omega,fun p hp=>by have:=hfl p hp;omega,fun _ _=>⟨rfl,rfl,rfl,rfl⟩,fun p h1 h2=>by omega,(zmZ (tkOf f) (zgz F) b).dom (fun p=>⟨False.elim,fun k=>by omega⟩) Iff.rfl (fun p=>(zqc p).symm) (fun p=>(zqc p).symm),Kp.of_below hB hb,hB⟩
def WrR(B:Nat)(w:World)(n nw bt:Nat)(mk:Nat->Nat)(f:Nat->Nat->Bool)(fr:Nat->Nat)(F:Nat->Nat->Nat)(k:Nat)(M:GA)(e:Ending)(W:World):Prop:=
 ∃(n' ga gl:Nat) (b:Bool) (sv fv:Value) (mk':Nat->Nat) (f':Nat->Nat->Bool) (fr':Nat->Nat) (F':Nat->Nat->Nat) (A L:Nat->Nat),e=.returned (.agg #[.bool b,.slice (some ⟨ga,0,none⟩) nw nw,.slice (some ⟨gl,0,none⟩) nw nw])/\n'<=n+k/\WrD B w n nw bt mk f fr F W n' ga gl b M sv fv mk' f' fr' F' A L
theorem WrD.ret{m:Nat}
  (h:WrD B w n nw bt mk f fr F W n' ga gl b M sv fv mk' f' fr' F' A L) (hb:W.heap[k]?=some (.cells cs 115 (0,0))) (h0:w.heap.size<=k) (h1:0<w.heap.size) (hm:n'<=n+m):
  WrR B w n nw bt mk f fr F m M (.returned (.agg #[.bool b,.slice (some ⟨ga,0,none⟩) nw nw,.slice (some ⟨gl,0,none⟩) nw nw])) (((W.setCell ⟨k,0,none⟩ (.bool b)).setCell ⟨k,1,none⟩ (.slice (some ⟨ga,0,none⟩) nw nw)).setCell ⟨k,2,none⟩ (.slice (some ⟨gl,0,none⟩) nw nw)):=by
 have r1:=zuT _ _ 0 _ _ (.bool b) hb;have r2:=zuT _ _ 1 _ _ (.slice (some ⟨ga,0,none⟩) nw nw) r1;exact⟨n',ga,gl,b,sv,fv,mk',f',fr',F',A,L,rfl,hm,((h.putF hb h0 h1).putF r1 h0 h1).putF r2 h0 h1⟩
end
theorem zfI{P:Program}{ops:Array Oper}{o:Oper}{a:Act}{w:World}{K:Act->World->Prop}{Q:Exit->Act->World->Prop}{E:Prop}(hgd:o.guard=none)(f:FuncId)(xs:Array Operand)(ats:Array TypeId)
  (ho:o.op=.call {callee:=.value (.func f),args:=xs,argTypes:=ats}) (args:Array Value) (hargs:(#[]++xs.map a.eval++#[]:Array Value)=args) (v:Value) (R:World->Prop) (hen:(callFunc f args).run P w=.ok (.enter f args) w)
  (hc:Calls P f args w fun e w'=>e=.returned v/\R w') (h:∀w',R w'->K (a.put o.dst v) w'):
  if Region.wanted o (yielded ops a.tmps)=true then Oper.wp P o a w K Q else E:=by
 have hw:Region.wanted o (yielded ops a.tmps)=true:=by simp[Region.wanted,hgd]
 rw[zuV hw];obtain⟨dst,op,type,pos,after,guard⟩:=o;simp only at ho;subst ho;unfold Oper.wp;rw[execOp_call_go,hargs];rw[hen,Oper.upon_enter];refine hc.mono ?_;rintro e w' ⟨rfl,hR⟩;exact h w' hR
end Go.Proofs.YthddplbodacjgaaGreatDoor
