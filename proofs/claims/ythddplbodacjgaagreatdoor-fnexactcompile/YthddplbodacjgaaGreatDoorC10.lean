import Derived.Test.YthddplbodacjgaaGreatDoorC9
import Derived.BigQuiet
import Derived.OrdersIn
import Derived.RangeFuncCalls
namespace Go.Proofs.YthddplbodacjgaaGreatDoor
set_option maxHeartbeats 4000000
set_option maxRecDepth 100000
section
variable {T:Nat -> Nat}{k lo x j t:Nat}{pre:List Nat}
open Go.RowKit
attribute [local go_sem] Oper.semAt_some
structure MemO(T:Nat->Nat)(k:Nat)(pre:List Nat):Prop where
 mem:∀p,p∈pre↔p<64*k/\zaA T p=true
 len:pre.length<=64*k
structure MemI(T:Nat->Nat)(k x lo:Nat)(pre:List Nat):Prop where
 mem:∀p,p∈pre↔(p<64*k/\zaA T p=true)\/(p/64=k/\zaA T p=true/\x.testBit (p%64)=false)
 sub:∀i,x.testBit i=true->(T k).testBit i=true
 len:pre.length<=64*k+lo
 low:∀i,i<lo->x.testBit i=false
 le:lo<=64
theorem MemO.open_(h:MemO T k pre):MemI T k (T k) 0 pre:=by
 refine⟨fun p=>(h.mem p).trans ⟨.inl,?_⟩,fun _ h=>h,h.len,fun i hi=>absurd hi (zuI _),by omega⟩;rintro (h1|⟨h1,h2,h3⟩)
 ·exact h1
 ·unfold zaA at h2;rw[h1,h3] at h2;cases h2
theorem MemI.close(h:MemI T k 0 lo pre):MemO T (k+1) pre:=by
 refine⟨fun p=>(h.mem p).trans ⟨?_,?_⟩,by have:=h.len;have:=h.le;omega⟩
 ·rintro (⟨h1,h2⟩|⟨h1,h2,_⟩)
  ·exact⟨by omega,h2⟩
  ·exact⟨by omega,h2⟩
 ·rintro ⟨h1,h2⟩
  by_cases e:p<64*k
  ·exact .inl ⟨e,h2⟩
  ·exact .inr ⟨by omega,h2,by simp⟩
theorem zeg(hx:x=2 ^ j*(2*t+1))(i:Nat):(x &&& (x-1)).testBit i=(x.testBit i&&decide (i≠j)):=by
 have hp:0<2 ^ j:=Nat.two_pow_pos j;have e1:x-1=2 ^ j*(2*t)+(2 ^ j-1):=by rw[hx,Nat.mul_add,Nat.mul_one];omega
 rw[Nat.testBit_and];rcases zuD i j with h|h|h
 ·have:=(zmf j t).low i h;rw[<-hx] at this;rw[this];simp
 ·subst h;have:(x-1).testBit i=false:=by
   rw[e1,Nat.testBit_two_pow_mul_add _ (by omega),zuU (by omega),Nat.sub_self];simp
  rw[this];simp
 ·have:(x-1).testBit i=x.testBit i:=by
   rw[e1,Nat.testBit_two_pow_mul_add _ (by omega),zuU (by omega),hx,Nat.testBit_two_pow_mul];have e3:decide (i>=j)=true:=by simp;omega
   rw[e3,zty];obtain⟨d,hd⟩:∃d,i-j=d+1:=⟨i-j-1,by omega⟩;rw[hd,Nat.testBit_succ,Nat.testBit_succ]
   congr 1
   omega
  rw[this];have e2:decide (i≠j)=true:=by simp;omega
  rw[e2,Bool.and_true,Bool.and_self]
theorem MemI.step(h:MemI T k x lo pre)(hx:x=2 ^ j*(2*t+1))(hj:j<64):MemI T k (x &&& (x-1)) (j+1) (pre++[k*64+j])/\lo<=j:=by
 have hb:x.testBit j=true:=by rw[hx];exact(zmf j t).bit
 have hlo:lo<=j:=by
  rcases zuC j lo with h1|h1
  ·rw[h.low j h1] at hb;cases hb
  ·exact h1
 refine⟨⟨fun p=>?_,fun i hi=>?_,by have:=h.len;simp;omega,fun i hi=>?_,by omega⟩,hlo⟩
 ·rw[zuc,h.mem p,zeg hx,zui];constructor
  ·rintro ((h1|⟨h1,h2,h3⟩)|rfl)
   ·exact .inl h1
   ·exact .inr ⟨h1,h2,by rw[h3];rfl⟩
   ·refine .inr ⟨by omega,?_,?_⟩
    ·unfold zaA;rw[show (k*64+j)/64=k by omega,show (k*64+j)%64=j by omega];exact h.sub j hb
    ·rw[show (k*64+j)%64=j by omega];simp
  ·rintro (h1|⟨h1,h2,h3⟩)
   ·exact .inl (.inl h1)
   ·by_cases e:p%64=j
    ·exact .inr (by omega)
    ·refine .inl (.inr ⟨h1,h2,?_⟩);have e2:decide (p%64≠j)=true:=by simp;exact e
     rw[e2,Bool.and_true] at h3;exact h3
 ·rw[zeg hx,ztt] at hi;exact h.sub i hi.1
 ·rw[zeg hx]
  by_cases e:i=j
  ·subst e;simp
  ·have:x.testBit i=false:=by rw[hx];exact(zmf j t).low i (by omega)
   rw[this];rfl
abbrev Mem(nw:Nat)(T:Nat->Nat):={p:Nat // p<64*nw/\zaA T p=true}
def zbt{nw:Nat}{T:Nat->Nat}(pre:List (Mem nw T)):List Nat:=pre.map Subtype.val
theorem zbQ{nw:Nat}(pre:List (Mem nw T))(x:Mem nw T):zbt (pre++[x])=zbt pre++[x.1]:=by simp[zbt]
theorem zbj.keep{w w':World}(h:zbj w)(hk:w'.heap[0]?=w.heap[0]?):zbj w':=fun i hi=>(show w'.cell? ⟨0,i,none⟩=w.cell? ⟨0,i,none⟩ from World.cell?_of_block hk).trans (h i hi)
theorem znf(n l nw g cap:Nat)(T:Nat->Nat)(hn:1<=n)(hnw:nw<=1000)(J Jx:List (Mem nw T)->World->Prop)(W:World)
  (hY:∀pre x W1,J pre W1->pre.length<64*nw->YieldAt Fence.wide (n-1) Tryz.prog l #[.int .i64 (x.1:Nat)] W1 fun e W'=>
   (e=.returned (.bool true)/\J (pre++[x]) W'/\∀k∈[0,g],W'.heap[k]?=W1.heap[k]?)\/(e=.returned (.bool false)/\Jx (pre++[x]) W'))
  (hT:zaB W nw g T) (hB:zbj W) (h0:J [] W):
  CallsIn Fence.wide n Tryz.prog 80 #[.slice (some ⟨g,0,none⟩) nw cap,.func (.yield l) #[] #[]] W fun e W'=>(∃v,e=.returned v)/\
   ((∃ys,(∀p,p∈zbt ys↔p<64*nw/\zaA T p=true)/\J ys W')\/(∃pre,True/\Jx pre W')):=by
 refine callsIn_of_wp Tryz.func80 rfl trivial ?_ rfl;simp only[Tryz.ntmps80,zuo,zt2,zt4,Nat.reduceAdd,Nat.reduceSub,ztr,zts,zum,ztE,zuj,ztF];have HB:Hid (zbj W):=hB;clear hB
 gi_wp2
 gi_loopw [8] (fun i wr=>∃(k:Nat) (pre:List (Mem nw T)),k<=nw/\i=.int .i64 k/\Hid (MemO T k (zbt pre))/\J pre wr/\zaB wr nw g T/\Hid (zbj wr))
  (fun i _=>nw-(intOf i).toNat)
 case atStart=>exact⟨0,[],zuL _,rfl,⟨fun p=>by simp[zbt],by simp[zbt]⟩,h0,hT,HB⟩
 case round=>
  obtain⟨k,pre,hk,rfl,HM,hJs,hTs,HBs⟩:=hrel
  by_cases hlt:k<nw
  case neg=>
   have hkk:k=nw:=by omega
   subst hkk
   gi_wp2
   go_end0
   exact⟨⟨_,rfl⟩,.inl ⟨pre,HM.out.mem,hJs⟩⟩
  have c0:=hTs.cell hlt;have hi0:(0:Int)<=(k:Int):=by omega
  have hi1:(k:Int)<(nw:Int):=by omega
  gi_wp2
  gi_loopw [5] (fun v wr=>∃(x lo:Nat) (pre:List (Mem nw T)),v=.int .u64 x/\x<18446744073709551616/\Hid (MemI T k x lo (zbt pre))/\J pre wr/\zaB wr nw g T/\Hid (zbj wr))
   (fun v _=>(intOf v).toNat)
  case atStart=>exact⟨T k,0,pre,rfl,hTs.lt k,HM.out.open_,hJs,hTs,HBs⟩
  case round=>
   clear HM hJs HBs c0;obtain⟨x,lo,pre,rfl,hx,HM,hJs,hTs,HBs⟩:=hrel
   by_cases h0x:x=0
   ·subst h0x
    gi_wp2
    go_roundw
    case rel=>exact⟨k+1,pre,by omega,by go_num,HM.out.close,hJs,hTs,HBs⟩
    case measure=>simp[intOf];omega
   ·obtain⟨j,t,hjt⟩:=zmk x x (zuz _) (by omega);have hj:j<64:=by
     rcases zuC j 64 with h|h
     ·exact h
     ·have h1:2 ^ 64<=2 ^ j:=Nat.pow_le_pow_right (by omega) h;have h2:2 ^ j*1<=2 ^ j*(2*t+1):=Nat.mul_le_mul_left _ (by omega);rw[<-hjt,Nat.mul_one] at h2;have:(2:Nat) ^ 64=18446744073709551616:=by decide
      omega
    have hst:=HM.out.step hjt hj;have hmem:k*64+j<64*nw/\zaA T (k*64+j)=true:=by
     refine⟨by omega,?_⟩;unfold zaA;rw[show (k*64+j)/64=k by omega,show (k*64+j)%64=j by omega];exact HM.out.sub j (by rw[hjt];exact(zmf j t).bit)
    have HM2:Hid (MemI T k (x &&& (x-1)) (j+1) (zbt (pre++[(⟨k*64+j,hmem⟩:Mem nw T)]))):=by rw[zbQ];exact hst.1
    have hlen:pre.length<64*nw:=by have h6:=hst.2;have h5:=HM.out.len;simp only[zbt,zt3] at h5;omega
    have Hjt:Hid _:=hjt;have hxp:0<x:=by omega
    have hne:((x:Int) != 0)=true:=by simp;omega
    have hsub:IntKind.u64.wrap ((x:Int)-1)=((x-1:Nat):Int):=by
     rw[show (x:Int)-1=((x-1:Nat):Int) by omega,zi9,zuF (by omega)]
    have hand:=zkA x (x-1) hx (by omega);have hle:x &&& (x-1)<=x-1:=Nat.and_le_right;have htz:=fun(w:World) (h:Hid (zbj w))=>ztl x j t w Hjt hx hxp hj h
    have hwr:IntKind.i64.wrap ((k:Int)*64)=((k*64:Nat):Int):=by rw[IntKind.wrap_i64];omega
    obtain⟨fn,tmps,assign,body,hy,hR⟩:=hY pre ⟨k*64+j,hmem⟩ wr hJs hlen;dsimp only at hy;rw[show ((k*64+j:Nat):Int)=(k:Int)*64+(j:Int) by omega] at hy;clear hjt hst hY
    gi_wp2_with (refine⟨trivial,?_⟩;gi_at_call 103;refine(callsIn_wide.2 (htz _ HBs)).mono ?_;rintro e w' ⟨rfl,hw'⟩;subst w')
    refine hR.mono ?_;rintro e W3 (⟨rfl,hJ3,hk3⟩|⟨rfl,hJx3⟩)
    ·have hT3:zaB W3 nw g T:=⟨(hk3 g (by simp)).trans hTs.row,hTs.lt⟩;have HB3:Hid (zbj W3):=HBs.out.keep (hk3 0 (by simp))
     gi_wp2
     go_roundw
     case rel=>exact⟨x &&& (x-1),j+1,_,by rw[<-hand],by omega,HM2.out,hJ3,hT3,HB3⟩
     case measure=>simp[intOf];omega
    ·gi_wp2
     refine zuN (results_none rfl _ _ _) rfl ?_;exact⟨⟨_,rfl⟩,.inr ⟨_,trivial,hJx3⟩⟩
theorem zci(n nw g cap:Nat)(T:Nat->Nat)(hn:1<=n)(hnw:nw<=1000)(w:World)(hT:zaB w nw g T)(hB:zbj w):
  SeqR n Tryz.prog 80 #[.slice (some ⟨g,0,none⟩) nw cap] #[] (fun x:Mem nw T=>#[.int .i64 (x.1:Int)]) [0,g] (fun ys=>∀p,p∈zbt ys↔p<64*nw/\zaA T p=true) (fun _=>True) (64*nw) w:=
 fun l J Jx W hW hY h0=>znf n l nw g cap T hn hnw J Jx W hY ⟨(hW g (by simp)).trans hT.row,hT.lt⟩ (hB.keep (hW 0 (by simp))) h0
end
section
variable {S:Nat -> Prop}{w A B:World}
open Go.RowKit
attribute [local go_sem] Oper.semAt_some
structure zaM(S:Nat->Prop)(w W:World):Prop where
 os:W.os=w.os
 tape:W.tape=w.tape
 output:W.output=w.output
 size:w.heap.size<=W.heap.size
 same:∀k,k<w.heap.size->¬S k->W.heap[k]?=w.heap[k]?
theorem zaM.refl(S:Nat->Prop)(w:World):zaM S w w:=⟨rfl,rfl,rfl,zuz _,fun _ _ _=>rfl⟩
theorem zaM.turn(h:zaM S w A)(t:zft w.heap.size A B):zaM S w B:=
 ⟨t.os.trans h.os,t.tape.trans h.tape,t.output.trans h.output,zuA h.size t.size,fun k hk hs=>by
  have e:=h.same k hk hs;have hA:k<A.heap.size:=zuB hk h.size;rw[<-e,t.same k _ (Array.getElem?_eq_getElem hA) (.inl hk),Array.getElem?_eq_getElem hA]⟩
theorem zaM.grown{o:Option Nat}(h:zaM S w A)(hg:A.grownBy B o)(hS:∀g,o=some g->S g\/w.heap.size<=g):zaM S w B:=
 ⟨hg.os.trans h.os,hg.tape.trans h.tape,hg.output.trans h.output,zuA h.size hg.size,fun k hk hs=>by
  refine(hg.block k (zuB hk h.size) (fun e=>?_)).trans (h.same k hk hs);rcases hS k e.symm with h1|h1
  ·exact hs h1
  ·omega⟩
theorem zaM.trans(h:zaM S w A)(k:zaM S A B):zaM S w B:=
 ⟨k.os.trans h.os,k.tape.trans h.tape,k.output.trans h.output,zuA h.size k.size,fun i hi hs=>(k.same i (zuB hi h.size) hs).trans (h.same i hi hs)⟩
theorem zaM.of_below(h:Below w.heap.size w A):zaM S w A:=⟨h.os,h.tape,h.output,h.size,fun k hk _=>h.block k hk⟩
theorem zaM.mono{S':Nat->Prop}(h:zaM S w A)(hs:∀k,k<w.heap.size->S k->S' k):zaM S' w A:=⟨h.os,h.tape,h.output,h.size,fun k hk hn=>h.same k hk fun q=>hn (hs k hk q)⟩
theorem zaB.touch{W:World}{nw g:Nat}{T:Nat->Nat}(h:zaB w nw g T)(t:zaM S w W)(hs:¬S g):zaB W nw g T:=⟨(t.same g h.glt hs).trans h.row,h.lt⟩
structure Fol(W:World)(n nw:Nat)(fr:Nat->Nat)(F:Nat->Nat->Nat):Prop where
 rows:∀p,p<n->zaB W nw (fr p) (F p)
 inj:∀p q,p<n->q<n->fr p=fr q->p=q
theorem zso(n nw bt g1 c1 g2 c2:Nat)(sv fv:Value)(fr:Nat->Nat)(F:Nat->Nat->Nat)(T1 T2:Nat->Nat)(w:World)
  (hbox:zeb w bt nw sv fv) (hfv:0<n->∃gf cf:Nat,fv=.slice (some ⟨gf,0,none⟩) n cf/\gf<w.heap.size/\(∀p,p<n->w.cell? ⟨gf,p,none⟩=some (.slice (some ⟨fr p,0,none⟩) nw nw))/\∀p,p<n->fr p≠gf) (hF:Fol w n nw fr F) (h1:zaB w nw g1 T1) (h2:zaB w nw g2 T2)
  (hd1:∀p,p<n->fr p≠g1) (hd2:∀p,p<n->fr p≠g2) (hd0:∀p,p<n->fr p≠0) (hdb:∀p,p<n->fr p≠bt) (hm:∀p,p<64*nw->zaA T1 p=true->p<n) (hn64:n<=64*nw) (hnw:nw<=1000) (hB:zbj w) (h0:0<w.heap.size):
  Calls Tryz.prog 104 #[.pointer (some ⟨bt,0,none⟩),.slice (some ⟨g1,0,none⟩) nw c1,.slice (some ⟨g2,0,none⟩) nw c2] w fun e w'=>e=.returned (.tuple #[])/\Fol w' n nw fr (fun p=>if zaA T1 p=true then orT (F p) T2 else F p)/\zaM (fun k=>∃p,p<n/\k=fr p) w w':=by
 refine(callsIn_wide (n:=5)).1 ?_;refine callsIn_of_wp_marks Tryz.func104 rfl trivial ?_ rfl;simp only[Tryz.ntmps104,zuo,zt2,zt4,Nat.reduceAdd,Nat.reduceSub,ztr,zts,zum,ztE,zuj,ztF]
 gi_wp2
 obtain⟨W0,hW0⟩:∃W0,((w.alloc (.cells #[.pointer (some ⟨bt,0,none⟩)] 100)).alloc (.cells #[.slice (some ⟨g2,0,none⟩) nw c2] 105))=W0:=⟨_,rfl⟩;have hb0:Below w.heap.size w W0:=by rw[<-hW0];exact((Below.refl _ _).alloc (zuz _) _).alloc (by simp) _
 have hsz:W0.heap.size=w.heap.size+1+1:=by rw[<-hW0];simp
 have x3:W0.heap[w.heap.size]?=some (.cells #[.pointer (some ⟨bt,0,none⟩)] 100 (0,0)):=by rw[<-hW0];exact zao (zuR _ _)
 have x5:W0.heap[w.heap.size+1]?=some (.cells #[.slice (some ⟨g2,0,none⟩) nw c2] 105 (0,0)):=by
  rw[<-hW0];have:=zuR (w.alloc (.cells #[.pointer (some ⟨bt,0,none⟩)] 100)) (.cells #[.slice (some ⟨g2,0,none⟩) nw c2] 105)
  simpa using this
 rw[hW0];clear hW0;have hfl:∀p,p<n->fr p<w.heap.size:=fun p hp=>(hF.rows p hp).glt
 have hbt:bt<w.heap.size:=(ztp.1 hbox).1;have y1:zaB W0 nw g1 T1:=h1.below hb0;have y2:zaB W0 nw g2 T2:=h2.below hb0;have yb:zbj W0:=hB.keep (hb0.block 0 h0);have yx:zeb W0 bt nw sv fv:=(hb0.block bt hbt).trans hbox;have yr:∀p,p<n->zaB W0 nw (fr p) (F p):=fun p hp=>(hF.rows p hp).below hb0
 refine zcF (by omega) (gf:=80) (fb:=#[.slice (some ⟨g1,0,none⟩) nw c1]) (lb:=#[]) rfl (enters_of Tryz.func80 (by kernel_rfl) rfl)
  (T:=[0,g1]) (by intro k hk;have:=y1.glt;simp at hk;omega)
  (zci 4 nw g1 c1 T1 (by omega) hnw W0 y1 yb) (fun _=>rfl)
  (fun pre W=>zaM (fun k=>∃p,p<n/\k=fr p) W0 W/\∀p,p<n->zaB W nw (fr p) (if p∈zbt pre then orT (F p) T2 else F p))
  (fun _ _ _=>False)
  (fun s A B hs ht=>⟨hs.1.turn ht,fun p hp=>⟨ht.same _ _ (hs.2 p hp).row (.inr rfl),(hs.2 p hp).lt⟩⟩)
  (fun c s A B hs ht=>hs)
  ⟨zaM.refl _ _,fun p hp=>by rw[zuU (by simp[zbt])];exact yr p hp⟩
  (fun x=>{tmps:=#[.pointer (some ⟨bt,0,none⟩),.slice (some ⟨g1,0,none⟩) nw c1,.slice (some ⟨g2,0,none⟩) nw c2,.pointer (some ⟨w.heap.size,0,none⟩),undef,.pointer (some ⟨w.heap.size+1,0,none⟩),.int .i64 (x.1:Int),.slice (some ⟨g1,0,none⟩) nw c1,.func (.func 80) #[.slice (some ⟨g1,0,none⟩) nw c1] #[],.int .i64 (x.1:Int),undef,undef,undef,undef,undef,undef,undef,undef,undef],defers:=[]})
  ?assign ?body ?done ?stop
 case assign=>
  intro l x W K hK
  gi_wp2
  exact hK
 case stop=>
  rintro D c pre W hD _ hf;exact hf.elim
 case body=>
  rintro l pre ⟨x,hx⟩ W hl ⟨ht,hr⟩ hlen;have hxn:=hm x hx.1 hx.2;obtain⟨gf,cf,rfl,hgf,hfv,hdf⟩:=hfv (by omega);have yf:∀p,p<n->W0.cell? ⟨gf,p,none⟩=some (.slice (some ⟨fr p,0,none⟩) nw nw):=fun p hp=>(hb0.cell (p:=⟨gf,p,none⟩) hgf).trans (hfv p hp)
  have hs3:¬∃p,p<n/\w.heap.size=fr p:=fun⟨p,hp,e⟩=>by have:=hfl p hp;omega
  have hs5:¬∃p,p<n/\w.heap.size+1=fr p:=fun⟨p,hp,e⟩=>by have:=hfl p hp;omega
  have z3:W.cell? ⟨w.heap.size,0,none⟩=some (.pointer (some ⟨bt,0,none⟩)):=(zuO _ _ _ _ _ _ ((ht.same _ (by omega) hs3).trans x3):W.cell? ⟨w.heap.size,0,none⟩=_);have z5:W.cell? ⟨w.heap.size+1,0,none⟩=some (.slice (some ⟨g2,0,none⟩) nw c2):=(zuO _ _ _ _ _ _ ((ht.same _ (by omega) hs5).trans x5):W.cell? ⟨w.heap.size+1,0,none⟩=_);have zb:W.cell? ⟨bt,2,none⟩=some (.slice (some ⟨gf,0,none⟩) n cf):=(zuO _ _ _ _ _ _ ((ht.same bt (by omega) (fun⟨p,hp,e⟩=>hdb p hp e.symm)).trans yx):W.cell? ⟨bt,2,none⟩=_);have zf:W.cell? ⟨gf,x,none⟩=some (.slice (some ⟨fr x,0,none⟩) nw nw):=(show W.cell? ⟨gf,x,none⟩=W0.cell? ⟨gf,x,none⟩ from World.cell?_of_block (ht.same gf (by omega) (fun⟨p,hp,e⟩=>hdf p hp e.symm))).trans (yf x hxn);have hj:=zdx nw (fr x) g2 nw c2 _ T2 W.drew ⟨(hr x hxn).row,(hr x hxn).lt⟩ ⟨(y2.touch ht (fun⟨p,hp,e⟩=>hd2 p hp e.symm)).row,y2.lt⟩ (hd2 x hxn) hnw;have hi0:(0:Int)<=(x:Int):=by omega
  have hi1:(x:Int)<(n:Int):=by omega
  have hmix:Tryz.prog.follows Departure.mixedOrders=true:=by kernel_rfl
  dsimp only
  gi_wp2
  gi_region_with_o (refine⟨trivial,?_⟩;gi_at_call 57;refine(CallsIn.inRound l (callsIn_wide.2 hj)).mono ?_;rintro e w' ⟨rfl,hp',hg'⟩)
  all_goals
   gi_wp2
   refine⟨KeepsFrom.of_grownBy (W:=W) (row:=some (fr x)) ⟨hg'.os,hg'.tape,hg'.output,hg'.size,hg'.block⟩ (fun j e=>by cases e;have:=hfl x hxn;omega),fun k hk=>?_,ht.grown (A:=W) (o:=some (fr x)) ⟨hg'.os,hg'.tape,hg'.output,hg'.size,hg'.block⟩ (fun g e=>by cases e;exact .inl ⟨x,hxn,rfl⟩),fun p hp=>?_⟩
   ·refine hg'.block k ?_ (fun e=>?_)
    ·have:=ht.size;have:=y1.glt;simp at hk;show k<W.heap.size;omega
    ·have e':k=fr x:=by simpa using e
     simp at hk;rcases hk with hk|hk
     ·exact hd0 x hxn (by omega)
     ·exact hd1 x hxn (by omega)
   ·rw[zbQ]
    by_cases e:p=x
    ·subst e;rw[zuV (by simp)];refine⟨?_,zrJ (hF.rows p hp).lt h2.lt⟩;rw[hp'.row]
     congr 2
     refine zcE fun i _=>?_
     by_cases hin:p∈zbt pre
     ·rw[zuV hin];unfold orT;rw[Nat.or_assoc,Nat.or_self]
     ·rw[zuU hin]
    ·have hq:=hr p hp;have e2:(p∈zbt pre++[x])↔p∈zbt pre:=by simp[e]
     refine⟨(hg'.block (fr p) hq.glt (fun q=>e (hF.inj p x hp hxn (by simpa using q)))).trans ?_,?_⟩
     ·by_cases hin:p∈zbt pre
      ·rw[zuV (e2.2 hin)];rw[zuV hin] at hq;exact hq.row
      ·rw[zuU (fun h=>hin (e2.1 h))];rw[zuU hin] at hq;exact hq.row
     ·by_cases hin:p∈zbt pre
      ·rw[zuV (e2.2 hin)];rw[zuV hin] at hq;exact hq.lt
      ·rw[zuU (fun h=>hin (e2.1 h))];rw[zuU hin] at hq;exact hq.lt
 case done=>
  rintro D ys W hD hys ⟨ht,hr⟩ hK
  gi_wp2
  have hgp:=grownBy_putObj' W D (.deferred none);refine⟨by simp,.inl ⟨_,_,rfl,run_takeDeferred hK,?_⟩⟩;refine⟨.tuple #[],by simp[results,Tryz.results104,go_sem],rfl,⟨fun p hp=>?_,hF.inj⟩,(zaM.of_below hb0).trans ?_⟩
  ·have hq:=hr p hp;have hpm:(p∈zbt ys)↔zaA T1 p=true:=(hys p).trans ⟨fun h=>h.2,fun h=>⟨by omega,h⟩⟩;have hne:fr p≠D:=by have:=hfl p hp;omega
   have hrow:(W.putObj D (.deferred none)).heap[fr p]?=W.heap[fr p]?:=World.putObj_heap_other hne
   by_cases hb:zaA T1 p=true
   ·rw[zuV hb];rw[zuV (hpm.2 hb)] at hq;exact⟨hrow.trans hq.row,hq.lt⟩
   ·rw[zuU hb];rw[zuU (fun h=>hb (hpm.1 h))] at hq;exact⟨hrow.trans hq.row,hq.lt⟩
  ·exact ht.grown hgp (fun g e=>.inr (by cases e;exact hD))
end
section
open Go
section
variable {P:Program} {ops:Array Oper} {md:Region.Mode} {C:World->Prop}
def zfo(P:Program)(md:Region.Mode)(ops:Array Oper)(C:World->Prop)(n:Nat)(Q:Act->Prop):Nat->Array Bool->Act->Prop
 |0,listed,a=>Region.ready md ops listed=[n]/\Region.ready md ops (listed.setIfInBounds n true)=[]/\Q a
 |fuel+1,listed,a=>Region.ready md ops listed≠[]/\∀i∈Region.ready md ops listed,qOp P ops C i (zfo P md ops C n Q fuel (listed.setIfInBounds i true)) a
theorem zc4{Q:Act->Prop}{Q':Exit->Act->World->Prop}{n:Nat}(hQ:∀a w,C w->Q a->wpOp P ops Q' n (fun a w=>Q' .normal a w) a w):
  ∀(fuel:Nat) (listed:Array Bool) (a:Act) (w:World),C w->zfo P md ops C n Q fuel listed a->wpAny P md ops Q' (fuel+1) listed a w
 |0,listed,a,w,hw,h=>⟨fun h0=>by rw[h.1] at h0;(cases h0),fun i hi=>by
   rw[h.1] at hi;have e:i=n:=by simpa using hi
   subst e;exact wpOp_mono (fun a w h'=>⟨h.2.1,h'⟩) (hQ _ _ hw h.2.2)⟩
 |fuel+1,listed,a,w,hw,h=>⟨fun h0=>absurd h0 h.1,fun i hi=>wpOp_of_qOp hw (fun a' w' hw'=>zc4 hQ fuel _ a' w' hw') (h.2 i hi)⟩
theorem zkp{Q:Act->Prop}{i n:Nat}{oi:Oper}{v:Value}(hi:ops[i]?=some oi)(hlast:∀listed:Array Bool,n∈Region.ready md ops listed->listed.getD i true=true)(hsel:∀(j:Nat) (o:Oper) cs b,ops[j]?=some o->o.op≠.select cs b):
  ∀(fuel:Nat) (listed:Array Bool) (a:Act),
   (∀j oj,ops[j]?=some oj->j≠i->listed.getD j true=false->(∀e∈oj.after,Region.binds md e=true->e.on≠i)->oi.apart ops oj=true)->
   i∈Region.ready md ops listed->YieldsIn P ops C oi v a->
   zfo P md ops C n Q fuel (listed.setIfInBounds i true) (a.put oi.dst v)->zfo P md ops C n Q (fuel+1) listed a:=by
 intro fuel
 induction fuel with
 |zero=>
  intro listed a _ hr hy H;refine⟨fun h=>(by rw[h] at hr;cases hr),fun j hj=>?_⟩
  by_cases hji:j=i
  ·subst hji;exact hy.qOp hi H
  ·have:=ready_mono hj hji;rw[H.1] at this;have e:j=n:=by simpa using this
   subst e;have h1:=hlast _ hj;rw[(mem_ready.1 hr).1] at h1;cases h1
 |succ fuel ih=>
  intro listed a hfree hr hy H;refine⟨fun h=>(by rw[h] at hr;cases hr),fun j hj=>?_⟩
  by_cases hji:j=i
  ·subst hji;exact hy.qOp hi H
  ·have h1:=H.2 j (ready_mono hj hji);obtain⟨hjun,oj,hoj,hall⟩:=mem_ready.1 hj;have hnot:∀e∈oj.after,Region.binds md e=true->e.on≠i:=fun e he hb heq=>by
    have h1:=hall e he hb;have h0:=(mem_ready.1 hr).1;rw[heq] at h1;rcases Nat.lt_or_ge i listed.size with h'|h'
    ·simp[h'] at h0 h1;rw[h0] at h1;cases h1
    ·simp[Array.getElem?_eq_none h'] at h1
   have h2:=qOp_put hoj (hfree j oj hoj hji hjun hnot) (fun cs b=>hsel i oi cs b hi) (fun cs b=>hsel j oj cs b hoj) hy h1;have hfree':∀k ok,ops[k]?=some ok->k≠i->(listed.setIfInBounds j true).getD k true=false->
     (∀e∈ok.after,Region.binds md e=true->e.on≠i)->oi.apart ops ok=true:=fun k ok hk hki hun hno=>by
    refine hfree k ok hk hki ?_ hno
    by_cases hjk:j=k
    ·subst hjk;exact hjun
    ·rw[getD_set_ne true hjk] at hun;exact hun
   refine qOp_mono (fun a' h3=>ih (listed.setIfInBounds j true) a' hfree' (ready_mono hr (Ne.symm hji)) h3.1 ?_) h2;rw[Array.setIfInBounds_comm _ _ hji];exact h3.2
def lexL(md:Region.Mode)(ops:Array Oper)(n:Nat):Nat->Nat->Array Bool->Bool
 |0,_,listed=>(Region.ready md ops listed == [n])&&(Region.ready md ops (listed.setIfInBounds n true)).isEmpty
 |fuel+1,k,listed=>(Region.ready md ops listed).contains k&&Region.free md ops listed k&&lexL md ops n fuel (k+1) (listed.setIfInBounds k true)
def zdQ(md:Region.Mode)(ops:Array Oper)(n i:Nat):Bool:=
 match ops[n]? with
 |some o=>o.after.any fun e=>Region.binds md e&&e.on==i
 |none=>false
def zsl(md:Region.Mode)(ops:Array Oper)(n:Nat):Bool:=
 Region.noSelect ops&&(List.range n).all (zdQ md ops n)&&lexL md ops n n 0 (Array.replicate ops.size false)
theorem zc7{n i:Nat}(h:zdQ md ops n i=true)(listed:Array Bool)(hr:n∈Region.ready md ops listed):listed.getD i true=true:=by
 obtain⟨_,o,ho,hall⟩:=mem_ready.1 hr;unfold zdQ at h;rw[ho] at h;simp only[Array.any_eq_true,Bool.and_eq_true,beq_iff_eq] at h;obtain⟨k,hk,hb,he⟩:=h;have h1:=hall _ (Array.getElem_mem hk) hb;rw[he] at h1;rcases Nat.lt_or_ge i listed.size with h'|h'
 ·simp[h'] at h1 ⊢;exact h1
 ·simp[Array.getElem?_eq_none h'] at h1
theorem zig{Q:Act->Prop}{n:Nat}(hs:Region.noSelect ops=true)(hn:∀i,i<n->zdQ md ops n i=true):∀(l:List Oper) (k:Nat) (listed:Array Bool) (a:Act),(∀j,j<l.length->l[j]?=ops[k+j]?)->k+l.length=n->
  lexL md ops n l.length k listed=true->wpQuiet P ops C Q l a->zfo P md ops C n Q l.length listed a
 |[],_,_,_,_,_,hB,h=>by
  simp only[List.length_nil,lexL,Bool.and_eq_true,beq_iff_eq,List.isEmpty_iff] at hB;exact⟨hB.1,hB.2,h⟩
 |o::l,k,listed,a,hl,hkn,hB,h=>by
  have h0:ops[k]?=some o:=by simpa using (hl 0 (by simp)).symm
  simp only[List.length_cons,lexL,Bool.and_eq_true] at hB;obtain⟨⟨hr,hf⟩,hB'⟩:=hB;have hst:qOp P ops C k (wpQuiet P ops C Q l) a:=by unfold qOp;simp only[h0];exact h
  obtain⟨v,hy,hK⟩:=yieldsIn_of_qOp h0 hst;simp only[List.length_cons] at hkn;exact zkp h0 (zc7 (hn k (by omega))) (Region.noSelect_spec hs) l.length listed a (Region.free_spec h0 hf) (by simpa using hr) hy
   (zig hs hn l (k+1) _ _ (fun j hj=>by have:=hl (j+1) (by simp;omega);simpa [Nat.add_assoc,Nat.add_comm 1 j] using this) (by omega) hB' hK)
theorem zhG{id:Nat}{Q:Exit->Act->World->Prop}{a:Act}{w:World}{all l:List Oper}{o:Oper}(hm:P.follows .mixedOrders=true)(hB:zsl .any all.toArray l.length=true)(hall:all=l++[o])(hg:o.guard=none)
  (h:wpQuiet P all.toArray (fun w'=>∃n,w'=w.drewN n) (fun a'=>∀w',(∃n,w'=w.drewN n)->∀K:Act->World->Prop,(∀a w,Q .normal a w->K a w)->o.wp P a' w' K Q) l a):(Code.region id all.toArray true).wp P Q a w:=by
 simp only[zsl,Bool.and_eq_true,List.all_eq_true,List.mem_range] at hB;have hsz:all.toArray.size=l.length+1:=by simp[hall]
 have hlen:all.toArray[l.length]?=some o:=by simp[hall]
 refine wp_region_any hm ?_;rw[hsz];refine zc4 (C:=fun w'=>∃n,w'=w.drewN n) (n:=l.length) (Q:=fun a'=>∀w',(∃n,w'=w.drewN n)->∀K:Act->World->Prop,(∀a w,Q .normal a w->K a w)->o.wp P a' w' K Q) ?_ l.length _ a _ ⟨1,rfl⟩ ?_
 ·intro a' w' hw' hq;unfold wpOp;rw[hlen];simp only[Region.wanted,hg];exact .inl (hq w' hw' _ fun _ _ h=>h)
 ·rw[<-hsz];exact zig hB.1.1 hB.1.2 l 0 _ a (fun j hj=>by simp[hall,List.getElem?_append_left hj]) (by simp) hB.2 h
theorem zcy(n:Nat){id:Nat}{Q:Exit->Act->World->Prop}{a:Act}{w:World}{all:List Oper}{o:Oper}(hm:P.follows .mixedOrders=true)(hB:zsl .any all.toArray n=true)(hl:all.length=n+1)(ho:all[n]?=some o)(hg:o.guard=none)
  (h:∀l,l=all.take n->wpQuiet P all.toArray (fun w'=>∃n,w'=w.drewN n) (fun a'=>∀w',(∃n,w'=w.drewN n)->∀K:Act->World->Prop,(∀a w,Q .normal a w->K a w)->o.wp P a' w' K Q) l a):(Code.region id all.toArray true).wp P Q a w:=by
 refine zhG (l:=all.take n) (o:=o) hm (by rw[List.length_take,hl,Nat.min_eq_left (by omega)];exact hB) ?_ hg (h _ rfl);apply List.ext_getElem?;intro j
 by_cases hj:j<n
 ·rw[List.getElem?_append_left (by rw[List.length_take];omega),List.getElem?_take,if_pos hj]
 ·rw[List.getElem?_append_right (by rw[List.length_take];omega),List.length_take,hl,Nat.min_eq_left (by omega)]
  by_cases e:j=n
  ·subst e;simp[ho]
  ·rw[List.getElem?_eq_none (by omega),List.getElem?_eq_none (by simp;omega)]
end
end
section
open Go
section
variable {P:Program} {ops:Array Oper} {md:Region.Mode} {C:World->Prop}
def zby(md:Region.Mode)(ops:Array Oper)(listed:Array Bool):Prop:=∀(k:Nat) (o:Oper),ops[k]?=some o->listed.getD k true=true->∀e∈o.after,Region.binds md e=true->listed.getD e.on true=true
theorem zix{l:Array Bool}{i j:Nat}(h:l.getD i true=true):(l.setIfInBounds j true).getD i true=true:=by
 by_cases e:j=i
 ·subst e
  by_cases hj:j<l.size
  ·simp[hj]
  ·simp[hj]
 ·rw[getD_set_ne true e];exact h
theorem zby.start(md:Region.Mode)(ops:Array Oper):zby md ops (Array.replicate ops.size false):=fun k o hk h=>by
 have hlt:=(Array.getElem?_eq_some_iff.1 hk).1;simp[hlt] at h
theorem zra{listed:Array Bool}{j:Nat}{o:Oper}(ho:ops[j]?=some o)(hj:j∈Region.ready md ops listed):∀e∈o.after,Region.binds md e=true->listed.getD e.on true=true:=fun e he hb=>by
 obtain⟨_,o',ho',hall⟩:=mem_ready.1 hj;rw[ho] at ho';cases ho';have h1:=hall e he hb;rcases Nat.lt_or_ge e.on listed.size with h'|h'
 ·simp[h'] at h1 ⊢;exact h1
 ·simp[Array.getElem?_eq_none h'] at h1
theorem zby.set{listed:Array Bool}(h:zby md ops listed){j:Nat}(hj:j∈Region.ready md ops listed):zby md ops (listed.setIfInBounds j true):=fun k o hk hl e he hb=>by
 refine zix ?_
 by_cases e1:j=k
 ·subst e1;exact zra hk hj e he hb
 ·rw[getD_set_ne true e1] at hl;exact h k o hk hl e he hb
def zmE(md:Region.Mode)(ops:Array Oper)(n i:Nat):Bool:=zdQ md ops n i || (List.range n).any fun k=>zdQ md ops n k&&zdQ md ops k i
theorem zlN{n i:Nat}(h:zmE md ops n i=true)(listed:Array Bool)(hc:zby md ops listed)(hr:n∈Region.ready md ops listed):listed.getD i true=true:=by
 unfold zmE at h;rw[Bool.or_eq_true] at h;rcases h with h1|h1
 ·exact zc7 h1 listed hr
 ·obtain⟨k,_,hk⟩:=List.any_eq_true.1 h1;rw[Bool.and_eq_true] at hk;obtain⟨h2,h3⟩:=hk;have hl:=zc7 h2 listed hr;unfold zdQ at h3;split at h3
  ·rename_i o ho
   simp only[Array.any_eq_true,Bool.and_eq_true,beq_iff_eq] at h3;obtain⟨q,hq,hb,he⟩:=h3;rw[<-he];exact hc k o ho hl _ (Array.getElem_mem hq) hb
  ·cases h3
def zsm(md:Region.Mode)(ops:Array Oper)(n:Nat):Bool:=
 Region.noSelect ops&&(List.range n).all (zmE md ops n)&&lexL md ops n n 0 (Array.replicate ops.size false)
theorem zfp{Q:Act->Prop}{i n:Nat}{oi:Oper}{v:Value}(hi:ops[i]?=some oi)(hlast:∀listed:Array Bool,zby md ops listed->n∈Region.ready md ops listed->listed.getD i true=true)(hsel:∀(j:Nat) (o:Oper) cs b,ops[j]?=some o->o.op≠.select cs b):
  ∀(fuel:Nat) (listed:Array Bool) (a:Act),zby md ops listed->
   (∀j oj,ops[j]?=some oj->j≠i->listed.getD j true=false->(∀e∈oj.after,Region.binds md e=true->e.on≠i)->oi.apart ops oj=true)->
   i∈Region.ready md ops listed->YieldsIn P ops C oi v a->
   zfo P md ops C n Q fuel (listed.setIfInBounds i true) (a.put oi.dst v)->zfo P md ops C n Q (fuel+1) listed a:=by
 intro fuel
 induction fuel with
 |zero=>
  intro listed a hcl _ hr hy H;refine⟨fun h=>(by rw[h] at hr;cases hr),fun j hj=>?_⟩
  by_cases hji:j=i
  ·subst hji;exact hy.qOp hi H
  ·have:=ready_mono hj hji;rw[H.1] at this;have e:j=n:=by simpa using this
   subst e;have h1:=hlast _ hcl hj;rw[(mem_ready.1 hr).1] at h1;cases h1
 |succ fuel ih=>
  intro listed a hcl hfree hr hy H;refine⟨fun h=>(by rw[h] at hr;cases hr),fun j hj=>?_⟩
  by_cases hji:j=i
  ·subst hji;exact hy.qOp hi H
  ·have h1:=H.2 j (ready_mono hj hji);obtain⟨hjun,oj,hoj,hall⟩:=mem_ready.1 hj;have hnot:∀e∈oj.after,Region.binds md e=true->e.on≠i:=fun e he hb heq=>by
    have h1:=hall e he hb;have h0:=(mem_ready.1 hr).1;rw[heq] at h1;rcases Nat.lt_or_ge i listed.size with h'|h'
    ·simp[h'] at h0 h1;rw[h0] at h1;cases h1
    ·simp[Array.getElem?_eq_none h'] at h1
   have h2:=qOp_put hoj (hfree j oj hoj hji hjun hnot) (fun cs b=>hsel i oi cs b hi) (fun cs b=>hsel j oj cs b hoj) hy h1;have hfree':∀k ok,ops[k]?=some ok->k≠i->(listed.setIfInBounds j true).getD k true=false->
     (∀e∈ok.after,Region.binds md e=true->e.on≠i)->oi.apart ops ok=true:=fun k ok hk hki hun hno=>by
    refine hfree k ok hk hki ?_ hno
    by_cases hjk:j=k
    ·subst hjk;exact hjun
    ·rw[getD_set_ne true hjk] at hun;exact hun
   refine qOp_mono (fun a' h3=>ih (listed.setIfInBounds j true) a' (hcl.set hj) hfree' (ready_mono hr (Ne.symm hji)) h3.1 ?_) h2;rw[Array.setIfInBounds_comm _ _ hji];exact h3.2
theorem zho{Q:Act->Prop}{n:Nat}(hs:Region.noSelect ops=true)(hn:∀i,i<n->zmE md ops n i=true):∀(l:List Oper) (k:Nat) (listed:Array Bool) (a:Act),zby md ops listed->(∀j,j<l.length->l[j]?=ops[k+j]?)->k+l.length=n->
  lexL md ops n l.length k listed=true->wpQuiet P ops C Q l a->zfo P md ops C n Q l.length listed a
 |[],_,_,_,_,_,_,hB,h=>by
  simp only[List.length_nil,lexL,Bool.and_eq_true,beq_iff_eq,List.isEmpty_iff] at hB;exact⟨hB.1,hB.2,h⟩
 |o::l,k,listed,a,hcl,hl,hkn,hB,h=>by
  have h0:ops[k]?=some o:=by simpa using (hl 0 (by simp)).symm
  simp only[List.length_cons,lexL,Bool.and_eq_true] at hB;obtain⟨⟨hr,hf⟩,hB'⟩:=hB;have hst:qOp P ops C k (wpQuiet P ops C Q l) a:=by unfold qOp;simp only[h0];exact h
  obtain⟨v,hy,hK⟩:=yieldsIn_of_qOp h0 hst;simp only[List.length_cons] at hkn;have hr':k∈Region.ready md ops listed:=by simpa using hr
  exact zfp h0 (fun L hc hn'=>zlN (hn k (by omega)) L hc hn') (Region.noSelect_spec hs) l.length listed a hcl (Region.free_spec h0 hf) hr' hy
   (zho hs hn l (k+1) _ _ (hcl.set hr') (fun j hj=>by have:=hl (j+1) (by simp;omega);simpa [Nat.add_assoc,Nat.add_comm 1 j] using this) (by omega) hB' hK)
theorem zhr{id:Nat}{Q:Exit->Act->World->Prop}{a:Act}{w:World}{all l:List Oper}{o:Oper}(hm:P.follows .mixedOrders=true)(hB:zsm .any all.toArray l.length=true)(hall:all=l++[o])(hg:o.guard=none)
  (h:wpQuiet P all.toArray (fun w'=>∃n,w'=w.drewN n) (fun a'=>∀w',(∃n,w'=w.drewN n)->∀K:Act->World->Prop,(∀a w,Q .normal a w->K a w)->o.wp P a' w' K Q) l a):(Code.region id all.toArray true).wp P Q a w:=by
 simp only[zsm,Bool.and_eq_true,List.all_eq_true,List.mem_range] at hB;have hsz:all.toArray.size=l.length+1:=by simp[hall]
 have hlen:all.toArray[l.length]?=some o:=by simp[hall]
 refine wp_region_any hm ?_;rw[hsz];refine zc4 (C:=fun w'=>∃n,w'=w.drewN n) (n:=l.length) (Q:=fun a'=>∀w',(∃n,w'=w.drewN n)->∀K:Act->World->Prop,(∀a w,Q .normal a w->K a w)->o.wp P a' w' K Q) ?_ l.length _ a _ ⟨1,rfl⟩ ?_
 ·intro a' w' hw' hq;unfold wpOp;rw[hlen];simp only[Region.wanted,hg];exact .inl (hq w' hw' _ fun _ _ h=>h)
 ·rw[<-hsz];exact zho hB.1.1 hB.1.2 l 0 _ a (zby.start _ _) (fun j hj=>by simp[hall,List.getElem?_append_left hj]) (by simp) hB.2 h
theorem zdk(n:Nat){id:Nat}{Q:Exit->Act->World->Prop}{a:Act}{w:World}{all:List Oper}{o:Oper}(hm:P.follows .mixedOrders=true)(hB:zsm .any all.toArray n=true)(hl:all.length=n+1)(ho:all[n]?=some o)(hg:o.guard=none)
  (h:∀l,l=all.take n->wpQuiet P all.toArray (fun w'=>∃n,w'=w.drewN n) (fun a'=>∀w',(∃n,w'=w.drewN n)->∀K:Act->World->Prop,(∀a w,Q .normal a w->K a w)->o.wp P a' w' K Q) l a):(Code.region id all.toArray true).wp P Q a w:=by
 refine zhr (l:=all.take n) (o:=o) hm (by rw[List.length_take,hl,Nat.min_eq_left (by omega)];exact hB) ?_ hg (h _ rfl);apply List.ext_getElem?;intro j
 by_cases hj:j<n
 ·rw[List.getElem?_append_left (by rw[List.length_take];omega),List.getElem?_take,if_pos hj]
 ·rw[List.getElem?_append_right (by rw[List.length_take];omega),List.length_take,hl,Nat.min_eq_left (by omega)]
  by_cases e:j=n
  ·subst e;simp[ho]
  ·rw[List.getElem?_eq_none (by omega),List.getElem?_eq_none (by simp;omega)]
end
end
open Go
section
variable {P:Program} {ops:Array Oper} {md:Region.Mode} {C:World->Prop}
def zcB(md:Region.Mode)(ops:Array Oper):Nat->Nat->Array Bool->Bool
 |0,_,listed=>(Region.ready md ops listed).isEmpty
 |f+1,k,listed=>(Region.ready md ops listed == [k])&&zcB md ops f (k+1) (listed.setIfInBounds k true)
theorem zjs{f k:Nat}{listed:Array Bool}(h:zcB md ops f k listed=true):∀j∈Region.ready md ops listed,j=k/\0<f:=fun j hj=>by
 cases f with
 |zero=>
  simp only[zcB,List.isEmpty_iff] at h;rw[h] at hj;cases hj
 |succ f=>
  simp only[zcB,Bool.and_eq_true,beq_iff_eq] at h;rw[h.1] at hj;exact⟨by simpa using hj,by omega⟩
theorem zfW{Q:Exit->Act->World->Prop}:∀(l:List Oper) (k:Nat) (listed:Array Bool) (a:Act) (w:World),(∀j,j<l.length->l[j]?=ops[k+j]?)->zcB md ops l.length k listed=true->wpList P ops Q l a w->wpAny P md ops Q l.length listed a w
 |[],_,_,_,_,_,hB,h=>by
  simp only[List.length_nil,zcB,List.isEmpty_iff] at hB;exact⟨hB,h⟩
 |o::l,k,listed,a,w,hl,hB,h=>by
  have h0:ops[k]?=some o:=by simpa using (hl 0 (by simp)).symm
  simp only[List.length_cons,zcB,Bool.and_eq_true,beq_iff_eq] at hB;have ih:=fun a w h=>zfW (Q:=Q) l (k+1) (listed.setIfInBounds k true) a w (fun j hj=>by have:=hl (j+1) (by simp;omega);simpa [Nat.add_assoc,Nat.add_comm 1 j] using this) hB.2 h
  refine⟨fun e=>absurd e (by rw[hB.1];simp),fun i hi=>?_⟩;rw[hB.1] at hi;have e:i=k:=by simpa using hi
  subst e;unfold wpOp;simp only[h0];unfold wpList at h
  by_cases hw:Region.wanted o (yielded ops a.tmps)=true
  ·rw[if_pos hw] at h ⊢;rcases h with h|h
   ·exact .inl (Oper.wp_mono (fun a w h=>ih a w h) h)
   ·exact .inr h
  ·rw[if_neg hw] at h ⊢;exact ih _ _ h
def zkq(P:Program)(md:Region.Mode)(ops:Array Oper)(C:World->Prop)(n:Nat)(Q:Act->Prop):Nat->Array Bool->Act->Prop
 |0,listed,a=>zcB md ops (ops.size-n) n listed=true/\Q a
 |fuel+1,listed,a=>Region.ready md ops listed≠[]/\∀i∈Region.ready md ops listed,qOp P ops C i (zkq P md ops C n Q fuel (listed.setIfInBounds i true)) a
theorem zfq{Q:Act->Prop}{Q':Exit->Act->World->Prop}{n:Nat}{l:List Oper}(hl:∀j,j<l.length->l[j]?=ops[n+j]?)(hsz:ops.size-n=l.length)(hQ:∀a w,C w->Q a->wpList P ops Q' l a w):
  ∀(fuel:Nat) (listed:Array Bool) (a:Act) (w:World),C w->zkq P md ops C n Q fuel listed a->wpAny P md ops Q' (fuel+l.length) listed a w
 |0,listed,a,w,hw,h=>by
  rw[Nat.zero_add];exact zfW l n listed a w hl (by rw[<-hsz];exact h.1) (hQ a w hw h.2)
 |fuel+1,listed,a,w,hw,h=>by
  rw[show fuel+1+l.length=fuel+l.length+1 by omega];exact⟨fun h0=>absurd h0 h.1,fun i hi=>wpOp_of_qOp hw (fun a' w' hw'=>zfq hl hsz hQ fuel _ a' w' hw') (h.2 i hi)⟩
theorem zkr{Q:Act->Prop}{i n:Nat}{oi:Oper}{v:Value}(hi:ops[i]?=some oi)(hlast:∀listed:Array Bool,zby md ops listed->n∈Region.ready md ops listed->listed.getD i true=true)(hsel:∀(j:Nat) (o:Oper) cs b,ops[j]?=some o->o.op≠.select cs b):
  ∀(fuel:Nat) (listed:Array Bool) (a:Act),zby md ops listed->
   (∀j oj,ops[j]?=some oj->j≠i->listed.getD j true=false->(∀e∈oj.after,Region.binds md e=true->e.on≠i)->oi.apart ops oj=true)->
   i∈Region.ready md ops listed->YieldsIn P ops C oi v a->
   zkq P md ops C n Q fuel (listed.setIfInBounds i true) (a.put oi.dst v)->zkq P md ops C n Q (fuel+1) listed a:=by
 intro fuel
 induction fuel with
 |zero=>
  intro listed a hcl _ hr hy H;refine⟨fun h=>(by rw[h] at hr;cases hr),fun j hj=>?_⟩
  by_cases hji:j=i
  ·subst hji;exact hy.qOp hi H
  ·have h2:=(zjs H.1 j (ready_mono hj hji)).1;subst h2;have h1:=hlast _ hcl hj;rw[(mem_ready.1 hr).1] at h1;cases h1
 |succ fuel ih=>
  intro listed a hcl hfree hr hy H;refine⟨fun h=>(by rw[h] at hr;cases hr),fun j hj=>?_⟩
  by_cases hji:j=i
  ·subst hji;exact hy.qOp hi H
  ·have h1:=H.2 j (ready_mono hj hji);obtain⟨hjun,oj,hoj,hall⟩:=mem_ready.1 hj;have hnot:∀e∈oj.after,Region.binds md e=true->e.on≠i:=fun e he hb heq=>by
    have h1:=hall e he hb;have h0:=(mem_ready.1 hr).1;rw[heq] at h1;rcases Nat.lt_or_ge i listed.size with h'|h'
    ·simp[h'] at h0 h1;rw[h0] at h1;cases h1
    ·simp[Array.getElem?_eq_none h'] at h1
   have h2:=qOp_put hoj (hfree j oj hoj hji hjun hnot) (fun cs b=>hsel i oi cs b hi) (fun cs b=>hsel j oj cs b hoj) hy h1;have hfree':∀k ok,ops[k]?=some ok->k≠i->(listed.setIfInBounds j true).getD k true=false->
     (∀e∈ok.after,Region.binds md e=true->e.on≠i)->oi.apart ops ok=true:=fun k ok hk hki hun hno=>by
    refine hfree k ok hk hki ?_ hno
    by_cases hjk:j=k
    ·subst hjk;exact hjun
    ·rw[getD_set_ne true hjk] at hun;exact hun
   refine qOp_mono (fun a' h3=>ih (listed.setIfInBounds j true) a' (hcl.set hj) hfree' (ready_mono hr (Ne.symm hji)) h3.1 ?_) h2;rw[Array.setIfInBounds_comm _ _ hji];exact h3.2
def zev(md:Region.Mode)(ops:Array Oper):Nat->Nat->Nat->Bool
 |0,n,i=>zdQ md ops n i
 |f+1,n,i=>zdQ md ops n i || (List.range n).any fun k=>zdQ md ops n k&&zev md ops f k i
theorem zpX{n i:Nat}(h:zdQ md ops n i=true):∃o,ops[n]?=some o/\∃e∈o.after,Region.binds md e=true/\e.on=i:=by
 unfold zdQ at h;split at h
 ·rename_i o ho
  simp only[Array.any_eq_true,Bool.and_eq_true,beq_iff_eq] at h;obtain⟨q,hq,hb,he⟩:=h;exact⟨o,ho,_,Array.getElem_mem hq,hb,he⟩
 ·cases h
theorem zcw{listed:Array Bool}(hc:zby md ops listed):∀(f n i:Nat),listed.getD n true=true->zev md ops f n i=true->listed.getD i true=true
 |0,n,i,hl,h=>by
  obtain⟨o,ho,e,he,hb,e2⟩:=zpX h;rw[<-e2];exact hc n o ho hl e he hb
 |f+1,n,i,hl,h=>by
  unfold zev at h;rw[Bool.or_eq_true] at h;rcases h with h|h
  ·exact zcw hc 0 n i hl h
  ·obtain⟨k,_,hk⟩:=List.any_eq_true.1 h;rw[Bool.and_eq_true] at hk;exact zcw hc f k i (zcw hc 0 n k hl hk.1) hk.2
theorem zhj{f n i:Nat}(h:zev md ops f n i=true)(listed:Array Bool)(hc:zby md ops listed)(hr:n∈Region.ready md ops listed):listed.getD i true=true:=by
 cases f with
 |zero=>exact zc7 h listed hr
 |succ f=>
  unfold zev at h;rw[Bool.or_eq_true] at h;rcases h with h|h
  ·exact zc7 h listed hr
  ·obtain⟨k,_,hk⟩:=List.any_eq_true.1 h;rw[Bool.and_eq_true] at hk;exact zcw hc f k i (zc7 hk.1 listed hr) hk.2
def lexT(md:Region.Mode)(ops:Array Oper)(n:Nat):Nat->Nat->Array Bool->Bool
 |0,_,listed=>zcB md ops (ops.size-n) n listed
 |fuel+1,k,listed=>(Region.ready md ops listed).contains k&&Region.free md ops listed k&&lexT md ops n fuel (k+1) (listed.setIfInBounds k true)
def preB(md:Region.Mode)(ops:Array Oper)(n:Nat):Bool:=
 Region.noSelect ops&&(List.range n).all (fun i=>decide (ops.size<=n) || zev md ops 6 n i)&&lexT md ops n n 0 (Array.replicate ops.size false)
theorem zih{Q:Act->Prop}{n:Nat}(hs:Region.noSelect ops=true)(hn:∀i,i<n->(decide (ops.size<=n) || zev md ops 6 n i)=true):∀(l:List Oper) (k:Nat) (listed:Array Bool) (a:Act),zby md ops listed->(∀j,j<l.length->l[j]?=ops[k+j]?)->k+l.length=n->
  lexT md ops n l.length k listed=true->wpQuiet P ops C Q l a->zkq P md ops C n Q l.length listed a
 |[],_,_,_,_,_,_,hB,h=>⟨hB,h⟩
 |o::l,k,listed,a,hcl,hl,hkn,hB,h=>by
  have h0:ops[k]?=some o:=by simpa using (hl 0 (by simp)).symm
  simp only[List.length_cons,lexT,Bool.and_eq_true] at hB;obtain⟨⟨hr,hf⟩,hB'⟩:=hB;have hst:qOp P ops C k (wpQuiet P ops C Q l) a:=by unfold qOp;simp only[h0];exact h
  obtain⟨v,hy,hK⟩:=yieldsIn_of_qOp h0 hst;simp only[List.length_cons] at hkn;have hr':k∈Region.ready md ops listed:=by simpa using hr
  exact zkr h0 (fun L hc hn'=>by
    have h1:=hn k (by omega);rw[Bool.or_eq_true] at h1;rcases h1 with h1|h1
    ·have h2:=of_decide_eq_true h1;obtain⟨_,o',ho',_⟩:=mem_ready.1 hn';have:=(Array.getElem?_eq_some_iff.1 ho').1;omega
    ·exact zhj h1 L hc hn') (Region.noSelect_spec hs) l.length listed a hcl (Region.free_spec h0 hf) hr' hy
   (zih hs hn l (k+1) _ _ (hcl.set hr') (fun j hj=>by have:=hl (j+1) (by simp;omega);simpa [Nat.add_assoc,Nat.add_comm 1 j] using this) (by omega) hB' hK)
theorem zks(n:Nat){Q:Exit->Act->World->Prop}{a:Act}{w:World}{all:List Oper}(C:World->Prop)(hC:C w)(hn:n<=all.length)(hB:preB md all.toArray n=true)
  (h:∀l,l=all.take n->wpQuiet P all.toArray C (fun a'=>∀w',C w'->∀r,r=all.drop n->wpList P all.toArray Q r a' w') l a):wpAny P md all.toArray Q all.length (Array.replicate all.length false) a w:=by
 simp only[preB,Bool.and_eq_true,List.all_eq_true,List.mem_range] at hB;have hlt:(all.take n).length=n:=by rw[List.length_take];omega
 have hld:(all.drop n).length=all.length-n:=by rw[List.length_drop]
 have h1:=zih (P:=P) (C:=C) hB.1.1 hB.1.2 (all.take n) 0 (Array.replicate all.toArray.size false) a (zby.start _ _) (fun j hj=>by rw[hlt] at hj;simp[hj]) (by omega) (by rw[hlt];exact hB.2) (h _ rfl);have h2:=zfq (md:=md) (C:=C) (Q':=Q) (n:=n) (l:=all.drop n) (fun j _=>by simp[List.getElem?_drop]) (by simp) (fun a w hw hq=>hq w hw _ rfl) (all.take n).length _ a w hC h1;rw[hlt,hld,show n+(all.length-n)=all.length by omega] at h2
 simpa using h2
theorem zbO(n:Nat){id:Nat}{Q:Exit->Act->World->Prop}{a:Act}{w:World}{all:List Oper}(C:World->Prop)(hm:P.follows .mixedOrders=true)(hC:C w.drew)(hn:n<=all.length)(hB:preB .any all.toArray n=true)
  (h:∀l,l=all.take n->wpQuiet P all.toArray C (fun a'=>∀w',C w'->∀r,r=all.drop n->wpList P all.toArray Q r a' w') l a):(Code.region id all.toArray true).wp P Q a w:=by
 refine wp_region_any hm ?_;have:=zks (md:=.any) n C hC hn hB h
 simpa using this
theorem znv{o:Oper}{a:Act}{w:World}{K:Act->World->Prop}{Q:Exit->Act->World->Prop}(l n:Nat)(hd:∀c,o.op≠.defer c)(h:o.wp P a w K Q):o.wpIn (Fence.wide.inRound l) n P a w K Q:=by
 refine⟨fun _ _=>trivial,?_⟩;rw[Oper.semAt_eq _ _ _ hd];unfold Oper.wp at h;generalize (execOp a.eval o).run P w=r at *;have hdp:(Fence.wide.inRound l).depth.isSome=true->1<=n:=fun e=>by cases e
 cases r with
 |ok nx w'=>
  cases nx with
  |value v=>exact h
  |skip=>exact h
  |defer d=>exact h
  |enter f args=>exact⟨hdp,CallsIn.inRound l (callsIn_wide.2 h)⟩
  |row row args=>exact⟨hdp,fun c cs _=>by
    obtain⟨v,w2,h1,h2⟩:=h c cs;exact⟨v,w2,h1,stepsIn_wide.2 h2⟩⟩
  |round l f tmps assign body=>exact h.elim
  |_=>exact h.elim
 |halt hh w'=>
  cases hh with
  |panic v=>exact h
  |_=>exact h.elim
theorem zd8{Q:Exit->Act->World->Prop}(l n:Nat)(hQ:¬LetsOut Q)(hd:∀(j:Nat) (o:Oper),ops[j]?=some o->∀c,o.op≠.defer c):∀(fuel:Nat) (listed:Array Bool) (a:Act) (w:World),wpAny P md ops Q fuel listed a w->wpAnyIn (Fence.wide.inRound l) n P md ops Q fuel listed a w
 |0,_,_,_,h=>h
 |fuel+1,listed,a,w,h=>by
  refine⟨h.1,fun i hi=>?_⟩;have h1:=h.2 i hi;unfold wpOp at h1;unfold wpOpIn;split
  ·rename_i e
   simp only[e] at h1;exact zd8 l n hQ hd fuel _ _ _ h1
  ·rename_i o e
   simp only[e] at h1
   by_cases hw:Region.wanted o (yielded ops a.tmps)=true
   ·rw[if_pos hw] at h1 ⊢;rcases h1 with h1|h1
    ·exact znv l n (hd i o e) (Oper.wp_mono (fun a w h=>zd8 l n hQ hd fuel _ a w h) h1)
    ·exact absurd h1.2 hQ
   ·rw[if_neg hw] at h1 ⊢;exact⟨fun _ _=>trivial,zd8 l n hQ hd fuel _ _ _ h1⟩
def zoT(ops:List Oper):Bool:=ops.all fun o=>match o.op with | .defer _=>false|_=>true
theorem zjT{all:List Oper}(h:zoT all=true)(j:Nat)(o:Oper)(ho:all.toArray[j]?=some o)(c:_):o.op≠.defer c:=fun e=>by
 have hm:o∈all:=by
  rw[List.getElem?_toArray] at ho;exact List.mem_of_getElem? ho
 have:=List.all_eq_true.1 h o hm;rw[e] at this;cases this
theorem zbb(n:Nat){id l nn:Nat}{Q:Exit->Act->World->Prop}{a:Act}{w:World}{all:List Oper}(C:World->Prop)(hm:P.follows .mixedOrders=true)(hC:C w.drew)(hQ:¬LetsOut Q)(hn:n<=all.length)(hB:preB .any all.toArray n=true)(hD:zoT all=true)
  (h:∀l,l=all.take n->wpQuiet P all.toArray C (fun a'=>∀w',C w'->∀r,r=all.drop n->wpList P all.toArray Q r a' w') l a):(Code.region id all.toArray true).wpIn (Fence.wide.inRound l) nn P Q a w:=by
 refine wpIn_region_any hm ?_;have:=zd8 l nn hQ (zjT hD) _ _ _ _ (zks (md:=.any) n C hC hn hB h)
 simpa using this
end
end Go.Proofs.YthddplbodacjgaaGreatDoor
