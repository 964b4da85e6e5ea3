import Derived.Test.YthdljcdbfmhleaaGreatDoorC5
namespace Go.Proofs.YthdljcdbfmhleaaGreatDoor
set_option maxHeartbeats 4000000
set_option maxRecDepth 100000
open Go.RowKit
section
variable {T:Nat -> Nat}{k lo x j t:Nat}{pre:List Nat}
attribute [local go_sem] Oper.semAt_some
structure MemO(T:Nat->Nat)(k:Nat)(pre:List Nat):Prop where
 mem:∀p,p∈pre↔p<64*k/\zae T p=true
 len:pre.length<=64*k
structure MemI(T:Nat->Nat)(k x lo:Nat)(pre:List Nat):Prop where
 mem:∀p,p∈pre↔(p<64*k/\zae T p=true)\/(p/64=k/\zae T p=true/\x.testBit (p%64)=false)
 sub:∀i,x.testBit i=true->(T k).testBit i=true
 len:pre.length<=64*k+lo
 low:∀i,i<lo->x.testBit i=false
 le:lo<=64
theorem MemO.open_(h:MemO T k pre):MemI T k (T k) 0 pre:=by
 refine⟨fun p=>(h.mem p).trans ⟨.inl,?_⟩,fun _ h=>h,h.len,fun i hi=>absurd hi (zsg _),by omega⟩;rintro (h1|⟨h1,h2,h3⟩)
 ·exact h1
 ·unfold zae at h2;rw[h1,h3] at h2;cases h2
theorem MemI.close(h:MemI T k 0 lo pre):MemO T (k+1) pre:=by
 refine⟨fun p=>(h.mem p).trans ⟨?_,?_⟩,by have:=h.len;have:=h.le;omega⟩
 ·rintro (⟨h1,h2⟩|⟨h1,h2,_⟩)
  ·exact⟨by omega,h2⟩
  ·exact⟨by omega,h2⟩
 ·rintro ⟨h1,h2⟩
  by_cases e:p<64*k
  ·exact .inl ⟨e,h2⟩
  ·exact .inr ⟨by omega,h2,by simp⟩
theorem zc0(hx:x=2 ^ j*(2*t+1))(i:Nat):(x &&& (x-1)).testBit i=(x.testBit i&&decide (i≠j)):=by
 have hp:0<2 ^ j:=Nat.two_pow_pos j;have e1:x-1=2 ^ j*(2*t)+(2 ^ j-1):=by rw[hx,Nat.mul_add,Nat.mul_one];omega
 rw[Nat.testBit_and];rcases zse i j with h|h|h
 ·have:=(zif j t).low i h;rw[<-hx] at this;rw[this];simp
 ·subst h;have:(x-1).testBit i=false:=by
   rw[e1,Nat.testBit_two_pow_mul_add _ (by omega),zss (by omega),zsh];simp
  rw[this];simp
 ·have:(x-1).testBit i=x.testBit i:=by
   rw[e1,Nat.testBit_two_pow_mul_add _ (by omega),zss (by omega),hx,Nat.testBit_two_pow_mul];have e3:decide (i>=j)=true:=by simp;omega
   rw[e3,zrh];obtain⟨d,hd⟩:∃d,i-j=d+1:=⟨i-j-1,by omega⟩;rw[hd,Nat.testBit_succ,Nat.testBit_succ]
   congr 1
   omega
  rw[this];have e2:decide (i≠j)=true:=by simp;omega
  rw[e2,Bool.and_true,Bool.and_self]
theorem MemI.step(h:MemI T k x lo pre)(hx:x=2 ^ j*(2*t+1))(hj:j<64):MemI T k (x &&& (x-1)) (j+1) (pre++[k*64+j])/\lo<=j:=by
 have hb:x.testBit j=true:=by rw[hx];exact(zif j t).bit
 have hlo:lo<=j:=by
  rcases zsd j lo with h1|h1
  ·rw[h.low j h1] at hb;cases hb
  ·exact h1
 refine⟨⟨fun p=>?_,fun i hi=>?_,by have:=h.len;simp;omega,fun i hi=>?_,by omega⟩,hlo⟩
 ·rw[zrR,h.mem p,zc0 hx,zrY];constructor
  ·rintro ((h1|⟨h1,h2,h3⟩)|rfl)
   ·exact .inl h1
   ·exact .inr ⟨h1,h2,by rw[h3];rfl⟩
   ·refine .inr ⟨by omega,?_,?_⟩
    ·unfold zae;rw[show (k*64+j)/64=k by omega,show (k*64+j)%64=j by omega];exact h.sub j hb
    ·rw[show (k*64+j)%64=j by omega];simp
  ·rintro (h1|⟨h1,h2,h3⟩)
   ·exact .inl (.inl h1)
   ·by_cases e:p%64=j
    ·exact .inr (by omega)
    ·refine .inl (.inr ⟨h1,h2,?_⟩);have e2:decide (p%64≠j)=true:=by simp;exact e
     rw[e2,Bool.and_true] at h3;exact h3
 ·rw[zc0 hx,zrf] at hi;exact h.sub i hi.1
 ·rw[zc0 hx]
  by_cases e:i=j
  ·subst e;simp
  ·have:x.testBit i=false:=by rw[hx];exact(zif j t).low i (by omega)
   rw[this];rfl
abbrev Mem(nw:Nat)(T:Nat->Nat):={p:Nat // p<64*nw/\zae T p=true}
def zbP{nw:Nat}{T:Nat->Nat}(pre:List (Mem nw T)):List Nat:=pre.map Subtype.val
theorem zbB{nw:Nat}(pre:List (Mem nw T))(x:Mem nw T):zbP (pre++[x])=zbP pre++[x.1]:=by simp[zbP]
theorem zaY.keep{w w':World}(h:zaY w)(hk:w'.heap[0]?=w.heap[0]?):zaY w':=fun i hi=>(show w'.cell? ⟨0,i,none⟩=w.cell? ⟨0,i,none⟩ from World.cell?_of_block hk).trans (h i hi)
theorem zly(n l nw g cap:Nat)(T:Nat->Nat)(hn:1<=n)(hnw:nw<=1000)(J Jx:List (Mem nw T)->World->Prop)(W:World)
  (hY:∀pre x W1,J pre W1->pre.length<64*nw->YieldAt Fence.wide (n-1) Tryz.prog l #[.int .i64 (x.1:Nat)] W1 fun e W'=>
   (e=.returned (.bool true)/\J (pre++[x]) W'/\∀k∈[0,g],W'.heap[k]?=W1.heap[k]?)\/(e=.returned (.bool false)/\Jx (pre++[x]) W'))
  (hT:zal W nw g T) (hB:zaY W) (h0:J [] W):
  CallsIn Fence.wide n Tryz.prog 108 #[.slice (some ⟨g,0,none⟩) nw cap,.func (.yield l) #[] #[]] W fun e W'=>(∃v,e=.returned v)/\
   ((∃ys,(∀p,p∈zbP ys↔p<64*nw/\zae T p=true)/\J ys W')\/(∃pre,True/\Jx pre W')):=by
 refine callsIn_of_wp Tryz.func108 rfl trivial ?_ rfl;simp only[Tryz.ntmps108,zr4,zrL,zrN,Nat.reduceAdd,Nat.reduceSub,zrd,zre,zr1,zrn,zrZ,zro];have HB:Hid (zaY W):=hB;clear hB
 gi_wp2
 gi_loopw [8] (fun i wr=>∃(k:Nat) (pre:List (Mem nw T)),k<=nw/\i=.int .i64 k/\Hid (MemO T k (zbP pre))/\J pre wr/\zal wr nw g T/\Hid (zaY wr))
  (fun i _=>nw-(intOf i).toNat)
 case atStart=>exact⟨0,[],zsj _,rfl,⟨fun p=>by simp[zbP],by simp[zbP]⟩,h0,hT,HB⟩
 case round=>
  obtain⟨k,pre,hk,rfl,HM,hJs,hTs,HBs⟩:=hrel
  by_cases hlt:k<nw
  case neg=>
   have hkk:k=nw:=by omega
   subst hkk
   gi_wp2
   go_end0
   exact⟨⟨_,rfl⟩,.inl ⟨pre,HM.out.mem,hJs⟩⟩
  have c0:=hTs.cell hlt;have hi0:(0:Int)<=(k:Int):=by omega
  have hi1:(k:Int)<(nw:Int):=by omega
  gi_wp2
  gi_loopw [5] (fun v wr=>∃(x lo:Nat) (pre:List (Mem nw T)),v=.int .u64 x/\x<18446744073709551616/\Hid (MemI T k x lo (zbP pre))/\J pre wr/\zal wr nw g T/\Hid (zaY wr))
   (fun v _=>(intOf v).toNat)
  case atStart=>exact⟨T k,0,pre,rfl,hTs.lt k,HM.out.open_,hJs,hTs,HBs⟩
  case round=>
   clear HM hJs HBs c0;obtain⟨x,lo,pre,rfl,hx,HM,hJs,hTs,HBs⟩:=hrel
   by_cases h0x:x=0
   ·subst h0x
    gi_wp2
    go_roundw
    case rel=>exact⟨k+1,pre,by omega,by go_num,HM.out.close,hJs,hTs,HBs⟩
    case measure=>simp[intOf];omega
   ·obtain⟨j,t,hjt⟩:=zhm x x (zsa _) (by omega);have hj:j<64:=by
     rcases zsd j 64 with h|h
     ·exact h
     ·have h1:2 ^ 64<=2 ^ j:=Nat.pow_le_pow_right (by omega) h;have h2:2 ^ j*1<=2 ^ j*(2*t+1):=Nat.mul_le_mul_left _ (by omega);rw[<-hjt,Nat.mul_one] at h2;have:(2:Nat) ^ 64=18446744073709551616:=by decide
      omega
    have hst:=HM.out.step hjt hj;have hmem:k*64+j<64*nw/\zae T (k*64+j)=true:=by
     refine⟨by omega,?_⟩;unfold zae;rw[show (k*64+j)/64=k by omega,show (k*64+j)%64=j by omega];exact HM.out.sub j (by rw[hjt];exact(zif j t).bit)
    have HM2:Hid (MemI T k (x &&& (x-1)) (j+1) (zbP (pre++[(⟨k*64+j,hmem⟩:Mem nw T)]))):=by rw[zbB];exact hst.1
    have hlen:pre.length<64*nw:=by have h6:=hst.2;have h5:=HM.out.len;simp only[zbP,zrM] at h5;omega
    have Hjt:Hid _:=hjt;have hxp:0<x:=by omega
    have hne:((x:Int) != 0)=true:=by simp;omega
    have hsub:IntKind.u64.wrap ((x:Int)-1)=((x-1:Nat):Int):=by
     rw[show (x:Int)-1=((x-1:Nat):Int) by omega,zhM,zsf (by omega)]
    have hand:=zg5 x (x-1) hx (by omega);have hle:x &&& (x-1)<=x-1:=Nat.and_le_right;have htz:=fun(w:World) (h:Hid (zaY w))=>zq3 x j t w Hjt hx hxp hj h
    have hwr:IntKind.i64.wrap ((k:Int)*64)=((k*64:Nat):Int):=by rw[IntKind.wrap_i64];omega
    obtain⟨fn,tmps,assign,body,hy,hR⟩:=hY pre ⟨k*64+j,hmem⟩ wr hJs hlen;dsimp only at hy;rw[show ((k*64+j:Nat):Int)=(k:Int)*64+(j:Int) by omega] at hy;clear hjt hst hY
    gi_wp2_with (refine⟨trivial,?_⟩;gi_at_call 109;refine(callsIn_wide.2 (htz _ HBs)).mono ?_;rintro e w' ⟨rfl,hw'⟩;subst w')
    refine hR.mono ?_;rintro e W3 (⟨rfl,hJ3,hk3⟩|⟨rfl,hJx3⟩)
    ·have hT3:zal W3 nw g T:=⟨(hk3 g (by simp)).trans hTs.row,hTs.lt⟩;have HB3:Hid (zaY W3):=HBs.out.keep (hk3 0 (by simp))
     gi_wp2
     go_roundw
     case rel=>exact⟨x &&& (x-1),j+1,_,by rw[<-hand],by omega,HM2.out,hJ3,hT3,HB3⟩
     case measure=>simp[intOf];omega
    ·gi_wp2
     refine zsl (results_none rfl _ _ _) rfl ?_;exact⟨⟨_,rfl⟩,.inr ⟨_,trivial,hJx3⟩⟩
theorem zbY(n nw g cap:Nat)(T:Nat->Nat)(hn:1<=n)(hnw:nw<=1000)(w:World)(hT:zal w nw g T)(hB:zaY w):
  SeqR n Tryz.prog 108 #[.slice (some ⟨g,0,none⟩) nw cap] #[] (fun x:Mem nw T=>#[.int .i64 (x.1:Int)]) [0,g] (fun ys=>∀p,p∈zbP ys↔p<64*nw/\zae T p=true) (fun _=>True) (64*nw) w:=
 fun l J Jx W hW hY h0=>zly n l nw g cap T hn hnw J Jx W hY ⟨(hW g (by simp)).trans hT.row,hT.lt⟩ (hB.keep (hW 0 (by simp))) h0
end
section
attribute [local go_sem ↓] Go.wp_at_zero Go.wp_at_succ
theorem zpU(a r:Nat):((a/2 ^ r) &&& 1=1)↔a.testBit r=true:=by
 rw[Nat.and_one_is_mod,Nat.testBit_eq_decide_div_mod_eq];simp
theorem zhe(nw g cap:Nat)(T:Nat->Nat)(p:Nat)(w:World)(h:zal w nw g T)(hp:p<64*nw)(hnw:nw<=1000):
  Calls Tryz.prog 66 #[.slice (some ⟨g,0,none⟩) nw cap,.int .i64 p] w fun e w'=>e=.returned (.bool (zae T p))/\w'=w:=by
 have d0:w.cell? ⟨g,p/64,none⟩=some (.int .u64 (T (p/64):Int)):=h.cell (by omega);have t0:=h.lt (p/64);have e1:(p:Int)/64=((p/64:Nat):Int):=by omega
 have e2:(p:Int)%64=((p%64:Nat):Int):=by omega
 have l1:p/64<nw:=by omega
 have l2:p%64<64:=by omega
 have Hb:Hid (zae T p=(T (p/64)).testBit (p%64)):=rfl;generalize zae T p=bb at *;generalize T (p/64)=a at *;generalize p/64=q at *;generalize p%64=r at *;have i1:(q:Int)<nw:=by omega
 have i3:(0:Int)<=(q:Int):=by omega
 go_enter Tryz.func66,Tryz.ntmps66
 go_wp2;go_ret;refine⟨zam ?_,rfl⟩;rw[Hb.out,show (a:Int)/2 ^ r=((a/2 ^ r:Nat):Int) by simp];have h1:a/2 ^ r<18446744073709551616:=Nat.lt_of_le_of_lt (Nat.div_le_self _ _) t0;have h2:=zg5 (a/2 ^ r) 1 h1 (by omega);have h3:bits BinOp.and IntKind.u64 ((a/2 ^ r:Nat):Int) 1=((a/2 ^ r &&& 1:Nat):Int):=h2;rw[h3];have h4:=zpU a r;cases ht:a.testBit r
 ·rw[ht] at h4;have:¬(a/2 ^ r &&& 1=1):=fun h=>by simpa using h4.1 h
  rw[zsk];intro h;apply this;omega
 ·rw[ht] at h4;rw[h4.2 rfl]
  rfl
def zqz(nw:Nat)(T:Nat->Nat)(v:Int):Prop:=(v=-1/\∀p,p<64*nw->zae T p=false)\/∃p:Nat,v=p/\p<64*nw/\zae T p=true/\∀q,q<p->zae T q=false
theorem zh8(nw g cap:Nat)(T:Nat->Nat)(w:World)(h:zal w nw g T)(hnw:nw<=1000)(hB:zaY w):
  Calls Tryz.prog 89 #[.slice (some ⟨g,0,none⟩) nw cap] w fun e w'=>∃v:Int,e=.returned (.int .i64 v)/\zqz nw T v/\w'=w:=by
 go_enter Tryz.func89,Tryz.ntmps89
 go_wp2
 go_loopw [7] (fun i wr=>∃k:Nat,k<=nw/\i=.int .i64 k/\wr=w/\Hid (∀j,j<k->T j=0)) (fun i _=>nw-(intOf i).toNat)
 case atStart=>exact⟨0,zsj _,rfl,rfl,fun j hj=>by omega⟩
 case round=>
  obtain⟨k,hk,rfl,rfl,Hz⟩:=hrel
  by_cases hlt:k<nw
  ·have c0:=h.cell hlt;have hi1:(k:Int)<(nw:Int):=by omega
   have hi0:(0:Int)<=(k:Int):=by omega
   have t0:=h.lt k;have Hl:Hid (∀q,q<64*k->zae T q=false):=fun q hq=>by
    unfold zae;rw[Hz.out (q/64) (by omega)];simp
   by_cases hz:T k=0
   ·rw[hz] at c0;go_wp2
    go_roundw
    case rel=>exact⟨k+1,by omega,by go_num,by first|trivial|rfl,fun j hj=>by
     rcases zsd j k with a|a
     ·exact Hz.out j a
     ·obtain rfl:j=k:=by omega
      exact hz⟩
    case measure=>simp[intOf];omega
   ·obtain⟨e,s,hx⟩:=zhm (T k) (T k) (zsa _) (by omega);have he:e<64:=by
     rcases zsd e 64 with a|a
     ·exact a
     ·have h1:2 ^ 64<=2 ^ e:=Nat.pow_le_pow_right (by omega) a;have h2:2 ^ e<=T k:=by rw[hx];exact Nat.le_mul_of_pos_right _ (by omega)
      omega
    have hlow:=zif e s;have Hb:Hid (zae T (k*64+e)=true/\∀q,q<k*64+e->zae T q=false):=by
     refine⟨?_,fun q hq=>?_⟩
     ·unfold zae;rw[show (k*64+e)/64=k by omega,show (k*64+e)%64=e by omega,hx];exact hlow.bit
     ·rcases zsd q (64*k) with a|a
      ·exact Hl.out q a
      ·unfold zae;rw[show q/64=k by omega,hx];exact hlow.low _ (by omega)
    have hne:((T k:Int)==0)=false:=by simp;omega
    have Hx:Hid (T k=2 ^ e*(2*s+1)):=hx;have hpos:0<T k:=by omega
    have HB:Hid (zaY wr):=hB;clear hx hlow;generalize T k=x at *
    go_wp2_with (go_at_call 109;refine(zq3 x e s _ Hx t0 hpos he HB).mono ?_;rintro e1 w1 ⟨rfl,rfl⟩)
    go_ret
    exact⟨_,rfl,.inr ⟨k*64+e,by omega,by omega,Hb.out.1,Hb.out.2⟩,rfl⟩
  ·obtain rfl:k=nw:=by omega
   go_wp2;go_ret;refine⟨-1,rfl,.inl ⟨rfl,fun p hp=>?_⟩,rfl⟩;unfold zae;rw[Hz.out (p/64) (by omega)];simp
end
section
variable {S:Nat -> Prop}{w A B:World}
attribute [local go_sem] Oper.semAt_some
structure zan(S:Nat->Prop)(w W:World):Prop where
 os:W.os=w.os
 tape:W.tape=w.tape
 output:W.output=w.output
 size:w.heap.size<=W.heap.size
 same:∀k,k<w.heap.size->¬S k->W.heap[k]?=w.heap[k]?
theorem zan.refl(S:Nat->Prop)(w:World):zan S w w:=⟨rfl,rfl,rfl,zsa _,fun _ _ _=>rfl⟩
theorem zan.turn(h:zan S w A)(t:zep w.heap.size A B):zan S w B:=
 ⟨t.os.trans h.os,t.tape.trans h.tape,t.output.trans h.output,zsb h.size t.size,fun k hk hs=>by
  have e:=h.same k hk hs;have hA:k<A.heap.size:=zsc hk h.size;rw[<-e,t.same k _ (Array.getElem?_eq_getElem hA) (.inl hk),Array.getElem?_eq_getElem hA]⟩
theorem zan.grown{o:Option Nat}(h:zan S w A)(hg:A.grownBy B o)(hS:∀g,o=some g->S g\/w.heap.size<=g):zan S w B:=
 ⟨hg.os.trans h.os,hg.tape.trans h.tape,hg.output.trans h.output,zsb h.size hg.size,fun k hk hs=>by
  refine(hg.block k (zsc hk h.size) (fun e=>?_)).trans (h.same k hk hs);rcases hS k e.symm with h1|h1
  ·exact hs h1
  ·omega⟩
theorem zan.trans(h:zan S w A)(k:zan S A B):zan S w B:=
 ⟨k.os.trans h.os,k.tape.trans h.tape,k.output.trans h.output,zsb h.size k.size,fun i hi hs=>(k.same i (zsc hi h.size) hs).trans (h.same i hi hs)⟩
theorem zan.of_below(h:Below w.heap.size w A):zan S w A:=⟨h.os,h.tape,h.output,h.size,fun k hk _=>h.block k hk⟩
theorem zan.mono{S':Nat->Prop}(h:zan S w A)(hs:∀k,k<w.heap.size->S k->S' k):zan S' w A:=⟨h.os,h.tape,h.output,h.size,fun k hk hn=>h.same k hk fun q=>hn (hs k hk q)⟩
theorem zal.touch{W:World}{nw g:Nat}{T:Nat->Nat}(h:zal w nw g T)(t:zan S w W)(hs:¬S g):zal W nw g T:=⟨(t.same g h.glt hs).trans h.row,h.lt⟩
structure Fol(W:World)(n nw:Nat)(fr:Nat->Nat)(F:Nat->Nat->Nat):Prop where
 rows:∀p,p<n->zal W nw (fr p) (F p)
 inj:∀p q,p<n->q<n->fr p=fr q->p=q
theorem zqd(n nw bt g1 c1 g2 c2:Nat)(sv fv:Value)(fr:Nat->Nat)(F:Nat->Nat->Nat)(T1 T2:Nat->Nat)(w:World)
  (hbox:zeo w bt nw sv fv) (hfv:0<n->∃gf cf:Nat,fv=.slice (some ⟨gf,0,none⟩) n cf/\gf<w.heap.size/\(∀p,p<n->w.cell? ⟨gf,p,none⟩=some (.slice (some ⟨fr p,0,none⟩) nw nw))/\∀p,p<n->fr p≠gf) (hF:Fol w n nw fr F) (h1:zal w nw g1 T1) (h2:zal w nw g2 T2)
  (hd1:∀p,p<n->fr p≠g1) (hd2:∀p,p<n->fr p≠g2) (hd0:∀p,p<n->fr p≠0) (hdb:∀p,p<n->fr p≠bt) (hm:∀p,p<64*nw->zae T1 p=true->p<n) (hn64:n<=64*nw) (hnw:nw<=1000) (hB:zaY w) (h0:0<w.heap.size):
  Calls Tryz.prog 132 #[.pointer (some ⟨bt,0,none⟩),.slice (some ⟨g1,0,none⟩) nw c1,.slice (some ⟨g2,0,none⟩) nw c2] w fun e w'=>e=.returned (.tuple #[])/\Fol w' n nw fr (fun p=>if zae T1 p=true then orT (F p) T2 else F p)/\zan (fun k=>∃p,p<n/\k=fr p) w w':=by
 refine(callsIn_wide (n:=5)).1 ?_;refine callsIn_of_wp_marks Tryz.func132 rfl trivial ?_ rfl;simp only[Tryz.ntmps132,zr4,zrL,zrN,Nat.reduceAdd,Nat.reduceSub,zrd,zre,zr1,zrn,zrZ,zro]
 gi_wp2
 obtain⟨W0,hW0⟩:∃W0,((w.alloc (.cells #[.pointer (some ⟨bt,0,none⟩)] 172)).alloc (.cells #[.slice (some ⟨g2,0,none⟩) nw c2] 129))=W0:=⟨_,rfl⟩;have hb0:Below w.heap.size w W0:=by rw[<-hW0];exact((Below.refl _ _).alloc (zsa _) _).alloc (by simp) _
 have hsz:W0.heap.size=w.heap.size+1+1:=by rw[<-hW0];simp
 have x3:W0.heap[w.heap.size]?=some (.cells #[.pointer (some ⟨bt,0,none⟩)] 172 (0,0)):=by rw[<-hW0];exact zah (zsp _ _)
 have x5:W0.heap[w.heap.size+1]?=some (.cells #[.slice (some ⟨g2,0,none⟩) nw c2] 129 (0,0)):=by
  rw[<-hW0];have:=zsp (w.alloc (.cells #[.pointer (some ⟨bt,0,none⟩)] 172)) (.cells #[.slice (some ⟨g2,0,none⟩) nw c2] 129)
  simpa using this
 rw[hW0];clear hW0;have hfl:∀p,p<n->fr p<w.heap.size:=fun p hp=>(hF.rows p hp).glt
 have hbt:bt<w.heap.size:=(zrc.1 hbox).1;have y1:zal W0 nw g1 T1:=h1.below hb0;have y2:zal W0 nw g2 T2:=h2.below hb0;have yb:zaY W0:=hB.keep (hb0.block 0 h0);have yx:zeo W0 bt nw sv fv:=(hb0.block bt hbt).trans hbox;have yr:∀p,p<n->zal W0 nw (fr p) (F p):=fun p hp=>(hF.rows p hp).below hb0
 refine zbS (by omega) (gf:=108) (fb:=#[.slice (some ⟨g1,0,none⟩) nw c1]) (lb:=#[]) rfl (enters_of Tryz.func108 (by kernel_rfl) rfl)
  (T:=[0,g1]) (by intro k hk;have:=y1.glt;simp at hk;omega)
  (zbY 4 nw g1 c1 T1 (by omega) hnw W0 y1 yb) (fun _=>rfl)
  (fun pre W=>zan (fun k=>∃p,p<n/\k=fr p) W0 W/\∀p,p<n->zal W nw (fr p) (if p∈zbP pre then orT (F p) T2 else F p))
  (fun _ _ _=>False)
  (fun s A B hs ht=>⟨hs.1.turn ht,fun p hp=>⟨ht.same _ _ (hs.2 p hp).row (.inr rfl),(hs.2 p hp).lt⟩⟩)
  (fun c s A B hs ht=>hs)
  ⟨zan.refl _ _,fun p hp=>by rw[zss (by simp[zbP])];exact yr p hp⟩
  (fun x=>{tmps:=#[.pointer (some ⟨bt,0,none⟩),.slice (some ⟨g1,0,none⟩) nw c1,.slice (some ⟨g2,0,none⟩) nw c2,.pointer (some ⟨w.heap.size,0,none⟩),undef,.pointer (some ⟨w.heap.size+1,0,none⟩),.int .i64 (x.1:Int),.slice (some ⟨g1,0,none⟩) nw c1,.func (.func 108) #[.slice (some ⟨g1,0,none⟩) nw c1] #[],.int .i64 (x.1:Int),undef,undef,undef,undef,undef,undef,undef,undef,undef],defers:=[]})
  ?assign ?body ?done ?stop
 case assign=>
  intro l x W K hK
  gi_wp2
  exact hK
 case stop=>
  rintro D c pre W hD _ hf;exact hf.elim
 case body=>
  rintro l pre ⟨x,hx⟩ W hl ⟨ht,hr⟩ hlen;have hxn:=hm x hx.1 hx.2;obtain⟨gf,cf,rfl,hgf,hfv,hdf⟩:=hfv (by omega);have yf:∀p,p<n->W0.cell? ⟨gf,p,none⟩=some (.slice (some ⟨fr p,0,none⟩) nw nw):=fun p hp=>(hb0.cell (p:=⟨gf,p,none⟩) hgf).trans (hfv p hp)
  have hs3:¬∃p,p<n/\w.heap.size=fr p:=fun⟨p,hp,e⟩=>by have:=hfl p hp;omega
  have hs5:¬∃p,p<n/\w.heap.size+1=fr p:=fun⟨p,hp,e⟩=>by have:=hfl p hp;omega
  have z3:W.cell? ⟨w.heap.size,0,none⟩=some (.pointer (some ⟨bt,0,none⟩)):=(zsm _ _ _ _ _ _ ((ht.same _ (by omega) hs3).trans x3):W.cell? ⟨w.heap.size,0,none⟩=_);have z5:W.cell? ⟨w.heap.size+1,0,none⟩=some (.slice (some ⟨g2,0,none⟩) nw c2):=(zsm _ _ _ _ _ _ ((ht.same _ (by omega) hs5).trans x5):W.cell? ⟨w.heap.size+1,0,none⟩=_);have zb:W.cell? ⟨bt,2,none⟩=some (.slice (some ⟨gf,0,none⟩) n cf):=(zsm _ _ _ _ _ _ ((ht.same bt (by omega) (fun⟨p,hp,e⟩=>hdb p hp e.symm)).trans yx):W.cell? ⟨bt,2,none⟩=_);have zf:W.cell? ⟨gf,x,none⟩=some (.slice (some ⟨fr x,0,none⟩) nw nw):=(show W.cell? ⟨gf,x,none⟩=W0.cell? ⟨gf,x,none⟩ from World.cell?_of_block (ht.same gf (by omega) (fun⟨p,hp,e⟩=>hdf p hp e.symm))).trans (yf x hxn);have hj:=zcv nw (fr x) g2 nw c2 _ T2 W.drew ⟨(hr x hxn).row,(hr x hxn).lt⟩ ⟨(y2.touch ht (fun⟨p,hp,e⟩=>hd2 p hp e.symm)).row,y2.lt⟩ (hd2 x hxn) hnw;have hi0:(0:Int)<=(x:Int):=by omega
  have hi1:(x:Int)<(n:Int):=by omega
  have hmix:Tryz.prog.follows Departure.mixedOrders=true:=by kernel_rfl
  dsimp only
  gi_wp2
  gi_region_with_o (refine⟨trivial,?_⟩;gi_at_call 112;refine(CallsIn.inRound l (callsIn_wide.2 hj)).mono ?_;rintro e w' ⟨rfl,hp',hg'⟩)
  all_goals
   gi_wp2
   refine⟨KeepsFrom.of_grownBy (W:=W) (row:=some (fr x)) ⟨hg'.os,hg'.tape,hg'.output,hg'.size,hg'.block⟩ (fun j e=>by cases e;have:=hfl x hxn;omega),fun k hk=>?_,ht.grown (A:=W) (o:=some (fr x)) ⟨hg'.os,hg'.tape,hg'.output,hg'.size,hg'.block⟩ (fun g e=>by cases e;exact .inl ⟨x,hxn,rfl⟩),fun p hp=>?_⟩
   ·refine hg'.block k ?_ (fun e=>?_)
    ·have:=ht.size;have:=y1.glt;simp at hk;show k<W.heap.size;omega
    ·have e':k=fr x:=by simpa using e
     simp at hk;rcases hk with hk|hk
     ·exact hd0 x hxn (by omega)
     ·exact hd1 x hxn (by omega)
   ·rw[zbB]
    by_cases e:p=x
    ·subst e;rw[zst (by simp)];refine⟨?_,zpE (hF.rows p hp).lt h2.lt⟩;rw[hp'.row]
     congr 2
     refine zdW fun i _=>?_
     by_cases hin:p∈zbP pre
     ·rw[zst hin];unfold orT;rw[Nat.or_assoc,Nat.or_self]
     ·rw[zss hin]
    ·have hq:=hr p hp;have e2:(p∈zbP pre++[x])↔p∈zbP pre:=by simp[e]
     refine⟨(hg'.block (fr p) hq.glt (fun q=>e (hF.inj p x hp hxn (by simpa using q)))).trans ?_,?_⟩
     ·by_cases hin:p∈zbP pre
      ·rw[zst (e2.2 hin)];rw[zst hin] at hq;exact hq.row
      ·rw[zss (fun h=>hin (e2.1 h))];rw[zss hin] at hq;exact hq.row
     ·by_cases hin:p∈zbP pre
      ·rw[zst (e2.2 hin)];rw[zst hin] at hq;exact hq.lt
      ·rw[zss (fun h=>hin (e2.1 h))];rw[zss hin] at hq;exact hq.lt
 case done=>
  rintro D ys W hD hys ⟨ht,hr⟩ hK
  gi_wp2
  have hgp:=grownBy_putObj' W D (.deferred none);refine⟨by simp,.inl ⟨_,_,rfl,run_takeDeferred hK,?_⟩⟩;refine⟨.tuple #[],by simp[results,Tryz.results132,go_sem],rfl,⟨fun p hp=>?_,hF.inj⟩,(zan.of_below hb0).trans ?_⟩
  ·have hq:=hr p hp;have hpm:(p∈zbP ys)↔zae T1 p=true:=(hys p).trans ⟨fun h=>h.2,fun h=>⟨by omega,h⟩⟩;have hne:fr p≠D:=by have:=hfl p hp;omega
   have hrow:(W.putObj D (.deferred none)).heap[fr p]?=W.heap[fr p]?:=World.putObj_heap_other hne
   by_cases hb:zae T1 p=true
   ·rw[zst hb];rw[zst (hpm.2 hb)] at hq;exact⟨hrow.trans hq.row,hq.lt⟩
   ·rw[zss hb];rw[zss (fun h=>hb (hpm.1 h))] at hq;exact⟨hrow.trans hq.row,hq.lt⟩
  ·exact ht.grown hgp (fun g e=>.inr (by cases e;exact hD))
end
section
variable {nw:Nat}{T:Nat -> Nat}
attribute [local go_sem] Oper.semAt_some
def zeu(nw m:Nat):List Nat:=(List.range m).map fun i=>nw-1-i
theorem zev(nw m:Nat):zeu nw (m+1)=zeu nw m++[nw-1-m]:=by simp[zeu,List.range_succ]
abbrev BelN(nw:Nat):={k:Nat // k<nw}
def vlsB{nw:Nat}(l:List (BelN nw)):List Nat:=l.map Subtype.val
theorem zef(l:List (BelN nw))(x:BelN nw):vlsB (l++[x])=vlsB l++[x.1]:=by simp[vlsB]
def encW{nw:Nat}(T:Nat->Nat)(k:BelN nw):Array Value:=#[.int .i64 (k.1:Int),.int .u64 (T k.1:Int)]
theorem zod(n l nw g cap bx:Nat)(T:Nat->Nat)(hn:1<=n)(hnw:nw<=1000)(J Jx:List (BelN nw)->World->Prop)(W:World)
  (hY:∀pre x W1,J pre W1->pre.length<nw->YieldAt Fence.wide (n-1) Tryz.prog l (encW T x) W1 fun e W'=>
   (e=.returned (.bool true)/\J (pre++[x]) W'/\∀k∈[bx,g],W'.heap[k]?=W1.heap[k]?)\/(e=.returned (.bool false)/\Jx (pre++[x]) W'))
  (hb:W.heap[bx]?=some (.cells #[.slice (some ⟨g,0,none⟩) nw cap] 129 (0,0))) (hT:zal W nw g T) (h0:J [] W):
  CallsIn Fence.wide n Tryz.prog 126 #[.func (.yield l) #[] #[],.pointer (some ⟨bx,0,none⟩)] W fun e W'=>(∃v,e=.returned v)/\
   ((∃ys,vlsB ys=zeu nw nw/\J ys W')\/(∃pre,(∃m,m<nw/\vlsB pre=zeu nw (m+1))/\Jx pre W')):=by
 refine callsIn_of_wp Tryz.func126 rfl trivial ?_ rfl;simp only[Tryz.ntmps126,zr4,zrL,zrN,Nat.reduceAdd,Nat.reduceSub,zrd,zre,zr1,zrn,zrZ,zro];have c0:W.cell? ⟨bx,0,none⟩=some (.slice (some ⟨g,0,none⟩) nw cap):=(zsm _ _ _ _ _ _ hb:W.cell? ⟨bx,0,none⟩=_)
 gi_wp2
 clear c0
 gi_loopw [3] (fun i wr=>∃(m:Nat) (pre:List (BelN nw)),Hid (vlsB pre=zeu nw m)/\m<=nw/\i=.int .i64 ((nw:Int)-1-m)/\J pre wr/\wr.heap[bx]?=some (.cells #[.slice (some ⟨g,0,none⟩) nw cap] 129 (0,0))/\zal wr nw g T)
  (fun i _=>(intOf i+1).toNat)
 case atStart=>exact⟨0,[],rfl,zsj _,by simp,h0,hb,hT⟩
 case round=>
  clear hb hT h0;obtain⟨m,pre,Hp,hm,rfl,hJ,hb,hT⟩:=hrel
  by_cases hlt:m<nw
  case neg=>
   obtain rfl:m=nw:=by omega
   have hd:¬(0:Int)<=(m:Int)-1-(m:Int):=by omega
   have hd2:decide ((0:Int)<=(m:Int)-1-(m:Int))=false:=by simp;omega
   gi_wp2
   go_end0
   exact⟨⟨_,rfl⟩,.inl ⟨pre,Hp.out,hJ⟩⟩
  have c0:wr.cell? ⟨bx,0,none⟩=some (.slice (some ⟨g,0,none⟩) nw cap):=(zsm _ _ _ _ _ _ hb:wr.cell? ⟨bx,0,none⟩=_);obtain⟨k,hk⟩:∃k:Nat,(nw:Int)-1-m=k:=⟨nw-1-m,by omega⟩;have hkn:k<nw:=by omega
  have c1:=hT.cell hkn;have hi0:(0:Int)<=(k:Int):=by omega
  have hi1:(k:Int)<(nw:Int):=by omega
  obtain⟨fn,tmps,assign,body,hy,hR⟩:=hY pre ⟨k,hkn⟩ wr hJ (by have:=congrArg List.length Hp.out;simp[zeu,vlsB] at this;omega);have Hk:Hid ((nw:Int)-1-m=k):=hk;rw[hk];unfold encW at hy;clear hY hk
  gi_wp2
  refine hR.mono ?_;rintro e W3 (⟨rfl,hJ3,hk3⟩|⟨rfl,hJx3⟩)
  ·have hT3:zal W3 nw g T:=⟨(hk3 g (by simp)).trans hT.row,hT.lt⟩;have hb3:=(hk3 bx (by simp)).trans hb
   gi_wp2
   go_roundw
   case rel=>exact⟨m+1,pre++[⟨k,hkn⟩],by show _=_;rw[zef,Hp.out,zev,show nw-1-m=k by have:=Hk.out;omega],by omega,by congr 1;have:=Hk.out;omega,hJ3,hb3,hT3⟩
   case measure=>first|(simp[intOf];done)|(simp[intOf];omega)
  ·gi_wp2
   refine zsl (results_none rfl _ _ _) rfl ?_;exact⟨⟨_,rfl⟩,.inr ⟨_,⟨m,hlt,by rw[zef,Hp.out,zev,show nw-1-m=k by have:=Hk.out;omega]⟩,hJx3⟩⟩
theorem zla(n nw g cap bx:Nat)(T:Nat->Nat)(hn:1<=n)(hnw:nw<=1000)(w:World)(hb:w.heap[bx]?=some (.cells #[.slice (some ⟨g,0,none⟩) nw cap] 129 (0,0)))(hT:zal w nw g T):
  SeqR n Tryz.prog 126 #[] #[.pointer (some ⟨bx,0,none⟩)] (encW (nw:=nw) T) [bx,g] (fun ys:List (BelN nw)=>vlsB ys=zeu nw nw) (fun pre:List (BelN nw)=>∃m,m<nw/\vlsB pre=zeu nw (m+1)) nw w:=
 fun l J Jx W hW hY h0=>zod n l nw g cap bx T hn hnw J Jx W hY ((hW bx (by simp)).trans hb) ⟨(hW g (by simp)).trans hT.row,hT.lt⟩ h0
theorem zof(g nw cap:Nat)(w:World):
  Calls Tryz.prog 110 #[.slice (some ⟨g,0,none⟩) nw cap] w fun e w'=>e=.returned (.func (.func 126) #[] #[.pointer (some ⟨w.heap.size,0,none⟩)])/\w'=w.alloc (.cells #[.slice (some ⟨g,0,none⟩) nw cap] 129):=by
 go_enter Tryz.func110,Tryz.ntmps110
 go_wp2;go_ret;exact⟨rfl,rfl⟩
theorem zqf(x:Nat)(w:World)(hx:x<18446744073709551616):
  Calls Tryz.prog 111 #[.int .u64 x] w fun e w'=>e=.returned (.int .i64 (64-(Lib.bitLen x:Int)))/\w'=w:=by
 have hl:Lib.bitLen x<=64:=Lib.bitLen_le x 64 (zsa _) hx
 go_enter Tryz.func111,Tryz.ntmps111
 go_wp2_with (go_at_call 127;refine(zoM x _ hx).mono ?_;rintro e w1 ⟨rfl,rfl⟩)
 go_ret
 exact⟨rfl,rfl⟩
theorem zgx:∀(n x:Nat),x<=n->x≠0->x<2 ^ 64->∃k,Lib.bitLen x=k+1/\x.testBit k=true/\∀j,k<j->x.testBit j=false
 |0,x,h,h0,_=>by omega
 |n+1,x,h,h0,hx=>by
  by_cases h1:x=1
  ·subst h1;refine⟨0,by decide,by decide,fun j hj=>?_⟩;obtain⟨i,rfl⟩:∃i,j=i+1:=⟨j-1,by omega⟩;rw[Nat.testBit_succ];simp
  ·obtain⟨k,e,a,b⟩:=zgx n (x/2) (by omega) (by omega) (by omega);refine⟨k+1,by rw[Lib.bitLen_half x h0 hx,e];omega,by rw[Nat.testBit_succ];exact a,fun j hj=>?_⟩;obtain⟨i,rfl⟩:∃i,j=i+1:=⟨j-1,by omega⟩;rw[Nat.testBit_succ];exact b i (by omega)
def zkf(nw:Nat)(T:Nat->Nat)(v:Int):Prop:=(v=-1/\∀p,p<64*nw->zae T p=false)\/∃p:Nat,v=p/\p<64*nw/\zae T p=true/\∀q,p<q->q<64*nw->zae T q=false
theorem zow{m:Nat}(hm:m<nw)(hz:∀k∈zeu nw m,T k=0)(hl:∀i,T i<18446744073709551616)(h0:T (nw-1-m)≠0):zkf nw T (((nw-1-m:Nat):Int)*64+63-(64-(Lib.bitLen (T (nw-1-m)):Int))):=by
 obtain⟨k,e,a,b⟩:=zgx _ _ (zsa _) h0 (hl (nw-1-m));have hk:k<64:=by
  rcases zsd k 64 with h|h
  ·exact h
  ·rw[Nat.testBit_lt_two_pow (zsc (hl (nw-1-m)) (show 2 ^ 64<=2 ^ k from Nat.pow_le_pow_right (by decide) h))] at a;cases a
 refine .inr ⟨(nw-1-m)*64+k,by rw[e];omega,by omega,?_,fun q hq hq2=>?_⟩
 ·unfold zae;rw[show ((nw-1-m)*64+k)/64=nw-1-m by omega,show ((nw-1-m)*64+k)%64=k by omega];exact a
 ·unfold zae;rcases zsd (nw-1-m) (q/64) with h|h
  ·have:T (q/64)=0:=hz _ (by
    unfold zeu;exact zrV.2 ⟨nw-1-q/64,zrX.2 (by omega),by omega⟩)
   rw[this];simp
  ·have:q/64=nw-1-m:=by omega
   rw[this];exact b _ (by omega)
theorem zlr(hz:∀k∈zeu nw nw,T k=0):zkf nw T (-1):=
 .inl ⟨rfl,fun p hp=>by
  unfold zae;rw[hz (p/64) (by
   unfold zeu;exact zrV.2 ⟨nw-1-p/64,zrX.2 (by omega),by omega⟩)]
  simp⟩
theorem zdK(nw g cap:Nat)(T:Nat->Nat)(w:World)(h:zal w nw g T)(hnw:nw<=1000):
  Calls Tryz.prog 90 #[.slice (some ⟨g,0,none⟩) nw cap] w fun e w'=>∃v:Int,e=.returned (.int .i64 v)/\zkf nw T v/\Below w.heap.size w w':=by
 refine(callsIn_wide (n:=5)).1 ?_;refine callsIn_of_wp_marks Tryz.func90 rfl trivial ?_ rfl;simp only[Tryz.ntmps90,zr4,zrL,zrN,Nat.reduceAdd,Nat.reduceSub,zrd,zre,zr1,zrn,zrZ,zro]
 gi_wp2_with (refine⟨trivial,?_⟩;gi_at_call 110;refine(callsIn_wide.2 (zof g nw cap _)).mono ?_;rintro e w1 ⟨rfl,rfl⟩)
 obtain⟨W0,hW0⟩:∃W0,(w.alloc (.cells #[.int .i64 0] 3)).alloc (.cells #[.slice (some ⟨g,0,none⟩) nw cap] 129)=W0:=⟨_,rfl⟩;have hb0:Below w.heap.size w W0:=by rw[<-hW0];exact((Below.refl _ _).alloc (zsa _) _).alloc (by simp) _
 have x0:W0.heap[w.heap.size]?=some (.cells #[.int .i64 0] 3 (0,0)):=by rw[<-hW0];exact zah (zsp _ _)
 have x1:W0.heap[w.heap.size+1]?=some (.cells #[.slice (some ⟨g,0,none⟩) nw cap] 129 (0,0)):=by
  rw[<-hW0];have:=zsp (w.alloc (.cells #[.int .i64 0] 3)) (.cells #[.slice (some ⟨g,0,none⟩) nw cap] 129)
  simpa using this
 have yg:zal W0 nw g T:=h.below hb0;have hgl:=h.glt;have hs1:w.heap.size+1<W0.heap.size:=(zrc.1 x1).1;rw[hW0];clear hW0;refine zbS (by omega) (gf:=126) (fb:=#[]) (lb:=#[.pointer (some ⟨w.heap.size+1,0,none⟩)]) rfl (enters_of Tryz.func126 (by kernel_rfl) rfl)
  (T:=[w.heap.size+1,g]) (by intro k hk;simp at hk;omega)
  (zla 4 nw g cap (w.heap.size+1) T (by omega) hnw W0 x1 yg) (fun _=>rfl)
  (fun pre W=>(∀k∈vlsB pre,T k=0)/\zan (fun k=>k=w.heap.size) W0 W/\W.heap[w.heap.size]?=some (.cells #[.int .i64 0] 3 (0,0)))
  (fun c pre W=>c=.ret/\∃(pre':List (BelN nw)) (x:BelN nw),pre=pre'++[x]/\(∀k∈vlsB pre',T k=0)/\T x.1≠0/\zan (fun k=>k=w.heap.size) W0 W/\W.heap[w.heap.size]?=some (.cells #[.int .i64 ((x.1:Int)*64+63-(64-(Lib.bitLen (T x.1):Int)))] 3 (0,0)))
  (fun s A B hs ht=>⟨hs.1,hs.2.1.turn ht,ht.same _ _ hs.2.2 (.inr rfl)⟩)
  (fun c s A B hs ht=>by
   obtain⟨h1,p,x,h2,h3,h4,h5,h6⟩:=hs;exact⟨h1,p,x,h2,h3,h4,h5.turn ht,ht.same _ _ h6 (.inr rfl)⟩)
  ⟨fun k hk=>by simp[vlsB] at hk,zan.refl _ _,x0⟩
  (fun x=>{tmps:=#[.slice (some ⟨g,0,none⟩) nw cap,undef,.pointer (some ⟨w.heap.size,0,none⟩),.int .i64 (x.1:Int),.int .u64 (T x.1:Int),.slice (some ⟨g,0,none⟩) nw cap,.func (.func 126) #[] #[.pointer (some ⟨w.heap.size+1,0,none⟩)],.int .i64 (x.1:Int),.int .u64 (T x.1:Int),undef,undef,undef,undef,undef,undef,undef,undef],defers:=[]})
  ?assign ?body ?done ?stop
 case assign=>
  intro l x W K hK;unfold encW
  gi_wp2
  exact hK
 case stop=>
  rintro D c pre W hD ⟨m,hm,hpre⟩ ⟨rfl,p,x,rfl,h3,h4,h5,h6⟩ hK;rw[zef,zev] at hpre;obtain⟨e1,e2⟩:=List.append_inj' hpre rfl;have ex:x.1=nw-1-m:=by simpa using e2
  have c0:W.cell? ⟨w.heap.size,0,none⟩=some (.int .i64 ((x.1:Int)*64+63-(64-(Lib.bitLen (T x.1):Int)))):=(zsm _ _ _ _ _ _ h6:W.cell? ⟨w.heap.size,0,none⟩=_);have c1:(W.putObj D (.deferred none)).cell? ⟨w.heap.size,0,none⟩=some (.int .i64 ((x.1:Int)*64+63-(64-(Lib.bitLen (T x.1):Int)))):=(show (W.putObj D (.deferred none)).cell? ⟨w.heap.size,0,none⟩=W.cell? ⟨w.heap.size,0,none⟩ from World.cell?_of_block (World.putObj_heap_other (by show w.heap.size≠D;omega))).trans c0;have htf:=h5.grown (grownBy_putObj' W D (.deferred none)) (fun g e=>.inr (by cases e;omega));have hgr:zkf nw T ((x.1:Int)*64+63-(64-(Lib.bitLen (T x.1):Int))):=by
   have:=zow hm (fun k hk=>h3 k (by rw[e1];exact hk)) h.lt (by rw[<-ex];exact h4);rw[<-ex] at this;exact this
  generalize (x.1:Int)*64+63-(64-(Lib.bitLen (T x.1):Int))=v at *
  gi_wp2
  refine⟨by simp,.inl ⟨_,_,rfl,run_takeDeferred hK,?_⟩⟩;refine⟨.int .i64 v,by simp[results,Tryz.results90,go_sem,c1],v,rfl,hgr,?_⟩;exact⟨htf.os.trans hb0.os,htf.tape.trans hb0.tape,htf.output.trans hb0.output,zsb hb0.size htf.size,fun k hk=>(htf.same k (by omega) (by omega)).trans (hb0.block k hk)⟩
 case body=>
  rintro l pre ⟨x,hx⟩ W hl ⟨h1,ht,hr⟩ hlen;have c0:W.cell? ⟨w.heap.size,0,none⟩=some (.int .i64 0):=(zsm _ _ _ _ _ _ hr:W.cell? ⟨w.heap.size,0,none⟩=_);have f0:=zso _ _ 0 _ _ hr;have t0:=h.lt x;dsimp only
  by_cases hz:T x=0
  ·rw[hz]
   gi_wp2
   refine⟨⟨zsa _,fun _ _ _ h _=>h⟩,fun _ _=>rfl,fun k hk=>?_,ht,hr⟩;rw[zef] at hk;rcases zrR.1 hk with hk|hk
   ·exact h1 k hk
   ·rw[zrY.1 hk];exact hz
  ·have hne:((T x:Int) != 0)=true:=by simp;omega
   have hlz:=fun W=>zqf (T x) W t0
   have hbl:Lib.bitLen (T x)<=64:=Lib.bitLen_le (T x) 64 (zsa _) t0;have HT:Hid (T x≠0):=hz;have hrow:=zsr _ _ 0 _ _ (.int .i64 ((x:Int)*64+63-(64-(Lib.bitLen (T x):Int)))) hr
   gi_wp2_with (refine⟨trivial,?_⟩;gi_at_call 111;refine(CallsIn.inRound l (callsIn_wide.2 (hlz _))).mono ?_;rintro e w' ⟨rfl,rfl⟩)
   exact⟨(KeepsOthers.setCell _ _ _).from _,rfl,pre,⟨x,hx⟩,rfl,h1,HT.out,ht.grown (zaK _ _ _ _) (fun g e=>by cases e;exact .inl rfl),hrow⟩
 case done=>
  rintro D ys W hD hys ⟨h1,ht,hr⟩ hK;have f0:=zso _ _ 0 _ _ hr;have c0:W.cell? ⟨w.heap.size,0,none⟩=some (.int .i64 0):=(zsm _ _ _ _ _ _ hr:W.cell? ⟨w.heap.size,0,none⟩=_);have hrow:=zsr _ _ 0 _ _ (.int .i64 (-1)) hr;have hKs:(W.setCell ⟨w.heap.size,0,none⟩ (.int .i64 (-1))).heap[D]?=some (.deferred (some [])):=(zsq _ _ _ _ (by show D≠w.heap.size;omega)).trans hK;have htf:=(ht.grown (zaK W w.heap.size 0 (.int .i64 (-1))) (fun g e=>by cases e;exact .inl rfl)).grown (grownBy_putObj' _ D (.deferred none)) (fun g e=>.inr (by cases e;omega));have c1:((W.setCell ⟨w.heap.size,0,none⟩ (.int .i64 (-1))).putObj D (.deferred none)).cell? ⟨w.heap.size,0,none⟩=some (.int .i64 (-1)):=(show _=(W.setCell ⟨w.heap.size,0,none⟩ (.int .i64 (-1))).cell? ⟨w.heap.size,0,none⟩ from World.cell?_of_block (World.putObj_heap_other (by show w.heap.size≠D;omega))).trans (zsm _ _ _ _ _ _ hrow:_=_);have hgr:=zlr (T:=T) (nw:=nw) (fun k hk=>h1 k (by rw[hys];exact hk))
  gi_wp2
  refine⟨by simp,.inl ⟨_,_,rfl,run_takeDeferred hKs,?_⟩⟩;refine⟨.int .i64 (-1),by simp[results,Tryz.results90,go_sem,c1],-1,rfl,hgr,?_⟩;exact⟨htf.os.trans hb0.os,htf.tape.trans hb0.tape,htf.output.trans hb0.output,zsb hb0.size htf.size,fun k hk=>(htf.same k (by omega) (by omega)).trans (hb0.block k hk)⟩
theorem zhn(p:Nat)(w:World)(hp:p<=4096):
  Calls Tryz.prog 65 #[.int .i64 p] w fun e w'=>∃U:Nat->Nat,e=.returned (.slice (some ⟨w.heap.size,0,none⟩) (p/64+1) (p/64+1))/\zal w' (p/64+1) w.heap.size U/\(∀q,zae U q=true↔q=p)/\Below w.heap.size w w':=by
 obtain⟨i0,hi,hz0,hz1,hz2⟩:=info_parts Tryz.infoU64;have e1:(p:Int)/64=((p/64:Nat):Int):=by omega
 have hq:p<64*(p/64+1):=by omega
 obtain⟨nw,hnw⟩:∃nw,p/64+1=nw:=⟨_,rfl⟩;have e2:(p:Int)/64+1=(nw:Int):=by omega
 rw[hnw] at hq ⊢;have hn9:nw<=1000:=by omega
 have hadd:=fun(W:World) (T:Nat->Nat) (h:W.heap[w.heap.size]?=some (.cells (zca nw T) 185 (0,0))) (hT:Hid (∀i,T i<18446744073709551616))=>zdH nw w.heap.size nw T p W h hq hn9 hT
 clear hnw e1
 go_enter Tryz.func65,Tryz.ntmps65
 go_wp2_with (refine wpList_make_full _ rfl _ _ 129 rfl w.heap.size 185 i0 _ 1 Tryz.underlying129 hi hz0 hz1 _ _ _ _ nw rfl rfl (by first|rfl|(simp[e2];done)|omega) (by first|rfl|(simp[e2];done)|omega) (by rw[hz2];omega) (by unfold maxLen;omega) (zsa _) ?_;intro w1 hown hgrow)
 have h1:w1.heap[w.heap.size]?=some (.cells (zca nw zaQ) 185 (0,0)):=by rw[zfR hown,zdN]
 have hb1:Below w.heap.size w w1:=(Below.refl _ _).grown hgrow (zsa _) (by intro k h;cases h);refine(hadd w1 zaQ h1 (fun _=>by simp[zaQ])).mono ?_;rintro e w2 ⟨rfl,hr2,hg2⟩;have hb2:=hb1.grown hg2 hb1.size (by intro k h;cases h;exact zsa _);clear hadd h1 hown hgrow;go_wp2;go_ret;exact⟨addT zaQ p,rfl,⟨hr2,zeq zaQ (fun _=>by simp[zaQ]) p⟩,fun q=>by rw[zdn,zbL];simp,hb2⟩
end
variable {P:Program}{es:List (Int×Int)}{k:Int}
attribute [local go_sem ↓] Go.wp_at_zero Go.wp_at_succ
def moL(es:List (Int×Int)):List MapEntry:=es.zipIdx.map fun x=>{key:=.int .i64 x.1.1,val:=.int .i64 x.1.2,born:=x.2}
def moE(es:List (Int×Int)):Array MapEntry:=(moL es).toArray
def za4(es:List (Int×Int)):List Int:=es.map Prod.fst
def mvG(es:List (Int×Int))(k:Int):Int:=(es.map Prod.snd).getD (idxR (za4 es) k) 0
theorem zoS(es:List (Int×Int))(k v:Int):(moE es).push {key:=.int .i64 k,val:=.int .i64 v,born:=es.length}=moE (es++[(k,v)]):=by
 simp[moE,moL,List.zipIdx_append]
theorem zpC(k:Int):∀(es:List (Int×Int)) (i:Nat),Instr.findNow (.int .i64) (.int .i64 k) ((es.zipIdx i).map fun x=>{key:=.int .i64 x.1.1,val:=.int .i64 x.1.2,born:=x.2}) i=some (if idxR (za4 es) k<es.length then some (i+idxR (za4 es) k,.int .i64 (mvG es k)) else none)
 |[],i=>by simp[Instr.findNow,idxR,za4]
 |x::es,i=>by
  rw[List.zipIdx_cons,zrQ];unfold Instr.findNow
  by_cases e:k=x.1
  ·have h0:idxR (za4 (x::es)) k=0:=by simp[idxR,za4,List.findIdx_cons,e]
   have h1:mvG (x::es) k=x.2:=by unfold mvG;rw[h0];rfl
   rw[h0,h1];simp[Instr.sameNow,e]
  ·have h0:idxR (za4 (x::es)) k=idxR (za4 es) k+1:=by simp[idxR,za4,List.findIdx_cons,e]
   have h1:mvG (x::es) k=mvG es k:=by unfold mvG;rw[h0];rfl
   have ih:=zpC k es (i+1);rw[h0,h1];have hb:(k==x.1)=false:=zsk.2 e;simp only[Instr.sameNow,hb];rw[ih];simp only[zrL,Nat.add_lt_add_iff_right];rw[show i+1+idxR (za4 es) k=i+(idxR (za4 es) k+1) by omega]
   rfl
theorem zkE(es:List (Int×Int))(k:Int):idxR (za4 es) k<es.length↔k∈za4 es:=by
 have:=zc4 (ks:=za4 es) (k:=k);unfold za4 at this ⊢;rw[zrM] at this;exact this
theorem zne{kt:TypeId}(w:World)(hu:P.underlying kt=some (.int .i64))(es:List (Int×Int))(k:Int):(Instr.findKey kt (.int .i64 k) (moL es)).run P w=.ok (if k∈za4 es then some (idxR (za4 es) k,.int .i64 (mvG es k)) else none) w:=by
 refine MapKept.run_findKey hu ?_;have:=zpC k es 0;simp only[zsi] at this;unfold moL;rw[this]
 by_cases h:k∈za4 es
 ·rw[zst h,zst ((zkE es k).2 h)]
 ·rw[zss h,zss (fun e=>h ((zkE es k).1 e))]
theorem zng(h:k∉za4 es):mvG es k=0:=by
 unfold mvG;rw[zrw,zrE]
 ·rfl
 ·rw[zrM];exact Nat.le_of_not_lt fun e=>h ((zkE es k).1 e)
theorem znf{mt kt et:TypeId}(w:World)(hm:P.underlying mt=some (.map kt et))(hu:P.underlying kt=some (.int .i64))(hz:(zeroValue et).run P w=.ok (.int .i64 0) w)(r:Nat)(es:List (Int×Int))(k:Int)(hg:w.heap[r]?=some (.map (moE es) es.length)):
  (Instr.lookup mt (.map (some r)) (.int .i64 k) true).run P w=.ok (.tuple #[.int .i64 (mvG es k),.bool (decide (k∈za4 es))]) w:=by
 have hc:∀e:Bool,(Instr.checkKey e 10000 kt (.int .i64 k)).run P w=.ok () w:=fun e=>MapKept.run_checkKey hu (by simp[MapKept.IsKey]) e 9999
 unfold Instr.lookup;simp only[Sem.run_bind,run_underlying hm,Result.andThen_ok,MapKept.run_getObj_map hg,Sem.run_pure,hc];rw[show (moE es).toList=moL es by simp[moE],zne w hu]
 by_cases h:k∈za4 es
 ·rw[zst h];simp[h]
 ·rw[zss h];simp[h,hz,zng h]
theorem zqN{mt kt et:TypeId}(w:World)(hm:P.underlying mt=some (.map kt et))(hu:P.underlying kt=some (.int .i64))(r:Nat)(es:List (Int×Int))(k v:Int)(hk:k∉za4 es)(hg:w.heap[r]?=some (.map (moE es) es.length)):
  (Instr.mapUpdate mt (.map (some r)) (.int .i64 k) (.int .i64 v)).run P w=.ok () {w with heap:=w.heap.setIfInBounds r (.map (moE (es++[(k,v)])) (es++[(k,v)]).length)}:=by
 have hc:∀e:Bool,(Instr.checkKey e 10000 kt (.int .i64 k)).run P w=.ok () w:=fun e=>MapKept.run_checkKey hu (by simp[MapKept.IsKey]) e 9999
 unfold Instr.mapUpdate;simp only[Sem.run_bind,run_underlying hm,Result.andThen_ok,MapKept.run_getObj_map hg,hc];rw[show (moE es).toList=moL es by simp[moE],zne w hu,zss hk];simp only[Result.andThen_ok,MapKept.run_setObj_map _ hg,zoS];simp
theorem zij{v:Int}(h:k∉za4 es):mvG (es++[(k,v)]) k=v:=by
 have e:idxR (za4 (es++[(k,v)])) k=es.length:=by
  have h1:za4 (es++[(k,v)])=za4 es++[k]:=by simp[za4]
  rw[h1];unfold idxR;rw[List.findIdx_append,zss (by rw[List.findIdx_lt_length];rintro ⟨x,hx,e⟩;exact h (by rw[of_decide_eq_true e];exact hx))];simp[za4]
 unfold mvG;rw[e];simp
end Go.Proofs.YthdljcdbfmhleaaGreatDoor
