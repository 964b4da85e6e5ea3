import Derived.Test.YtfajjdgkiilhfaaGreatDoorC43
import Derived.Test.YtfajjdgkiilhfaaGreatDoorC45
namespace Go.Proofs.YtfajjdgkiilhfaaGreatDoor
open Proofs.Tryz
open Option renaming some->za,none->zb
open RowKit renaming Hid->zc,Below->zi
open Value renaming int->zd,slice->ze,pointer->zk
open Obj renaming cells->zf
open Go renaming World->zg,Value->zh,Calls->zj
set_option maxHeartbeats 4000000
set_option maxRecDepth 100000
open Go.RowKit
attribute [local go_sem ↓] wp_at_zero wp_at_succ
def zP(T:Nat->Nat)(s:Nat):Nat:=(T (s/64)/2 ^ (s%64)) ||| (T (s/64+1)*2 ^ (64-s%64)%18446744073709551616)
theorem zrY(T:Nat->Nat)(hT:∀i,T i<18446744073709551616)(s:Nat):zP T s<18446744073709551616:=
 Nat.or_lt_two_pow (n:=64) (Nat.lt_of_le_of_lt (Nat.div_le_self _ _) (hT _)) (Nat.mod_lt _ (by omega))
theorem ztt(T:Nat->Nat)(hT:∀i,T i<18446744073709551616)(s i:Nat)(hi:i<64):(zP T s).testBit i=oQ T (s+i):=by
 unfold zP oQ;rw[Nat.testBit_or,Nat.testBit_div_two_pow,show (18446744073709551616:Nat)=2 ^ 64 from rfl,Nat.testBit_mod_two_pow,Nat.testBit_mul_two_pow]
 by_cases h:s%64+i<64
 ·have e1:(s+i)/64=s/64:=by omega
  have e2:(s+i)%64=i+s%64:=by omega
  have e3:¬64-s%64<=i:=by omega
  rw[e1,e2];simp[e3]
 ·have e1:(s+i)/64=s/64+1:=by omega
  have e2:(s+i)%64=i-(64-s%64):=by omega
  have e3:64-s%64<=i:=by omega
  have e4:(T (s/64)).testBit (i+s%64)=false:=Nat.testBit_lt_two_pow (dR (hT _) (by
   have:2 ^ 64<=2 ^ (i+s%64):=Nat.pow_le_pow_right (by omega) (by omega);exact this))
  rw[e1,e2,e4];simp[e3,hi]
theorem zrZ(p g cap:Nat)(T:Nat->Nat)(u1 u2:zh)(s:Nat)(w:zg)(hp:w.heap[p]?=za (zf #[ze (za ⟨g,0,zb⟩) 943 cap,u1,u2] 58 (0,0)))(hg:w.heap[g]?=za (zf (qk 943 T) 107 (0,0)))(hs:s<60288)(hT:zc (∀i,T i<18446744073709551616)):
  zj prog 64 #[zk (za ⟨p,0,zb⟩),zd .i64 s] w λe w'=>e=.returned (.int .u64 (zP T s:Int))/\∃n,w'=w.drewN n:=by
 have c0:w.cell? ⟨p,0,zb⟩=za (ze (za ⟨g,0,zb⟩) 943 cap):=cG hp 0;have d0:w.cell? ⟨g,s/64,zb⟩=za (.int .u64 (T (s/64):Int)):=by rw[iY _ _ _ _ _ _ hg,zip _ _ (by omega)]
 have d1:w.cell? ⟨g,s/64+1,zb⟩=za (.int .u64 (T (s/64+1):Int)):=by rw[iY _ _ _ _ _ _ hg,zip _ _ (by omega)]
 have t0:=hT.out (s/64);have t1:=hT.out (s/64+1);have e1:(s:Int)/64=((s/64:Nat):Int):=by omega
 have e2:(s:Int)%64=((s%64:Nat):Int):=by omega
 have l1:s/64<942:=by omega
 have l2:s%64<64:=by omega
 have HW:zc (zP T s=(T (s/64)/2 ^ (s%64)) ||| (T (s/64+1)*2 ^ (64-s%64)%18446744073709551616)):=rfl;generalize zP T s=wn at *;generalize T (s/64)=a at *;generalize T (s/64+1)=b at *;generalize hq:s/64=q at *;generalize hr:s%64=r at *;have i1:(q:Int)<943:=by omega
 have i2:(q:Int)+1<943:=by omega
 have i3:(0:Int)<=(q:Int):=by omega
 clear hq hr hp hg hT
 go_enter func64,ntmps64
 go_wp2
 go_quiet (fail)
 go_wp2;go_ret;refine⟨ew ?_,_,rfl⟩;rw[HW.out];have k1:((a:Int)/2 ^ r)=((a/2 ^ r:Nat):Int):=by simp
 have k2:((b:Int)*2 ^ (64-r))=((b*2 ^ (64-r):Nat):Int):=by simp
 rw[k1,k2,zkw,zq1 _ _ (Nat.lt_of_le_of_lt (Nat.div_le_self _ _) t0) (Nat.mod_lt _ (by omega))]
theorem zvh(g cap:Nat)(T:Nat->Nat)(p:Nat)(w:zg)(hg:w.heap[g]?=za (zf (qk 943 T) 107 (0,0)))(hp:p<60288)(hT:zc (∀i,T i<18446744073709551616)):
  zj prog 48 #[ze (za ⟨g,0,zb⟩) 943 cap,zd .i64 p] w λe w'=>e=.returned (.tuple #[])/\w'.heap[g]?=za (zf (qk 943 (tz T p)) 107 (0,0))/\(∀k,k≠g->w'.heap[k]?=w.heap[k]?)/\w'.os=w.os/\w'.tape=w.tape/\w'.output=w.output/\w'.heap.size=w.heap.size:=by
 have d0:w.cell? ⟨g,p/64,zb⟩=za (.int .u64 (T (p/64):Int)):=by rw[iY _ _ _ _ _ _ hg,zip _ _ (by omega)]
 have f0:=aM _ _ (p/64) _ _ hg;have t0:=hT.out (p/64);have e1:(p:Int)/64=((p/64:Nat):Int):=by omega
 have e2:(p:Int)%64=((p%64:Nat):Int):=by omega
 have l1:p/64<942:=by omega
 have l2:p%64<64:=by omega
 have HN:zc (((w.setCell ⟨g,p/64,zb⟩ (.int .u64 ((T (p/64) ||| 2 ^ (p%64):Nat):Int))).heap[g]?=za (zf (qk 943 (tz T p)) 107 (0,0)))):=by
  have:=cJ w g (p/64) _ _ (.int .u64 ((T (p/64) ||| 2 ^ (p%64):Nat):Int)) hg;rw[zrW]at this;exact this
 generalize tz T p=T' at *;generalize T (p/64)=a at *;generalize hq:p/64=q at *;generalize hr:p%64=r at *;have i1:(q:Int)<943:=by omega
 have i3:(0:Int)<=(q:Int):=by omega
 have hv:bits BinOp.or IntKind.u64 (a:Int) (IntKind.u64.wrap (2 ^ r))=((a ||| 2 ^ r:Nat):Int):=by
  have h2:2 ^ r<18446744073709551616:=Nat.pow_lt_pow_right (a:=2) (n:=64) (by omega) l2;rw[show (2:Int) ^ r=((2 ^ r:Nat):Int) by simp,zkw,FH h2,zq1 _ _ t0 h2]
 rw[<-hv]at HN;clear hv hq hr hg hT t0
 go_enter func48,ntmps48
 go_wp2
 go_region
 all_goals
  go_wp2
  go_end0
  exact⟨rfl,HN.out,λk hk=>bh _ _ _ _ hk,rfl,rfl,rfl,by simp[World.setCell]⟩
section
variable {T:Nat -> Nat}{base B:Nat}{cs:List Nat}
def uh(T:Nat->Nat)(aU:List Nat)(j:Nat):Bool:=aU.all λc=>!oQ T (j+c)
structure rR(T:Nat->Nat)(base:Nat)(cs:List Nat)(B:Nat):Prop where
 lt:B<18446744073709551616
 bit:∀i,i<64->B.testBit i=cs.any λc=>oQ T (base+c+i)
theorem rR.nil(T:Nat->Nat)(base:Nat):rR T base [] 0:=⟨by omega,λi _=>by simp⟩
theorem rR.snoc(h:rR T base cs B)(hT:∀i,T i<18446744073709551616)(c:Nat):rR T base (cs++[c]) (B ||| zP T (base+c)):=
 ⟨Nat.or_lt_two_pow (n:=64) h.lt (zrY T hT _),λi hi=>by rw[Nat.testBit_or,h.bit i hi,ztt T hT _ _ hi];simp⟩
theorem rR.fits(h:rR T base cs B){i:Nat}(hi:i<64):uh T cs (base+i)=!B.testBit i:=by
 rw[h.bit i hi];unfold uh;rw[List.not_any_eq_all_not]
 congr 1
 funext c
 rw[show base+i+c=base+c+i by omega]
theorem zj6{i:Nat}(h:B<18446744073709551616)(hi:i<64):(18446744073709551615-B).testBit i=!B.testBit i:=by
 have e:18446744073709551615-B=2 ^ 64-(B+1):=by omega
 rw[e,Nat.testBit_two_pow_sub_succ h];simp[hi]
theorem rR.free(h:rR T base cs B)(h0:0<18446744073709551615-B):∃k t,18446744073709551615-B=2 ^ k*(2*t+1)/\k<64/\uh T cs (base+k)=true/\∀j,j<k->uh T cs (base+j)=false:=by
 obtain⟨k,t,hk⟩:=zn1 _ _ (aq _) h0;have L:Low (18446744073709551615-B) k:=by rw[hk];exact zvu k t
 have XX:k<64:=by
  rcases iX k 64 with h1|h1
  ·exact h1
  ·have h2:2 ^ 64<=2 ^ k:=Nat.pow_le_pow_right (by omega) h1;have h3:2 ^ k<=18446744073709551615-B:=by rw[hk];exact Nat.le_mul_of_pos_right _ (by omega)
   omega
 refine⟨k,t,hk,XX,?_,λj hj=>?_⟩
 ·rw[h.fits XX,<-zj6 h.lt XX];exact L.bit
 ·rw[h.fits (by omega),<-zj6 h.lt (by omega)];exact L.low j hj
theorem rR.full(h:rR T base cs B)(h0:18446744073709551615-B=0):∀j,j<64->uh T cs (base+j)=false:=λj hj=>by
 rw[h.fits hj,<-zj6 h.lt hj,h0];simp
theorem zvd(B:Nat)(hB:B<18446744073709551616):bits BinOp.xor IntKind.u64 IntKind.u64.max (B:Int)=((18446744073709551615-B:Nat):Int):=by
 have h1:(BitVec.ofInt 64 IntKind.u64.max ^^^ BitVec.ofInt 64 (B:Int)).toNat=18446744073709551615-B:=by
  rw[show BitVec.ofInt 64 IntKind.u64.max=BitVec.allOnes 64 by decide,BitVec.allOnes_xor,BitVec.ofInt_natCast,BitVec.toNat_not,BitVec.toNat_ofNat,FH (by omega)]
 show IntKind.u64.wrap ((BitVec.ofInt 64 IntKind.u64.max ^^^ BitVec.ofInt 64 (B:Int)).toNat:Int)=_;rw[h1];simp[IntKind.wrap,IntKind.bits,IntKind.signed];omega
theorem zmK{lo:Nat}(p g cap:Nat)(T:Nat->Nat)(u1 u2 v:zh)(aU:List Nat)(len:Nat)(w:zg)(hp:w.heap[p]?=za (zf #[ze (za ⟨g,0,zb⟩) 943 cap,u1,u2] 58 (0,0)))(hg:w.heap[g]?=za (zf (qk 943 T) 107 (0,0)))
  (hs:dD lo w v (aU.map λc:Nat=>(c:Int))) (h0:0<aU.length) (h1:aU.length<=256) (hT:zc (∀i,T i<18446744073709551616)) (hc:zc (∀c∈aU,c<256)) (hlen:len<=60000) (hF:zc (∀s,len<=s->oQ T s=false)) (hB:zc (Dg w)):
  zj prog 47 #[zk (za ⟨p,0,zb⟩),v] w λe w'=>(∃k:Nat,e=.returned (zd .i64 (k:Int))/\k<=60095/\uh T aU k=true/\∀j,j<k->uh T aU j=false)/\zi w.heap.size w w':=by
 obtain⟨ao,A0,rfl,hm,aV⟩:=hs;obtain⟨b,o,rfl,_,bF,hcell⟩:=aV (by simpa using h0);rw[lX]at *;have Hc:zc (∀i,i<aU.length->∃c:Nat,aU[i]?=za c/\c<256/\w.cell? ⟨b,o+i,zb⟩=za (zd .i64 (c:Int))):=λi hi=>by
  refine⟨aU[i],by simp,hc.out _ (gA _),?_⟩;rw[hcell i hi];simp[List.getD,hi]
 clear hcell aV hc;have Yp:=λn s (hs:s<60288)=>zrZ p g cap T u1 u2 s (w.drewN n) (by simpa using hp) (by simpa using hg) hs hT
 have Hp:zc (∀(n s:Nat),s<60288->zj prog 64 #[zk (za ⟨p,0,zb⟩),zd .i64 (s:Int)] (w.drewN n) λe w'=>e=.returned (.int .u64 (zP T s:Int))/\∃m,w'=(w.drewN n).drewN m):=Yp;clear Yp hp hg
 go_enter func47,ntmps47
 go_wp2
 go_loopw [5] (λbv wr=>∃(r n:Nat),bv=zd .i64 ((64*r:Nat):Int)/\r<=938/\wr=w.drewN n/\zc (∀j,j<64*r->uh T aU j=false))
  (λbv _=>60032-(intOf bv).toNat)
 case atStart=>exact⟨0,0,rfl,by omega,rfl,λj hj=>by omega⟩
 case round=>
  obtain⟨r,n,rfl,hr,rfl,HN⟩:=hrel;generalize fW:64*r=base at *;have Qc:zc (64*r=base):=fW;have zC8:base<=60032:=by omega
  clear fW;go_wp2
  go_loopw [6,14] (λkv i wr=>∃(m B n2:Nat),m<=aU.length/\i=zd .i64 m/\kv=.int .u64 (B:Int)/\wr=w.drewN n2/\zc (rR T base (aU.take m) B))
   (λ_ i _=>aU.length-(intOf i).toNat)
  case atStart=>exact⟨0,0,n,by omega,rfl,rfl,rfl,rR.nil _ _⟩
  case round=>
   obtain⟨m,B,n2,uM,rfl,rfl,rfl,HB⟩:=hrel
   by_cases hlt:m<aU.length
   ·obtain⟨c,pO,jE,Cg⟩:=Hc.out m hlt;have c0:(w.drewN n2).cell? ⟨b,o+m,zb⟩=za (zd .i64 (c:Int)):=by simpa using Cg
    have cW:=Hp.out n2 (base+c) (by omega);rw[Int.natCast_add]at cW;have jB:zc (rR T base (aU.take (m+1)) (B ||| zP T (base+c))):=by
     have e:aU.take (m+1)=aU.take m++[c]:=by
      have:aU[m]=c:=by rw[bE hlt]at pO;exact Option.some.inj pO
      rw[oh hlt,this]
     show rR _ _ _ _;rw[e];exact HB.out.snoc hT.out c
    have HO:zc (bits BinOp.or IntKind.u64 (B:Int) (zP T (base+c):Int)=((B ||| zP T (base+c):Nat):Int)):=zq1 _ _ HB.out.lt (zrY T hT.out _);have zDN:(m:Int)<(aU.length:Int):=by omega
    clear pO Cg
    go_wp2_with fail
    refine cW.mono ?_;rintro e wy ⟨rfl,m2,hw⟩;rw[World.drewN_drewN]at hw;subst hw;clear cW;go_wp2
    go_roundw
    case rel=>exact⟨m+1,_,n2+m2,by omega,by go_num,by rw[HO.out],rfl,jB.out⟩
    case measure=>simp[intOf];omega
   ·have xO:m=aU.length:=by omega
    have LK:zc (rR T base aU B):=by
     have h:=HB.out;rw[xO,sW]at h;exact h
    have hX:=zvd B LK.out.lt;have YA:IntKind.u64.signed=false:=rfl
    by_cases hz:0<18446744073709551615-B
    ·obtain⟨kk,tt,bO,bu,bQ,jf⟩:=LK.out.free hz;have cT:=zvX (18446744073709551615-B) kk tt (w.drewN n2) bO (by omega) hz bu (λi hi=>by simpa using hB.out i hi);have HR:zc (uh T aU (base+kk)=true/\∀j,j<base+kk->uh T aU j=false):=⟨bQ,λj hj=>by
      by_cases XW:j<base
      ·exact HN.out j XW
      ·have:=jf (j-base) (by omega);rw[show base+(j-base)=j by omega]at this;exact this⟩
     have hne:(bits BinOp.xor IntKind.u64 IntKind.u64.max (B:Int) != 0)=true:=by rw[hX,bne_iff_ne];omega
     rw[<-hX]at cT;clear xO HB LK bO bQ jf hz hX
     go_wp2_with fail
     refine cT.mono ?_;rintro e wy ⟨rfl,rfl⟩;go_wp2;go_ret;exact⟨⟨base+kk,ew (by simp),by omega,HR.out.1,HR.out.2⟩,below_drewN (Below.refl _ _) _⟩
    ·have da:18446744073709551615-B=0:=by omega
     have XJ:=LK.out.full da;have FT:zc (∀j,j<64*(r+1)->uh T aU j=false):=λj hj=>by
      have hb:=Qc.out
      by_cases XW:j<base
      ·exact HN.out j XW
      ·have:=XJ (j-base) (by omega);rw[show base+(j-base)=j by omega]at this;exact this
     have HR:zc (r<938):=by
      show r<938
      by_cases fX:r<938
      ·exact fX
      ·have hb:=Qc.out;have h1:=XJ 0 (by omega);have h2:uh T aU (base+0)=true:=by
        unfold uh;rw[jR];intro c _;rw[hF.out _ (by omega)]
        rfl
       rw[h2]at h1;cases h1
     have hne:(bits BinOp.xor IntKind.u64 IntKind.u64.max (B:Int) != 0)=false:=by rw[hX,da];rfl
     clear xO HB LK hz da XJ hX;go_wp2;exact⟨⟨r+1,n2,by have:=Qc.out;go_num,by have:=HR.out;omega,rfl,FT.out⟩,by have:=HR.out;have:=Qc.out;simp[intOf];omega⟩
end
section
variable {w W W':zg}{p gT B:Nat}{v:Nat -> zh}{T:Nat -> Nat}{l:Nat -> List Int}{ck:List Int}
def sC(gT:Nat)(v:Nat->zh):Array zh:=#[ze (za ⟨gT,0,zb⟩) 943 943,v 0,v 1]
theorem zux(gT:Nat)(v:Nat->zh)(i:Nat)(hi:i<2)(u:zh):(sC gT v).setIfInBounds (i+1) u=sC gT (upd v i u):=by
 match i,hi with
 |0,_=>rfl
 |1,_=>rfl
theorem A9{t:TypeId}(h:w.heap[p]?=za (zf (sC gT v) t (0,0))):w.cell? ⟨p,0,zb⟩=za (ze (za ⟨gT,0,zb⟩) 943 943)/\w.cell? ⟨p,1,zb⟩=za (v 0)/\w.cell? ⟨p,2,zb⟩=za (v 1):=
 ⟨cG h 0,cG h 1,cG h 2⟩
structure Ly(B p gT:Nat)(T:Nat->Nat)(v:Nat->zh)(l:Nat->List Int)(W:zg):Prop where
 bp:B<p
 bT:B<gT
 ne:p≠gT
 box:W.heap[p]?=za (zf (sC gT v) 58 (0,0))
 words:W.heap[gT]?=za (zf (qk 943 T) 107 (0,0))
 au:aI B 2 W v l
 far:∀i,i<2->∀b,(v i).ownBlock=za b->b≠p/\b≠gT
 tl:∀i,T i<18446744073709551616
structure mI(w:zg)(p gT:Nat)(v0 v:Nat->zh)(W:zg):Prop where
 os:W.os=w.os
 tape:W.tape=w.tape
 output:W.output=w.output
 size:w.heap.size<=W.heap.size
 rest:∀k,k<w.heap.size->k≠p->k≠gT->(∀i,i<2->(v0 i).ownBlock≠za k)->W.heap[k]?=w.heap[k]?
 new:∀i,i<2->∀b,(v i).ownBlock=za b->(v0 i).ownBlock=za b\/w.heap.size<=b
theorem mI.trans{V:zg}{v0 v1 v2:Nat->zh}(h:mI w p gT v0 v1 W)(k:mI W p gT v1 v2 V):mI w p gT v0 v2 V:=by
 have hz:=h.size;refine⟨k.os.trans h.os,k.tape.trans h.tape,k.output.trans h.output,cY hz k.size,λj hj h1 h2 h3=>(k.rest j (by omega) h1 h2 λi hi hc=>?_).trans (h.rest j hj h1 h2 h3),λi hi b hb=>?_⟩
 ·rcases h.new i hi j hc with h4|h4
  ·exact h3 i hi h4
  ·omega
 ·rcases k.new i hi b hb with h4|h4
  ·exact h.new i hi b h4
  ·exact .inr (by omega)
theorem mI.k8(h:zi w.heap.size w W):mI w p gT v v W:=
 ⟨h.os,h.tape,h.output,h.size,λk hk _ _ _=>h.block k hk,λ_ _ _ hb=>.inl hb⟩
theorem Ly.grow(h:Ly B p gT T v l W)(hb:zi W.heap.size W W'):Ly B p gT T v l W':=
 ⟨h.bp,h.bT,h.ne,aT h.box hb,aT h.words hb,h.au.below hb,h.far,h.tl⟩
theorem Ly.grown{W1 W2:zg}(h:Ly B p gT T v l W)(hb:zi W.heap.size W W1){i:Nat}(hi:i<2){g cap:Nat}{y:Int}
  (own:W2.ownsRow (B+1) 3 1 (ze (za ⟨g,0,zb⟩) ((l i).length+1) cap) ((l i).length+1) ((l i).map eu++[zd .i64 y])) (grow:W1.grownBy W2 (v i).ownBlock) (at':(v i).ownBlock=za g\/W1.heap.size<=g):
  W2.heap[p]?=za (zf (sC gT v) 58 (0,0))/\Ly B p gT T (upd v i (ze (za ⟨g,0,zb⟩) ((l i).length+1) cap)) (bG l i (l i++[y])) (W2.setCell ⟨p,i+1,zb⟩ (ze (za ⟨g,0,zb⟩) ((l i).length+1) cap))/\
   mI W p gT v (upd v i (ze (za ⟨g,0,zb⟩) ((l i).length+1) cap)) (W2.setCell ⟨p,i+1,zb⟩ (ze (za ⟨g,0,zb⟩) ((l i).length+1) cap)):=by
 have hz:=hb.size;have dE:W1.heap.size<=W2.heap.size:=grow.size;have hp:p<W.heap.size:=ay h.box;have hT:gT<W.heap.size:=ay h.words;have np:za p≠(v i).ownBlock:=λhc=>(h.far i hi p hc.symm).1 rfl
 have nT:za gT≠(v i).ownBlock:=λhc=>(h.far i hi gT hc.symm).2 rfl
 have b2:W2.heap[p]?=za (zf (sC gT v) 58 (0,0)):=(grow.block p (by omega) np).trans (aT h.box hb);have t2:W2.heap[gT]?=za (zf (qk 943 T) 107 (0,0)):=(grow.block gT (by omega) nT).trans (aT h.words hb);have zu:g≠p/\g≠gT:=by
  rcases at' with h1|h1
  ·exact h.far i hi g h1
  ·omega
 have Cj:∀j,j<2->∀b,(upd v i (ze (za ⟨g,0,zb⟩) ((l i).length+1) cap) j).ownBlock=za b->b≠p/\b≠gT:=λj hj b bW=>by
  by_cases e:j=i
  ·subst e;rw[kI]at bW;simp[Value.ownBlock]at bW;subst bW;exact zu
  ·rw[eF _ _ e]at bW;exact h.far j hj b bW
 have MA:=aI.append (h.au.below hb) hi own grow at';refine⟨b2,⟨h.bp,h.bT,h.ne,?_,?_,?_,Cj,h.tl⟩,⟨?_,?_,?_,?_,?_,?_⟩⟩
 ·rw[<-zux gT v i hi];exact cJ _ _ _ _ _ _ b2
 ·rw[bh _ _ _ _ (by simpa using h.ne.symm)];exact t2
 ·refine⟨λj hj=>nY (MA.own j hj) λb bW=>bh _ _ _ _ (by simpa using (Cj j hj b bW).1),MA.apart⟩
 ·exact grow.os.trans hb.os
 ·exact grow.tape.trans hb.tape
 ·exact grow.output.trans hb.output
 ·have:(W2.setCell ⟨p,i+1,zb⟩ (ze (za ⟨g,0,zb⟩) ((l i).length+1) cap)).heap.size=W2.heap.size:=by simp[World.setCell]
  omega
 ·intro k hk h1 h2 h3;rw[bh _ _ _ _ (by simpa using h1),grow.block k (by omega) (λhc=>h3 i hi hc.symm),hb.block k hk]
 ·intro j hj b bW
  by_cases e:j=i
  ·subst e;rw[kI]at bW;simp[Value.ownBlock]at bW;subst bW;rcases at' with h1|h1
   ·exact .inl h1
   ·exact .inr (by omega)
  ·rw[eF _ _ e]at bW;exact .inl bW
theorem zmj{ops:Array Oper}{rest:List Oper}{o:Oper}{a:Act}{Q:Exit->Act->zg->Prop}(S:Ly B p gT T v l W)(H:Nat)(hH:W.heap.size=H)(fQ:o.guard=zb)(s x:Operand)
  (ho:o.op=.call {callee:=.builtin .append,args:=#[s,x],argTypes:=#[23,23]}) (i:Nat) (hi:i<2) (off:Nat) (qA:i+1=off) (xs:List Int) (tR:l i=xs) (n:Nat) (hn:xs.length=n) (hs:a.eval s=v i) (y:Int) (hx:a.eval x=ze (za ⟨H,0,zb⟩) 1 1) (hl:n<=2000000)
  (h:∀g cap W',W'.heap[p]?=za (zf (sC gT v) 58 (0,0))->Ly B p gT T (upd v i (ze (za ⟨g,0,zb⟩) (n+1) cap)) (bG l i (xs++[y])) (W'.setCell ⟨p,off,zb⟩ (ze (za ⟨g,0,zb⟩) (n+1) cap))->mI W p gT v (upd v i (ze (za ⟨g,0,zb⟩) (n+1) cap)) (W'.setCell ⟨p,off,zb⟩ (ze (za ⟨g,0,zb⟩) (n+1) cap))->wpList prog ops Q rest (a.put o.dst (ze (za ⟨g,0,zb⟩) (n+1) cap)) W'):
  wpList prog ops Q (o::rest) a (W.alloc (zf #[zd .i64 y] 3)):=by
 subst hH;subst hn;subst tR;subst qA;obtain⟨i0,eC,da,dt,cR⟩:=info_parts Tryz.pX;have hb:zi W.heap.size W (W.alloc (zf #[zd .i64 y] 3)):=ax;have own:(W.alloc (zf #[zd .i64 y] 3)).ownsRow (B+1) 3 1 (v i) (l i).length ((l i).map eu):=(S.au.below hb).own i hi;have du:p<W.heap.size:=ay S.box;have hBp:=S.bp;refine wpList_append_lies _ fQ s x 23 ho (B+1) 3 i0 _ 1 8 underlying23 eC da dt cR rfl (by omega) (v i) (l i).length ((l i).map eu) hs own ⟨W.heap.size,0,zb⟩ 1 1 [zd .i64 y] hx rfl (zY (aJ _ _)) (by intro u hu;simp at hu;subst hu;rfl) (by omega) (by unfold maxLen;omega) (by omega) (by simp;omega) (W.heap.size+1) (by simp) ?_;intro g cap W' jG jD at' _;obtain⟨G1,G2,G3⟩:=S.grown hb (i:=i) hi (y:=y) jG jD (at'.imp id (λh=>by simp;omega));exact h g cap W' G1 G2 G3
theorem Ly.at(S:Ly B p gT T v l W){i:Nat}(hi:i<2){xs:List Int}(hx:l i=xs)(h0:0<xs.length):
  ∃g cap,v i=ze (za ⟨g,0,zb⟩) xs.length cap/\(∀j,j<xs.length->W.cell? ⟨g,j,zb⟩=za (zd .i64 (xs.getD j 0)))/\(∀j,W.frozen? ⟨g,j,zb⟩=false):=by
 subst hx;have own:=S.au.own i hi;obtain⟨g,cap,hv,hb,_⟩:=World.ownsRow.form own h0;have jG:W.ownsRow (B+1) 3 1 (ze (za ⟨g,0,zb⟩) (l i).length cap) (l i).length ((l i).map eu):=by
  have h:=own;unfold bX at h;rw[hv]at h;exact h
 refine⟨g,cap,hv,λj hj=>?_,λj=>jG.frozenAt j⟩;rw[jG.cellAt j (by omega)];simp[eu,List.getD,hj]
theorem Ly.put(S:Ly B p gT T v l W){i:Nat}(hi:i<2){xs:List Int}(hx:l i=xs){g cap:Nat}(hv:v i=ze (za ⟨g,0,zb⟩) xs.length cap)(idx:Nat)(x:Int):
  Ly B p gT T v (bG l i (xs.set idx x)) (W.setCell ⟨g,idx,zb⟩ (zd .i64 x))/\mI W p gT v v (W.setCell ⟨g,idx,zb⟩ (zd .i64 x)):=by
 subst hx;have own:=S.au.own i hi;have jG:W.ownsRow (B+1) 3 1 (ze (za ⟨g,0,zb⟩) (l i).length cap) (l i).length ((l i).map eu):=by
  have h:=own;unfold bX at h;rw[hv]at h;exact h
 have GK:(v i).ownBlock=za g:=by rw[hv];rfl
 have hf:=S.far i hi g GK;have st:=(jG.stored idx (zd .i64 x)).1;refine⟨⟨S.bp,S.bT,S.ne,?_,?_,⟨λj hj=>?_,S.au.apart⟩,S.far,S.tl⟩,⟨rfl,rfl,rfl,by simp[World.setCell],λk hk h1 h2 h3=>bh _ _ _ _ (λhc=>h3 i hi (by rw[GK];exact congrArg za hc.symm)),λ_ _ _ hb=>.inl hb⟩⟩
 ·rw[bh _ _ _ _ (λhc=>hf.1 hc.symm)];exact S.box
 ·rw[bh _ _ _ _ (λhc=>hf.2 hc.symm)];exact S.words
 ·by_cases e:j=i
  ·subst e;rw[jj];unfold bX;rw[jQ,hv,List.map_set];exact st
  ·rw[eO _ _ e];refine nY (S.au.own j hj) λb hb=>bh _ _ _ _ (λhc=>?_)
   exact S.au.apart j i hj hi e b hb (by rw[GK];exact congrArg za (show g=b from hc.symm))
theorem Ly.take(S:Ly B p gT T v l W)(q:Nat)(h1:W'.heap[gT]?=za (zf (qk 943 (tz T q)) 107 (0,0)))(h2:∀k,k≠gT->W'.heap[k]?=W.heap[k]?)(h3:W'.os=W.os)(h4:W'.tape=W.tape)(h5:W'.output=W.output)(h6:W'.heap.size=W.heap.size):
  Ly B p gT (tz T q) v l W'/\mI W p gT v v W':=
 ⟨⟨S.bp,S.bT,S.ne,(h2 p S.ne).trans S.box,h1,⟨λj hj=>nY (S.au.own j hj) λb hb=>h2 b (S.far j hj b hb).2,S.au.apart⟩,S.far,ztS T S.tl q⟩,⟨h3,h4,h5,by omega,λk _ _ hk _=>h2 k hk,λ_ _ _ hb=>.inl hb⟩⟩
theorem zqj(ck:List Int)(s:Nat):im (ck++[-1]) s=im ck s:=by
 unfold im;rw[aQ,IK]
 by_cases h:s<ck.length
 ·have h1:¬ck.length+1<=s:=by omega
  have h2:¬ck.length<=s:=by omega
  simp[h1,h2,List.getD,List.getElem?_append_left h]
 ·by_cases e:s=ck.length
  ·subst e;simp[List.getD]
  ·have h1:ck.length+1<=s:=by omega
   have h2:ck.length<=s:=by omega
   simp[h1,h2]
theorem zkZ(ck:List Int):∀(m n:Nat),m=n-ck.length->∀s,im (bP (-1) n ck) s=im ck s
 |0,n,h,s=>by rw[K7 (by omega)]
 |m+1,n,h,s=>by
  have e:n=(n-1)+1:=by omega
  rw[e,Ox (by omega),zqj];exact zkZ ck m (n-1) (by omega) s
theorem zsy(ck:List Int)(i:Nat)(hi:i<ck.length)(x:Int)(hx:0<=x)(s:Nat):im (ck.set i x) s=(im ck s && !decide (s=i)):=by
 unfold im;rw[jQ]
 by_cases e:s=i
 ·subst e;have h1:¬ck.length<=s:=by omega
  have h2:¬x=-1:=by omega
  simp[h1,h2,List.getD,hi]
 ·simp[e,List.getD,List.getElem?_set_ne (λh=>e h.symm)]
theorem zsg(h:∀s,oQ T s=!im ck s)(i:Nat)(hi:i<ck.length)(x:Int)(hx:0<=x):∀s,oQ (tz T i) s=!im (ck.set i x) s:=λs=>by
 rw[zr5,zsy ck i hi x hx,h s];cases im ck s<;>simp
theorem zkW(h:∀s,oQ T s=!im ck s)(aU:List Nat)(j:Nat):uh T aU j=qM ck aU j:=by
 unfold uh qM
 congr 1
 funext c
 rw[h];simp
theorem zju(k:Nat)(f:Nat->Int)(a:List Nat)(c:Nat)(l:List Int):jv l k f (a++[c])=(jv l k f a).set (k+c) (f c):=by
 rw[zgz];rfl
theorem zqX{row:List Int}{dv:Int}{k:Nat}{a:List Nat}{c:Nat}(h:aK row dv k=a++[c]):∀x∈aK row dv k,x<=c:=by
 have hs:(aK row dv k).Pairwise (· < ·):=List.Pairwise.filter _ List.pairwise_lt_range;rw[h]at hs ⊢;intro x hx;rcases gH.1 hx with h1|h1
 ·have:=(List.pairwise_append.1 hs).2.2 x h1 c (by simp);omega
 ·rw[sZ.1 h1];exact aq _
end
theorem zsk{lo:Nat}(v:zh)(xs:List Int)(w:zg)(hs:dD lo w v xs)(h0:0<xs.length)(h1:xs.length<=1048576):
  zj prog 24 #[v] w λe w'=>∃g cap,e=.returned (ze (za ⟨g,0,zb⟩) xs.length cap)/\bX w.heap.size w' (ze (za ⟨g,0,zb⟩) xs.length cap) xs/\zi w.heap.size w w':=by
 obtain⟨i0,hi,da,dt,cR⟩:=info_parts Tryz.pX;obtain⟨ao,A0,rfl,hm,hc⟩:=hs;obtain⟨b,o,rfl,_,bF,hcell⟩:=hc h0;have Hc:zc (∀j u,(xs.map eu)[j]?=za u->(w.alloc (zf #[] 3)).cell? ((⟨b,o,zb⟩:Addr).add j)=za u):=λj u hu=>by
  have hj:j<xs.length:=by
   have:=(mA.1 hu).1
   simpa using this
  have e:(⟨b,o,zb⟩:Addr).add j=⟨b,o+j,zb⟩:=by unfold Addr.add;split<;>simp_all
  rw[e,World.cell?_of_block (Below.heap_alloc _ _ _ bF),hcell j hj,<-hu];simp[List.getD,hj,eu]
 clear hcell hc;have EF:Sem.run prog (binOp BinOp.eql 23 (ze (za ⟨b,o,zb⟩) xs.length A0) (ze zb 0 0)) w=.ok (.bool false) w:=by kernel_rfl
 go_enter func24,ntmps24
 go_wp2_with (refine wpList_append_lies _ rfl (.tmp 5) (.tmp 6) 23 rfl w.heap.size 3 i0 _ 1 8 underlying23 hi da dt cR rfl (by omega) (ze (za ⟨w.heap.size,0,zb⟩) 0 0) 0 [] rfl (KH w 3 w.heap.size w.heap.size (aq _) rfl) ⟨b,o,zb⟩ xs.length A0 (xs.map eu) rfl (by simp) Hc.out (by intro u hu;simp at hu;obtain⟨y,_,rfl⟩:=hu;rfl) (by omega) (by unfold maxLen;omega) (by omega) (by simp) (w.heap.size+1) (by simp) ?_;intro g cap w1 wA nD pJ lt1)
 go_ret
 refine⟨g,cap,by simp,?_,?_⟩
 ·unfold bX
  simpa using wA
 ·exact(ax).grown nD (by simp) (by intro k h;simp[Value.ownBlock]at h;omega)
theorem Tryz.zCp:(prog.info? 107).map (λi=>(i.zero,i.size,i.bytes))=za (za (.int .u64 0),1,8):=by kernel_rfl
theorem zn4{w:zg}{base:Nat}{e:TypeId}{g n:Nat}{xs:List zh}(h:w.ownsRow base e 1 (ze (za ⟨g,0,zb⟩) n n) n xs):w.heap[g]?=za (zf xs.toArray e (0,0)):=by
 rcases h.2 with ⟨h,_⟩|⟨g',cap,cr,h,_,et,_,_,hsz,eV⟩
 ·cases h
 ·cases h
  rw[et]
  congr 2
  apply Array.ext'
  rw[sX (by simp[hsz])]at eV;rw[eV]
theorem zpa(n:Nat):(madeCells (Value.int .u64 0).cells (n*1)).toList.toArray=qk n (λ_=>0):=by
 apply Array.ext'
 apply FE
 ·simp[madeCells,qk]
 ·intro i h1 h2;simp[madeCells,qk,Value.cells,Nat.mod_one]
theorem zqO(n:Nat):(madeCells (Value.int .i64 0).cells (n*1)).toList.toArray=qR n (λ_=>0):=by
 apply Array.ext'
 apply FE
 ·simp[madeCells,qR]
 ·intro i h1 h2;simp[madeCells,qR,Value.cells,Nat.mod_one]
theorem zlu(w:zg):zj prog 25 #[] w λe w'=>∃p,e=.returned (zk (za ⟨p,0,zb⟩))/\w.heap.size<p/\w'.heap[w.heap.size]?=za (zf (qk 943 (λ_=>0)) 107 (0,0))/\w'.heap[p]?=za (zf (sC w.heap.size (λ_=>ze zb 0 0)) 58 (0,0))/\zi w.heap.size w w':=by
 obtain⟨i0,hi,da,dt,cR⟩:=info_parts Tryz.zCp
 go_enter func25,ntmps25
 go_wp2_with (refine wpList_make_full _ rfl _ _ 56 rfl w.heap.size 107 i0 _ 1 underlying56 hi da dt _ _ _ _ 943 rfl rfl rfl rfl (by rw[cR];omega) (by unfold maxLen;omega) (aq _) ?_;intro w1 bL jn)
 have fP:zi w.heap.size w w1:=(Below.refl _ _).grown jn (aq _) (by intro k h;cases h);have hr:=zn4 bL;rw[zpa]at hr;have hl:w.heap.size<w1.heap.size:=ay hr;go_ret;exact⟨w1.heap.size,rfl,hl,qK hr,aJ _ _,fP.alloc fP.size _⟩
def uV(a b:List Int):Nat->List Int
 |0=>a
 |1=>b
 |_=>[]
theorem zuC(a b x:List Int):bG (uV a b) 0 x=uV x b:=by
 funext j;match j with
 |0=>rfl
 |1=>rfl
 |j+2=>rfl
theorem zuD(a b x:List Int):bG (uV a b) 1 x=uV a x:=by
 funext j;match j with
 |0=>rfl
 |1=>rfl
 |j+2=>rfl
theorem Ly.uR{B p gT:Nat}{T:Nat->Nat}{v:Nat->zh}{l:Nat->List Int}{W:zg}(S:Ly B p gT T v l W):Go.Proofs.YtfajjdgkiilhfaaGreatDoor.uR W ⟨p,1,zb⟩=(l 0).length:=by
 obtain⟨⟨ca,Gd⟩,hv⟩:=nX (S.au.own 0 (by omega));unfold Go.Proofs.YtfajjdgkiilhfaaGreatDoor.uR;rw[(A9 S.box).2.1,hv]
def zve(w:zg)(B p gT:Nat)(v:Nat->zh)(N C:List Int)(s:Nat)(row:List Int)(dv:Int)(e:Ending)(w':zg):Prop:=
 (aK row dv row.length=[]/\e=.returned (.tuple #[zd .i64 0,.bool true])/\zi w.heap.size w w')\/
 (¬aK row dv row.length=[]/\∃k:Nat,oz C (aK row dv row.length)=k/\
  (((aK row dv row.length).all (λc=>decide (k+c<60000))=false/\e=.returned (.tuple #[zd .i64 0,.bool false])/\zi w.heap.size w w')\/
   ((aK row dv row.length).all (λc=>decide (k+c<60000))=true/\e=.returned (.tuple #[zd .i64 k,.bool true])/\
    ∃(T':Nat->Nat) (v':Nat->zh),Ly B p gT T' v' (uV (di 0 N k (λc=>row.getD c 0) (aK row dv row.length)) (di (-1) C k (λ_=>(s:Int)) (aK row dv row.length))) w'/\mI w p gT v v' w'/\
     ∀q,oQ T' q=!im (di (-1) C k (λ_=>(s:Int)) (aK row dv row.length)) q)))
theorem zs3(B p gT:Nat)(T:Nat->Nat)(v:Nat->zh)(N C:List Int)(s b o A0:Nat)(row:List Int)(dv:Int)(w:zg)(S0:Ly B p gT T v (uV N C) w)(hbB:b<=B)(bF:b<w.heap.size)
  (Hc:zc (∀i,i<row.length->w.cell? ⟨b,o+i,zb⟩=za (zd .i64 (row.getD i 0)))) (h1:row.length<=256) (hlen:C.length<=60000) (uL:zc (N.length=C.length)) (GC:zc (∀q,oQ T q=!im C q)) (hB:zc (Dg w)):
  zj prog 27 #[zk (za ⟨p,0,zb⟩),zd .i64 s,ze (za ⟨b,o,zb⟩) row.length A0,zd .i64 dv] w λe w'=>zve w B p gT v N C s row dv e w':=by
 obtain⟨i0,hi,da,dt,cR⟩:=info_parts Tryz.pX;have Kv:=KH w 3 w.heap.size w.heap.size (aq _) rfl;have aD:zi w.heap.size w (w.alloc (zf #[] 3)):=ax
 go_enter func27,ntmps27
 go_wp2
 go_loopw [10,20] (λev i wr=>∃(k g cap:Nat),k<=row.length/\i=zd .i64 k/\ev=ze (za ⟨g,0,zb⟩) (cj row dv k).length cap/\zi w.heap.size w wr/\wr.ownsRow w.heap.size 3 1 (ze (za ⟨g,0,zb⟩) (cj row dv k).length cap) (cj row dv k).length ((cj row dv k).map eu))
  (λ_ i _=>row.length-(intOf i).toNat)
 case atStart=>exact⟨0,w.heap.size,0,by omega,rfl,rfl,aD,Kv⟩
 case round=>
  clear Kv aD;obtain⟨k,g,cap,hk,rfl,rfl,hb,own⟩:=hrel;have hsz:=hb.size
  by_cases hlt:k<row.length
  ·have c0:wr.cell? ⟨b,o+k,zb⟩=za (zd .i64 (row.getD k 0)):=(hb.cell (by exact bF)).trans (Hc.out k hlt);have AV:(cj row dv k).length<=2000000:=by have:=TJ row dv k;rw[vd];omega
   have zBR:(k:Int)<(row.length:Int):=by omega
   have HY:zc (¬row.getD k 0=dv->cj row dv (k+1)=cj row dv k++[(k:Int)]):=zn0;have HZ:zc (row.getD k 0=dv->cj row dv (k+1)=cj row dv k):=zqY;generalize row.getD k 0=x at *
   by_cases hx:x=dv
   ·have HI:zc (cj row dv (k+1)=cj row dv k):=HZ.out hx;have hne:(x != dv)=false:=by simp only[hx,bne_self_eq_false]
    clear hx HY HZ;go_wp2
    go_roundw
    case rel=>exact⟨k+1,g,cap,by omega,by go_num,by rw[HI.out],hb,by rw[HI.out];exact own⟩
    case measure=>simp[intOf];omega
   ·have HI:zc (cj row dv (k+1)=cj row dv k++[(k:Int)]):=HY.out hx;have hne:(x != dv)=true:=by simp only[bne_iff_ne,ne_eq,hx,not_false_eq_true]
    clear hx HY HZ
    go_wp2_with (refine CL wr wr.heap.size rfl rfl (.tmp 28) (.tmp 30) 23 rfl w.heap.size 3 i0 _ 8 underlying23 hi da dt cR rfl g cap _ _ (zd .i64 k) rfl own rfl rfl AV (by omega) hsz ?_;intro g' cap' w' jG jD at')
    go_roundw
    case rel=>
     refine⟨k+1,g',cap',by omega,by go_num,by rw[HI.out];simp,hb.grown jD hsz (λj hj=>by cases hj;exact(qd own).1),?_⟩;rw[HI.out,aQ,sY];exact jG
    case measure=>simp[intOf];omega
  ·have cC:k=row.length:=by omega
   subst cC;clear hk hlt;have OW:bX w.heap.size wr (ze (za ⟨g,0,zb⟩) (cj row dv row.length).length cap) (cj row dv row.length):=own;obtain⟨n,hn⟩:∃n,(cj row dv row.length).length=n:=⟨_,rfl⟩;have HN:zc ((aK row dv row.length).length=n):=by show _=_;rw[<-vd];exact hn
   rw[hn]at OW ⊢;clear hn own;cases n with
   |zero=>
    have HZ:zc (aK row dv row.length=[]):=qV HN.out;clear HN OW;go_wp2;refine aW (v:=.tuple #[zd .i64 0,.bool true]) (by simp[results,results27,go_sem]) rfl ?_;exact .inl ⟨HZ.out,rfl,hb⟩
   |succ m=>
    have S1:=S0.grow hb;obtain⟨c,HC⟩:∃c:Nat,zc (∃a,aK row dv row.length=a++[c]/\a.length=m):=by
     have hne:aK row dv row.length≠[]:=λh=>by have:=HN.out;rw[h]at this;cases this
     refine⟨_,_,(List.dropLast_concat_getLast hne).symm,?_⟩;rw[List.length_dropLast,HN.out];rfl
    have HL:zc (∀x∈aK row dv row.length,x<=c):=by obtain⟨a,ha,_⟩:=HC.out;exact zqX ha
    have HM:zc (c∈aK row dv row.length):=by obtain⟨a,ha,_⟩:=HC.out;show _∈_;rw[ha];simp
    have hcr:c<row.length:=Lj HM.out;have hm:m+1<=256:=by have:=HN.out;have:=TJ row dv row.length;omega
    have I1:zc (¬aK row dv row.length=[]):=λh=>by have:=HM.out;rw[h]at this;cases this
    have OC:zc (∀j,j<m+1->∃x:Nat,(aK row dv row.length)[j]?=za x/\wr.cell? ⟨g,j,zb⟩=za (zd .i64 (x:Int))):=λj hj=>by
     have iD:j<(aK row dv row.length).length:=by rw[HN.out];exact hj
     refine⟨(aK row dv row.length)[j],by simp,?_⟩;have:=World.ownsRow.cellAt (show wr.ownsRow w.heap.size 3 1 (ze (za ⟨g,0,zb⟩) (cj row dv row.length).length cap) (cj row dv row.length).length ((cj row dv row.length).map eu) by have:=OW;unfold bX at this;rw[vd,HN.out];rw[vd,HN.out]at this;exact this) j (by rw[vd];omega);rw[this];simp[cj,eu,iD]
    have cL:wr.cell? ⟨g,m,zb⟩=za (zd .i64 (c:Int)):=by
     obtain⟨x,kC,lN⟩:=OC.out m (by omega);obtain⟨a,ha,xK⟩:=HC.out;rw[ha,<-xK]at kC;simp at kC;rw[lN,kC]
    have iK:g<wr.heap.size:=(dG OW (b:=g) rfl).2;have cF:=zmK p gT 943 T (v 0) (v 1) (ze (za ⟨g,0,zb⟩) (m+1) cap) (aK row dv row.length) C.length wr S1.box S1.words (OW.at (by rw[vd,HN.out];omega)) (by rw[HN.out];omega) (by rw[HN.out];exact hm) S1.tl (λx hx=>by have:=Lj hx;omega) hlen (λq hq=>by rw[GC.out];unfold im;simp[hq]) (λi hi=>by rw[<-hB.out i hi];exact hb.cell (p:=⟨0,i,zb⟩) (by have:b<=B:=hbB;simp;omega))
    go_wp2_with fail
    refine cF.mono ?_;rintro e W1 ⟨⟨k,rfl,hk,r9,GG⟩,Eo⟩;have IW:zc (oz C (aK row dv row.length)=k):=zqc (by rw[<-zkW GC.out];exact r9) (λj hj=>by rw[<-zkW GC.out];exact GG j hj);have aO:=aH hb hb.size Eo;have S2:=S1.grow Eo;have cL1:W1.cell? ⟨g,m,zb⟩=za (zd .i64 (c:Int)):=(Eo.cell (by exact iK)).trans cL;have OC1:zc (∀j,j<m+1->∃x:Nat,(aK row dv row.length)[j]?=za x/\W1.cell? ⟨g,j,zb⟩=za (zd .i64 (x:Int))):=λj hj=>by
     obtain⟨x,kC,lN⟩:=OC.out j hj;exact⟨x,kC,(Eo.cell (by exact iK)).trans lN⟩
    have XO:w.heap.size<=g/\g<W1.heap.size:=⟨(dG OW (b:=g) rfl).1,dR iK Eo.size⟩;clear r9 GG cF cL OC Eo S1 OW hb iK HC
    by_cases EJ:k+c<60000
    ·have zzB:¬60000<=(k:Int)+(c:Int):=by omega
     have zxG:zc (k+c<60000):=EJ;have Ur:zc ((aK row dv row.length).all (λc=>decide (k+c<60000))=true):=by
      show _=_;rw[jR];intro x hx;have:=HL.out x hx;simp only[lZ];omega
     have vX:(k:Int)+(c:Int)<=59999:=by omega
     have bu:k<=59999:=by omega
     clear EJ hk zzB;have htd:decide (60000<=(k:Int)+(c:Int))=false:=by
      rw[decide_eq_false_iff_not];omega
     have mE:zc (C.length<=60000):=hlen;clear vX hlen
     go_upto_region 12 with fail
     go_wp2;clear cL1 htd
     go_loopw [] (λwr=>∃(n:Nat) (v':Nat->zh),C.length<=n/\n<=max C.length (k+c+1)/\Ly B p gT T v' (uV (bP 0 n N) (bP (-1) n C)) wr/\mI W1 p gT v v' wr)
      (λwr=>k+c+1-uR wr ⟨p,1,zb⟩)
     case atStart=>exact⟨C.length,v,aq _,by omega,by rw[K7 (aq _),K7 (by rw[uL.out];exact aq _)];exact S2,mI.k8 (Below.refl _ _)⟩
     case round=>
      clear S2;obtain⟨n,v',j7,kA,S,K⟩:=hrel;have X9:(bP 0 n N).length=n:=by rw[pq];have:=uL.out;omega
      obtain⟨⟨ca,Gd⟩,xT⟩:=nX (S.au.own 0 (by omega));have YK:v' 0=.slice ca n Gd:=by rw[xT];show Value.slice ca (bP 0 n N).length Gd=_;rw[X9]
      have LY:zc (uR wr ⟨p,1,zb⟩=n):=by show _=_;rw[S.uR];exact X9
      clear xT X9;obtain⟨a0,a1,a2⟩:=A9 S.box;have Qr:=a1;rw[YK]at Qr
      by_cases ND:n<=k+c
      ·have Sa:(n:Int)<=(k:Int)+(c:Int):=by omega
       have WT:N.length<=n:=by rw[uL.out];exact j7
       have hn9:n<=60000:=by have:=zxG.out;omega
       have X8:(bP 0 n N).length<=2000000:=by rw[pq];omega
       have X6:(bP (-1) n C).length<=2000000:=by rw[pq];omega
       have LM:zc (n<=k+c):=ND;clear ND a1
       go_upto_region 15 with fail
       go_cut [] from 56 to 64 (λwx=>∃v1,Ly B p gT T v1 (uV (bP 0 (n+1) N) (bP (-1) n C)) wx/\mI W1 p gT v v1 wx)
       case first=>
        clear Qr YK;obtain⟨_,a1,_⟩:=A9 S.box
        go_wp2_with (refine zmj S wr.heap.size rfl rfl (.tmp 60) (.tmp 61) rfl 0 (by omega) 1 rfl (bP 0 n N) rfl (bP 0 n N).length rfl rfl 0 rfl X8 ?_;intro g1 mL V1 rr SN KN;clear a0 a1 a2;obtain⟨a0,a1,a2⟩:=A9 rr;have xC:=aM _ _ 1 _ _ rr)
        rw[zuC,<-Ox WT]at SN;have KK:=K.trans KN
        go_meet
        exact⟨upd v' 0 (ze (za ⟨g1,0,zb⟩) ((bP 0 n N).length+1) mL),SN,KK⟩
       case rest=>
        obtain⟨v1,S1,K1⟩:=hcut;clear a0 Qr a2 S K;obtain⟨a0,a1,a2⟩:=A9 S1.box
        go_wp2_with (refine zmj S1 wc.heap.size rfl rfl (.tmp 69) (.tmp 70) rfl 1 (by omega) 2 rfl (bP (-1) n C) rfl (bP (-1) n C).length rfl rfl (-1) rfl X6 ?_;intro g1 mL V1 rr SN KN;clear a0 a1 a2;obtain⟨a0,a1,a2⟩:=A9 rr;have xC:=aM _ _ 2 _ _ rr)
        rw[zuD,<-Ox j7]at SN;have KK:=K1.trans KN;have DB:zc _:=SN.uR
        go_roundw
        case rel=>exact⟨n+1,upd v1 1 (ze (za ⟨g1,0,zb⟩) ((bP (-1) n C).length+1) mL),by omega,by have:=LM.out;omega,SN,KK⟩
        case measure=>
         rw[LY.out,DB.out];show k+c+1-(bP 0 (n+1) N).length<_;rw[pq];have:=LM.out;omega
      ·have Sa:¬(n:Int)<=(k:Int)+(c:Int):=by omega
       have SX:Ly B p gT T v' (uV (bP 0 (k+c+1) N) (bP (-1) (k+c+1) C)) wr:=by
        have Nw:n=max C.length (k+c+1):=by omega
        have e1:bP (-1) n C=bP (-1) (k+c+1) C:=by rw[Nw,To]
        have e2:bP 0 n N=bP 0 (k+c+1) N:=by rw[Nw,<-uL.out,To]
        rw[<-e1,<-e2];exact S
       have HBX:zc (∀q,oQ T q=!im (bP (-1) (k+c+1) C) q):=λq=>by rw[zkZ C _ _ rfl];exact GC.out q
       have qo:zc (di 0 N k (λc=>row.getD c 0) (aK row dv row.length)=jv (bP 0 (k+c+1) N) k (λc=>row.getD c 0) (aK row dv row.length)):=znS _ _ _ _ _ c HM.out HL.out;have qX:zc (di (-1) C k (λ_=>(s:Int)) (aK row dv row.length)=jv (bP (-1) (k+c+1) C) k (λ_=>(s:Int)) (aK row dv row.length)):=znS _ _ _ _ _ c HM.out HL.out;have HlN:zc (k+c+1<=(bP 0 (k+c+1) N).length):=by show _<=_;rw[pq];omega
       have HlC:zc (k+c+1<=(bP (-1) (k+c+1) C).length):=by show _<=_;rw[pq];omega
       have HG:zc (∀wx,mI W1 p gT v v' wx->∀j,wx.cell? ⟨g,j,zb⟩=W1.cell? ⟨g,j,zb⟩):=λwx hk j=>by
        have q1:p<w.heap.size:=ay S0.box;have q2:gT<w.heap.size:=ay S0.words;refine World.cell?_of_block (hk.rest g XO.2 (by omega) (by omega) λi hi hc=>?_);have:=(dG (S0.au.own i hi) hc).2;omega
       have HR:zc (∀wx,mI W1 p gT v v' wx->∀i,i<row.length->wx.cell? ⟨b,o+i,zb⟩=za (zd .i64 (row.getD i 0))):=λwx hk i hi=>by
        have q1:=S0.bp;have q2:=S0.bT;have q3:=aO.size;have:wx.cell? ⟨b,o+i,zb⟩=W1.cell? ⟨b,o+i,zb⟩:=by
         refine World.cell?_of_block (hk.rest b (by omega) (by omega) (by omega) λi hi hc=>?_);have:=(dG (S0.au.own i hi) hc).1;omega
        rw[this,aO.cell (p:=⟨b,o+i,zb⟩) (by exact bF),Hc.out i hi]
       generalize bP 0 (k+c+1) N=N1 at *;generalize bP (-1) (k+c+1) C=C1 at *;clear S a1 YK LY j7 kA;go_wp2;clear Sa Qr a0 a2
       go_loopw [76] (λi wr=>∃(j:Nat) (T2:Nat->Nat),j<=m+1/\i=zd .i64 j/\Ly B p gT T2 v' (uV (jv N1 k (λc=>row.getD c 0) ((aK row dv row.length).take j)) (jv C1 k (λ_=>(s:Int)) ((aK row dv row.length).take j))) wr/\mI W1 p gT v v' wr/\zc (∀q,oQ T2 q=!im (jv C1 k (λ_=>(s:Int)) ((aK row dv row.length).take j)) q))
        (λi _=>m+1-(intOf i).toNat)
       case atStart=>exact⟨0,T,by omega,rfl,SX,K,HBX⟩
       case round=>
        clear SX K HBX;obtain⟨j,T2,hj,rfl,S,K,Uw⟩:=hrel
        by_cases mc:j<m+1
        ·obtain⟨x,kC,lN⟩:=OC1.out j mc;have c0:wr.cell? ⟨g,j,zb⟩=za (zd .i64 (x:Int)):=(HG.out wr K j).trans lN;have iD:j<(aK row dv row.length).length:=by rw[HN.out];exact mc
         have zJ:(aK row dv row.length)[j]=x:=by rw[bE iD]at kC;exact Option.some.inj kC
         have UZ:zc (x∈aK row dv row.length):=by show _∈_;rw[<-zJ];exact gA _
         have hxc:x<=c:=HL.out x UZ.out;have hxr:x<row.length:=Lj UZ.out;have HT:zc ((aK row dv row.length).take (j+1)=(aK row dv row.length).take j++[x]):=by show _=_;rw[oh iD,zJ]
         have zy1:(j:Int)<(m:Int)+1:=by omega
         have HA:zc (jv N1 k (λc=>row.getD c 0) ((aK row dv row.length).take (j+1))=(jv N1 k (λc=>row.getD c 0) ((aK row dv row.length).take j)).set (k+x) (row.getD x 0)):=by show _=_;rw[HT.out,zju]
         have wX:zc (jv C1 k (λ_=>(s:Int)) ((aK row dv row.length).take (j+1))=(jv C1 k (λ_=>(s:Int)) ((aK row dv row.length).take j)).set (k+x) (s:Int)):=by show _=_;rw[HT.out,zju]
         have Eh:k+x<(jv N1 k (λc=>row.getD c 0) ((aK row dv row.length).take j)).length:=by rw[zie];have:=HlN.out;omega
         have hCl:k+x<(jv C1 k (λ_=>(s:Int)) ((aK row dv row.length).take j)).length:=by rw[zie];have:=HlC.out;omega
         have G5:=HR.out wr K x hxr;generalize jv N1 k (λc=>row.getD c 0) ((aK row dv row.length).take j)=N2 at *;generalize jv C1 k (λ_=>(s:Int)) ((aK row dv row.length).take j)=C2 at *;have jB:zc (∀q,oQ (tz T2 (k+x)) q=!im (C2.set (k+x) (s:Int)) q):=zsg Uw.out (k+x) hCl (s:Int) (by omega);obtain⟨a0,_,_⟩:=A9 S.box;have vY:k+x<=59999:=by have:=zxG.out;omega
         have cA:=zvh gT 943 T2 (k+x) wr S.words (by omega) S.tl;rw[Int.natCast_add]at cA;have HKX:zc (k+x<=59999):=vY;have zDB:(k:Int)+(x:Int)<=59999:=by omega
         clear kC lN iD zJ G5 vY
         go_wp2_with fail
         refine cA.mono ?_;rintro e W2 ⟨rfl,t1,t2,t3,t4,t5,t6⟩;obtain⟨S3,K3⟩:=S.take (k+x) t1 t2 t3 t4 t5 t6;have K4:=K.trans K3;clear t1 t2 t3 t4 t5 t6 cA a0 c0 S K K3;obtain⟨g5,cp5,e5,c5,f5⟩:=S3.at (i:=0) (xs:=N2) (by omega) rfl (by omega);obtain⟨g6,cp6,e6,c6,f6⟩:=S3.at (i:=1) (xs:=C2) (by omega) rfl (by omega);have d5:=c5 (k+x) Eh;have d6:=c6 (k+x) hCl;have f5':=f5 (k+x);have f6':=f6 (k+x);obtain⟨a0,a1,a2⟩:=A9 S3.box;rw[e5]at a1;rw[e6]at a2;have rc:=HR.out W2 K4 x hxr;have h56:g5≠g6:=λh=>S3.au.apart 0 1 (by omega) (by omega) (by omega) g5 (by rw[e5];rfl) (by rw[e6,h];rfl)
         have QT:g6≠g5:=λh=>h56 h.symm
         have JZ:(k:Int)+(x:Int)<(N2.length:Int):=by omega
         have Nl:(k:Int)+(x:Int)<(C2.length:Int):=by omega
         have hir:(x:Int)<(row.length:Int):=by omega
         obtain⟨PA,KA⟩:=S3.put (i:=0) (by omega) rfl e5 (k+x) (row.getD x 0);obtain⟨PB,KB⟩:=PA.put (i:=1) (by omega) rfl e6 (k+x) (s:Int);obtain⟨PC,KC⟩:=S3.put (i:=1) (by omega) rfl e6 (k+x) (s:Int);obtain⟨PD,KD⟩:=PC.put (i:=0) (by omega) rfl e5 (k+x) (row.getD x 0);rw[zuC,zuD]at PB;rw[zuD,zuC]at PD;have KE:=K4.trans (KA.trans KB);have KF:=K4.trans (KC.trans KD);have PS:zc (Ly B p gT (tz T2 (k+x)) v' (uV (jv N1 k (λc=>row.getD c 0) ((aK row dv row.length).take (j+1))) (jv C1 k (λ_=>(s:Int)) ((aK row dv row.length).take (j+1)))) ((W2.setCell ⟨g5,k+x,zb⟩ (zd .i64 (row.getD x 0))).setCell ⟨g6,k+x,zb⟩ (zd .i64 (s:Int)))/\mI W1 p gT v v' ((W2.setCell ⟨g5,k+x,zb⟩ (zd .i64 (row.getD x 0))).setCell ⟨g6,k+x,zb⟩ (zd .i64 (s:Int)))):=by rw[HA.out,wX.out];exact⟨PB,KE⟩
         have qp:zc (Ly B p gT (tz T2 (k+x)) v' (uV (jv N1 k (λc=>row.getD c 0) ((aK row dv row.length).take (j+1))) (jv C1 k (λ_=>(s:Int)) ((aK row dv row.length).take (j+1)))) ((W2.setCell ⟨g6,k+x,zb⟩ (zd .i64 (s:Int))).setCell ⟨g5,k+x,zb⟩ (zd .i64 (row.getD x 0)))/\mI W1 p gT v v' ((W2.setCell ⟨g6,k+x,zb⟩ (zd .i64 (s:Int))).setCell ⟨g5,k+x,zb⟩ (zd .i64 (row.getD x 0)))):=by rw[HA.out,wX.out];exact⟨PD,KF⟩
         have yI:zc (∀q,oQ (tz T2 (k+x)) q=!im (jv C1 k (λ_=>(s:Int)) ((aK row dv row.length).take (j+1))) q):=by rw[wX.out];exact jB.out
         clear PA PB PC PD KA KB KC KD KE KF c5 c6 f5 f6 S3 K4 jB HA wX HT UZ;generalize row.getD x 0=y at *
         go_upto_region 22 with fail
         go_region
         all_goals
          go_wp2
          go_roundw
          case rel=>
           refine⟨j+1,tz T2 (k+x),by omega,by go_num,?_,?_,yI.out⟩
           ·first
             |exact PS.out.1
             |exact qp.out.1
             |exact PS.out.1.grow (Below.refl _ _).drew
             |exact qp.out.1.grow (Below.refl _ _).drew
           ·first
             |exact PS.out.2
             |exact qp.out.2
             |exact PS.out.2.trans (mI.k8 (Below.refl _ _).drew)
             |exact qp.out.2.trans (mI.k8 (Below.refl _ _).drew)
          case measure=>simp[intOf];omega
        ·have eV:(aK row dv row.length).take j=aK row dv row.length:=sX (by rw[HN.out];omega);rw[eV]at S Uw;have zy1:¬(j:Int)<(m:Int)+1:=by omega
         clear eV;go_wp2;refine aW (v:=.tuple #[zd .i64 k,.bool true]) (by simp[results,results27,go_sem]) rfl ?_;refine .inr ⟨I1.out,k,IW.out,.inr ⟨Ur.out,rfl,T2,v',?_,(mI.k8 aO).trans K,?_⟩⟩
         ·rw[qo.out,qX.out];exact S
         ·rw[qX.out];exact Uw.out
    ·have zzB:60000<=(k:Int)+(c:Int):=by omega
     have Ur:zc ((aK row dv row.length).all (λc=>decide (k+c<60000))=false):=by
      show _=_;rw[List.all_eq_false];exact⟨c,HM.out,by simpa using EJ⟩
     go_wp2;refine aW (v:=.tuple #[zd .i64 0,.bool false]) (by simp[results,results27,go_sem]) rfl ?_;exact .inr ⟨I1.out,k,IW.out,.inl ⟨Ur.out,rfl,aO⟩⟩
end Go.Proofs.YtfajjdgkiilhfaaGreatDoor
