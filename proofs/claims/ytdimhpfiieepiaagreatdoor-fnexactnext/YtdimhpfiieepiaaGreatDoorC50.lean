import Derived.Test.YtdimhpfiieepiaaGreatDoorC45
import Derived.Deep.RegionHeld3
import Derived.Deep.DrawnRows
namespace Go.Proofs.YtdimhpfiieepiaaGreatDoor
set_option maxHeartbeats 2000000
set_option maxRecDepth 100000
open Go.RowKit
section
variable{lo T b:Nat}{w W:World}{cs:Array Value}{v:Value}
attribute [local go_sem ↓] Go.wp_at_zero Go.wp_at_succ
def slB:Option Value->Bool
 |some (.slice _ _ _)=>true
 |_=>false
structure MkR(lo T:Nat)(w W:World):Prop where
 os:W.os=w.os
 tape:W.tape=w.tape
 output:W.output=w.output
 size:w.heap.size<=W.heap.size
 out:∀b,b<w.heap.size->(b<lo\/T<=b)->W.heap[b]?=w.heap[b]?
 row:∀(b:Nat) (cs:Array Value) (t:TypeId),w.heap[b]?=some (.cells cs t (0,0))->∃cs':Array Value,W.heap[b]?=some (.cells cs' t (0,0))/\cs'.size=cs.size/\(∀(i:Nat),slB cs[i]?=true->cs'[i]?=cs[i]?)/\∀(i:Nat),slB cs[i]?=false->slB cs'[i]?=false
theorem MkR.refl(lo T:Nat)(w:World):MkR lo T w w:=⟨rfl,rfl,rfl,zvJ _,fun _ _ _=>rfl,fun _ cs _ h=>⟨cs,h,rfl,fun _ _=>rfl,fun _ h=>h⟩⟩
theorem MkR.trans{a b c:World}(h:MkR lo T a b)(k:MkR lo T b c):MkR lo T a c:=
 ⟨k.os.trans h.os,k.tape.trans h.tape,k.output.trans h.output,zvK h.size k.size,fun i hi ho=>(k.out i (zvL hi h.size) ho).trans (h.out i hi ho),fun i cs t e=>by
  obtain⟨cs1,e1,s1,p1,q1⟩:=h.row i cs t e;obtain⟨cs2,e2,s2,p2,q2⟩:=k.row i cs1 t e1;refine⟨cs2,e2,s2.trans s1,fun i hi=>?_,fun i hi=>q2 i (q1 i hi)⟩;have:=p1 i hi;rw[p2 i (by rw[this];exact hi),this]⟩
theorem MkR.put{o:Nat}{t:TypeId}(hb:w.heap[b]?=some (.cells cs t (0,0)))(h1:lo<=b)(h2:b<T)(hn:slB cs[o]?=false)(u:Value)(hu:slB (some u)=false):MkR lo T w (w.setCell ⟨b,o,none⟩ u):=by
 refine⟨rfl,rfl,rfl,by simp[World.setCell],fun i hi ho=>zv0 _ _ _ _ (by show i≠b;omega),fun i cs' t' e=>?_⟩
 by_cases hib:i=b
 ·subst hib;rw[hb] at e;cases e;refine⟨_,zv1 w i o _ _ u hb,by simp,fun j hj=>?_,fun j hj=>?_⟩
  ·rw[Array.getElem?_setIfInBounds]
   by_cases e:o=j
   ·subst e;rw[hn] at hj;cases hj
   ·rw[zv2 e]
  ·rw[Array.getElem?_setIfInBounds]
   by_cases e:o=j
   ·rw[zv3 e];split
    ·exact hu
    ·rfl
   ·rw[zv2 e];exact hj
 ·exact⟨cs',(zv0 _ _ _ _ (by exact hib)).trans e,rfl,fun _ _=>rfl,fun _ h=>h⟩
def RngW(lo T:Nat)(w:World)(v:Value)(n:Nat):Prop:=∃ao cap,v=.slice ao n cap/\(0<n->∃(b o:Nat) (cs:Array Value),ao=some ⟨b,o,none⟩/\lo<=b/\b<T/\w.heap[b]?=some (.cells cs 211 (0,0))/\o+n*2<=cs.size/\∀i,i<n*2->slB cs[o+i]?=false)
def NodW(lo T:Nat)(w:World)(v:Value)(ns:List zaq):Prop:=∃ao cap,v=.slice ao ns.length cap/\(0<ns.length->∃(b o:Nat) (cs:Array Value),ao=some ⟨b,o,none⟩/\lo<=b/\b<T/\w.heap[b]?=some (.cells cs 149 (0,0))/\o+ns.length*5<=cs.size/\∀i,i<ns.length->(∀j,j<5->j≠1->slB cs[o+i*5+j]?=false)/\∃sv,cs[o+i*5+1]?=some sv/\RngW lo T w sv (ns.getD i .zero).set.length)
def BraW(lo T:Nat)(w:World)(v:Value)(bs:List zah):Prop:=∃ao cap,v=.slice ao bs.length cap/\(0<bs.length->∃(b o:Nat) (cs:Array Value),ao=some ⟨b,o,none⟩/\lo<=b/\b<T/\w.heap[b]?=some (.cells cs 115 (0,0))/\o+bs.length*3<=cs.size/\∀i,i<bs.length->(∀j,j<2->slB cs[o+i*3+j]?=false)/\∃sv,cs[o+i*3+2]?=some sv/\NodW lo T w sv (bs.getD i .zero).nodes)
def RulW(lo T:Nat)(w:World)(v:Value)(rs:List zaG):Prop:=∃ao cap,v=.slice ao rs.length cap/\(0<rs.length->∃(b o:Nat) (cs:Array Value),ao=some ⟨b,o,none⟩/\lo<=b/\b<T/\w.heap[b]?=some (.cells cs 69 (0,0))/\o+rs.length*2<=cs.size/\∀i,i<rs.length->slB cs[o+i*2+1]?=false/\∃sv,cs[o+i*2]?=some sv/\BraW lo T w sv (rs.getD i .zero).branches)
theorem RngW.mk{n:Nat}(h:RngW lo T w v n)(k:MkR lo T w W):RngW lo T W v n:=by
 obtain⟨ao,cap,rfl,h⟩:=h;refine⟨ao,cap,rfl,fun h0=>?_⟩;obtain⟨b,o,cs,rfl,h1,h2,h3,h4,h5⟩:=h h0;obtain⟨cs',e,s,p,q⟩:=k.row b cs _ h3;exact⟨b,o,cs',rfl,h1,h2,e,by omega,fun i hi=>q _ (h5 i hi)⟩
theorem NodW.mk{ns:List zaq}(h:NodW lo T w v ns)(k:MkR lo T w W):NodW lo T W v ns:=by
 obtain⟨ao,cap,rfl,h⟩:=h;refine⟨ao,cap,rfl,fun h0=>?_⟩;obtain⟨b,o,cs,rfl,h1,h2,h3,h4,h5⟩:=h h0;obtain⟨cs',e,s,p,q⟩:=k.row b cs _ h3;refine⟨b,o,cs',rfl,h1,h2,e,by omega,fun i hi=>?_⟩;obtain⟨g1,sv,g2,g3⟩:=h5 i hi;have hsl:slB cs[o+i*5+1]?=true:=by obtain⟨a,c,rfl,_⟩:=g3;rw[g2];rfl
 exact⟨fun j hj hne=>q _ (g1 j hj hne),sv,(p _ hsl).trans g2,g3.mk k⟩
theorem BraW.mk{bs:List zah}(h:BraW lo T w v bs)(k:MkR lo T w W):BraW lo T W v bs:=by
 obtain⟨ao,cap,rfl,h⟩:=h;refine⟨ao,cap,rfl,fun h0=>?_⟩;obtain⟨b,o,cs,rfl,h1,h2,h3,h4,h5⟩:=h h0;obtain⟨cs',e,s,p,q⟩:=k.row b cs _ h3;refine⟨b,o,cs',rfl,h1,h2,e,by omega,fun i hi=>?_⟩;obtain⟨g1,sv,g2,g3⟩:=h5 i hi;have hsl:slB cs[o+i*3+2]?=true:=by obtain⟨a,c,rfl,_⟩:=g3;rw[g2];rfl
 exact⟨fun j hj=>q _ (g1 j hj),sv,(p _ hsl).trans g2,g3.mk k⟩
theorem ziQ{t:TypeId}(h:w.heap[b]?=some (.cells cs t (0,0))){i:Nat}(hi:i<cs.size):∃u,w.cell? ⟨b,i,none⟩=some u:=⟨cs[i],by rw[zvW _ _ _ _ _ _ h];simp[hi]⟩
theorem zjd(v:Value)(n:Nat)(k:Int)(w:World)(h:RngW lo T w v n)(hk:0<=k/\k+2*(n:Int)<=100000000):
  Calls Tryz.prog 133 #[v,.int .i64 k] w fun e W=>e=.returned (.int .i64 (k+2*(n:Int)))/\MkR lo T w W:=by
 obtain⟨ao,cap,rfl,h⟩:=h;have hk0:=hk.1;have hk1:=hk.2;have H:Hid _:=h;clear h hk
 go_enter Tryz.func133,Tryz.ntmps133
 go_wp2
 go_loopw [1,5] (fun kv iv wr=>∃i:Nat,i<=n/\iv=.int .i64 i/\kv=.int .i64 (k+2*(i:Int))/\Hid (MkR lo T w wr)) (fun _ iv _=>n-(intOf iv).toNat)
 case atStart=>exact⟨0,zvT _,rfl,by simp,MkR.refl _ _ _⟩
 case round=>
  obtain⟨i,hi,rfl,rfl,HM⟩:=hrel
  by_cases hlt:i<n
  ·obtain⟨b,o,cs,rfl,h1,h2,h3,h4,h5⟩:=H.out (by omega);obtain⟨cs1,e1,s1,p1,q1⟩:=HM.out.row b cs _ h3;obtain⟨u0,c0⟩:=ziQ e1 (i:=o+i*2) (by omega);have f0:=zvY _ _ (o+i*2) _ _ e1;have m1:=MkR.put e1 h1 h2 (q1 _ (h5 (i*2) (by omega))) (.int .i64 (k+2*(i:Int))) rfl;obtain⟨cs2,e2,s2,p2,q2⟩:=m1.row b cs1 _ e1;obtain⟨u1,c1⟩:=ziQ e2 (i:=o+i*2+1) (by omega);have f1:=zvY _ _ (o+i*2+1) _ _ e2;have m2:=MkR.put e2 h1 h2 (q2 _ (q1 _ (h5 (i*2+1) (by omega)))) (.int .i64 (k+2*(i:Int)+1)) rfl;have HM2:Hid _:=HM.out.trans (m1.trans m2);have hi0:(0:Int)<=(i:Int):=by omega
   have hi1:(i:Int)<(n:Int):=by omega
   obtain⟨c1',hc1'⟩:∃c1',wr.cell? ⟨b,o+i*2+1,none⟩=some c1':=⟨u1,by rw[World.cell?_setCell_other _ _ _ _ (by simp)] at c1;exact c1⟩;have f1':=zvY _ _ (o+i*2+1) _ _ e1;obtain⟨kk,hkk⟩:∃kk:Int,k+2*(i:Int)=kk:=⟨_,rfl⟩;have hkb:0<=kk/\kk<=100000000:=by omega
   have hkb0:=hkb.1;have hkb1:=hkb.2;rw[hkk] at HM2 ⊢;have Hkk:Hid _:=hkk;clear m1 m2 e1 e2 p1 p2 q1 q2 s1 s2 h3 h4 h5 c1 f1 hkb hkk HM;go_wp2
   go_roundw
   case rel=>exact⟨i+1,by omega,by go_num,by rw[show k+2*((i+1:Nat):Int)=kk+1+1 by have:=Hkk.out;omega],HM2⟩
   case measure=>simp[intOf];omega
  ·have hii:i=n:=by omega
   subst hii;go_wp2;go_ret;exact⟨rfl,HM.out⟩
end
section
variable{lo T b:Nat}{w W:World}{cs:Array Value}
attribute [local go_sem ↓] Go.wp_at_zero Go.wp_at_succ
theorem MkR.slot{t:TypeId}(M:MkR lo T w W)(h3:w.heap[b]?=some (.cells cs t (0,0))){i:Nat}(hi:i<cs.size)(hn:slB cs[i]?=false)(h1:lo<=b)(h2:b<T):
  (∃u,W.cell? ⟨b,i,none⟩=some u)/\W.frozen? ⟨b,i,none⟩=false/\∀u,slB (some u)=false->MkR lo T w (W.setCell ⟨b,i,none⟩ u):=by
 obtain⟨cs',e,s,p,q⟩:=M.row b cs _ h3;exact⟨ziQ e (by omega),zvY _ _ _ _ _ e,fun u hu=>M.trans (MkR.put e h1 h2 (q i hn) u hu)⟩
theorem MkR.stay{t:TypeId}(M:MkR lo T w W)(h3:w.heap[b]?=some (.cells cs t (0,0))){i:Nat}{v:Value}(hi:cs[i]?=some v)(hn:slB (some v)=true):W.cell? ⟨b,i,none⟩=some v:=by
 obtain⟨cs',e,s,p,q⟩:=M.row b cs _ h3;rw[zvW _ _ _ _ _ _ e,p i (by rw[hi];exact hn),hi]
def cNd(n:zaq):Nat:=4+2*n.set.length
def cNs(ns:List zaq):Nat:=(ns.map cNd).sum
def cBr(b:zah):Nat:=2+cNs b.nodes
def cBs(bs:List zah):Nat:=(bs.map cBr).sum
def cRl(r:zaG):Nat:=cBs r.branches+1
def cRs(rs:List zaG):Nat:=(rs.map cRl).sum
theorem zjx{α:Type}(f:α->Nat)(d:α)(l:List α){i:Nat}(h:i<l.length):((l.take (i+1)).map f).sum=((l.take i).map f).sum+f (l.getD i d):=by
 rw[List.take_add_one,zva h,Option.toList_some,zvl,List.sum_append];simp[List.getD,h]
theorem zeS{α:Type}(f:α->Nat)(l:List α):∀i,((l.take i).map f).sum<=(l.map f).sum:=by
 induction l with
 |nil=>intro i;simp
 |cons a l ih=>
  intro i;cases i with
  |zero=>simp
  |succ i=>have:=ih i;simp only[zvD,zvn,List.sum_cons];omega
theorem zi8{α:Type}(f:α->Nat)(h:∀a,1<=f a):∀l:List α,l.length<=(l.map f).sum
 |[]=>by simp
 |a::l=>by have:=zi8 f h l;have:=h a;simp only[zvi,zvn,List.sum_cons];omega
theorem zkg(v:Value)(ns:List zaq)(k:Nat)(w:World)(h:NodW lo T w v ns)(hk:k+cNs ns<=90000000):
  Calls Tryz.prog 107 #[v,.int .i64 (k:Int)] w fun e W=>e=.returned (.int .i64 ((k+cNs ns:Nat):Int))/\MkR lo T w W:=by
 obtain⟨ao,cap,rfl,h⟩:=h;have H:Hid _:=h;have hlen:(ns.length:Int)<=90000000:=by have:=zi8 cNd (fun a=>by unfold cNd;omega) ns;unfold cNs at hk;omega
 have HK:Hid (∀i,k+((ns.take i).map cNd).sum<=90000000):=fun i=>by have:=zeS cNd ns i;unfold cNs at hk;omega
 clear h
 go_enter Tryz.func107,Tryz.ntmps107
 go_wp2
 go_loopw [1,5] (fun kv iv wr=>∃i K:Nat,i<=ns.length/\iv=.int .i64 i/\kv=.int .i64 (K:Int)/\Hid (K=k+((ns.take i).map cNd).sum)/\Hid (MkR lo T w wr)) (fun _ iv _=>ns.length-(intOf iv).toNat)
 case atStart=>exact⟨0,k,zvT _,rfl,rfl,by show _=_;simp,MkR.refl _ _ _⟩
 case round=>
  obtain⟨i,K,hi,rfl,rfl,HKK,HM⟩:=hrel
  by_cases hlt:i<ns.length
  ·obtain⟨b,o,cs,rfl,h1,h2,h3,h4,h5⟩:=H.out (by omega);obtain⟨g1,sv,g2,g3⟩:=h5 i hlt;obtain⟨a,c,rfl,g4⟩:=id g3;have hs:=zjx cNd .zero ns hlt;have HS1:Hid (k+((ns.take (i+1)).map cNd).sum=K+(4+2*(ns.getD i .zero).set.length)):=by show _=_;rw[hs,HKK.out];unfold cNd;omega
   have hK1:=HK.out (i+1);rw[HS1.out] at hK1;obtain⟨sn,hsn⟩:∃sn,(ns.getD i .zero).set.length=sn:=⟨_,rfl⟩;rw[hsn] at g3 g2 HS1 hK1;have hz0:o+i*5<cs.size:=by omega
   have hz1:o+i*5+4<cs.size:=by omega
   obtain⟨⟨u0,c0⟩,f0,M1⟩:=HM.out.slot h3 hz0 (g1 0 (by omega) (by omega)) h1 h2;have y1:wr.cell? ⟨b,o+i*5+1,none⟩=some (.slice a sn c):=HM.out.stay h3 g2 rfl;have HM1:Hid _:=M1 (.int .i64 (K:Int)) rfl;have hC:=zjd (.slice a sn c) sn ((K:Int)+1) (wr.setCell ⟨b,o+i*5,none⟩ (.int .i64 (K:Int))) (g3.mk HM1.out) (by omega);have hi0:(0:Int)<=(i:Int):=by omega
   have hi1:(i:Int)<(ns.length:Int):=by omega
   have hKi:(K:Int)<=90000000:=by omega
   have hKn:(K:Int)+1+2*(sn:Int)<=90000000:=by omega
   have hsi:(0:Int)<=(sn:Int):=by omega
   have H3:Hid _:=h3;have G1:Hid _:=g1;clear h3 h5 g1 g2 g3 g4 M1 hs hsn HM hK1
   go_wp2_with fail
   refine hC.mono ?_;rintro e w5 ⟨rfl,m5⟩;have M5:=HM1.out.trans m5;obtain⟨⟨u2,c2⟩,f2,M6⟩:=M5.slot H3.out (show o+i*5+2<cs.size by omega) (G1.out 2 (by omega) (by omega)) h1 h2;obtain⟨⟨u3,c3⟩,f3,-⟩:=M5.slot H3.out (show o+i*5+3<cs.size by omega) (G1.out 3 (by omega) (by omega)) h1 h2;obtain⟨⟨u4,c4⟩,f4,-⟩:=M5.slot H3.out (show o+i*5+4<cs.size by omega) (G1.out 4 (by omega) (by omega)) h1 h2;have HM8:Hid (∀x y z:Int,MkR lo T w (((w5.setCell ⟨b,o+i*5+2,none⟩ (.int .i64 x)).setCell ⟨b,o+i*5+3,none⟩ (.int .i64 y)).setCell ⟨b,o+i*5+4,none⟩ (.int .i64 z))):=fun x y z=>
    (((M6 (.int .i64 x) rfl).slot H3.out (show o+i*5+3<cs.size by omega) (G1.out 3 (by omega) (by omega)) h1 h2).2.2 (.int .i64 y) rfl).slot H3.out (show o+i*5+4<cs.size by omega) (G1.out 4 (by omega) (by omega)) h1 h2 |>.2.2 (.int .i64 z) rfl
   obtain⟨q,hq⟩:∃q:Int,(K:Int)+1+2*(sn:Int)=q:=⟨_,rfl⟩;have Hq:Hid _:=hq;have hq1:q<=90000000:=by omega
   have hq0:0<=q:=by omega
   rw[hq];clear hC m5 M5 M6 c0 f0 y1 hq hKn HM1 H3 G1;go_wp2
   go_roundw
   case rel=>exact⟨i+1,K+(4+2*sn),by omega,by go_num,by rw[show ((K+(4+2*sn):Nat):Int)=q+1+1+1 by have:=Hq.out;omega],HS1.out.symm,HM8.out _ _ _⟩
   case measure=>simp[intOf];omega
  ·have hii:i=ns.length:=by omega
   have e1:K=k+cNs ns:=by have:=HKK.out;rw[hii,zvB] at this;exact this
   rw[e1] at *;clear hii e1 HKK;go_wp2;go_ret;exact⟨rfl,HM.out⟩
theorem zhR(v:Value)(bs:List zah)(k:Nat)(w:World)(h:BraW lo T w v bs)(hk:k+cBs bs<=90000000):
  Calls Tryz.prog 80 #[v,.int .i64 (k:Int)] w fun e W=>e=.returned (.int .i64 ((k+cBs bs:Nat):Int))/\MkR lo T w W:=by
 obtain⟨ao,cap,rfl,h⟩:=h;have H:Hid _:=h;have hlen:(bs.length:Int)<=90000000:=by have:=zi8 cBr (fun a=>by unfold cBr;omega) bs;unfold cBs at hk;omega
 have HK:Hid (∀i,k+((bs.take i).map cBr).sum<=90000000):=fun i=>by have:=zeS cBr bs i;unfold cBs at hk;omega
 clear h
 go_enter Tryz.func80,Tryz.ntmps80
 go_wp2
 go_loopw [1,5] (fun kv iv wr=>∃i K:Nat,i<=bs.length/\iv=.int .i64 i/\kv=.int .i64 (K:Int)/\Hid (K=k+((bs.take i).map cBr).sum)/\Hid (MkR lo T w wr)) (fun _ iv _=>bs.length-(intOf iv).toNat)
 case atStart=>exact⟨0,k,zvT _,rfl,rfl,by show _=_;simp,MkR.refl _ _ _⟩
 case round=>
  obtain⟨i,K,hi,rfl,rfl,HKK,HM⟩:=hrel
  by_cases hlt:i<bs.length
  ·obtain⟨b,o,cs,rfl,h1,h2,h3,h4,h5⟩:=H.out (by omega);obtain⟨g1,sv,g2,g3⟩:=h5 i hlt;have hs:=zjx cBr .zero bs hlt;obtain⟨nd,hnd⟩:∃nd,(bs.getD i .zero).nodes=nd:=⟨_,rfl⟩;have HS1:Hid (k+((bs.take (i+1)).map cBr).sum=K+2+cNs nd):=by show _=_;rw[hs,HKK.out,<-hnd];unfold cBr;omega
   have hK1:=HK.out (i+1);rw[HS1.out] at hK1;rw[hnd] at g3;obtain⟨a,c,rfl,g4⟩:=id g3;have y2:wr.cell? ⟨b,o+i*3+2,none⟩=some (.slice a nd.length c):=HM.out.stay h3 g2 rfl;obtain⟨⟨u0,c0⟩,f0,M1⟩:=HM.out.slot h3 (show o+i*3<cs.size by omega) (g1 0 (by omega)) h1 h2;obtain⟨⟨u1,c1⟩,f1,-⟩:=HM.out.slot h3 (show o+i*3+1<cs.size by omega) (g1 1 (by omega)) h1 h2;have HM2:Hid (∀x y:Bool,MkR lo T w ((wr.setCell ⟨b,o+i*3,none⟩ (.bool x)).setCell ⟨b,o+i*3+1,none⟩ (.bool y))):=fun x y=>((M1 (.bool x) rfl).slot h3 (show o+i*3+1<cs.size by omega) (g1 1 (by omega)) h1 h2).2.2 (.bool y) rfl
   have HC:Hid (∀W,MkR lo T w W->Calls Tryz.prog 107 #[.slice a nd.length c,.int .i64 ((K+2:Nat):Int)] W fun e W'=>e=.returned (.int .i64 ((K+2+cNs nd:Nat):Int))/\MkR lo T w W'):=fun W hW=>(zkg _ nd (K+2) W (g3.mk hW) (by omega)).mono fun e W' hh=>⟨hh.1,hW.trans hh.2⟩
   have hi0:(0:Int)<=(i:Int):=by omega
   have hi1:(i:Int)<(bs.length:Int):=by omega
   have hKi:(K:Int)<=90000000:=by omega
   obtain⟨n3,hn3⟩:∃n3,nd.length=n3:=⟨_,rfl⟩;rw[hn3] at y2 HC;obtain⟨q,hq⟩:∃q:Nat,K+2+cNs nd=q:=⟨_,rfl⟩;rw[hq] at HC HS1;clear h3 h5 g1 g2 g3 g4 M1 hs hnd HM hK1 hn3 hq
   go_wp2_with fail
   have e2:(K:Int)+1+1=((K+2:Nat):Int):=by omega
   rw[e2];refine(HC.out _ (HM2.out _ _)).mono ?_;rintro e w5 ⟨rfl,m5⟩;have HM5:Hid _:=m5;clear m5 c0 c1 f0 f1 y2 HM2 HC e2;go_wp2
   go_roundw
   case rel=>exact⟨i+1,q,by omega,by go_num,rfl,HS1.out.symm,HM5⟩
   case measure=>simp[intOf];omega
  ·have hii:i=bs.length:=by omega
   have e1:K=k+cBs bs:=by have:=HKK.out;rw[hii,zvB] at this;exact this
   rw[e1] at *;clear hii e1 HKK;go_wp2;go_ret;exact⟨rfl,HM.out⟩
theorem zki(v:Value)(rs:List zaG)(k:Nat)(w:World)(h:RulW lo T w v rs)(hk:k+cRs rs<=90000000):
  Calls Tryz.prog 42 #[v,.int .i64 (k:Int)] w fun e W=>e=.returned (.int .i64 ((k+cRs rs:Nat):Int))/\MkR lo T w W:=by
 obtain⟨ao,cap,rfl,h⟩:=h;have H:Hid _:=h;have hlen:(rs.length:Int)<=90000000:=by have:=zi8 cRl (fun a=>by unfold cRl;omega) rs;unfold cRs at hk;omega
 have HK:Hid (∀i,k+((rs.take i).map cRl).sum<=90000000):=fun i=>by have:=zeS cRl rs i;unfold cRs at hk;omega
 clear h
 go_enter Tryz.func42,Tryz.ntmps42
 go_wp2
 go_loopw [1,5] (fun kv iv wr=>∃i K:Nat,i<=rs.length/\iv=.int .i64 i/\kv=.int .i64 (K:Int)/\Hid (K=k+((rs.take i).map cRl).sum)/\Hid (MkR lo T w wr)) (fun _ iv _=>rs.length-(intOf iv).toNat)
 case atStart=>exact⟨0,k,zvT _,rfl,rfl,by show _=_;simp,MkR.refl _ _ _⟩
 case round=>
  obtain⟨i,K,hi,rfl,rfl,HKK,HM⟩:=hrel
  by_cases hlt:i<rs.length
  ·obtain⟨b,o,cs,rfl,h1,h2,h3,h4,h5⟩:=H.out (by omega);obtain⟨g1,sv,g2,g3⟩:=h5 i hlt;have hs:=zjx cRl .zero rs hlt;obtain⟨bd,hbd⟩:∃bd,(rs.getD i .zero).branches=bd:=⟨_,rfl⟩;have HS1:Hid (k+((rs.take (i+1)).map cRl).sum=K+cBs bd+1):=by show _=_;rw[hs,HKK.out,<-hbd];unfold cRl;omega
   have hK1:=HK.out (i+1);rw[HS1.out] at hK1;rw[hbd] at g3;obtain⟨a,c,rfl,g4⟩:=id g3;have y2:wr.cell? ⟨b,o+i*2,none⟩=some (.slice a bd.length c):=HM.out.stay h3 g2 rfl;have hC:=zhR _ bd K wr (g3.mk HM.out) (by omega);have hi0:(0:Int)<=(i:Int):=by omega
   have hi1:(i:Int)<(rs.length:Int):=by omega
   obtain⟨n3,hn3⟩:∃n3,bd.length=n3:=⟨_,rfl⟩;rw[hn3] at y2 hC;obtain⟨q,hq⟩:∃q:Nat,K+cBs bd=q:=⟨_,rfl⟩;rw[hq] at hC HS1 hK1;have hqi:(q:Int)<=90000000:=by omega
   have H3:Hid _:=h3;have G1:Hid _:=g1;clear h3 h5 g1 g2 g3 g4 hs hbd hn3 hq hK1
   go_wp2_with fail
   refine hC.mono ?_;rintro e w5 ⟨rfl,m5⟩;have M5:=HM.out.trans m5;obtain⟨⟨u2,c2⟩,f2,M6⟩:=M5.slot H3.out (show o+i*2+1<cs.size by omega) G1.out h1 h2;have HM6:Hid _:=M6 (.int .i64 (q:Int)) rfl;clear hC m5 M5 M6 y2 H3 G1 HM;go_wp2
   go_roundw
   case rel=>exact⟨i+1,q+1,by omega,by go_num,by go_num,HS1.out.symm,HM6⟩
   case measure=>simp[intOf];omega
  ·have hii:i=rs.length:=by omega
   have e1:K=k+cRs rs:=by have:=HKK.out;rw[hii,zvB] at this;exact this
   rw[e1] at *;clear hii e1 HKK;go_wp2;go_ret;exact⟨rfl,HM.out⟩
end
section
variable{lo T T' lo':Nat}{w W w':World}{v:Value}{rs:List (Int×Int)}
theorem RngW.keep{n:Nat}(h:RngW lo T w v n)(hl:lo'<=lo)(hT:T<=T')(hk:∀(b:Nat) (o:Obj),lo<=b->b<T->w.heap[b]?=some o->W.heap[b]?=some o):RngW lo' T' W v n:=by
 obtain⟨ao,cap,rfl,h⟩:=h;refine⟨ao,cap,rfl,fun h0=>?_⟩;obtain⟨b,o,cs,rfl,h1,h2,h3,h4,h5⟩:=h h0;exact⟨b,o,cs,rfl,by omega,by omega,hk b _ h1 h2 h3,h4,h5⟩
theorem NodW.keep{ns:List zaq}(h:NodW lo T w v ns)(hl:lo'<=lo)(hT:T<=T')(hk:∀(b:Nat) (o:Obj),lo<=b->b<T->w.heap[b]?=some o->W.heap[b]?=some o):NodW lo' T' W v ns:=by
 obtain⟨ao,cap,rfl,h⟩:=h;refine⟨ao,cap,rfl,fun h0=>?_⟩;obtain⟨b,o,cs,rfl,h1,h2,h3,h4,h5⟩:=h h0;refine⟨b,o,cs,rfl,by omega,by omega,hk b _ h1 h2 h3,h4,fun i hi=>?_⟩;obtain⟨g1,sv,g2,g3⟩:=h5 i hi;exact⟨g1,sv,g2,g3.keep hl hT hk⟩
theorem BraW.keep{bs:List zah}(h:BraW lo T w v bs)(hl:lo'<=lo)(hT:T<=T')(hk:∀(b:Nat) (o:Obj),lo<=b->b<T->w.heap[b]?=some o->W.heap[b]?=some o):BraW lo' T' W v bs:=by
 obtain⟨ao,cap,rfl,h⟩:=h;refine⟨ao,cap,rfl,fun h0=>?_⟩;obtain⟨b,o,cs,rfl,h1,h2,h3,h4,h5⟩:=h h0;refine⟨b,o,cs,rfl,by omega,by omega,hk b _ h1 h2 h3,h4,fun i hi=>?_⟩;obtain⟨g1,sv,g2,g3⟩:=h5 i hi;exact⟨g1,sv,g2,g3.keep hl hT hk⟩
def RngB(lo:Nat)(w:World)(v:Value)(rs:List (Int×Int)):Prop:=zal lo w v rs/\RngW lo w.heap.size w v rs.length
theorem RngB.below(h:RngB lo w v rs)(hb:Below w.heap.size w w'):RngB lo w' v rs:=⟨h.1.below hb,h.2.keep (zvJ _) hb.size fun b _ _ hl e=>(hb.block b hl).trans e⟩
theorem RngB.mono(h:RngB lo w v rs)(hl:lo'<=lo):RngB lo' w v rs:=⟨h.1.mono hl,h.2.keep hl (zvJ _) fun _ _ _ _ e=>e⟩
theorem RngB.setCell(h:RngB lo w v rs){a:Addr}(ha:a.block<lo)(u:Value):RngB lo (w.setCell a u) v rs:=⟨h.1.setCell ha u,h.2.keep (zvJ _) (by simp[World.setCell]) fun _ _ hb _ e=>(zv0 _ _ _ _ (by omega)).trans e⟩
def NodB(lo:Nat)(w:World)(v:Value)(rs:List zaq):Prop:=zaI lo w v rs/\NodW lo w.heap.size w v rs
theorem NodB.below{rs:List zaq}(h:NodB lo w v rs)(hb:Below w.heap.size w w'):NodB lo w' v rs:=⟨h.1.below hb,h.2.keep (zvJ _) hb.size fun b _ _ hl e=>(hb.block b hl).trans e⟩
theorem NodB.mono{rs:List zaq}(h:NodB lo w v rs)(hl:lo'<=lo):NodB lo' w v rs:=⟨h.1.mono hl,h.2.keep hl (zvJ _) fun _ _ _ _ e=>e⟩
theorem NodB.setCell{rs:List zaq}(h:NodB lo w v rs){a:Addr}(ha:a.block<lo)(u:Value):NodB lo (w.setCell a u) v rs:=⟨h.1.setCell ha u,h.2.keep (zvJ _) (by simp[World.setCell]) fun _ _ hb _ e=>(zv0 _ _ _ _ (by omega)).trans e⟩
def BraB(lo:Nat)(w:World)(v:Value)(rs:List zah):Prop:=zao lo w v rs/\BraW lo w.heap.size w v rs
theorem BraB.below{rs:List zah}(h:BraB lo w v rs)(hb:Below w.heap.size w w'):BraB lo w' v rs:=⟨h.1.below hb,h.2.keep (zvJ _) hb.size fun b _ _ hl e=>(hb.block b hl).trans e⟩
theorem BraB.mono{rs:List zah}(h:BraB lo w v rs)(hl:lo'<=lo):BraB lo' w v rs:=⟨h.1.mono hl,h.2.keep hl (zvJ _) fun _ _ _ _ e=>e⟩
theorem BraB.setCell{rs:List zah}(h:BraB lo w v rs){a:Addr}(ha:a.block<lo)(u:Value):BraB lo (w.setCell a u) v rs:=⟨h.1.setCell ha u,h.2.keep (zvJ _) (by simp[World.setCell]) fun _ _ hb _ e=>(zv0 _ _ _ _ (by omega)).trans e⟩
theorem zmm(v:Value)(rs:List (Int×Int))(w:World)(hs:zal lo w v rs)(hn:rs.length<=1048576):
  Calls Tryz.prog 175 #[v] w fun e w'=>∃v',e=.returned v'/\RngB w.heap.size w' v' rs/\Below w.heap.size w w':=by
 obtain⟨ao,cap,rfl,hm,hc⟩:=hs;obtain⟨i0,hi,hz0,hz1,hz2⟩:=info_parts Tryz.infoRange
 go_enter Tryz.func175,Tryz.ntmps175
 go_wp2_with (refine wpList_make_full _ rfl _ _ 147 rfl w.heap.size 211 i0 _ 2 Tryz.underlying147 hi hz0 hz1 _ _ _ _ rs.length rfl rfl rfl rfl (by rw[hz2];omega) (by unfold maxLen;omega) (zvJ _) ?_;intro w1 hown hgrow)
 have hbw:Below w.heap.size w w1:=(Below.refl _ _).grown hgrow (zvJ _) (by intro k h;cases h);clear hgrow
 go_loopw [4] (fun i wr=>∃k:Nat,k<=rs.length/\i=.int .i64 k/\Below w.heap.size w wr/\∃xs:List Value,wr.ownsRow w.heap.size 211 2 (.slice (some ⟨w.heap.size,0,none⟩) rs.length rs.length) rs.length xs/\
   zb4 xs 2 k (fun j=>[.int .i64 (rs.getD j (0,0)).1,.int .i64 (rs.getD j (0,0)).2]))
  (fun i _=>rs.length-(intOf i).toNat)
 case atStart=>exact⟨0,zvT _,rfl,hbw,_,hown,fun j hj=>absurd hj (zvQ _)⟩
 case round=>
  obtain⟨k,hk,rfl,hb,xs,hown,hfill⟩:=hrel
  by_cases hlt:k<rs.length
  ·obtain⟨b,o,lo,hi,rfl,Hn,hbl,c0,c1⟩:=hc.elem hb hlt
   go_wp2_with (go_at_call 197;refine(zoz _ _ _).mono ?_;rintro e w2 ⟨rfl,hb2⟩;have hown2:=zac hown hb2;obtain⟨u0,u1,d0,d1,f0,f1⟩:=zhb hown2 hlt)
   go_roundw
   case rel=>exact⟨k+1,by omega,by go_num,((zaa hb hb.size hb2).setCell (zvJ _) _).setCell (zvJ _) _,_,((hown2.stored _ _).1.stored _ _).1,zig hfill (by have:=hown2.1;omega) (by rw[Hn.out])⟩
   case measure=>simp[intOf];omega
  ·go_wp2;have hkk:k=rs.length:=by omega
   refine zvV (v:=.slice (some ⟨w.heap.size,0,none⟩) rs.length rs.length) (by simp[results,Tryz.results175,go_sem]) rfl ⟨_,rfl,⟨⟨_,_,rfl,hm,fun _=>⟨w.heap.size,0,rfl,zvJ _,zcE hown,fun i hi=>?_⟩⟩,?_⟩,hb⟩
   all_goals rw[hkk] at hfill
   rotate_left
   ·refine⟨_,_,rfl,fun _=>⟨w.heap.size,0,xs.toArray,rfl,zvJ _,zcE hown,zbq hown,by have:=hown.1;simp;omega,fun i hi=>?_⟩⟩;have hr:=zvW _ _ i _ _ _ (zbq hown);have e:=zaJ hown hfill (i:=i/2) (c:=i%2) (by omega) (by omega);rw[show i/2*2+i%2=i by omega] at e;rw[zvS,<-hr];rcases(show i%2=0\/i%2=1 by omega) with h2|h2<;>simp only[h2] at e<;>simp[e,slB]
   have e0:=zaJ hown hfill (c:=0) hi (by omega);have e1:=zaJ hown hfill (c:=1) hi (by omega);simp only[zvH,zvS] at e0 e1 ⊢;exact⟨e0,e1⟩
theorem zoy(k mn mx g:Int)(sv:Value)(rs:List (Int×Int))(w:World)(hs:zal lo w sv rs)(hn:rs.length<=1048576):
  Calls Tryz.prog 154 #[.agg #[.int .i64 k,sv,.int .i64 mn,.int .i64 mx,.int .i64 g]] w fun e w'=>∃sv',e=.returned (.agg #[.int .i64 k,sv',.int .i64 mn,.int .i64 mx,.int .i64 g])/\RngB w.heap.size w' sv' rs/\Below w.heap.size w w':=by
 go_enter Tryz.func154,Tryz.ntmps154
 go_wp2_with fail
 refine(zmm (lo:=lo) _ rs _ (hs.below ?_) hn).mono ?_
 ·exact(((Below.refl _ _).alloc (zvJ _) _).alloc (by simp) _).alloc (by simp;omega) _
 rintro e w2 ⟨sv',rfl,hr,hb⟩;have hw:=hr.2;obtain⟨ao',cap',rfl,hm',hc'⟩:=hr.1;obtain⟨hcc,hff⟩:=zfA hb;have hz:=hb.size;simp only[World.size_alloc] at hc' hz hw;have hr:RngB (w.heap.size+1+1+1) w2 (.slice ao' rs.length cap') rs:=⟨⟨_,_,rfl,hm',hc'⟩,hw⟩;have hbb:=(((((Below.refl w.heap.size w).alloc (zvJ _) _).alloc (by simp) _).alloc (by simp;omega) _).trans (hb.mono (by simp;omega)));clear hb;go_wp2;refine zvV (v:=.agg #[.int .i64 k,.slice ao' rs.length cap',.int .i64 mn,.int .i64 mx,.int .i64 g]) (by simp[results,Tryz.results154,go_sem,hcc]) rfl ⟨_,rfl,?_,?_⟩
 ·refine RngB.mono (lo:=w.heap.size+1+1+1) ?_ (by omega)
  iterate 9 refine RngB.setCell ?_ (by simp) _
  exact hr
 ·iterate 9 refine Below.setCell ?_ (by simp<;>omega) _
  exact hbb
theorem zml(v:Value)(ns:List zaq)(w:World)(hs:zaI lo w v ns)(hn:ns.length<=1048576)(hset:∀i,i<ns.length->(ns.getD i .zero).set.length<=1048576):
  Calls Tryz.prog 137 #[v] w fun e w'=>∃v',e=.returned v'/\NodB w.heap.size w' v' ns/\Below w.heap.size w w':=by
 obtain⟨ao,cap,rfl,hm,hc⟩:=hs;obtain⟨i0,hi,hz0,hz1,hz2⟩:=info_parts Tryz.infoNode
 go_enter Tryz.func137,Tryz.ntmps137
 go_wp2_with (refine wpList_make_full _ rfl _ _ 113 rfl w.heap.size 149 i0 _ 5 Tryz.underlying113 hi hz0 hz1 _ _ _ _ ns.length rfl rfl rfl rfl (by rw[hz2];omega) (by unfold maxLen;omega) (zvJ _) ?_;intro w1 hown hgrow)
 have hbw:Below w.heap.size w w1:=(Below.refl _ _).grown hgrow (zvJ _) (by intro k h;cases h);clear hgrow
 go_loopw [4] (fun i wr=>∃k:Nat,k<=ns.length/\i=.int .i64 k/\Below w.heap.size w wr/\∃(xs:List Value) (S:Nat->Value),wr.ownsRow w.heap.size 149 5 (.slice (some ⟨w.heap.size,0,none⟩) ns.length ns.length) ns.length xs/\
   zb4 xs 5 k (zjf ns S)/\∀j,j<k->RngB (w.heap.size+1) wr (S j) (ns.getD j .zero).set)
  (fun i _=>ns.length-(intOf i).toNat)
 case atStart=>exact⟨0,zvT _,rfl,hbw,_,fun _=>.nilIface,hown,fun j hj=>absurd hj (zvQ _),fun j hj=>absurd hj (zvQ _)⟩
 case round=>
  obtain⟨k,hk,rfl,hb,xs,S,hown,hfill,HS0⟩:=hrel;have HS:Hid (∀j,j<k->RngB (w.heap.size+1) wr (S j) (ns.getD j .zero).set):=HS0;clear HS0;have hgl:=zcE hown
  by_cases hlt:k<ns.length
  ·obtain⟨b,o,sv,nd,rfl,Hn,hbl,c0,c1,c2,c3,c4,hsv⟩:=hc.elem hb hlt;have hnd:nd.set.length<=1048576:=by have:=hset k hlt;rw[Hn.out] at this;exact this
   have Hset:Hid (∀i,i<ns.length->(ns.getD i .zero).set.length<=1048576):=hset;clear hset
   go_wp2_with (go_at_call 154;refine(zoy _ _ _ _ _ _ _ hsv hnd).mono ?_;rintro e w2 ⟨sv',rfl,hr,hb2⟩;have hrw:=hr.2;obtain⟨ao',cap',rfl,hm',hc'⟩:=hr.1;have hown2:=zac hown hb2;obtain⟨u0,u1,u2,u3,u4,d0,d1,d2,d3,d4,f0,f1,f2,f3,f4⟩:=zr3 hown2 hlt)
   go_roundw
   case rel=>
    refine⟨k+1,by omega,by go_num,?_,_,upd S k (.slice ao' nd.set.length cap'),(((((hown2.stored _ _).1.stored _ _).1.stored _ _).1.stored _ _).1.stored _ _).1,zlo (hfill.congr fun j hj=>by simp only[zjf,ziE _ _ hj]) (by have:=hown2.1;omega) (by rw[zjf,Hn.out,zet]),fun j hj=>?_⟩
    ·iterate 5 refine Below.setCell ?_ (by simp) _
     exact zaa hb hb.size hb2
    ·iterate 5 refine RngB.setCell ?_ (by simp<;>omega) _
     by_cases e:j=k
     ·subst e;rw[zet,Hn.out];exact RngB.mono ⟨⟨_,_,rfl,hm',hc'⟩,hrw⟩ (by omega)
     ·rw[ziE _ _ (by omega)];exact(HS.out j (by omega)).below hb2
   case measure=>simp[intOf];omega
  ·go_wp2;have hkk:k=ns.length:=by omega
   rw[hkk] at hfill HS;refine zvV (v:=.slice (some ⟨w.heap.size,0,none⟩) ns.length ns.length) (by simp[results,Tryz.results137,go_sem]) rfl ⟨_,rfl,⟨⟨_,_,rfl,hm,fun _=>⟨w.heap.size,0,rfl,zvJ _,hgl,fun i hi=>?_⟩⟩,?_⟩,hb⟩
   rotate_left
   ·refine⟨_,_,rfl,fun _=>⟨w.heap.size,0,xs.toArray,rfl,zvJ _,hgl,zbq hown,by have:=hown.1;simp;omega,fun i hi=>?_⟩⟩;have hr:=fun k=>zvW _ _ k _ _ _ (zbq hown)
    refine⟨fun j hj hne=>?_,S i,?_,(HS.out i hi).2.keep (by omega) (zvJ _) fun _ _ _ _ e=>e⟩
    ·have e:=zaJ hown hfill (c:=j) hi hj;rw[zvS,<-hr];rcases(show j=0\/j=2\/j=3\/j=4 by omega) with h2|h2|h2|h2<;>subst h2<;>simp[zjf] at e<;>simp[e,slB]
    ·have e:=zaJ hown hfill (c:=1) hi (by omega);rw[zvS,<-hr,e]
     rfl
   have e0:=zaJ hown hfill (c:=0) hi (by omega);have e1:=zaJ hown hfill (c:=1) hi (by omega);have e2:=zaJ hown hfill (c:=2) hi (by omega);have e3:=zaJ hown hfill (c:=3) hi (by omega);have e4:=zaJ hown hfill (c:=4) hi (by omega);simp only[zvH,zvS] at e0 e1 e2 e3 e4 ⊢;exact⟨e0,⟨_,e1,(HS.out i hi).1.mono (by omega)⟩,e2,e3,e4⟩
theorem zkS(bol eol:Bool)(nv:Value)(ns:List zaq)(w:World)(hs:zaI lo w nv ns)(hn:ns.length<=1048576)(hset:∀i,i<ns.length->(ns.getD i .zero).set.length<=1048576):
  Calls Tryz.prog 117 #[.agg #[.bool bol,.bool eol,nv]] w fun e w'=>∃nv',e=.returned (.agg #[.bool bol,.bool eol,nv'])/\NodB w.heap.size w' nv' ns/\Below w.heap.size w w':=by
 have Hset:Hid (∀i,i<ns.length->(ns.getD i .zero).set.length<=1048576):=hset;clear hset
 go_enter Tryz.func117,Tryz.ntmps117
 go_wp2_with fail
 refine(zml (lo:=lo) _ ns _ (hs.below ?_) hn Hset.out).mono ?_
 ·exact(((Below.refl _ _).alloc (zvJ _) _).alloc (by simp) _).alloc (by simp;omega) _
 rintro e w2 ⟨sv',rfl,hr,hb⟩;have hw:=hr.2;obtain⟨ao',cap',rfl,hm',hc'⟩:=hr.1;obtain⟨hcc,hff⟩:=zfA hb;have hz:=hb.size;simp only[World.size_alloc] at hc' hz hw;have hr:NodB (w.heap.size+1+1+1) w2 (.slice ao' ns.length cap') ns:=⟨⟨_,_,rfl,hm',hc'⟩,hw⟩;have hbb:=(((((Below.refl w.heap.size w).alloc (zvJ _) _).alloc (by simp) _).alloc (by simp;omega) _).trans (hb.mono (by simp;omega)));clear hb;go_wp2;refine zvV (v:=.agg #[.bool bol,.bool eol,.slice ao' ns.length cap']) (by simp[results,Tryz.results117,go_sem,hcc]) rfl ⟨_,rfl,?_,?_⟩
 ·refine NodB.mono (lo:=w.heap.size+1+1+1) ?_ (by omega)
  iterate 4 refine NodB.setCell ?_ (by simp) _
  exact hr
 ·iterate 4 refine Below.setCell ?_ (by simp<;>omega) _
  exact hbb
theorem zjB(v:Value)(ns:List zah)(w:World)(hs:zao lo w v ns)(hsm:Small ns):
  Calls Tryz.prog 95 #[v] w fun e w'=>∃v',e=.returned v'/\BraB w.heap.size w' v' ns/\Below w.heap.size w w':=by
 obtain⟨ao,cap,rfl,hm,hc⟩:=hs;have hn:=hsm.1;obtain⟨i0,hi,hz0,hz1,hz2⟩:=info_parts Tryz.infoBranch
 go_enter Tryz.func95,Tryz.ntmps95
 go_wp2_with (refine wpList_make_full _ rfl _ _ 67 rfl w.heap.size 115 i0 _ 3 Tryz.underlying67 hi hz0 hz1 _ _ _ _ ns.length rfl rfl rfl rfl (by rw[hz2];omega) (by unfold maxLen;omega) (zvJ _) ?_;intro w1 hown hgrow)
 have hbw:Below w.heap.size w w1:=(Below.refl _ _).grown hgrow (zvJ _) (by intro k h;cases h);clear hgrow
 go_loopw [4] (fun i wr=>∃k:Nat,k<=ns.length/\i=.int .i64 k/\Below w.heap.size w wr/\∃(xs:List Value) (S:Nat->Value),wr.ownsRow w.heap.size 115 3 (.slice (some ⟨w.heap.size,0,none⟩) ns.length ns.length) ns.length xs/\
   zb4 xs 3 k (zeY ns S)/\∀j,j<k->NodB (w.heap.size+1) wr (S j) (ns.getD j .zero).nodes)
  (fun i _=>ns.length-(intOf i).toNat)
 case atStart=>exact⟨0,zvT _,rfl,hbw,_,fun _=>.nilIface,hown,fun j hj=>absurd hj (zvQ _),fun j hj=>absurd hj (zvQ _)⟩
 case round=>
  obtain⟨k,hk,rfl,hb,xs,S,hown,hfill,HS0⟩:=hrel;have HS:Hid (∀j,j<k->NodB (w.heap.size+1) wr (S j) (ns.getD j .zero).nodes):=HS0;clear HS0;have hgl:=zcE hown
  by_cases hlt:k<ns.length
  ·obtain⟨b,o,nv,nd,rfl,Hn,hbl,c0,c1,c2,hsv⟩:=hc.elem hb hlt;have hnd:nd.nodes.length<=1048576:=by have:=(hsm.2 k hlt).1;rw[Hn.out] at this;exact this
   have Hset:Hid (∀j,j<nd.nodes.length->(nd.nodes.getD j .zero).set.length<=1048576):=by have:=(hsm.2 k hlt).2;rw[Hn.out] at this;exact this
   go_wp2_with (go_at_call 117;refine(zkS _ _ _ _ _ hsv hnd Hset.out).mono ?_;rintro e w2 ⟨sv',rfl,hr,hb2⟩;have hrw:=hr.2;obtain⟨ao',cap',rfl,hm',hc'⟩:=hr.1;have hown2:=zac hown hb2;obtain⟨u0,u1,u2,d0,d1,d2,f0,f1,f2⟩:=zp8 hown2 hlt)
   go_roundw
   case rel=>
    refine⟨k+1,by omega,by go_num,?_,_,upd S k (.slice ao' nd.nodes.length cap'),(((hown2.stored _ _).1.stored _ _).1.stored _ _).1,zjX (hfill.congr fun j hj=>by simp only[zeY,ziE _ _ hj]) (by have:=hown2.1;omega) (by rw[zeY,Hn.out,zet]),fun j hj=>?_⟩
    ·iterate 3 refine Below.setCell ?_ (by simp) _
     exact zaa hb hb.size hb2
    ·iterate 3 refine NodB.setCell ?_ (by simp<;>omega) _
     by_cases e:j=k
     ·subst e;rw[zet,Hn.out];exact NodB.mono ⟨⟨_,_,rfl,hm',hc'⟩,hrw⟩ (by omega)
     ·rw[ziE _ _ (by omega)];exact(HS.out j (by omega)).below hb2
   case measure=>simp[intOf];omega
  ·go_wp2;have hkk:k=ns.length:=by omega
   rw[hkk] at hfill HS;refine zvV (v:=.slice (some ⟨w.heap.size,0,none⟩) ns.length ns.length) (by simp[results,Tryz.results95,go_sem]) rfl ⟨_,rfl,⟨⟨_,_,rfl,hm,fun _=>⟨w.heap.size,0,rfl,zvJ _,hgl,fun i hi=>?_⟩⟩,?_⟩,hb⟩
   rotate_left
   ·refine⟨_,_,rfl,fun _=>⟨w.heap.size,0,xs.toArray,rfl,zvJ _,hgl,zbq hown,by have:=hown.1;simp;omega,fun i hi=>?_⟩⟩;have hr:=fun k=>zvW _ _ k _ _ _ (zbq hown)
    refine⟨fun j hj=>?_,S i,?_,(HS.out i hi).2.keep (by omega) (zvJ _) fun _ _ _ _ e=>e⟩
    ·have e:=zaJ hown hfill (c:=j) hi (by omega);rw[zvS,<-hr];rcases(show j=0\/j=1 by omega) with h2|h2<;>subst h2<;>simp[zeY] at e<;>simp[e,slB]
    ·have e:=zaJ hown hfill (c:=2) hi (by omega);rw[zvS,<-hr,e]
     rfl
   have e0:=zaJ hown hfill (c:=0) hi (by omega);have e1:=zaJ hown hfill (c:=1) hi (by omega);have e2:=zaJ hown hfill (c:=2) hi (by omega);simp only[zvH,zvS] at e0 e1 e2 ⊢;exact⟨e0,e1,⟨_,e2,(HS.out i hi).1.mono (by omega)⟩⟩
theorem zoA(g:Int)(bv:Value)(bs:List zah)(w:World)(hs:zao lo w bv bs)(hsm:Small bs):
  Calls Tryz.prog 68 #[.agg #[bv,.int .i64 g]] w fun e w'=>∃bv',e=.returned (.agg #[bv',.int .i64 g])/\BraB w.heap.size w' bv' bs/\Below w.heap.size w w':=by
 go_enter Tryz.func68,Tryz.ntmps68
 go_wp2_with fail
 refine(zjB (lo:=lo) _ bs _ (hs.below ?_) hsm).mono ?_
 ·exact(((Below.refl _ _).alloc (zvJ _) _).alloc (by simp) _).alloc (by simp;omega) _
 rintro e w2 ⟨sv',rfl,hr,hb⟩;have hw:=hr.2;obtain⟨ao',cap',rfl,hm',hc'⟩:=hr.1;obtain⟨hcc,hff⟩:=zfA hb;have hz:=hb.size;simp only[World.size_alloc] at hc' hz hw;have hr:BraB (w.heap.size+1+1+1) w2 (.slice ao' bs.length cap') bs:=⟨⟨_,_,rfl,hm',hc'⟩,hw⟩;have hbb:=(((((Below.refl w.heap.size w).alloc (zvJ _) _).alloc (by simp) _).alloc (by simp;omega) _).trans (hb.mono (by simp;omega)));clear hb;go_wp2;refine zvV (v:=.agg #[.slice ao' bs.length cap',.int .i64 g]) (by simp[results,Tryz.results68,go_sem,hcc]) rfl ⟨_,rfl,?_,?_⟩
 ·refine BraB.mono (lo:=w.heap.size+1+1+1) ?_ (by omega)
  iterate 4 refine BraB.setCell ?_ (by simp) _
  exact hr
 ·iterate 4 refine Below.setCell ?_ (by simp<;>omega) _
  exact hbb
end
variable{ns:List zaq}{l:Int}{rs:List zaG}{lo:Nat}
attribute [local go_sem ↓] Go.wp_at_zero Go.wp_at_succ
def zbj:List zaG->Int->Int
 |[],l=>l
 |r::rs,l=>if zay r.branches l<0 then -1 else zbj rs (zay r.branches l)
def zbI(rs:List zaG)(left:Int):Int:=if left-rs.length<0 then -1 else zbj rs (left-rs.length)
theorem zmk(ns:List zaG):∀l:Int,0<=l->-1<=zbj ns l/\zbj ns l<=l:=by
 induction ns with
 |nil=>intro l h;simp[zbj];omega
 |cons n ns ih=>
  intro l h;have:=zbW n.branches l h;unfold zbj;split
  ·omega
  ·have:=ih (zay n.branches l) (by omega);omega
theorem zmj(ns:List zaG)(l:Int)(h:0<=l):-1<=zbI ns l/\zbI ns l<=l:=by
 unfold zbI;split
 ·omega
 ·have:=zmk ns (l-ns.length) (by omega);omega
theorem zjz(ns:List zaG)(i:Nat)(hi:i<ns.length)(l:Int):
  zbj (ns.drop i) l=if zay (ns.getD i .zero).branches l<0 then -1 else zbj (ns.drop (i+1)) (zay (ns.getD i .zero).branches l):=by
 rw[zuV hi];simp[zbj,List.getD,hi]
theorem zqI{n:zaq}:∀(ns:List zaq) (l:Int),0<=l->0<=zbi ns l->n∈ns->(n.set.length:Int)<=l
 |[],_,_,_,h=>by cases h
 |m::ns,l,hl,h,hm=>by
  unfold zbi at h;have hq:=zcH m.set l hl
  by_cases hc:zaX m.set l<0
  ·rw[zv3 hc] at h;omega
  ·rw[zv2 hc] at h;rcases zvp.1 hm with e|e
   ·subst e;unfold zaX at hc;split at hc<;>omega
   ·have:=zqI ns _ (by omega) h e;omega
theorem ztK(h:0<=zaU ns l):(ns.length:Int)<=l/\∀n,n∈ns->(n.set.length:Int)<=l:=by
 unfold zaU at h
 by_cases hc:l-ns.length<0
 ·rw[zv3 hc] at h;omega
 ·rw[zv2 hc] at h;exact⟨by omega,fun n hn=>by have:=zqI ns _ (by omega) h hn;omega⟩
theorem zqH{b:zah}:∀(bs:List zah) (l:Int),0<=l->0<=zaN bs l->b∈bs->((b.nodes.length:Int)<=l/\∀n,n∈b.nodes->(n.set.length:Int)<=l)
 |[],_,_,_,h=>by cases h
 |m::ns,l,hl,h,hm=>by
  unfold zaN at h;have hq:=zc9 m.nodes l hl
  by_cases hc:zaU m.nodes l<0
  ·rw[zv3 hc] at h;omega
  ·rw[zv2 hc] at h;rcases zvp.1 hm with e|e
   ·subst e;exact ztK (by omega)
   ·have:=zqH ns _ (by omega) h e;exact⟨by omega,fun n hn=>by have:=this.2 n hn;omega⟩
theorem zgO{α:Type}{d:α}{l:List α}{i:Nat}(h:i<l.length):l.getD i d∈l:=by
 simp[List.getD,h]
theorem ztJ{bs:List zah}(hl2:l<=1048576)(h:0<=zay bs l):Small bs:=by
 unfold zay at h
 by_cases hc:l-bs.length<0
 ·rw[zv3 hc] at h;omega
 ·rw[zv2 hc] at h;refine⟨by omega,fun i hi=>?_⟩;have:=zqH bs _ (by omega) h (zgO (d:=.zero) hi);exact⟨by omega,fun j hj=>by have:=this.2 _ (zgO (d:=.zero) hj);omega⟩
theorem zkN{r:zaG}:∀(rs:List zaG) (l:Int),0<=l->l<=1048576->0<=zbj rs l->r∈rs->Small r.branches
 |[],_,_,_,_,h=>by cases h
 |m::ns,l,hl,hl2,h,hm=>by
  unfold zbj at h;have hq:=zbW m.branches l hl
  by_cases hc:zay m.branches l<0
  ·rw[zv3 hc] at h;omega
  ·rw[zv2 hc] at h;rcases zvp.1 hm with e|e
   ·subst e;exact ztJ hl2 (by omega)
   ·exact zkN ns _ (by omega) (by omega) h e
theorem zov(h:0<=zbI rs 1048576):zcL rs:=by
 unfold zbI at h
 by_cases hc:(1048576:Int)-rs.length<0
 ·rw[zv3 hc] at h;omega
 ·rw[zv2 hc] at h;exact⟨by omega,fun k hk=>zkN rs _ (by omega) (by omega) h (zgO hk)⟩
theorem zsG:∀(ns:List zaq) (l:Int),0<=l->0<=zbi ns l->(cNs ns:Int)<=4*ns.length+2*(l-zbi ns l)
 |[],l,_,h=>by simp[cNs,zbi]
 |m::ns,l,hl,h=>by
  have hq:=zcH m.set l hl;have e:zbi (m::ns) l=if zaX m.set l<0 then -1 else zbi ns (zaX m.set l):=rfl
  rw[e] at h ⊢
  by_cases hc:zaX m.set l<0
  ·rw[zv3 hc] at h;omega
  ·rw[zv2 hc] at h ⊢;have:=zsG ns _ (by omega) h;have hs:zaX m.set l=l-m.set.length:=by unfold zaX at hc ⊢;split at hc<;>omega
   simp only[cNs,zvn,List.sum_cons,cNd,zvi] at this ⊢;omega
theorem zs6(h:0<=zaU ns l):(cNs ns:Int)<=4*(l-zaU ns l):=by
 unfold zaU at h ⊢
 by_cases hc:l-ns.length<0
 ·rw[zv3 hc] at h;omega
 ·rw[zv2 hc] at h ⊢;have:=zsG ns _ (by omega) h;have:=zhx ns (l-ns.length) (by omega);omega
theorem zsF:∀(ns:List zah) (l:Int),0<=l->0<=zaN ns l->(cBs ns:Int)<=2*ns.length+4*(l-zaN ns l)
 |[],l,_,h=>by simp[cBs,zaN]
 |m::ns,l,hl,h=>by
  have hq:=zc9 m.nodes l hl;have e:zaN (m::ns) l=if zaU m.nodes l<0 then -1 else zaN ns (zaU m.nodes l):=rfl
  rw[e] at h ⊢
  by_cases hc:zaU m.nodes l<0
  ·rw[zv3 hc] at h;omega
  ·rw[zv2 hc] at h ⊢;have:=zsF ns _ (by omega) h;have:=zs6 (by omega:0<=zaU m.nodes l);simp only[cBs,zvn,List.sum_cons,cBr,zvi] at this ⊢;simp only[cBs] at *;omega
theorem zs5{ns:List zah}(h:0<=zay ns l):(cBs ns:Int)<=4*(l-zay ns l):=by
 unfold zay at h ⊢
 by_cases hc:l-ns.length<0
 ·rw[zv3 hc] at h;omega
 ·rw[zv2 hc] at h ⊢;have:=zsF ns _ (by omega) h;have:=zeC ns (l-ns.length) (by omega);omega
theorem zsH:∀(ns:List zaG) (l:Int),0<=l->0<=zbj ns l->(cRs ns:Int)<=ns.length+4*(l-zbj ns l)
 |[],l,_,h=>by simp[cRs,zbj]
 |m::ns,l,hl,h=>by
  have hq:=zbW m.branches l hl;have e:zbj (m::ns) l=if zay m.branches l<0 then -1 else zbj ns (zay m.branches l):=rfl
  rw[e] at h ⊢
  by_cases hc:zay m.branches l<0
  ·rw[zv3 hc] at h;omega
  ·rw[zv2 hc] at h ⊢;have:=zsH ns _ (by omega) h;have:=zs5 (by omega:0<=zay m.branches l);simp only[cRs,zvn,List.sum_cons,cRl,zvi] at this ⊢;simp only[cRs] at *;omega
theorem zs7(h:0<=zbI rs 1048576):cRs rs<=4194304:=by
 unfold zbI at h
 by_cases hc:(1048576:Int)-rs.length<0
 ·rw[zv3 hc] at h;omega
 ·rw[zv2 hc] at h;have:=zsH rs _ (by omega) h;omega
theorem zow(v:Value)(ns:List zaG)(left:Int)(w:World)(hs:zaY lo w v ns)(h0:0<=left)(h1:left<=1048576):
  Calls Tryz.prog 26 #[v,.int .i64 left] w fun e w'=>e=.returned (.int .i64 (zbI ns left))/\Below w.heap.size w w':=by
 obtain⟨ao,cap,rfl,hm,hc⟩:=hs
 by_cases hle:left-ns.length<0
 ·go_enter Tryz.func26,Tryz.ntmps26
  go_wp2;go_ret;exact⟨zaR (by unfold zbI;split<;>omega),Below.refl _ _⟩
 ·have HS:Hid (zbI ns left=zbj (ns.drop 0) (left-ns.length)):=by show _=_;rw[zbI,zv2 hle];rfl
  go_enter Tryz.func26,Tryz.ntmps26
  go_wp2
  go_loopw [1,5] (fun l i wr=>∃k:Nat,k<=ns.length/\i=.int .i64 k/\∃L:Int,l=.int .i64 L/\0<=L/\L<=1048576/\Hid (zbI ns left=zbj (ns.drop k) L)/\Below w.heap.size w wr)
   (fun _ i _=>ns.length-(intOf i).toNat)
  case atStart=>exact⟨0,zvT _,rfl,_,rfl,by omega,by omega,HS,Below.refl _ _⟩
  case round=>
   obtain⟨k,hk,rfl,L,rfl,hL0,hL1,HS,hb⟩:=hrel
   by_cases hlt:k<ns.length
   ·obtain⟨b,o,nv,nd,rfl,Hn,hbl,c0,c1,hnv0⟩:=hc.elem hb hlt;have hnv:=hnv0.below hb;clear hnv0;have hz:=hb.size;have hq:=zbW nd.branches L hL0;have HD:Hid (zbj (ns.drop k) L=if zay nd.branches L<0 then -1 else zbj (ns.drop (k+1)) (zay nd.branches L)):=by have:=zjz ns k hlt L;rw[Hn.out] at this;exact this
    by_cases hneg:zay nd.branches L<0
    ·go_wp2_with (go_at_call 59;refine(zkO _ _ _ _ _ hnv hL0 hL1).mono ?_;rintro e w1 ⟨rfl,hb1⟩)
     go_ret
     exact⟨zaR (by rw[HS.out,HD.out,zv3 hneg]),zaa hb hz hb1⟩
    ·go_wp2_with (go_at_call 59;refine(zkO _ _ _ _ _ hnv hL0 hL1).mono ?_;rintro e w1 ⟨rfl,hb1⟩)
     go_roundw
     case rel=>exact⟨k+1,by omega,by go_num,_,rfl,by omega,by omega,by show _=_;rw[HS.out,HD.out,zv2 (by omega)],zaa hb hz hb1⟩
     case measure=>simp[intOf];omega
   ·go_wp2;go_ret;exact⟨zaR (by rw[HS.out,zuW (by omega)];rfl),hb⟩
def zl9(ns:List zaG)(S:Nat->Value)(j:Nat):List Value:=[S j,.int .i64 (ns.getD j .zero).groups]
theorem zpB:(Tryz.prog.info? 69).map (fun i=>(i.zero,i.size,i.bytes))=some (some (.agg #[.slice none 0 0,.int .i64 0]),2,32):=by kernel_rfl
theorem zoB(v:Value)(ns:List zaG)(w:World)(hs:zaY lo w v ns)(hsm:zcL ns):
  Calls Tryz.prog 34 #[v] w fun e w'=>∃v',e=.returned v'/\zaY w.heap.size w' v' ns/\RulW w.heap.size w'.heap.size w' v' ns/\Below w.heap.size w w':=by
 obtain⟨ao,cap,rfl,hm,hc⟩:=hs;have hn:=hsm.1;obtain⟨i0,hi,hz0,hz1,hz2⟩:=info_parts zpB
 go_enter Tryz.func34,Tryz.ntmps34
 go_wp2_with (refine wpList_make_full _ rfl _ _ 38 rfl w.heap.size 69 i0 _ 2 Tryz.underlying38 hi hz0 hz1 _ _ _ _ ns.length rfl rfl rfl rfl (by rw[hz2];omega) (by unfold maxLen;omega) (zvJ _) ?_;intro w1 hown hgrow)
 have hbw:Below w.heap.size w w1:=(Below.refl _ _).grown hgrow (zvJ _) (by intro k h;cases h);clear hgrow
 go_loopw [4] (fun i wr=>∃k:Nat,k<=ns.length/\i=.int .i64 k/\Below w.heap.size w wr/\∃(xs:List Value) (S:Nat->Value),wr.ownsRow w.heap.size 69 2 (.slice (some ⟨w.heap.size,0,none⟩) ns.length ns.length) ns.length xs/\
   zb4 xs 2 k (zl9 ns S)/\∀j,j<k->BraB (w.heap.size+1) wr (S j) (ns.getD j .zero).branches)
  (fun i _=>ns.length-(intOf i).toNat)
 case atStart=>exact⟨0,zvT _,rfl,hbw,_,fun _=>.nilIface,hown,fun j hj=>absurd hj (zvQ _),fun j hj=>absurd hj (zvQ _)⟩
 case round=>
  obtain⟨k,hk,rfl,hb,xs,S,hown,hfill,HS0⟩:=hrel;have HS:Hid (∀j,j<k->BraB (w.heap.size+1) wr (S j) (ns.getD j .zero).branches):=HS0;clear HS0;have hgl:=zcE hown
  by_cases hlt:k<ns.length
  ·obtain⟨b,o,nv,nd,rfl,Hn,hbl,c0,c1,hsv0⟩:=hc.elem hb hlt;have hsv:=hsv0.below hb;clear hsv0;have Hset:Hid (Small nd.branches):=by have:=hsm.2 k hlt;rw[Hn.out] at this;exact this
   go_wp2_with (go_at_call 68;refine(zoA _ _ _ _ hsv Hset.out).mono ?_;rintro e w2 ⟨sv',rfl,hr,hb2⟩;have hrw:=hr.2;obtain⟨ao',cap',rfl,hm',hc'⟩:=hr.1;have hown2:=zac hown hb2;obtain⟨u0,u1,d0,d1,f0,f1⟩:=zhb hown2 hlt)
   go_roundw
   case rel=>
    refine⟨k+1,by omega,by go_num,?_,_,upd S k (.slice ao' nd.branches.length cap'),((hown2.stored _ _).1.stored _ _).1,zig (hfill.congr fun j hj=>by simp only[zl9,ziE _ _ hj]) (by have:=hown2.1;omega) (by rw[zl9,Hn.out,zet]),fun j hj=>?_⟩
    ·iterate 2 refine Below.setCell ?_ (by simp) _
     exact zaa hb hb.size hb2
    ·iterate 2 refine BraB.setCell ?_ (by simp<;>omega) _
     by_cases e:j=k
     ·subst e;rw[zet,Hn.out];exact BraB.mono ⟨⟨_,_,rfl,hm',hc'⟩,hrw⟩ (by omega)
     ·rw[ziE _ _ (by omega)];exact(HS.out j (by omega)).below hb2
   case measure=>simp[intOf];omega
  ·go_wp2;have hkk:k=ns.length:=by omega
   rw[hkk] at hfill HS;refine zvV (v:=.slice (some ⟨w.heap.size,0,none⟩) ns.length ns.length) (by simp[results,Tryz.results34,go_sem]) rfl ⟨_,rfl,⟨_,_,rfl,hm,fun _=>⟨w.heap.size,0,rfl,zvJ _,hgl,fun i hi=>?_⟩⟩,?_,hb⟩
   rotate_left
   ·refine⟨_,_,rfl,fun _=>⟨w.heap.size,0,xs.toArray,rfl,zvJ _,hgl,zbq hown,by have:=hown.1;simp;omega,fun i hi=>?_⟩⟩;have hr:=fun k=>zvW _ _ k _ _ _ (zbq hown)
    refine⟨?_,S i,?_,(HS.out i hi).2.keep (by omega) (zvJ _) fun _ _ _ _ e=>e⟩
    ·have e:=zaJ hown hfill (c:=1) hi (by omega);rw[zvS,<-hr,e]
     rfl
    ·have e:=zaJ hown hfill (c:=0) hi (by omega);rw[zvH] at e;rw[zvS,<-hr,e]
     rfl
   have e0:=zaJ hown hfill (c:=0) hi (by omega);have e1:=zaJ hown hfill (c:=1) hi (by omega);simp only[zvH,zvS] at e0 e1 ⊢;exact⟨⟨_,e0,(HS.out i hi).1.mono (by omega)⟩,e1⟩
theorem znI{l1 l2:Nat}(v v2:Value)(rs:List zaG)(w:World)(hs:zaY l1 w v rs)(hs2:zaY l2 w v2 rs):
  Calls Tryz.prog 40 #[v,v2] w fun e w'=>e=.returned (.bool true)/\Below w.heap.size w w':=by
 obtain⟨ao,cap,rfl,hm,hc⟩:=hs;obtain⟨ao2,cap2,rfl,_,hc2⟩:=hs2
 go_enter Tryz.func40,Tryz.ntmps40
 go_wp2
 go_loopw [5] (fun i wr=>∃k:Nat,k<=rs.length/\i=.int .i64 k/\Below w.heap.size w wr)
  (fun i _=>rs.length-(intOf i).toNat)
 case atStart=>exact⟨0,zvT _,rfl,Below.refl _ _⟩
 case round=>
  obtain⟨k,hk,rfl,hb⟩:=hrel
  by_cases hlt:k<rs.length
  ·obtain⟨b,o,nv,nd,rfl,Hn,hbl,c0,c1,hsv⟩:=hc.elem hb hlt;obtain⟨b2,o2,nv2,nd2,rfl,Hn2,hbl2,d0,d1,hsv2⟩:=hc2.elem hb hlt;have hee:nd=nd2:=Hn.out.symm.trans Hn2.out;subst hee;have hbr:b<wr.heap.size:=zvL hbl hb.size;have hbr2:b2<wr.heap.size:=zvL hbl2 hb.size;have hi0:(0:Int)<=(k:Int):=by omega
   have hi1:(k:Int)<(rs.length:Int):=by omega
   have hq1:zao l1 wr.drew nv nd.branches:=hsv.below hb.drew;have hq2:zao l2 wr.drew nv2 nd.branches:=hsv2.below hb.drew;clear hsv hsv2;go_wp2
   go_region_held3 (fun w'=>w'.cell? ⟨b,o+k*2,none⟩=some nv/\w'.cell? ⟨b,o+k*2+1,none⟩=some (.int .i64 nd.groups)/\w'.cell? ⟨b2,o2+k*2,none⟩=some nv2/\w'.cell? ⟨b2,o2+k*2+1,none⟩=some (.int .i64 nd.groups)) ((first|go_keep|exact⟨(hcc _ _ hbr).trans c0,(hcc _ _ hbr).trans c1,(hcc _ _ hbr2).trans d0,(hcc _ _ hbr2).trans d1⟩)) ((go_at_call 78;refine(zpk _ _ _ _ _ hq1 hq2).mono ?_;rintro e w2 ⟨rfl,hb2⟩;obtain⟨hcc,_⟩:=zfA hb2))
   go_wp2
   go_roundw
   case rel=>exact⟨k+1,by omega,by go_num,zaa hb.drew hb.size hb2⟩
   case measure=>simp[intOf];omega
  ·go_wp2;go_ret;exact⟨rfl,hb⟩
end Go.Proofs.YtdimhpfiieepiaaGreatDoor
