import Derived.Test.YthdljcdbfmhleaaGreatDoorC49
import Derived.Deep.RegionHeld3
import Derived.Deep.DrawnRows
namespace Go.Proofs.YthdljcdbfmhleaaGreatDoor
set_option maxHeartbeats 2000000
set_option maxRecDepth 100000
open Go.RowKit
section
variable {lo T b:Nat}{w W:World}{cs:Array Value}
attribute [local go_sem ↓] Go.wp_at_zero Go.wp_at_succ
theorem MkR.slot{t:TypeId}(M:MkR lo T w W)(h3:w.heap[b]?=some (.cells cs t (0,0))){i:Nat}(hi:i<cs.size)(hn:slB cs[i]?=false)(h1:lo<=b)(h2:b<T):
  (∃u,W.cell? ⟨b,i,none⟩=some u)/\W.frozen? ⟨b,i,none⟩=false/\∀u,slB (some u)=false->MkR lo T w (W.setCell ⟨b,i,none⟩ u):=by
 obtain⟨cs',e,s,p,q⟩:=M.row b cs _ h3;exact⟨zi6 e (by omega),zso _ _ _ _ _ e,fun u hu=>M.trans (MkR.put e h1 h2 (q i hn) u hu)⟩
theorem MkR.stay{t:TypeId}(M:MkR lo T w W)(h3:w.heap[b]?=some (.cells cs t (0,0))){i:Nat}{v:Value}(hi:cs[i]?=some v)(hn:slB (some v)=true):W.cell? ⟨b,i,none⟩=some v:=by
 obtain⟨cs',e,s,p,q⟩:=M.row b cs _ h3;rw[zsm _ _ _ _ _ _ e,p i (by rw[hi];exact hn),hi]
def cNd(n:zak):Nat:=4+2*n.set.length
def cNs(ns:List zak):Nat:=(ns.map cNd).sum
def cBr(b:zaf):Nat:=2+cNs b.nodes
def cBs(bs:List zaf):Nat:=(bs.map cBr).sum
theorem zkV{α:Type}(f:α->Nat)(d:α)(l:List α){i:Nat}(h:i<l.length):((l.take (i+1)).map f).sum=((l.take i).map f).sum+f (l.getD i d):=by
 rw[List.take_add_one,zrD h,Option.toList_some,zrO,List.sum_append];simp[List.getD,h]
theorem zf9{α:Type}(f:α->Nat)(l:List α):∀i,((l.take i).map f).sum<=(l.map f).sum:=by
 induction l with
 |nil=>intro i;simp
 |cons a l ih=>
  intro i;cases i with
  |zero=>simp
  |succ i=>have:=ih i;simp only[zr6,zrQ,List.sum_cons];omega
theorem zjq{α:Type}(f:α->Nat)(h:∀a,1<=f a):∀l:List α,l.length<=(l.map f).sum
 |[]=>by simp
 |a::l=>by have:=zjq f h l;have:=h a;simp only[zrL,zrQ,List.sum_cons];omega
theorem zig(v:Value)(ns:List zak)(k:Nat)(w:World)(h:NodW lo T w v ns)(hk:k+cNs ns<=90000000):
  Calls Tryz.prog 47 #[v,.int .i64 (k:Int)] w fun e W=>e=.returned (.int .i64 ((k+cNs ns:Nat):Int))/\MkR lo T w W:=by
 obtain⟨ao,cap,rfl,h⟩:=h;have H:Hid _:=h;have hlen:(ns.length:Int)<=90000000:=by have:=zjq cNd (fun a=>by unfold cNd;omega) ns;unfold cNs at hk;omega
 have HK:Hid (∀i,k+((ns.take i).map cNd).sum<=90000000):=fun i=>by have:=zf9 cNd ns i;unfold cNs at hk;omega
 clear h
 go_enter Tryz.func47,Tryz.ntmps47
 go_wp2
 go_loopw [1,5] (fun kv iv wr=>∃i K:Nat,i<=ns.length/\iv=.int .i64 i/\kv=.int .i64 (K:Int)/\Hid (K=k+((ns.take i).map cNd).sum)/\Hid (MkR lo T w wr)) (fun _ iv _=>ns.length-(intOf iv).toNat)
 case atStart=>exact⟨0,k,zsj _,rfl,rfl,by show _=_;simp,MkR.refl _ _ _⟩
 case round=>
  obtain⟨i,K,hi,rfl,rfl,HKK,HM⟩:=hrel
  by_cases hlt:i<ns.length
  ·obtain⟨b,o,cs,rfl,h1,h2,h3,h4,h5⟩:=H.out (by omega);obtain⟨g1,sv,g2,g3⟩:=h5 i hlt;obtain⟨a,c,rfl,g4⟩:=id g3;have hs:=zkV cNd .zero ns hlt;have HS1:Hid (k+((ns.take (i+1)).map cNd).sum=K+(4+2*(ns.getD i .zero).set.length)):=by show _=_;rw[hs,HKK.out];unfold cNd;omega
   have hK1:=HK.out (i+1);rw[HS1.out] at hK1;obtain⟨sn,hsn⟩:∃sn,(ns.getD i .zero).set.length=sn:=⟨_,rfl⟩;rw[hsn] at g3 g2 HS1 hK1;have hz0:o+i*5<cs.size:=by omega
   have hz1:o+i*5+4<cs.size:=by omega
   obtain⟨⟨u0,c0⟩,f0,M1⟩:=HM.out.slot h3 hz0 (g1 0 (by omega) (by omega)) h1 h2;have y1:wr.cell? ⟨b,o+i*5+1,none⟩=some (.slice a sn c):=HM.out.stay h3 g2 rfl;have HM1:Hid _:=M1 (.int .i64 (K:Int)) rfl;have hC:=zhl (.slice a sn c) sn ((K:Int)+1) (wr.setCell ⟨b,o+i*5,none⟩ (.int .i64 (K:Int))) (g3.mk HM1.out) (by omega);have hi0:(0:Int)<=(i:Int):=by omega
   have hi1:(i:Int)<(ns.length:Int):=by omega
   have hKi:(K:Int)<=90000000:=by omega
   have hKn:(K:Int)+1+2*(sn:Int)<=90000000:=by omega
   have hsi:(0:Int)<=(sn:Int):=by omega
   have H3:Hid _:=h3;have G1:Hid _:=g1;clear h3 h5 g1 g2 g3 g4 M1 hs hsn HM hK1
   go_wp2_with fail
   refine hC.mono ?_;rintro e w5 ⟨rfl,m5⟩;have M5:=HM1.out.trans m5;obtain⟨⟨u2,c2⟩,f2,M6⟩:=M5.slot H3.out (show o+i*5+2<cs.size by omega) (G1.out 2 (by omega) (by omega)) h1 h2;obtain⟨⟨u3,c3⟩,f3,-⟩:=M5.slot H3.out (show o+i*5+3<cs.size by omega) (G1.out 3 (by omega) (by omega)) h1 h2;obtain⟨⟨u4,c4⟩,f4,-⟩:=M5.slot H3.out (show o+i*5+4<cs.size by omega) (G1.out 4 (by omega) (by omega)) h1 h2;have HM8:Hid (∀x y z:Int,MkR lo T w (((w5.setCell ⟨b,o+i*5+2,none⟩ (.int .i64 x)).setCell ⟨b,o+i*5+3,none⟩ (.int .i64 y)).setCell ⟨b,o+i*5+4,none⟩ (.int .i64 z))):=fun x y z=>
    (((M6 (.int .i64 x) rfl).slot H3.out (show o+i*5+3<cs.size by omega) (G1.out 3 (by omega) (by omega)) h1 h2).2.2 (.int .i64 y) rfl).slot H3.out (show o+i*5+4<cs.size by omega) (G1.out 4 (by omega) (by omega)) h1 h2 |>.2.2 (.int .i64 z) rfl
   obtain⟨q,hq⟩:∃q:Int,(K:Int)+1+2*(sn:Int)=q:=⟨_,rfl⟩;have Hq:Hid _:=hq;have hq1:q<=90000000:=by omega
   have hq0:0<=q:=by omega
   rw[hq];clear hC m5 M5 M6 c0 f0 y1 hq hKn HM1 H3 G1;go_wp2
   go_roundw
   case rel=>exact⟨i+1,K+(4+2*sn),by omega,by go_num,by rw[show ((K+(4+2*sn):Nat):Int)=q+1+1+1 by have:=Hq.out;omega],HS1.out.symm,HM8.out _ _ _⟩
   case measure=>simp[intOf];omega
  ·have hii:i=ns.length:=by omega
   have e1:K=k+cNs ns:=by have:=HKK.out;rw[hii,List.take_length] at this;exact this
   rw[e1] at *;clear hii e1 HKK;go_wp2;go_ret;exact⟨rfl,HM.out⟩
theorem zgq(v:Value)(bs:List zaf)(k:Nat)(w:World)(h:BraW lo T w v bs)(hk:k+cBs bs<=90000000):
  Calls Tryz.prog 26 #[v,.int .i64 (k:Int)] w fun e W=>e=.returned (.int .i64 ((k+cBs bs:Nat):Int))/\MkR lo T w W:=by
 obtain⟨ao,cap,rfl,h⟩:=h;have H:Hid _:=h;have hlen:(bs.length:Int)<=90000000:=by have:=zjq cBr (fun a=>by unfold cBr;omega) bs;unfold cBs at hk;omega
 have HK:Hid (∀i,k+((bs.take i).map cBr).sum<=90000000):=fun i=>by have:=zf9 cBr bs i;unfold cBs at hk;omega
 clear h
 go_enter Tryz.func26,Tryz.ntmps26
 go_wp2
 go_loopw [1,5] (fun kv iv wr=>∃i K:Nat,i<=bs.length/\iv=.int .i64 i/\kv=.int .i64 (K:Int)/\Hid (K=k+((bs.take i).map cBr).sum)/\Hid (MkR lo T w wr)) (fun _ iv _=>bs.length-(intOf iv).toNat)
 case atStart=>exact⟨0,k,zsj _,rfl,rfl,by show _=_;simp,MkR.refl _ _ _⟩
 case round=>
  obtain⟨i,K,hi,rfl,rfl,HKK,HM⟩:=hrel
  by_cases hlt:i<bs.length
  ·obtain⟨b,o,cs,rfl,h1,h2,h3,h4,h5⟩:=H.out (by omega);obtain⟨g1,sv,g2,g3⟩:=h5 i hlt;have hs:=zkV cBr .zero bs hlt;obtain⟨nd,hnd⟩:∃nd,(bs.getD i .zero).nodes=nd:=⟨_,rfl⟩;have HS1:Hid (k+((bs.take (i+1)).map cBr).sum=K+2+cNs nd):=by show _=_;rw[hs,HKK.out,<-hnd];unfold cBr;omega
   have hK1:=HK.out (i+1);rw[HS1.out] at hK1;rw[hnd] at g3;obtain⟨a,c,rfl,g4⟩:=id g3;have y2:wr.cell? ⟨b,o+i*3+2,none⟩=some (.slice a nd.length c):=HM.out.stay h3 g2 rfl;obtain⟨⟨u0,c0⟩,f0,M1⟩:=HM.out.slot h3 (show o+i*3<cs.size by omega) (g1 0 (by omega)) h1 h2;obtain⟨⟨u1,c1⟩,f1,-⟩:=HM.out.slot h3 (show o+i*3+1<cs.size by omega) (g1 1 (by omega)) h1 h2;have HM2:Hid (∀x y:Bool,MkR lo T w ((wr.setCell ⟨b,o+i*3,none⟩ (.bool x)).setCell ⟨b,o+i*3+1,none⟩ (.bool y))):=fun x y=>((M1 (.bool x) rfl).slot h3 (show o+i*3+1<cs.size by omega) (g1 1 (by omega)) h1 h2).2.2 (.bool y) rfl
   have HC:Hid (∀W,MkR lo T w W->Calls Tryz.prog 47 #[.slice a nd.length c,.int .i64 ((K+2:Nat):Int)] W fun e W'=>e=.returned (.int .i64 ((K+2+cNs nd:Nat):Int))/\MkR lo T w W'):=fun W hW=>(zig _ nd (K+2) W (g3.mk hW) (by omega)).mono fun e W' hh=>⟨hh.1,hW.trans hh.2⟩
   have hi0:(0:Int)<=(i:Int):=by omega
   have hi1:(i:Int)<(bs.length:Int):=by omega
   have hKi:(K:Int)<=90000000:=by omega
   obtain⟨n3,hn3⟩:∃n3,nd.length=n3:=⟨_,rfl⟩;rw[hn3] at y2 HC;obtain⟨q,hq⟩:∃q:Nat,K+2+cNs nd=q:=⟨_,rfl⟩;rw[hq] at HC HS1;clear h3 h5 g1 g2 g3 g4 M1 hs hnd HM hK1 hn3 hq
   go_wp2_with fail
   have e2:(K:Int)+1+1=((K+2:Nat):Int):=by omega
   rw[e2];refine(HC.out _ (HM2.out _ _)).mono ?_;rintro e w5 ⟨rfl,m5⟩;have HM5:Hid _:=m5;clear m5 c0 c1 f0 f1 y2 HM2 HC e2;go_wp2
   go_roundw
   case rel=>exact⟨i+1,q,by omega,by go_num,rfl,HS1.out.symm,HM5⟩
   case measure=>simp[intOf];omega
  ·have hii:i=bs.length:=by omega
   have e1:K=k+cBs bs:=by have:=HKK.out;rw[hii,List.take_length] at this;exact this
   rw[e1] at *;clear hii e1 HKK;go_wp2;go_ret;exact⟨rfl,HM.out⟩
end
variable {lo T T' lo':Nat}{w W w':World}{v:Value}{rs:List (Int×Int)}
theorem RngW.keep{n:Nat}(h:RngW lo T w v n)(hl:lo'<=lo)(hT:T<=T')(hk:∀(b:Nat) (o:Obj),lo<=b->b<T->w.heap[b]?=some o->W.heap[b]?=some o):RngW lo' T' W v n:=by
 obtain⟨ao,cap,rfl,h⟩:=h;refine⟨ao,cap,rfl,fun h0=>?_⟩;obtain⟨b,o,cs,rfl,h1,h2,h3,h4,h5⟩:=h h0;exact⟨b,o,cs,rfl,by omega,by omega,hk b _ h1 h2 h3,h4,h5⟩
theorem NodW.keep{ns:List zak}(h:NodW lo T w v ns)(hl:lo'<=lo)(hT:T<=T')(hk:∀(b:Nat) (o:Obj),lo<=b->b<T->w.heap[b]?=some o->W.heap[b]?=some o):NodW lo' T' W v ns:=by
 obtain⟨ao,cap,rfl,h⟩:=h;refine⟨ao,cap,rfl,fun h0=>?_⟩;obtain⟨b,o,cs,rfl,h1,h2,h3,h4,h5⟩:=h h0;refine⟨b,o,cs,rfl,by omega,by omega,hk b _ h1 h2 h3,h4,fun i hi=>?_⟩;obtain⟨g1,sv,g2,g3⟩:=h5 i hi;exact⟨g1,sv,g2,g3.keep hl hT hk⟩
theorem BraW.keep{bs:List zaf}(h:BraW lo T w v bs)(hl:lo'<=lo)(hT:T<=T')(hk:∀(b:Nat) (o:Obj),lo<=b->b<T->w.heap[b]?=some o->W.heap[b]?=some o):BraW lo' T' W v bs:=by
 obtain⟨ao,cap,rfl,h⟩:=h;refine⟨ao,cap,rfl,fun h0=>?_⟩;obtain⟨b,o,cs,rfl,h1,h2,h3,h4,h5⟩:=h h0;refine⟨b,o,cs,rfl,by omega,by omega,hk b _ h1 h2 h3,h4,fun i hi=>?_⟩;obtain⟨g1,sv,g2,g3⟩:=h5 i hi;exact⟨g1,sv,g2,g3.keep hl hT hk⟩
def RngB(lo:Nat)(w:World)(v:Value)(rs:List (Int×Int)):Prop:=zag lo w v rs/\RngW lo w.heap.size w v rs.length
theorem RngB.below(h:RngB lo w v rs)(hb:Below w.heap.size w w'):RngB lo w' v rs:=⟨h.1.below hb,h.2.keep (zsa _) hb.size fun b _ _ hl e=>(hb.block b hl).trans e⟩
theorem RngB.mono(h:RngB lo w v rs)(hl:lo'<=lo):RngB lo' w v rs:=⟨h.1.mono hl,h.2.keep hl (zsa _) fun _ _ _ _ e=>e⟩
theorem RngB.setCell(h:RngB lo w v rs){a:Addr}(ha:a.block<lo)(u:Value):RngB lo (w.setCell a u) v rs:=⟨h.1.setCell ha u,h.2.keep (zsa _) (by simp[World.setCell]) fun _ _ hb _ e=>(zsq _ _ _ _ (by omega)).trans e⟩
def NodB(lo:Nat)(w:World)(v:Value)(rs:List zak):Prop:=zas lo w v rs/\NodW lo w.heap.size w v rs
theorem NodB.below{rs:List zak}(h:NodB lo w v rs)(hb:Below w.heap.size w w'):NodB lo w' v rs:=⟨h.1.below hb,h.2.keep (zsa _) hb.size fun b _ _ hl e=>(hb.block b hl).trans e⟩
theorem NodB.mono{rs:List zak}(h:NodB lo w v rs)(hl:lo'<=lo):NodB lo' w v rs:=⟨h.1.mono hl,h.2.keep hl (zsa _) fun _ _ _ _ e=>e⟩
theorem NodB.setCell{rs:List zak}(h:NodB lo w v rs){a:Addr}(ha:a.block<lo)(u:Value):NodB lo (w.setCell a u) v rs:=⟨h.1.setCell ha u,h.2.keep (zsa _) (by simp[World.setCell]) fun _ _ hb _ e=>(zsq _ _ _ _ (by omega)).trans e⟩
def BraB(lo:Nat)(w:World)(v:Value)(rs:List zaf):Prop:=zaj lo w v rs/\BraW lo w.heap.size w v rs
theorem BraB.mono{rs:List zaf}(h:BraB lo w v rs)(hl:lo'<=lo):BraB lo' w v rs:=⟨h.1.mono hl,h.2.keep hl (zsa _) fun _ _ _ _ e=>e⟩
theorem BraB.setCell{rs:List zaf}(h:BraB lo w v rs){a:Addr}(ha:a.block<lo)(u:Value):BraB lo (w.setCell a u) v rs:=⟨h.1.setCell ha u,h.2.keep (zsa _) (by simp[World.setCell]) fun _ _ hb _ e=>(zsq _ _ _ _ (by omega)).trans e⟩
theorem zj9(v:Value)(rs:List (Int×Int))(w:World)(hs:zag lo w v rs)(hn:rs.length<=1048576):
  Calls Tryz.prog 97 #[v] w fun e w'=>∃v',e=.returned v'/\RngB w.heap.size w' v' rs/\Below w.heap.size w w':=by
 obtain⟨ao,cap,rfl,hm,hc⟩:=hs;obtain⟨i0,hi,hz0,hz1,hz2⟩:=info_parts Tryz.infoRange
 go_enter Tryz.func97,Tryz.ntmps97
 go_wp2_with (refine wpList_make_full _ rfl _ _ 70 rfl w.heap.size 149 i0 _ 2 Tryz.underlying70 hi hz0 hz1 _ _ _ _ rs.length rfl rfl rfl rfl (by rw[hz2];omega) (by unfold maxLen;omega) (zsa _) ?_;intro w1 hown hgrow)
 have hbw:Below w.heap.size w w1:=(Below.refl _ _).grown hgrow (zsa _) (by intro k h;cases h);clear hgrow
 go_loopw [4] (fun i wr=>∃k:Nat,k<=rs.length/\i=.int .i64 k/\Below w.heap.size w wr/\∃xs:List Value,wr.ownsRow w.heap.size 149 2 (.slice (some ⟨w.heap.size,0,none⟩) rs.length rs.length) rs.length xs/\
   zbG xs 2 k (fun j=>[.int .i64 (rs.getD j (0,0)).1,.int .i64 (rs.getD j (0,0)).2]))
  (fun i _=>rs.length-(intOf i).toNat)
 case atStart=>exact⟨0,zsj _,rfl,hbw,_,hown,fun j hj=>absurd hj (zsg _)⟩
 case round=>
  obtain⟨k,hk,rfl,hb,xs,hown,hfill⟩:=hrel
  by_cases hlt:k<rs.length
  ·obtain⟨b,o,lo,hi,rfl,Hn,hbl,c0,c1⟩:=hc.elem hb hlt
   go_wp2_with (go_at_call 118;refine(zgW _ _ _).mono ?_;rintro e w2 ⟨rfl,hb2⟩;have hown2:=zab hown hb2;obtain⟨u0,u1,d0,d1,f0,f1⟩:=zfS hown2 hlt)
   go_roundw
   case rel=>exact⟨k+1,by omega,by go_num,((zaa hb hb.size hb2).setCell (zsa _) _).setCell (zsa _) _,_,((hown2.stored _ _).1.stored _ _).1,zgB hfill (by have:=hown2.1;omega) (by rw[Hn.out])⟩
   case measure=>simp[intOf];omega
  ·go_wp2;have hkk:k=rs.length:=by omega
   refine zsl (v:=.slice (some ⟨w.heap.size,0,none⟩) rs.length rs.length) (by simp[results,Tryz.results97,go_sem]) rfl ⟨_,rfl,⟨⟨_,_,rfl,hm,fun _=>⟨w.heap.size,0,rfl,zsa _,zb0 hown,fun i hi=>?_⟩⟩,?_⟩,hb⟩
   all_goals rw[hkk] at hfill
   rotate_left
   ·refine⟨_,_,rfl,fun _=>⟨w.heap.size,0,xs.toArray,rfl,zsa _,zb0 hown,zbC hown,by have:=hown.1;simp;omega,fun i hi=>?_⟩⟩;have hr:=zsm _ _ i _ _ _ (zbC hown);have e:=zaw hown hfill (i:=i/2) (c:=i%2) (by omega) (by omega);rw[show i/2*2+i%2=i by omega] at e;rw[zsi,<-hr];rcases(show i%2=0\/i%2=1 by omega) with h2|h2<;>simp only[h2] at e<;>simp[e,slB]
   have e0:=zaw hown hfill (c:=0) hi (by omega);have e1:=zaw hown hfill (c:=1) hi (by omega);simp only[zr9,zsi] at e0 e1 ⊢;exact⟨e0,e1⟩
theorem zl0(k mn mx g:Int)(sv:Value)(rs:List (Int×Int))(w:World)(hs:zag lo w sv rs)(hn:rs.length<=1048576):
  Calls Tryz.prog 75 #[.agg #[.int .i64 k,sv,.int .i64 mn,.int .i64 mx,.int .i64 g]] w fun e w'=>∃sv',e=.returned (.agg #[.int .i64 k,sv',.int .i64 mn,.int .i64 mx,.int .i64 g])/\RngB w.heap.size w' sv' rs/\Below w.heap.size w w':=by
 go_enter Tryz.func75,Tryz.ntmps75
 go_wp2_with fail
 refine(zj9 (lo:=lo) _ rs _ (hs.below ?_) hn).mono ?_
 ·exact(((Below.refl _ _).alloc (zsa _) _).alloc (by simp) _).alloc (by simp;omega) _
 rintro e w2 ⟨sv',rfl,hr,hb⟩;have hw:=hr.2;obtain⟨ao',cap',rfl,hm',hc'⟩:=hr.1;obtain⟨hcc,hff⟩:=zdI hb;have hz:=hb.size;simp only[World.size_alloc] at hc' hz hw;have hr:RngB (w.heap.size+1+1+1) w2 (.slice ao' rs.length cap') rs:=⟨⟨_,_,rfl,hm',hc'⟩,hw⟩;have hbb:=(((((Below.refl w.heap.size w).alloc (zsa _) _).alloc (by simp) _).alloc (by simp;omega) _).trans (hb.mono (by simp;omega)));clear hb;go_wp2;refine zsl (v:=.agg #[.int .i64 k,.slice ao' rs.length cap',.int .i64 mn,.int .i64 mx,.int .i64 g]) (by simp[results,Tryz.results75,go_sem,hcc]) rfl ⟨_,rfl,?_,?_⟩
 ·refine RngB.mono (lo:=w.heap.size+1+1+1) ?_ (by omega)
  iterate 9 refine RngB.setCell ?_ (by simp) _
  exact hr
 ·iterate 9 refine Below.setCell ?_ (by simp<;>omega) _
  exact hbb
theorem zj8(v:Value)(ns:List zak)(w:World)(hs:zas lo w v ns)(hn:ns.length<=1048576)(hset:∀i,i<ns.length->(ns.getD i .zero).set.length<=1048576):
  Calls Tryz.prog 57 #[v] w fun e w'=>∃v',e=.returned v'/\NodB w.heap.size w' v' ns/\Below w.heap.size w w':=by
 obtain⟨ao,cap,rfl,hm,hc⟩:=hs;obtain⟨i0,hi,hz0,hz1,hz2⟩:=info_parts Tryz.infoNode
 go_enter Tryz.func57,Tryz.ntmps57
 go_wp2_with (refine wpList_make_full _ rfl _ _ 39 rfl w.heap.size 72 i0 _ 5 Tryz.underlying39 hi hz0 hz1 _ _ _ _ ns.length rfl rfl rfl rfl (by rw[hz2];omega) (by unfold maxLen;omega) (zsa _) ?_;intro w1 hown hgrow)
 have hbw:Below w.heap.size w w1:=(Below.refl _ _).grown hgrow (zsa _) (by intro k h;cases h);clear hgrow
 go_loopw [4] (fun i wr=>∃k:Nat,k<=ns.length/\i=.int .i64 k/\Below w.heap.size w wr/\∃(xs:List Value) (S:Nat->Value),wr.ownsRow w.heap.size 72 5 (.slice (some ⟨w.heap.size,0,none⟩) ns.length ns.length) ns.length xs/\
   zbG xs 5 k (zdP ns S)/\∀j,j<k->RngB (w.heap.size+1) wr (S j) (ns.getD j .zero).set)
  (fun i _=>ns.length-(intOf i).toNat)
 case atStart=>exact⟨0,zsj _,rfl,hbw,_,fun _=>.nilIface,hown,fun j hj=>absurd hj (zsg _),fun j hj=>absurd hj (zsg _)⟩
 case round=>
  obtain⟨k,hk,rfl,hb,xs,S,hown,hfill,HS0⟩:=hrel;have HS:Hid (∀j,j<k->RngB (w.heap.size+1) wr (S j) (ns.getD j .zero).set):=HS0;clear HS0;have hgl:=zb0 hown
  by_cases hlt:k<ns.length
  ·obtain⟨b,o,sv,nd,rfl,Hn,hbl,c0,c1,c2,c3,c4,hsv⟩:=hc.elem hb hlt;have hnd:nd.set.length<=1048576:=by have:=hset k hlt;rw[Hn.out] at this;exact this
   have Hset:Hid (∀i,i<ns.length->(ns.getD i .zero).set.length<=1048576):=hset;clear hset
   go_wp2_with (go_at_call 75;refine(zl0 _ _ _ _ _ _ _ hsv hnd).mono ?_;rintro e w2 ⟨sv',rfl,hr,hb2⟩;have hrw:=hr.2;obtain⟨ao',cap',rfl,hm',hc'⟩:=hr.1;have hown2:=zab hown hb2;obtain⟨u0,u1,u2,u3,u4,d0,d1,d2,d3,d4,f0,f1,f2,f3,f4⟩:=zkL hown2 hlt)
   go_roundw
   case rel=>
    refine⟨k+1,by omega,by go_num,?_,_,upd S k (.slice ao' nd.set.length cap'),(((((hown2.stored _ _).1.stored _ _).1.stored _ _).1.stored _ _).1.stored _ _).1,zfq (hfill.congr fun j hj=>by simp only[zdP,ze0 _ _ hj]) (by have:=hown2.1;omega) (by rw[zdP,Hn.out,zct]),fun j hj=>?_⟩
    ·iterate 5 refine Below.setCell ?_ (by simp) _
     exact zaa hb hb.size hb2
    ·iterate 5 refine RngB.setCell ?_ (by simp<;>omega) _
     by_cases e:j=k
     ·subst e;rw[zct,Hn.out];exact RngB.mono ⟨⟨_,_,rfl,hm',hc'⟩,hrw⟩ (by omega)
     ·rw[ze0 _ _ (by omega)];exact(HS.out j (by omega)).below hb2
   case measure=>simp[intOf];omega
  ·go_wp2;have hkk:k=ns.length:=by omega
   rw[hkk] at hfill HS;refine zsl (v:=.slice (some ⟨w.heap.size,0,none⟩) ns.length ns.length) (by simp[results,Tryz.results57,go_sem]) rfl ⟨_,rfl,⟨⟨_,_,rfl,hm,fun _=>⟨w.heap.size,0,rfl,zsa _,hgl,fun i hi=>?_⟩⟩,?_⟩,hb⟩
   rotate_left
   ·refine⟨_,_,rfl,fun _=>⟨w.heap.size,0,xs.toArray,rfl,zsa _,hgl,zbC hown,by have:=hown.1;simp;omega,fun i hi=>?_⟩⟩;have hr:=fun k=>zsm _ _ k _ _ _ (zbC hown)
    refine⟨fun j hj hne=>?_,S i,?_,(HS.out i hi).2.keep (by omega) (zsa _) fun _ _ _ _ e=>e⟩
    ·have e:=zaw hown hfill (c:=j) hi hj;rw[zsi,<-hr];rcases(show j=0\/j=2\/j=3\/j=4 by omega) with h2|h2|h2|h2<;>subst h2<;>simp[zdP] at e<;>simp[e,slB]
    ·have e:=zaw hown hfill (c:=1) hi (by omega);rw[zsi,<-hr,e]
     rfl
   have e0:=zaw hown hfill (c:=0) hi (by omega);have e1:=zaw hown hfill (c:=1) hi (by omega);have e2:=zaw hown hfill (c:=2) hi (by omega);have e3:=zaw hown hfill (c:=3) hi (by omega);have e4:=zaw hown hfill (c:=4) hi (by omega);simp only[zr9,zsi] at e0 e1 e2 e3 e4 ⊢;exact⟨e0,⟨_,e1,(HS.out i hi).1.mono (by omega)⟩,e2,e3,e4⟩
theorem ziL(bol eol:Bool)(nv:Value)(ns:List zak)(w:World)(hs:zas lo w nv ns)(hn:ns.length<=1048576)(hset:∀i,i<ns.length->(ns.getD i .zero).set.length<=1048576):
  Calls Tryz.prog 35 #[.agg #[.bool bol,.bool eol,nv]] w fun e w'=>∃nv',e=.returned (.agg #[.bool bol,.bool eol,nv'])/\NodB w.heap.size w' nv' ns/\Below w.heap.size w w':=by
 have Hset:Hid (∀i,i<ns.length->(ns.getD i .zero).set.length<=1048576):=hset;clear hset
 go_enter Tryz.func35,Tryz.ntmps35
 go_wp2_with fail
 refine(zj8 (lo:=lo) _ ns _ (hs.below ?_) hn Hset.out).mono ?_
 ·exact(((Below.refl _ _).alloc (zsa _) _).alloc (by simp) _).alloc (by simp;omega) _
 rintro e w2 ⟨sv',rfl,hr,hb⟩;have hw:=hr.2;obtain⟨ao',cap',rfl,hm',hc'⟩:=hr.1;obtain⟨hcc,hff⟩:=zdI hb;have hz:=hb.size;simp only[World.size_alloc] at hc' hz hw;have hr:NodB (w.heap.size+1+1+1) w2 (.slice ao' ns.length cap') ns:=⟨⟨_,_,rfl,hm',hc'⟩,hw⟩;have hbb:=(((((Below.refl w.heap.size w).alloc (zsa _) _).alloc (by simp) _).alloc (by simp;omega) _).trans (hb.mono (by simp;omega)));clear hb;go_wp2;refine zsl (v:=.agg #[.bool bol,.bool eol,.slice ao' ns.length cap']) (by simp[results,Tryz.results35,go_sem,hcc]) rfl ⟨_,rfl,?_,?_⟩
 ·refine NodB.mono (lo:=w.heap.size+1+1+1) ?_ (by omega)
  iterate 4 refine NodB.setCell ?_ (by simp) _
  exact hr
 ·iterate 4 refine Below.setCell ?_ (by simp<;>omega) _
  exact hbb
theorem zhH(v:Value)(ns:List zaf)(w:World)(hs:zaj lo w v ns)(hsm:Small ns):
  Calls Tryz.prog 19 #[v] w fun e w'=>∃v',e=.returned v'/\BraB w.heap.size w' v' ns/\Below w.heap.size w w':=by
 obtain⟨ao,cap,rfl,hm,hc⟩:=hs;have hn:=hsm.1;obtain⟨i0,hi,hz0,hz1,hz2⟩:=info_parts Tryz.infoBranch
 go_enter Tryz.func19,Tryz.ntmps19
 go_wp2_with (refine wpList_make_full _ rfl _ _ 28 rfl w.heap.size 41 i0 _ 3 Tryz.underlying28 hi hz0 hz1 _ _ _ _ ns.length rfl rfl rfl rfl (by rw[hz2];omega) (by unfold maxLen;omega) (zsa _) ?_;intro w1 hown hgrow)
 have hbw:Below w.heap.size w w1:=(Below.refl _ _).grown hgrow (zsa _) (by intro k h;cases h);clear hgrow
 go_loopw [4] (fun i wr=>∃k:Nat,k<=ns.length/\i=.int .i64 k/\Below w.heap.size w wr/\∃(xs:List Value) (S:Nat->Value),wr.ownsRow w.heap.size 41 3 (.slice (some ⟨w.heap.size,0,none⟩) ns.length ns.length) ns.length xs/\
   zbG xs 3 k (zcf ns S)/\∀j,j<k->NodB (w.heap.size+1) wr (S j) (ns.getD j .zero).nodes)
  (fun i _=>ns.length-(intOf i).toNat)
 case atStart=>exact⟨0,zsj _,rfl,hbw,_,fun _=>.nilIface,hown,fun j hj=>absurd hj (zsg _),fun j hj=>absurd hj (zsg _)⟩
 case round=>
  obtain⟨k,hk,rfl,hb,xs,S,hown,hfill,HS0⟩:=hrel;have HS:Hid (∀j,j<k->NodB (w.heap.size+1) wr (S j) (ns.getD j .zero).nodes):=HS0;clear HS0;have hgl:=zb0 hown
  by_cases hlt:k<ns.length
  ·obtain⟨b,o,nv,nd,rfl,Hn,hbl,c0,c1,c2,hsv⟩:=hc.elem hb hlt;have hnd:nd.nodes.length<=1048576:=by have:=(hsm.2 k hlt).1;rw[Hn.out] at this;exact this
   have Hset:Hid (∀j,j<nd.nodes.length->(nd.nodes.getD j .zero).set.length<=1048576):=by have:=(hsm.2 k hlt).2;rw[Hn.out] at this;exact this
   go_wp2_with (go_at_call 35;refine(ziL _ _ _ _ _ hsv hnd Hset.out).mono ?_;rintro e w2 ⟨sv',rfl,hr,hb2⟩;have hrw:=hr.2;obtain⟨ao',cap',rfl,hm',hc'⟩:=hr.1;have hown2:=zab hown hb2;obtain⟨u0,u1,u2,d0,d1,d2,f0,f1,f2⟩:=ziv hown2 hlt)
   go_roundw
   case rel=>
    refine⟨k+1,by omega,by go_num,?_,_,upd S k (.slice ao' nd.nodes.length cap'),(((hown2.stored _ _).1.stored _ _).1.stored _ _).1,zeM (hfill.congr fun j hj=>by simp only[zcf,ze0 _ _ hj]) (by have:=hown2.1;omega) (by rw[zcf,Hn.out,zct]),fun j hj=>?_⟩
    ·iterate 3 refine Below.setCell ?_ (by simp) _
     exact zaa hb hb.size hb2
    ·iterate 3 refine NodB.setCell ?_ (by simp<;>omega) _
     by_cases e:j=k
     ·subst e;rw[zct,Hn.out];exact NodB.mono ⟨⟨_,_,rfl,hm',hc'⟩,hrw⟩ (by omega)
     ·rw[ze0 _ _ (by omega)];exact(HS.out j (by omega)).below hb2
   case measure=>simp[intOf];omega
  ·go_wp2;have hkk:k=ns.length:=by omega
   rw[hkk] at hfill HS;refine zsl (v:=.slice (some ⟨w.heap.size,0,none⟩) ns.length ns.length) (by simp[results,Tryz.results19,go_sem]) rfl ⟨_,rfl,⟨⟨_,_,rfl,hm,fun _=>⟨w.heap.size,0,rfl,zsa _,hgl,fun i hi=>?_⟩⟩,?_⟩,hb⟩
   rotate_left
   ·refine⟨_,_,rfl,fun _=>⟨w.heap.size,0,xs.toArray,rfl,zsa _,hgl,zbC hown,by have:=hown.1;simp;omega,fun i hi=>?_⟩⟩;have hr:=fun k=>zsm _ _ k _ _ _ (zbC hown)
    refine⟨fun j hj=>?_,S i,?_,(HS.out i hi).2.keep (by omega) (zsa _) fun _ _ _ _ e=>e⟩
    ·have e:=zaw hown hfill (c:=j) hi (by omega);rw[zsi,<-hr];rcases(show j=0\/j=1 by omega) with h2|h2<;>subst h2<;>simp[zcf] at e<;>simp[e,slB]
    ·have e:=zaw hown hfill (c:=2) hi (by omega);rw[zsi,<-hr,e]
     rfl
   have e0:=zaw hown hfill (c:=0) hi (by omega);have e1:=zaw hown hfill (c:=1) hi (by omega);have e2:=zaw hown hfill (c:=2) hi (by omega);simp only[zr9,zsi] at e0 e1 e2 ⊢;exact⟨e0,e1,⟨_,e2,(HS.out i hi).1.mono (by omega)⟩⟩
theorem zl2(g:Int)(bv:Value)(bs:List zaf)(w:World)(hs:zaj lo w bv bs)(hsm:Small bs):
  Calls Tryz.prog 6 #[.agg #[bv,.int .i64 g]] w fun e w'=>∃bv',e=.returned (.agg #[bv',.int .i64 g])/\BraB w.heap.size w' bv' bs/\Below w.heap.size w w':=by
 go_enter Tryz.func6,Tryz.ntmps6
 go_wp2_with fail
 refine(zhH (lo:=lo) _ bs _ (hs.below ?_) hsm).mono ?_
 ·exact(((Below.refl _ _).alloc (zsa _) _).alloc (by simp) _).alloc (by simp;omega) _
 rintro e w2 ⟨sv',rfl,hr,hb⟩;have hw:=hr.2;obtain⟨ao',cap',rfl,hm',hc'⟩:=hr.1;obtain⟨hcc,hff⟩:=zdI hb;have hz:=hb.size;simp only[World.size_alloc] at hc' hz hw;have hr:BraB (w.heap.size+1+1+1) w2 (.slice ao' bs.length cap') bs:=⟨⟨_,_,rfl,hm',hc'⟩,hw⟩;have hbb:=(((((Below.refl w.heap.size w).alloc (zsa _) _).alloc (by simp) _).alloc (by simp;omega) _).trans (hb.mono (by simp;omega)));clear hb;go_wp2;refine zsl (v:=.agg #[.slice ao' bs.length cap',.int .i64 g]) (by simp[results,Tryz.results6,go_sem,hcc]) rfl ⟨_,rfl,?_,?_⟩
 ·refine BraB.mono (lo:=w.heap.size+1+1+1) ?_ (by omega)
  iterate 4 refine BraB.setCell ?_ (by simp) _
  exact hr
 ·iterate 4 refine Below.setCell ?_ (by simp<;>omega) _
  exact hbb
end Go.Proofs.YthdljcdbfmhleaaGreatDoor
