import Derived.Test.YthddplbodacjgaaGreatDoorC31
namespace Go.Proofs.YthddplbodacjgaaGreatDoor
set_option maxHeartbeats 2000000
set_option maxRecDepth 100000
open Go.RowKit
attribute [local go_sem ↓] Go.wp_at_zero Go.wp_at_succ
theorem ziV{P:Program}(w:World)(dT sT ty elem:TypeId)(sz g o dLen dCap:Nat)(a:Addr)(sLen sCap:Nat)(cur:Array Value)(t:TypeId)(cs:List Value)
  (hu:P.underlying dT=some (.slice elem)) (hs:(P.info? elem).map (·.size)=some sz)
  (hg:w.heap[g]?=some (.cells cur t (0,0))) (hn:cs.length=Nat.min sLen dLen*sz)
  (hsrc:∀j v,cs[j]?=some v->w.cell? (a.add j)=some v) (hfit:o+cs.length<=cur.size) (h1:∀v∈cs,v.oneCell'=true):
  (Builtin.copy_ #[dT,sT] ty #[.slice (some ⟨g,o,none⟩) dLen dCap,.slice (some a) sLen sCap]).run P w =
   .ok (goInt (Nat.min sLen dLen)) (w.setRow g (cur.toList.take o++cs++cur.toList.drop (o+cs.length)).toArray):=by
 have hl:=run_loadCells_list (P:=P) w a cs hsrc;have hst:=run_storeCells_at P g o t cs 0 cur w hg (by simpa using hfit) h1;cases hq:P.info? elem with
 |none=>simp[hq] at hs
 |some i=>
  have hi:i.size=sz:=by simpa [hq] using hs
  simp[Builtin.copy_,run_underlying hu,Builtin.lenOf,Builtin.firstCells,sizeOf,typeInfo,hq,hi,<-hn,hl,hst]
def altV(x y:Int)(i:Nat):Int:=if i%2=0 then x else y
def repA(x y:Int)(n j:Nat):List Value:=(List.range (n*2)).map fun i=>.int .i64 (if i<j*2 then altV x y i else 0)
def altL(x y:Int)(c:Nat):List Value:=(List.range (c*2)).map fun i=>.int .i64 (altV x y i)
theorem zeC(x y:Int)(n j:Nat):(repA x y n j).length=n*2:=by simp[repA]
theorem zdT(x y:Int)(c:Nat):(altL x y c).length=c*2:=by simp[altL]
theorem zdt(x y:Int){n j i:Nat}(h:i<n*2):(repA x y n j)[i]?=some (.int .i64 (if i<j*2 then altV x y i else 0)):=by simp[repA,h]
theorem zlV(x y:Int){c i:Nat}(h:i<c*2):(altL x y c)[i]?=some (.int .i64 (altV x y i)):=by simp[altL,h]
theorem zlt(x y:Int){n j c:Nat}(h:j+c<=n):(repA x y n j).take (j*2)++altL x y c++(repA x y n j).drop (j*2+c*2)=repA x y n (j+c):=by
 apply ztL
 intro i;have hl:=zeC x y n j;rw[ztD]
 by_cases h1:i<j*2
 ·rw[ztQ (by rw[zt8];omega),ztY,zuV h1,zdt x y (by omega),zdt x y (by omega),zuV h1,zuV (by omega)]
 ·rw[ztR (by rw[zt8];omega),zt8,hl,zuE (by omega)]
  by_cases h2:i<(j+c)*2
  ·rw[ztQ (by rw[zdT];omega),zlV x y (by omega),zdt x y (by omega),zuV h2];unfold altV;rw[show (i-j*2)%2=i%2 by omega]
  ·rw[ztR (by rw[zdT];omega),zdT,ztS,show j*2+c*2+(i-j*2-c*2)=i by omega]
   by_cases h3:i<n*2
   ·rw[zdt x y h3,zdt x y h3,zuU h1,zuU h2]
   ·rw[ztU (by rw[zeC];omega),ztU (by rw[zeC];omega)]
theorem zoO(x y:Int)(n:Nat):(madeCells (Value.agg #[.int .i64 0,.int .i64 0]).cells (n*2)).toList=repA x y n 0:=by
 apply ztL
 intro i
 by_cases h:i<n*2
 ·rw[zdt x y h,zuU (by omega)];have h2:i%2=0\/i%2=1:=by omega
  rcases h2 with h2|h2<;>simp[madeCells,Value.cells,h,h2]
 ·rw[ztU (by simp[madeCells];omega),ztU (by rw[zeC];omega)]
theorem Tryz.sizeAns:(Tryz.prog.info? 103).map (·.size)=some 2:=by kernel_rfl
theorem Tryz.infoAns:(Tryz.prog.info? 103).map (fun i=>(i.zero,i.size,i.bytes))=some (some (.agg #[.int .i64 0,.int .i64 0]),2,16):=by kernel_rfl
def cpyA(ats:Array TypeId)(ty:TypeId)(args:Array Value):Sem Value:=Builtin.copy_ ats ty args
theorem zof(ty:TypeId)(args:Array Value):Builtin.copy_ #[109,109] ty args=cpyA #[109,109] ty args:=rfl
attribute [local go_sem ↓] zof
theorem zjk(x y:Int){n j c g dc sl sc:Nat}{a:Addr}{W:World}(hR:W.heap[g]?=some (.cells (repA x y n j).toArray 103 (0,0)))(hj:j<=n)(hc:c=min sl (n-j))(hs:∀i,i<c*2->W.cell? (a.add i)=some (.int .i64 (altV x y i)))(ty:TypeId)(dl:Nat)(hdl:dl=n-j):
  ∃W',(cpyA #[109,109] ty #[.slice (some ⟨g,j*2,none⟩) dl dc,.slice (some a) sl sc]).run Tryz.prog W=.ok (.int .i64 (c:Int)) W'/\W'.heap[g]?=some (.cells (repA x y n (j+c)).toArray 103 (0,0))/\W.grownBy W' (some g):=by
 subst hdl;have h:=ziV (P:=Tryz.prog) W 109 109 ty 103 2 g (j*2) (n-j) dc a sl sc (repA x y n j).toArray 103 (altL x y c) Tryz.underlying109 Tryz.sizeAns hR (by rw[zdT,hc])
  (fun i v hv=>by
   by_cases hi:i<c*2
   ·rw[zlV x y hi] at hv;cases hv;exact hs i hi
   ·rw[ztU (by rw[zdT];omega)] at hv;cases hv) (by rw[zdT,zuo,zeC];omega) (by intro v hv;obtain⟨i,_,rfl⟩:=zug.1 hv;rfl)
 rw[zdT,show Nat.min sl (n-j)=c from hc.symm] at h;refine⟨_,h,?_,⟨rfl,rfl,rfl,by simp[World.setRow],fun k _ hk=>setRow_other W g k _ (fun e=>hk (by rw[e]))⟩⟩;rw[setRow_heap W g _ _ _ _ hR];have e:=zlt x y (n:=n) (j:=j) (c:=c) (by omega);rw[e]
theorem zrb(x y:Int)(n:Nat):(repA x y n n).toArray=zbR n (fun _=>x) (fun _=>y):=by
 apply ztn
 intro i
 by_cases h:i<n*2
 ·rw[ztZ,zdt x y h,zuV h];simp[zbR,h,altV]
 ·rw[zto (by rw[zuo,zeC];omega),zto (by simp[zbR];omega)]
theorem znD(x y:Int)(g0 n:Nat)(w:World)(hx:w.heap[g0]?=some (.cells #[.int .i64 x,.int .i64 y] 103 (0,0)))(hn:n<=4000):
  Calls Tryz.prog 51 #[.slice (some ⟨g0,0,none⟩) 1 1,.int .i64 (n:Int)] w fun e w'=>e=.returned (.slice (some ⟨w.heap.size,0,none⟩) n n)/\w'.heap[w.heap.size]?=some (.cells (zbR n (fun _=>x) (fun _=>y)) 103 (0,0))/\Below w.heap.size w w':=by
 obtain⟨i0,hi,hz0,hz1,hz2⟩:=info_parts Tryz.infoAns;have hm:=zrF n w hn;have hg0:=zae hx;have hi2:(n:Int)<=4000:=by omega
 have hsrc:∀(W:World),Below w.heap.size w W->∀c,c<=1->∀i,i<c*2->W.cell? ((⟨g0,0,none⟩:Addr).add i)=some (.int .i64 (altV x y i)):=fun W hW c hc i hi=>by
  have hr:=(hW.block g0 hg0).trans hx;have h2:i=0\/i=1:=by omega
  rcases h2 with rfl|rfl
  ·exact(zuO _ _ _ _ _ _ hr:W.cell? ⟨g0,0,none⟩=_)
  ·exact(zuO _ _ _ _ _ _ hr:W.cell? ⟨g0,1,none⟩=_)
 obtain⟨c0,Hc0⟩:∃c0,Hid (c0=min 1 (n-0)):=⟨_,rfl⟩;have hc0:c0<=1:=by have:=Hc0.out;omega
 go_enter Tryz.func51,Tryz.ntmps51
 go_wp2_with (first|(go_at_call 79;refine hm.mono ?_;rintro e w' ⟨rfl,hw'⟩;subst w')|(refine wpList_make_full _ rfl _ _ 109 rfl w.heap.size 103 i0 _ 2 Tryz.underlying109 hi hz0 hz1 _ _ _ _ n rfl rfl rfl rfl (by rw[hz2];omega) (by unfold maxLen;omega) (zuz _) ?_;intro w1 hown1 hgrow1;have hb1:Below w.heap.size w w1:=(Below.refl _ _).grown hgrow1 (zuz _) (by intro k h;cases h);have HR:Hid (w1.heap[w.heap.size]?=some (.cells (repA x y n 0).toArray 103 (0,0))):=(by have h:=zb8 hown1;rw[zoO x y] at h;exact h);clear hown1 hgrow1;obtain⟨w2,hcp,hR2,hg2⟩:=zjk x y (sc:=1) (a:=⟨g0,0,none⟩) (dc:=n) HR.out (zuL _) (c:=c0) (sl:=1) Hc0.out (hsrc w1 hb1 c0 hc0) 3 n rfl;have HR2:Hid _:=hR2;have hB2:Hid (Below w.heap.size w w2):=hb1.grown hg2 hb1.size (fun q e=>by cases e;exact zuz _);clear hR2 hg2))
 clear hx hcp hb1 hm HR hsrc
 go_loopw [8] (fun i wr=>∃(j:Nat),(n=0\/1<=j)/\j<=n/\i=.int .i64 j/\Hid (wr.heap[w.heap.size]?=some (.cells (repA x y n j).toArray 103 (0,0)))/\Hid (Below w.heap.size w wr))
  (fun i _=>n-(intOf i).toNat)
 case atStart=>exact⟨c0,by have:=Hc0.out;omega,by have:=Hc0.out;omega,rfl,by rw[zuK] at HR2;exact HR2,hB2⟩
 case round=>
  obtain⟨j,hj1,hj,rfl,HR,HB⟩:=hrel
  by_cases hj2:j<n
  ·have hi3:(j:Int)<(n:Int):=by omega
   have hi4:¬n=j:=by omega
   obtain⟨c,hc⟩:∃c,c=min j (n-j):=⟨_,rfl⟩;obtain⟨w5,hcp,hR5,hg5⟩:=zjk x y (W:=wr.drew) (sc:=n) (a:=⟨w.heap.size,0,none⟩) (dc:=n-j) HR.out hj (c:=c) (sl:=j) hc (fun i hi=>by
    have e:(⟨w.heap.size,0,none⟩:Addr).add i=⟨w.heap.size,i,none⟩:=by unfold Addr.add;split<;>simp_all
    have hr:wr.drew.heap[w.heap.size]?=some (.cells (repA x y n j).toArray 103 (0,0)):=HR.out;rw[e,zuO _ _ _ _ _ _ hr,ztZ,zdt x y (by omega),zuV (by omega)]) 3 (n-j) rfl
   have HR5:Hid _:=hR5;have HB5:Hid (Below w.heap.size w w5):=by
    have hB1:Below w.heap.size w wr.drew:=HB.out.trans ⟨rfl,rfl,rfl,zuz _,fun _ _=>rfl⟩;exact hB1.grown hg5 hB1.size (fun q e=>by cases e;exact zuz _)
   have hc1:1<=c:=by omega
   have hc2:j+c<=n:=by omega
   have hc3:(j:Int)+(c:Int)<=4000:=by omega
   clear hR5 hg5 hc hj1;go_wp2
   go_big_region
   go_wp2
   go_roundw
   case rel=>exact⟨j+c,by omega,hc2,by simp,HR5,HB5⟩
   case measure=>simp[intOf];omega
  ·have hjj:j=n:=by omega
   subst hjj;go_wp2;refine zuN (v:=.slice (some ⟨w.heap.size,0,none⟩) j j) (by simp[results,Tryz.results51,go_sem]) rfl ⟨rfl,by rw[<-zrb];exact HR.out,HB.out⟩
end Go.Proofs.YthddplbodacjgaaGreatDoor
