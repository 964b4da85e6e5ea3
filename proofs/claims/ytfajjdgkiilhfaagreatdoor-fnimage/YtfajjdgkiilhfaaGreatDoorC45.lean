import Derived.Test.YtfajjdgkiilhfaaGreatDoorC42
import Derived.BigQuiet
import Derived.Deep.Cut
import Derived.Deep.RegionHeld3
namespace Go.Proofs.YtfajjdgkiilhfaaGreatDoor
open Proofs.Tryz
open Value renaming int->za
open Option renaming some->zb,none->zc
open Obj renaming cells->zd
set_option maxHeartbeats 4000000
set_option maxRecDepth 100000
open Go.RowKit
attribute [local go_sem ↓] wp_at_zero wp_at_succ
theorem ZT{lo rC:Nat}(v v':Value)(xs:List Int)(w:World)(h:dD lo w v xs)(h':dD rC w v' xs)(hl:xs.length<=2000000):
  Calls prog 11 #[v,v'] w λe W=>e=.returned (.bool true)/\Below w.heap.size w W:=by
 obtain⟨ao,cap,rfl,_,hc⟩:=h;obtain⟨ao',cap',rfl,_,hc'⟩:=h';have HC:=ah hc;have HC':=ah hc';clear hc hc';obtain⟨n,hn⟩:∃n,xs.length=n:=⟨_,rfl⟩;have HN:=ah hn;rw[hn]at hl ⊢;clear hn
 go_enter func11,ntmps11
 go_wp2
 go_loopw [13] (λi wr=>∃k:Nat,k<=n/\i=za .i64 k/\Below w.heap.size w wr) (λi _=>n-(intOf i).toNat)
 case atStart=>exact⟨0,dz _,rfl,Below.refl _ _⟩
 case round=>
  obtain⟨k,hk,rfl,hb⟩:=hrel
  by_cases hlt:k<n
  ·have Cm:(k:Int)<(n:Int):=by omega
   have i0:(0:Int)<=(k:Int):=by omega
   obtain⟨b,o,e1,_,oH,bO⟩:=HC.out (by rw[HN.out];omega);obtain⟨b',o',e2,_,eE,bu⟩:=HC'.out (by rw[HN.out];omega);have c1:wr.cell? ⟨b,o+k,zc⟩=zb (za .i64 (xs.getD k 0)):=(hb.cell (p:=⟨b,o+k,zc⟩) oH).trans (bO k (by rw[HN.out];exact hlt));have c2:wr.cell? ⟨b',o'+k,zc⟩=zb (za .i64 (xs.getD k 0)):=(hb.cell (p:=⟨b',o'+k,zc⟩) eE).trans (bu k (by rw[HN.out];exact hlt));subst e1 e2;generalize xs.getD k 0=x at *;have Hb:=ah hb;clear bO bu oH eE hb;go_wp2
   go_quiet (fail)
   go_wp2
   go_roundw
   case rel=>exact⟨k+1,by omega,by go_num,below_drewN Hb.out _⟩
   case measure=>simp[intOf];omega
  ·have fX:¬(k:Int)<(n:Int):=by omega
   go_wp2;go_ret;exact⟨rfl,hb⟩
theorem zsD(w:World)(mo:Option Addr)(m:List UInt8)(Kr i:Nat)(hm:Dh w mo m)(hl:m.length<=1048576)(hi:i<=1048576):
  Calls prog 12 #[.slice mo m.length Kr,za .i64 (i:Int),za .i64 256] w λe w'=>(∃x:Nat,x<256/\e=.returned (za .i64 (x:Int)))/\w'=w:=by
 obtain⟨n,hn⟩:∃n,m.length=n:=⟨_,rfl⟩
 by_cases h0:n=0
 ·rw[hn];subst h0;clear hn hm
  go_enter func12,ntmps12
  go_wp2;go_ret;exact⟨⟨0,by omega,rfl⟩,rfl⟩
 ·obtain⟨b,o,rfl,_,hk⟩:=hm (by omega);have hp:i%n<n:=Nat.mod_lt _ (by omega);have hc:=hk (i%n) (by omega);have hx:=(m.getD (i%n) 0).toNat_lt;rw[hn]at hl ⊢;have Si:(i:Int)%(n:Int)=((i%n:Nat):Int):=by simp
  generalize (m.getD (i%n) 0).toNat=x at *;generalize i%n=k at *;have i0:(0:Int)<=(k:Int):=by omega
  have i1:(k:Int)<(n:Int):=by omega
  have lN:(x:Int)%256=(x:Int):=by omega
  have n0:((n:Int)==0)=false:=by simp[h0]
  clear hk hn
  go_enter func12,ntmps12
  go_wp2;go_ret;exact⟨⟨x,by omega,ew lN⟩,rfl⟩
theorem zlQ{l1 l2:Nat}(cv bv fv tv ev nv kv BU xu Jr Kz eP jq Kp:Value)(d:cg)(w:World)(hs:qi l1 w cv bv fv tv ev nv kv d)(pV:qi l2 w BU xu Jr Kz eP jq Kp d)(hsm:C4 d):
  Calls prog 10 #[.agg #[cv,za .i64 d.width,bv,fv,tv,ev,nv,kv],.agg #[BU,za .i64 d.width,xu,Jr,Kz,eP,jq,Kp]] w λe w'=>e=.returned (.bool true)/\Below w.heap.size w w':=by
 have Ro:Below w.heap.size w ((w.alloc (zd #[cv,za .i64 d.width,bv,fv,tv,ev,nv,kv] 28)).alloc (zd #[BU,za .i64 d.width,xu,Jr,Kz,eP,jq,Kp] 28)):=(ax).alloc (by simp) _;have r0:((w.alloc (zd #[cv,za .i64 d.width,bv,fv,tv,ev,nv,kv] 28)).alloc (zd #[BU,za .i64 d.width,xu,Jr,Kz,eP,jq,Kp] 28)).heap[w.heap.size]?=zb (zd #[cv,za .i64 d.width,bv,fv,tv,ev,nv,kv] 28 (0,0)):=heap_alloc2_old _ _ _;have q0:((w.alloc (zd #[cv,za .i64 d.width,bv,fv,tv,ev,nv,kv] 28)).alloc (zd #[BU,za .i64 d.width,xu,Jr,Kz,eP,jq,Kp] 28)).heap[w.heap.size+1]?=zb (zd #[BU,za .i64 d.width,xu,Jr,Kz,eP,jq,Kp] 28 (0,0)):=heap_alloc2_new _ _ _;have HI:=ah λ(v v':Value) (xs:List Int) (W:World) (hx:xs∈d.lists) (a:dD l1 W v xs) (b:dD l2 W v' xs)=>ZT v v' xs W a b (by have:=hsm xs hx;omega)
 go_enter func10,ntmps10
 go_wp2_with fail
 refine(HI.out _ _ d.ai _ (by simp[cg.lists]) (hs.below Ro).ai (pV.below Ro).ai).mono ?_;rintro e w1 ⟨rfl,aO⟩;have vR:=aH Ro Ro.size aO;have r1:=aT r0 aO;have q1:=aT q0 aO;clear aO;have x0:=cG r1;have x1:=cG q1
 go_wp2_with fail
 refine(HI.out _ _ d.base _ (by simp[cg.lists]) (hs.below vR).base (pV.below vR).base).mono ?_;rintro e w2 ⟨rfl,aB⟩;have Rp:=aH vR vR.size aB;have r2:=aT r1 aB;have q2:=aT q1 aB;clear aB;clear x0 x1;have x0:=cG r2;have x1:=cG q2
 go_wp2_with fail
 refine(HI.out _ _ d.bA _ (by simp[cg.lists]) (hs.below Rp).bA (pV.below Rp).bA).mono ?_;rintro e w3 ⟨rfl,fD⟩;have Rr:=aH Rp Rp.size fD;have r3:=aT r2 fD;have q3:=aT q2 fD;clear fD;clear x0 x1;have x0:=cG r3;have x1:=cG q3
 go_wp2_with fail
 refine(HI.out _ _ d.tag _ (by simp[cg.lists]) (hs.below Rr).tag (pV.below Rr).tag).mono ?_;rintro e w4 ⟨rfl,de⟩;have Rs:=aH Rr Rr.size de;have r4:=aT r3 de;have q4:=aT q3 de;clear de;clear x0 x1;have x0:=cG r4;have x1:=cG q4
 go_wp2_with fail
 refine(HI.out _ _ d.fin _ (by simp[cg.lists]) (hs.below Rs).fin (pV.below Rs).fin).mono ?_;rintro e w5 ⟨rfl,cQ⟩;have Rt:=aH Rs Rs.size cQ;have r5:=aT r4 cQ;have q5:=aT q4 cQ;clear cQ;clear x0 x1;have x0:=cG r5;have x1:=cG q5
 go_wp2_with fail
 refine(HI.out _ _ d.next _ (by simp[cg.lists]) (hs.below Rt).next (pV.below Rt).next).mono ?_;rintro e w6 ⟨rfl,iu⟩;have Ru:=aH Rt Rt.size iu;have r6:=aT r5 iu;have q6:=aT q5 iu;clear iu;clear x0 x1;have x0:=cG r6;have x1:=cG q6
 go_wp2_with fail
 refine(HI.out _ _ d.az _ (by simp[cg.lists]) (hs.below Ru).az (pV.below Ru).az).mono ?_;rintro e w7 ⟨rfl,ij⟩;have Xu:=aH Ru Ru.size ij;have r7:=aT r6 ij;have q7:=aT q6 ij;clear ij;clear x0 x1;have x0:=cG r7;have x1:=cG q7;go_wp2;go_ret;exact⟨rfl,Xu⟩
variable {n g k:Nat}{f:Nat -> Int}{w W:World}{row:List Int}
def qR(n:Nat)(f:Nat->Int):Array Value:=((List.range n).map λi=>Value.int .i64 (f i)).toArray
theorem zqe(n:Nat)(f:Nat->Int){i:Nat}(h:i<n):(qR n f)[i]?=zb (za .i64 (f i)):=by
 simp[qR,h]
theorem zqf(n:Nat)(f:Nat->Int)(i:Nat)(x:Int):(qR n f).setIfInBounds i (za .i64 x)=qR n (λj=>if j=i then x else f j):=by
 apply Array.ext'
 unfold qR;simp only[vl];apply FE
 ·simp
 ·intro j h1 h2;simp only[List.getElem_set,List.getElem_map,List.getElem_range]
  by_cases e:i=j
  ·subst e;simp
  ·rw[ab e,ab (λh=>e h.symm)]
theorem zhv{g:Nat->Int}(h:∀i,i<n->f i=g i):qR n f=qR n g:=by
 unfold qR
 congr 1
 apply Ak
 intro i hi;rw[h i (qm.1 hi)]
structure qQ(w:World)(g n:Nat)(f:Nat->Int)(W:World):Prop where
 os:W.os=w.os
 tape:W.tape=w.tape
 output:W.output=w.output
 size:w.heap.size<=W.heap.size
 row:W.heap[g]?=zb (zd (qR n f) 3 (0,0))
 rest:∀k,k≠g->k<w.heap.size->W.heap[k]?=w.heap[k]?
theorem qQ.set(h:qQ w g n f W)(i:Nat)(x:Int):qQ w g n (λj=>if j=i then x else f j) (W.setCell ⟨g,i,zc⟩ (za .i64 x)):=
 ⟨h.os,h.tape,h.output,by simpa [World.setCell]using h.size,by rw[<-zqf];exact cJ _ _ _ _ _ _ h.row,λk hk hl=>(bh _ _ _ _ hk).trans (h.rest k hk hl)⟩
theorem qQ.drewN(h:qQ w g n f W)(m:Nat):qQ w g n f (W.drewN m):=by
 have hb:=below_drewN (Below.refl W.heap.size W) m;exact⟨hb.os.trans h.os,hb.tape.trans h.tape,hb.output.trans h.output,cY h.size hb.size,(hb.block g (ay h.row)).trans h.row,λk hk hl=>(hb.block k (dR hl h.size)).trans (h.rest k hk hl)⟩
theorem qQ.congr{f':Nat->Int}(h:qQ w g n f W)(hf:∀i,i<n->f i=f' i):qQ w g n f' W:=⟨h.os,h.tape,h.output,h.size,by rw[<-zhv hf];exact h.row,h.rest⟩
theorem qQ.cell(h:qQ w g n f W){b o:Nat}(hb:b≠g)(hl:b<w.heap.size):W.cell? ⟨b,o,zc⟩=w.cell? ⟨b,o,zc⟩:=World.cell?_of_block (h.rest b hb hl)
theorem qQ.at(h:qQ w g n f W){i:Nat}(hi:i<n):W.cell? ⟨g,i,zc⟩=zb (za .i64 (f i)):=by
 rw[iY _ _ _ _ _ _ h.row,zqe n f hi]
def ic(row:List Int)(k:Nat)(i:Nat):Int:=((row.take k).count (i:Int):Nat)
def ud(row:List Int)(k:Nat)(b:Int):Prop:=(k=0/\b=row.getD 0 0)\/(b∈row.take k/\∀y∈row.take k,(row.take k).count y<(row.take k).count b\/((row.take k).count y=(row.take k).count b/\b<=y))
theorem zsG(hk:k<row.length){b x:Int}(hx:row.getD k 0=x)(h:ud row k b):
  ((row.take (k+1)).count b<(row.take (k+1)).count x->ud row (k+1) x)/\((row.take (k+1)).count x=(row.take (k+1)).count b->x<b->ud row (k+1) x)/\(¬(row.take (k+1)).count b<(row.take (k+1)).count x->¬((row.take (k+1)).count x=(row.take (k+1)).count b/\x<b)->ud row (k+1) b):=by
 have e:row[k]=x:=by rw[<-hx];simp[List.getD,hk]
 have eV:row.take (k+1)=row.take k++[x]:=by rw[oh hk,e]
 have oF:x∈row.take (k+1):=by rw[eV];simp
 have hc:∀y,(row.take (k+1)).count y=(row.take k).count y+if y=x then 1 else 0:=λy=>ZB row y k hk x hx
 have oJ:0<(row.take (k+1)).count x:=List.count_pos_iff.2 oF;rcases h with ⟨h0,hb⟩|⟨hb,bm⟩
 ·have dk:b=x:=by rw[hb,<-hx,h0]
  subst dk;have EF:row.take (k+1)=[b]:=by rw[eV,h0];rfl
  have this:ud row (k+1) b:=.inr ⟨oF,λy hy=>by rw[EF]at hy;rw[sZ.1 hy];exact .inr ⟨rfl,Ai _⟩⟩;exact⟨λ_=>this,λ_ _=>this,λ_ _=>this⟩
 ·have zBk:b∈row.take (k+1):=by rw[eV];exact List.mem_append_left _ hb
  refine⟨λh1=>.inr ⟨oF,λy hy=>?_⟩,λh1 h2=>.inr ⟨oF,λy hy=>?_⟩,λh1 h2=>.inr ⟨zBk,λy hy=>?_⟩⟩
  all_goals
   have key:∀y,y∈row.take (k+1)->y=x\/((row.take (k+1)).count y=(row.take k).count y/\((row.take k).count y<(row.take k).count b\/((row.take k).count y=(row.take k).count b/\b<=y))):=λy hy=>by
    by_cases e1:y=x
    ·exact .inl e1
    ·right
     rw[eV]at hy;rcases gH.1 hy with h3|h3
     ·exact⟨by rw[hc y,ab e1];rfl,bm y h3⟩
     ·exact absurd (sZ.1 h3) e1
   have q3:(row.take k).count b<=(row.take (k+1)).count b:=by rw[hc b];omega
   rcases key y hy with rfl|⟨k1,k2⟩
   ·omega
   ·omega
theorem zuk{b:Int}(h0:0<row.length)(h:ud row row.length b):dW row=b:=by
 rcases h with ⟨h1,_⟩|⟨hb,bm⟩
 ·omega
 ·rw[sW]at hb bm;exact znv (Tg.2 ⟨hb,bm⟩)
theorem zsr(hk:k<row.length){x:Nat}(hx:row.getD k 0=(x:Int))(i:Nat):(if i=x then ic row k x+1 else ic row k i)=ic row (k+1) i:=by
 unfold ic;have h:=ZB row (i:Int) k hk _ hx;rw[h]
 by_cases e:i=x
 ·subst e;simp
 ·rw[ab e,ab (λh=>e (by omega))];simp
def BS(row:List Int)(k:Nat)(i:Nat):Int:=if (i:Int)∈row.take k then 0 else ic row row.length i
theorem zsl(hk:k<row.length){x:Nat}(hx:row.getD k 0=(x:Int))(i:Nat):(if i=x then 0 else BS row k i)=BS row (k+1) i:=by
 have e:row[k]=(x:Int):=by rw[<-hx];simp[List.getD,hk]
 unfold BS;rw[oh hk,e]
 by_cases e1:i=x
 ·subst e1;simp
 ·have:¬(i:Int)=(x:Int):=by omega
  simp only[ab e1,gH,sZ,this,or_false]
theorem zt1(row:List Int)(i:Nat):BS row row.length i=0:=by
 unfold BS ic;rw[sW];split
 ·rfl
 ·rename_i h
  rw[List.count_eq_zero.2 h];rfl
theorem zsm(row:List Int)(i:Nat):BS row 0 i=ic row row.length i:=by simp[BS]
theorem zhS(b o A0:Nat)(row:List Int)(g n cap:Nat)(w:World)(nF:b≠g)(bF:b<w.heap.size)(Hc:Hid (∀i,i<row.length->w.cell? ⟨b,o+i,zc⟩=zb (za .i64 (row.getD i 0))))(et:w.heap[g]?=zb (zd (qR n (λ_=>0)) 3 (0,0)))(h0:0<row.length)(h1:row.length<=256)(hr:Hid (∀x∈row,0<=x/\x<(n:Int))):
  Calls prog 26 #[.slice (zb ⟨b,o,zc⟩) row.length A0,.slice (zb ⟨g,0,zc⟩) n cap] w λe w'=>e=.returned (za .i64 (dW row))/\Below w.heap.size w w':=by
 have Hx:Hid (∀i,i<row.length->∃x:Nat,row.getD i 0=(x:Int)/\x<n):=λi hi=>by
  have:=hr.out (row.getD i 0) (by simp[List.getD,hi]);exact⟨(row.getD i 0).toNat,by omega,by omega⟩
 clear hr;have S0:qQ w g n (ic row 0) w:=⟨rfl,rfl,rfl,aq _,by rw[show qR n (ic row 0)=qR n (λ_=>0) from zhv λi _=>by simp[ic]];exact et,λ_ _ _=>rfl⟩;obtain⟨x0,lM,zCf⟩:=Hx.out 0 h0;have c00:w.cell? ⟨b,o,zc⟩=zb (za .i64 (x0:Int)):=by have:=Hc.out 0 h0;rw[lM]at this;simpa using this
 have gX:Hid (ud row 0 (x0:Int)):=.inl ⟨rfl,lM.symm⟩;have VB:Hid (w.heap[g]?=zb (zd (qR n (λ_=>0)) 3 (0,0))):=et;clear lM et
 go_enter func26,ntmps26
 go_wp2
 go_loopw [5,15] (λbv i wr=>∃(k bb:Nat),k<=row.length/\i=za .i64 k/\bv=za .i64 (bb:Int)/\bb<n/\Hid (ud row k (bb:Int))/\qQ w g n (ic row k) wr)
  (λ_ i _=>row.length-(intOf i).toNat)
 case atStart=>exact⟨0,x0,by omega,rfl,rfl,zCf,gX,S0⟩
 case round=>
  clear S0 gX c00;obtain⟨k,bb,hk,rfl,rfl,xM,HB,S⟩:=hrel
  by_cases hlt:k<row.length
  ·obtain⟨x,hx,xW⟩:=Hx.out k hlt;have c0:wr.cell? ⟨b,o+k,zc⟩=zb (za .i64 (x:Int)):=by rw[S.cell nF bF,Hc.out k hlt,hx]
   have HS:Hid _:=zsG hlt hx HB.out;have HT:Hid (∀i,(if i=x then ic row k x+1 else ic row k i)=ic row (k+1) i):=zsr hlt hx;have d0:=S.at xW;have f0:=aM _ _ x _ _ S.row;have mP:∀i,ic row k i<=256:=λi=>by
    unfold ic;have:=List.count_le_length (a:=(i:Int)) (l:=row.take k);rw[rP]at this;omega
   have Et:=mP x;have zBu:0<=ic row k x:=by unfold ic;omega
   have SN:=(S.set x (ic row k x+1)).congr (λi _=>HT.out i);have zCh:(x:Int)<(n:Int):=by omega
   have zC9:(bb:Int)<(n:Int):=by omega
   clear hx mP
   go_upto_region 6 with fail
   generalize hWN:wr.setCell ⟨g,x,zc⟩ (za .i64 (ic row k x+1))=WN at *;clear hWN c0 d0 f0 S Et zBu HT;have d1:=SN.at xW;have d2:=SN.at xM;obtain⟨s1,s2,s3⟩:=HS.out;have S1:Hid (ic row (k+1) bb<ic row (k+1) x->ud row (k+1) (x:Int)):=λh=>s1 (by unfold ic at h;omega)
   have S2:Hid (ic row (k+1) x=ic row (k+1) bb->(x:Int)<(bb:Int)->ud row (k+1) (x:Int)):=λh=>s2 (by unfold ic at h;omega)
   have S3:Hid (¬ic row (k+1) bb<ic row (k+1) x->¬(ic row (k+1) x=ic row (k+1) bb/\(x:Int)<(bb:Int))->ud row (k+1) (bb:Int)):=λh h2=>s3 (by unfold ic at h;omega) (λh3=>h2 ⟨by unfold ic;omega,h3.2⟩)
   clear s1 s2 s3 HS HB;have dg:(0:Int)<=(x:Int):=by omega
   have pg:(0:Int)<=(bb:Int):=by omega
   have PX:Hid (∀m,qQ w g n (ic row (k+1)) (WN.drewN m)):=λm=>SN.drewN m
   generalize ic row (k+1) x=cx at *;generalize ic row (k+1) bb=cb at *
   by_cases g1:cb<cx
   ·have g1':decide (cb<cx)=true:=by simp[g1]
    have HR:Hid (ud row (k+1) (x:Int)):=S1.out g1
    go_quiet (fail)
    go_wp2
    go_roundw
    case rel=>exact⟨k+1,x,by omega,by go_num,rfl,xW,HR.out,PX.out _⟩
    case measure=>simp[intOf];omega
   have g1':decide (cb<cx)=false:=by simp;omega
   by_cases g2:cx=cb
   ·have g2':(cx==cb)=true:=by simp[g2]
    by_cases g3:(x:Int)<(bb:Int)
    ·have g3':decide ((x:Int)<(bb:Int))=true:=by simp only[g3,decide_true]
     have HR:Hid (ud row (k+1) (x:Int)):=S2.out g2 g3;clear g2 S1 S2 S3
     go_quiet (fail)
     go_wp2
     go_roundw
     case rel=>exact⟨k+1,x,by omega,by go_num,rfl,xW,HR.out,PX.out _⟩
     case measure=>simp[intOf];omega
    ·have g3':decide ((x:Int)<(bb:Int))=false:=by simp only[g3,decide_false]
     have HR:Hid (ud row (k+1) (bb:Int)):=S3.out g1 (λh=>g3 h.2);clear g2 S1 S2 S3
     go_quiet (fail)
     go_wp2
     go_roundw
     case rel=>exact⟨k+1,bb,by omega,by go_num,rfl,xM,HR.out,PX.out _⟩
     case measure=>simp[intOf];omega
   ·have g2':(cx==cb)=false:=by simp[g2]
    have HR:Hid (ud row (k+1) (bb:Int)):=S3.out g1 (λh=>g2 h.1);clear g2 S1 S2 S3
    go_quiet (fail)
    go_wp2
    go_roundw
    case rel=>exact⟨k+1,bb,by omega,by go_num,rfl,xM,HR.out,PX.out _⟩
    case measure=>simp[intOf];omega
  ·have cC:k=row.length:=by omega
   rw[cC]at HB S;have HR:Hid (dW row=(bb:Int)):=zuk h0 HB.out;have S2:qQ w g n (BS row 0) wr:=S.congr λi _=>(zsm row i).symm
   clear cC HB S;go_wp2
   go_loopw [54] (λi wr=>∃k:Nat,k<=row.length/\i=za .i64 k/\qQ w g n (BS row k) wr)
    (λi _=>row.length-(intOf i).toNat)
   case atStart=>exact⟨0,by omega,rfl,S2⟩
   case round=>
    clear S2;obtain⟨j,hj,rfl,S⟩:=hrel
    by_cases mc:j<row.length
    ·obtain⟨x,hx,xW⟩:=Hx.out j mc;have c0:wr.cell? ⟨b,o+j,zc⟩=zb (za .i64 (x:Int)):=by rw[S.cell nF bF,Hc.out j mc,hx]
     have d0:=S.at xW;have f0:=aM _ _ x _ _ S.row;have SN:=(S.set x 0).congr (λi _=>zsl mc hx i);have zCh:(x:Int)<(n:Int):=by omega
     clear hx;go_wp2
     go_roundw
     case rel=>exact⟨j+1,by omega,by go_num,SN⟩
     case measure=>simp[intOf];omega
    ·have qy:j=row.length:=by omega
     rw[qy]at S;have S3:=S.congr λi _=>zt1 row i
     have HB:Hid (Below w.heap.size w wr):=⟨S3.os,S3.tape,S3.output,S3.size,λq hq=>by
      by_cases e:q=g
      ·rw[e,VB.out];exact S3.row
      ·exact S3.rest q e hq⟩
     clear qy S S3;go_wp2;go_ret;exact⟨ew HR.out.symm,HB.out⟩
end Go.Proofs.YtfajjdgkiilhfaaGreatDoor
