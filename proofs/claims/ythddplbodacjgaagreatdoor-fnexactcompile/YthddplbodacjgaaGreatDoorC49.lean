import Derived.Test.YthddplbodacjgaaGreatDoorC48
import Derived.Deep.RegionHeld3
import Derived.Deep.DrawnRows
import Derived.Deep.Cut
namespace Go.Proofs.YthddplbodacjgaaGreatDoor
set_option maxHeartbeats 4000000
set_option maxRecDepth 100000
open Go.RowKit
def zcs(k:Int)(n:Nat):List Int:=(List.range n).map fun i:Nat=>k+(i:Int)
theorem zb7(k:Int)(n:Nat):(zcs k n).length=n:=by simp[zcs]
theorem znb(k:Int)(n:Nat):zcs k (n+1)=zcs k n++[k+(n:Int)]:=by simp[zcs,List.range_succ]
def mixL(k:Int)(xs:List Int)(j:Nat):List Int:=zcs k j++xs.drop j
theorem zqZ(k:Int)(xs:List Int)(j:Nat)(h:j<=xs.length):(mixL k xs j).length=xs.length:=by simp[mixL,zb7];omega
theorem zq0(k:Int)(xs:List Int)(j:Nat)(h:j<xs.length):((mixL k xs j).map intV).set j (.int .i64 (k+(j:Int)))=(mixL k xs (j+1)).map intV:=by
 unfold mixL;rw[ztG h,znb];simp only[zt9,zub];rw[List.set_append_right _ _ (by simp[zb7])];simp[zb7,intV]
theorem zd2{B:Nat}(v:Value)(xs:List Int)(k:Int)(w:World)(h:Owns B w v xs)(h0:0<=k)(h1:k<=100000000)(hl:xs.length<=1048576):
  Calls Tryz.prog 30 #[v,.int .i64 k] w fun e w'=>e=.returned (.int .i64 (k+xs.length))/\Owns B w' v (zcs k xs.length)/\(∀b,v.ownBlock≠some b->w'.heap[b]?=w.heap[b]?)/\w.heap.size<=w'.heap.size/\Below B w w':=by
 rcases h.2 with ⟨rfl,hn0⟩|⟨g,cap,cur,rfl,hg,r⟩
 ·have:xs=[]:=ztK hn0;subst this
  go_enter Tryz.func30,Tryz.ntmps30
  go_wp2
  go_loop [1,5] (fun kk i=>kk=.int .i64 k/\i=.int .i64 0) (fun _ _=>0)
  case atStart=>exact⟨rfl,rfl⟩
  case round=>
   obtain⟨rfl,rfl⟩:=hrel;go_wp2;go_ret;exact⟨zbl (by simp),h,fun _ _=>rfl,zuz _,Below.refl _ _⟩
 ·clear r;have hF:Owns B w (.slice (some ⟨g,0,none⟩) xs.length cap) (mixL k xs 0):=by simpa [mixL,zcs] using h
  go_enter Tryz.func30,Tryz.ntmps30
  go_wp2
  go_loopw [1,5] (fun kk i wr=>∃j:Nat,j<=xs.length/\i=.int .i64 j/\kk=.int .i64 (k+j)/\wr.ownsRow B 3 1 (.slice (some ⟨g,0,none⟩) xs.length cap) xs.length ((mixL k xs j).map intV)/\Hid (∀b,b≠g->wr.heap[b]?=w.heap[b]?)/\w.heap.size<=wr.heap.size/\Below B w wr)
   (fun _ i _=>xs.length-(intOf i).toNat)
  case atStart=>exact⟨0,zuL _,rfl,by simp,by have:=hF;unfold Owns at this;rw[zqZ k xs 0 (zuL _)] at this;exact this,fun _ _=>rfl,zuz _,Below.refl _ _⟩
  case round=>
   obtain⟨j,hj,rfl,rfl,hown,HB,hsz,hb⟩:=hrel
   by_cases hlt:j<xs.length
   ·obtain⟨u0,d0⟩:=zbN hown (j:=j) (by omega);have f0:=hown.frozenAt j;have HX:Hid _:=zq0 k xs j hlt;go_wp2
    go_roundw
    case rel=>exact⟨j+1,by omega,by go_num,by go_num,by have:=(hown.stored j (.int .i64 (k+(j:Int)))).1;rw[HX.out] at this;exact this,fun b hbg=>by rw[zuS _ _ _ _ (by simpa using hbg)];exact HB.out b hbg,by simpa [World.setCell] using hsz,hb.setCell (by exact hg) _⟩
    case measure=>simp[intOf];omega
   ·have hjj:j=xs.length:=by omega
    have HO:Hid (wr.ownsRow B 3 1 (.slice (some ⟨g,0,none⟩) xs.length cap) xs.length ((zcs k xs.length).map intV)):=by
     have e:mixL k xs j=zcs k xs.length:=by rw[hjj];simp[mixL]
     rw[<-e];exact hown
    have HK:Hid (k+(j:Int)=k+xs.length):=by show _=_;rw[hjj]
    clear hjj;go_wp2;go_ret;refine⟨zbl HK.out,?_,fun b hbn=>HB.out b (fun e=>hbn (by rw[e];rfl)),hsz,hb⟩;unfold Owns;rw[zb7];exact HO.out
theorem zoP(k:Int)(n j:Nat)(h:j<n):(zcs k n).getD j 0=k+(j:Int):=by
 unfold zcs;rw[zct _ _ _ _ h]
theorem zdZ{lo:Nat}(v:Value)(n:Nat)(k:Int)(w:World)(hs:zbx lo w v (zcs k n))(h0:0<=k)(h1:k<=100000000)(hl:n<=1048576):
  Calls Tryz.prog 31 #[v,.int .i64 k] w fun e w'=>e=.returned (.int .i64 (k+n))/\w'=w:=by
 obtain⟨ao,cap,rfl,hm,hc⟩:=hs;rw[zb7] at *
 go_enter Tryz.func31,Tryz.ntmps31
 go_wp2
 go_loop [1,5] (fun kk i=>∃j:Nat,j<=n/\i=.int .i64 j/\kk=.int .i64 (k+j)) (fun _ i=>n-(intOf i).toNat)
 case atStart=>exact⟨0,zuL _,rfl,by simp⟩
 case round=>
  obtain⟨j,hj,rfl,rfl⟩:=hrel
  by_cases hlt:j<n
  ·obtain⟨b,o,x,rfl,Hn,hbl,c0⟩:=hc.elem (Below.refl _ _) (k:=j) (by rw[zb7];exact hlt);have hx:x=k+(j:Int):=Hn.out.symm.trans (zoP k n j hlt);subst hx;have hne:((k+(j:Int)) != (k+(j:Int)))=false:=by simp
   go_wp2
   go_round
   case rel=>exact⟨j+1,by omega,by go_num,by go_num⟩
   case measure=>simp[intOf];omega
  ·have HK:Hid (k+(j:Int)=k+n):=by show _=_;omega
   go_wp2;go_ret;exact⟨zbl HK.out,rfl⟩
section
variable {gt n:Nat}{W W':World}{v:Nat -> Value}{l:Nat -> List Int}
theorem Fam.lowerD{gt':Nat}(h:Fam gt n W v l)(hg:gt'<=gt):Fam gt' n W v l:=
 ⟨fun i hi=>⟨(h.own i hi).1,(h.own i hi).2.elim .inl fun⟨g,cap,cur,hv,hb,r⟩=>.inr ⟨g,cap,cur,hv,by omega,r⟩⟩,h.apart⟩
def slD(a:Nat->Option Addr)(l:Nat->List Int)(p:Nat->Nat):Nat->Value:=fun i=>.slice (a i) (l i).length (p i)
def zqt(width:Int)(l:Nat->List Int):DfaD:=⟨l 0,width,l 1,l 2,l 3⟩
theorem Fam.dfa(width:Int)(h:Fam gt 4 W v l)(hl:∀i,i<4->(l i).length<=1048576):zbU (gt+1) W (v 0) (v 1) (v 2) (v 3) (zqt width l):=by
 have o:∀i,i<4->zbx (gt+1) W (v i) (l i):=fun i hi=>(h.own i hi).at (by have:=hl i hi;omega)
 exact⟨o 0 (by omega),o 1 (by omega),o 2 (by omega),o 3 (by omega)⟩
theorem Fam.markD(h:Fam gt n W v l){i:Nat}(hi:i<n){l':List Int}(own:Owns (gt+1) W' (v i) l')(oth:∀b,(v i).ownBlock≠some b->W'.heap[b]?=W.heap[b]?):Fam gt n W' v (updL l i l'):=by
 refine⟨fun j hj=>?_,h.apart⟩
 by_cases e:j=i
 ·subst e;rw[zar];exact own
 ·rw[zaf _ _ e];exact zer (h.own j hj) fun b hb=>oth b (fun hc=>h.apart j i hj hi e b hb hc)
structure zlQ(w:World)(gt:Nat)(width:Int)(v:Nat->Value)(W:World)(l:Nat->List Int):Prop where
 fam:Fam gt 4 W v l
 box:W.heap[w.heap.size]?=some (.cells (rowD width v) 26 (0,0))
 below:Below (gt+1) w W
 low:∀i,i<4->∀b,(v i).ownBlock=some b->b<w.heap.size
 rest:∀b,b<w.heap.size->(∀i,i<4->(v i).ownBlock≠some b)->W.heap[b]?=w.heap[b]?
theorem zlQ.step{w:World}{width:Int}(h:zlQ w gt width v W l){i:Nat}(hi:i<4){l':List Int}(own:Owns (gt+1) W' (v i) l')(oth:∀b,(v i).ownBlock≠some b->W'.heap[b]?=W.heap[b]?)(hb:Below (gt+1) W W'):zlQ w gt width v W' (updL l i l'):=
 ⟨h.fam.markD hi own oth,(oth _ (fun hc=>by have:=h.low i hi _ hc;omega)).trans h.box,h.below.trans hb,h.low,fun b hlt hn=>(oth b (hn i hi)).trans (h.rest b hlt hn)⟩
theorem zk5(width:Int)(v:Nat->Value)(l:Nat->List Int)(k:Int)(w:World)(hF:Fam gt 4 w v l)(hgt:gt<w.heap.size)(hl:∀i,i<4->(l i).length<=1048576)(h0:0<=k)(h1:k<=1000000):
  Calls Tryz.prog 11 #[.agg (rowD width v),.int .i64 k] w fun e w'=>e=.returned (.int .i64 (k+(l 0).length+(l 1).length+(l 2).length+(l 3).length))/\Below (gt+1) w w'/\(∀b,b<w.heap.size->(∀i,i<4->(v i).ownBlock≠some b)->w'.heap[b]?=w.heap[b]?)/\
   Fam gt 4 w' v (updL (updL (updL (updL (l) 0 (zcs (k) (l 0).length)) 1 (zcs (k+(l 0).length) (l 1).length)) 2 (zcs (k+(l 0).length+(l 1).length) (l 2).length)) 3 (zcs (k+(l 0).length+(l 1).length+(l 2).length) (l 3).length)):=by
 have l0:=hl 0 (by omega);have l1:=hl 1 (by omega);have l2:=hl 2 (by omega);have l3:=hl 3 (by omega);have M:zlQ w gt width v (w.alloc (.cells (rowD width v) 26)) l:=
  ⟨hF.below ((Below.refl _ _).alloc (zuz _) _),zuR _ _,(Below.refl _ _).alloc (by omega) _,fun i hi b hb=>(zaR (hF.own i hi) hb).2,fun b hlt _=>Below.heap_alloc _ _ _ hlt⟩
 unfold rowD
 go_enter Tryz.func11,Tryz.ntmps11
 go_wp2_with fail
 refine(zd2 (B:=gt+1) (v 0) (l 0) (k) _ (M.fam.own 0 (by omega)) (by omega) (by omega) l0).mono ?_;rintro e w1 ⟨rfl,o0,q0,z0,b0⟩;replace M:=M.step (i:=0) (by omega) o0 q0 b0;clear o0 q0 z0 b0;obtain⟨x0,x1,x2,x3,x4⟩:=zbT M.box
 go_wp2_with fail
 refine(zd2 (B:=gt+1) (v 1) (l 1) (k+(l 0).length) _ (M.fam.own 1 (by omega)) (by omega) (by omega) l1).mono ?_;rintro e w2 ⟨rfl,o1,q1,z1,b1⟩;replace M:=M.step (i:=1) (by omega) o1 q1 b1;clear o1 q1 z1 b1;obtain⟨x0,x1,x2,x3,x4⟩:=zbT M.box
 go_wp2_with fail
 refine(zd2 (B:=gt+1) (v 2) (l 2) (k+(l 0).length+(l 1).length) _ (M.fam.own 2 (by omega)) (by omega) (by omega) l2).mono ?_;rintro e w3 ⟨rfl,o2,q2,z2,b2⟩;replace M:=M.step (i:=2) (by omega) o2 q2 b2;clear o2 q2 z2 b2;obtain⟨x0,x1,x2,x3,x4⟩:=zbT M.box
 go_wp2_with fail
 refine(zd2 (B:=gt+1) (v 3) (l 3) (k+(l 0).length+(l 1).length+(l 2).length) _ (M.fam.own 3 (by omega)) (by omega) (by omega) l3).mono ?_;rintro e w4 ⟨rfl,o3,q3,z3,b3⟩;replace M:=M.step (i:=3) (by omega) o3 q3 b3;clear o3 q3 z3 b3;obtain⟨x0,x1,x2,x3,x4⟩:=zbT M.box;go_wp2;go_ret;exact⟨rfl,M.below,M.rest,M.fam⟩
theorem zm4{lo:Nat}(width:Int)(v:Nat->Value)(n0 n1 n2 n3:Nat)(k:Int)(w:World)(s0:zbx lo w (v 0) (zcs (k) n0))(s1:zbx lo w (v 1) (zcs (k+n0) n1))(s2:zbx lo w (v 2) (zcs (k+n0+n1) n2))(s3:zbx lo w (v 3) (zcs (k+n0+n1+n2) n3))(l0:n0<=1048576)(l1:n1<=1048576)(l2:n2<=1048576)(l3:n3<=1048576)(h0:0<=k)(h1:k<=1000000):
  Calls Tryz.prog 12 #[.agg (rowD width v),.int .i64 k] w fun e w'=>e=.returned (.int .i64 (k+n0+n1+n2+n3))/\Below w.heap.size w w':=by
 have hb:Below w.heap.size w (w.alloc (.cells (rowD width v) 26)):=(Below.refl _ _).alloc (zuz _) _;have hrow:(w.alloc (.cells (rowD width v) 26)).heap[w.heap.size]?=some (.cells (rowD width v) 26 (0,0)):=zuR _ _;unfold rowD at *
 go_enter Tryz.func12,Tryz.ntmps12
 go_wp2_with fail
 refine(zdZ (v 0) n0 (k) _ (s0.below hb) (by omega) (by omega) l0).mono ?_;rintro e w' ⟨rfl,rfl⟩
 go_wp2_with fail
 refine(zdZ (v 1) n1 (k+n0) _ (s1.below hb) (by omega) (by omega) l1).mono ?_;rintro e w' ⟨rfl,rfl⟩
 go_wp2_with fail
 refine(zdZ (v 2) n2 (k+n0+n1) _ (s2.below hb) (by omega) (by omega) l2).mono ?_;rintro e w' ⟨rfl,rfl⟩
 go_wp2_with fail
 refine(zdZ (v 3) n3 (k+n0+n1+n2) _ (s3.below hb) (by omega) (by omega) l3).mono ?_;rintro e w' ⟨rfl,rfl⟩;go_wp2;go_ret;exact⟨rfl,hb⟩
end
section
variable {w W W':World}{l:Nat -> List Int}{lo T0 L H G:Nat}{A0 GA:Array Value}{v0 v1:Nat -> Value}{rs:List za0}{xv:Value}
attribute [local go_sem ↓] Go.wp_at_zero Go.wp_at_succ
theorem zcA.form{w':World}{code width:Int}{e:Ending}(h:zcA w code width l e w'):∃(a:Nat->Option Addr) (p:Nat->Nat),e=.returned (.tuple #[.agg (rowD width (slD a l p)),.int .i64 code])/\Fam w.heap.size 4 w' (slD a l p) l/\Below w.heap.size w w':=by
 obtain⟨gt,v,rfl,h1,h2',h3⟩:=h;have h2:=h2'.lowerD h1;obtain⟨F,hF⟩:=Go.Deep.choose_lt (α:=Option Addr×Nat) (p:=fun i r=>v i=.slice r.1 (l i).length r.2) (fun i (hi:i<4)=>zaj (h2.own i hi));have e:∀i,i<4->slD (fun i=>(F i).1) l (fun i=>(F i).2) i=v i:=fun i hi=>(hF i hi).symm
 refine⟨fun i=>(F i).1,fun i=>(F i).2,?_,⟨fun i hi=>by rw[e i hi];exact h2.own i hi,fun i j hi hj hne b hb=>by rw[e i hi] at hb;rw[e j hj];exact h2.apart i j hi hj hne b hb⟩,h3⟩;unfold rowD;rw[e 0 (by omega),e 1 (by omega),e 2 (by omega),e 3 (by omega)]
theorem RulW.keep{T T' lo':Nat}{v:Value}{bs:List za0}(h:RulW lo T w v bs)(hl:lo'<=lo)(hT:T<=T')(hk:∀(b:Nat) (o:Obj),lo<=b->b<T->w.heap[b]?=some o->W.heap[b]?=some o):RulW lo' T' W v bs:=by
 obtain⟨ao,cap,rfl,h⟩:=h;refine⟨ao,cap,rfl,fun h0=>?_⟩;obtain⟨b,o,cs,rfl,h1,h2,h3,h4,h5⟩:=h h0;refine⟨b,o,cs,rfl,by omega,by omega,hk b _ h1 h2 h3,h4,fun i hi=>?_⟩;obtain⟨g1,sv,g2,g3⟩:=h5 i hi;exact⟨g1,sv,g2,g3.keep hl hT hk⟩
structure QL(w:World)(T0:Nat)(A0:Array Value)(v0:Nat->Value)(l:Nat->List Int)(W:World):Prop where
 below:Below w.heap.size w W
 tab:W.heap[T0]?=some (.cells (A0) 26 (0,0))
 fam:Fam w.heap.size 4 W v0 l
 low:∀i,i<4->∀b,(v0 i).ownBlock=some b->b<T0
 over:w.heap.size<=T0
theorem QL.keep(h:QL w T0 A0 v0 l W){B:Nat}(hB:T0<B)(hb:Below B W W'):QL w T0 A0 v0 l W':=by
 have ho:=h.over;refine⟨h.below.trans (hb.mono (by omega)),(hb.block _ hB).trans h.tab,h.fam.keepO fun i hi b hbb=>hb.block b (by have:=h.low i hi b hbb;omega),h.low,ho⟩
theorem QL.grow(h:QL w T0 A0 v0 l W)(hb:Below W.heap.size W W'):QL w T0 A0 v0 l W':=h.keep (zae h.tab) hb
structure QX(w:World)(T0:Nat)(A0:Array Value)(v0:Nat->Value)(l:Nat->List Int)(rs:List za0)(xv:Value)(L H G:Nat)(GA:Array Value)(v1:Nat->Value)(W:World):Prop where
 pl:QL w T0 A0 v0 l W
 xat:zaW L W xv rs
 xwr:RulW L H W xv rs
 grow:W.heap[G]?=some (.cells GA 26 (0,0))
 fam:Fam H 4 W v1 l
 low:∀i,i<4->∀b,(v1 i).ownBlock=some b->b<G
 ks:T0<L/\L<=H/\H<=G
theorem QX.more(h:QX w T0 A0 v0 l rs xv L H G GA v1 W)(hb:Below W.heap.size W W'):QX w T0 A0 v0 l rs xv L H G GA v1 W':=
 ⟨h.pl.grow hb,h.xat.below hb,h.xwr.keep (zuz _) (zuz _) fun b _ _ h2 e=>(hb.block b (by have:=zae h.grow;have:=h.ks;omega)).trans e,zab h.grow hb,h.fam.below hb,h.low,h.ks⟩
structure QY(w:World)(T0:Nat)(A0:Array Value)(v0:Nat->Value)(l:Nat->List Int)(H G:Nat)(GA:Array Value)(v1:Nat->Value)(W:World):Prop where
 pl:QL w T0 A0 v0 l W
 grow:W.heap[G]?=some (.cells GA 26 (0,0))
 fam:Fam H 4 W v1 l
 low:∀i,i<4->∀b,(v1 i).ownBlock=some b->b<G
 ks:T0<H/\H<=G
theorem QY.more(h:QY w T0 A0 v0 l H G GA v1 W)(hb:Below W.heap.size W W'):QY w T0 A0 v0 l H G GA v1 W':=
 ⟨h.pl.grow hb,zab h.grow hb,h.fam.below hb,h.low,h.ks⟩
theorem QX.marked(h:QX w T0 A0 v0 l rs xv L H G GA v1 W)(hm:MkR L H W W'):QY w T0 A0 v0 l H G GA v1 W':=by
 obtain⟨q1,q2,q3⟩:=h.ks;have hg:=zae h.grow;have hb:Below L W W':=⟨hm.os,hm.tape,hm.output,hm.size,fun b hb=>hm.out b (by omega) (.inl hb)⟩;refine⟨h.pl.keep q1 hb,(hm.out G hg (.inr q3)).trans h.grow,h.fam.keepO fun i hi b hbb=>?_,h.low,⟨by omega,q3⟩⟩;have z:=zaR (h.fam.own i hi) hbb;exact hm.out b z.2 (.inr (by omega))
theorem ziB(v:Value)(rs:List za0)(most code width:Int)(l:Nat->List Int)(w:World)(hs:zaW lo w v rs)(hsz:¬zcv rs 1048576<0)(hl:∀i,i<4->(l i).length<=1048576)(hBr:Hid (zbj w))(h0:0<w.heap.size)
  (hspec:∀(v:Value) (w:World),zaW 0 w v rs->Calls Tryz.prog 5 #[v,.int .i64 most] w (zcA w code width l))
  (himpl:∀(v:Value) (w:World),zaW 0 w v rs->Hid (zbj w)->Calls Tryz.prog 7 #[v,.int .i64 most] w (zcA w code width l)):
  Calls Tryz.prog 3 #[v,.int .i64 most] w fun e w'=>e=.returned (.bool true)/\Below w.heap.size w w':=by
 have hsm:zdB rs:=zib (by omega);have hct:=zr3 (rs:=rs) (by omega);have hBx:∀W:World,Below w.heap.size w W->Hid (zbj W):=fun W hb i hi=>(hb.cell (by exact h0)).trans (hBr.out i hi)
 obtain⟨ao,cap,rfl,hm,hc⟩:=id hs;have HS:Hid (zaW lo w (.slice ao rs.length cap) rs):=hs;have HSM:Hid (zdB rs):=hsm;clear hs hc hm hsm
 go_enter Tryz.func3,Tryz.ntmps3
 go_wp2_with fail
 refine(zic _ rs 1048576 _ HS.out (by omega) (by omega)).mono ?_;rintro e w1 ⟨rfl,c1⟩
 go_wp2_with fail
 refine(zeF _ rs _ ((show zaW lo w (.slice ao rs.length cap) rs from HS.out).below c1) HSM.out).mono ?_;rintro e w2 ⟨v2,rfl,x2,_,b2⟩;have c2:=zaa c1 c1.size b2;clear c1 b2
 go_wp2_with fail
 refine(hspec _ _ (x2.mono (zuL _))).mono ?_;intro e w3 hA;obtain⟨a0,p0,rfl,F0,b3⟩:=hA.form;clear hA x2;have c3:=zaa c2 c2.size b3;have hna:Below w3.heap.size w3 (w3.alloc (.cells #[.slice (a0 0) (l 0).length (p0 0),.int .i64 width,.slice (a0 1) (l 1).length (p0 1),.slice (a0 2) (l 2).length (p0 2),.slice (a0 3) (l 3).length (p0 3)] 26)):=(Below.refl _ _).alloc (zuz _) _;have L3:QL w w3.heap.size #[.slice (a0 0) (l 0).length (p0 0),.int .i64 width,.slice (a0 1) (l 1).length (p0 1),.slice (a0 2) (l 2).length (p0 2),.slice (a0 3) (l 3).length (p0 3)] (slD a0 l p0) l (w3.alloc (.cells #[.slice (a0 0) (l 0).length (p0 0),.int .i64 width,.slice (a0 1) (l 1).length (p0 1),.slice (a0 2) (l 2).length (p0 2),.slice (a0 3) (l 3).length (p0 3)] 26)):=
  ⟨zaa c3 c3.size hna,zuR _ _,(F0.below hna).lowerD c2.size,fun i hi b hb=>(zaR (F0.own i hi) hb).2,c3.size⟩
 unfold rowD slD;clear F0 c2 b3 c3 hna
 go_upto_region 6 with fail
 generalize hV3:w3.alloc (.cells #[.slice (a0 0) (l 0).length (p0 0),.int .i64 width,.slice (a0 1) (l 1).length (p0 1),.slice (a0 2) (l 2).length (p0 2),.slice (a0 3) (l 3).length (p0 3)] 26)=V3 at *;have hz3:V3.heap.size=w3.heap.size+1:=by rw[<-hV3];exact World.size_alloc _ _
 have HZ3:Hid (V3.heap.size=w3.heap.size+1):=hz3;clear hV3 hz3;generalize w3.heap.size=T0 at *
 go_wp2_with fail
 refine(zeF _ rs _ ((show zaW lo w (.slice ao rs.length cap) rs from HS.out).below L3.below) HSM.out).mono ?_;rintro e w4 ⟨v4,rfl,x4,y4,b4⟩;have L4:=L3.grow b4;have hz4:=b4.size;rw[HZ3.out] at x4 y4 hz4;clear L3 b4 HZ3;obtain⟨xo,xc,rfl,_,_⟩:=id x4
 go_wp2_with fail
 refine(himpl _ _ (x4.mono (zuL _)) (hBx _ L4.below)).mono ?_;intro e w5 hA;obtain⟨a1,p1,rfl,F1,b5⟩:=hA.form;clear hA;have hnb:Below w5.heap.size w5 (w5.alloc (.cells #[.slice (a1 0) (l 0).length (p1 0),.int .i64 width,.slice (a1 1) (l 1).length (p1 1),.slice (a1 2) (l 2).length (p1 2),.slice (a1 3) (l 3).length (p1 3)] 26)):=(Below.refl _ _).alloc (zuz _) _;have b56:=zaa b5 b5.size hnb;have P6:QX w T0 #[.slice (a0 0) (l 0).length (p0 0),.int .i64 width,.slice (a0 1) (l 1).length (p0 1),.slice (a0 2) (l 2).length (p0 2),.slice (a0 3) (l 3).length (p0 3)] (slD a0 l p0) l rs (.slice xo rs.length xc) (T0+1) w4.heap.size w5.heap.size #[.slice (a1 0) (l 0).length (p1 0),.int .i64 width,.slice (a1 1) (l 1).length (p1 1),.slice (a1 2) (l 2).length (p1 2),.slice (a1 3) (l 3).length (p1 3)] (slD a1 l p1) (w5.alloc (.cells #[.slice (a1 0) (l 0).length (p1 0),.int .i64 width,.slice (a1 1) (l 1).length (p1 1),.slice (a1 2) (l 2).length (p1 2),.slice (a1 3) (l 3).length (p1 3)] 26)):=
  ⟨L4.grow b56,x4.below b56,y4.keep (zuz _) (zuz _) fun b _ _ h2 e=>(b56.block b h2).trans e,zuR _ _,F1.below hnb,fun i hi b hb=>(zaR (F1.own i hi) hb).2,by have:=b5.size;omega⟩
 clear b56 hnb F1 b5 L4 x4 y4;unfold rowD slD
 go_upto_region 8 with fail
 generalize w5.alloc (.cells #[.slice (a1 0) (l 0).length (p1 0),.int .i64 width,.slice (a1 1) (l 1).length (p1 1),.slice (a1 2) (l 2).length (p1 2),.slice (a1 3) (l 3).length (p1 3)] 26)=V5 at *;generalize w5.heap.size=G at *;generalize w4.heap.size=H at *;clear hz4;have hne:(code != code)=false:=by simp
 obtain⟨x0,x1,x2,x3,x4⟩:=zaq P6.pl.tab;obtain⟨y0,y1,y2,y3,y4⟩:=zaq P6.grow
 go_wp2_with fail
 refine(ziu _ _ _ _ _ _ _ _ (zqt width l) _ (P6.fam.dfa width hl) (P6.pl.fam.dfa width hl)).mono ?_;rintro e w6 ⟨rfl,b6⟩;have P7:=P6.more b6;clear x0 x1 x2 x3 x4 y0 y1 y2 y3 y4 P6 b6
 go_wp2_with fail
 refine(zeF _ rs _ ((show zaW lo w (.slice ao rs.length cap) rs from HS.out).below P7.pl.below) HSM.out).mono ?_;rintro e w8 ⟨v8,rfl,x8,_,b8⟩;have P8:=P7.more b8;clear P7 b8
 go_wp2_with fail
 refine(zmU _ _ rs _ P8.xat x8).mono ?_;rintro e w9 ⟨rfl,b9⟩;have P9:=P8.more b9;clear P8 b9 x8
 go_wp2_with fail
 refine(zjL _ rs 1 _ P9.xwr (by omega)).mono ?_;rintro e w10 ⟨rfl,k10⟩;have Y:=P9.marked k10;clear P9 k10;generalize cRs rs=cc at *;have hrr:¬((1+cc:Nat):Int)<0:=by omega
 obtain⟨x0,x1,x2,x3,x4⟩:=zaq Y.pl.tab;obtain⟨y0,y1,y2,y3,y4⟩:=zaq Y.grow
 go_wp2_with fail
 refine(ziu _ _ _ _ _ _ _ _ (zqt width l) _ (Y.fam.dfa width hl) (Y.pl.fam.dfa width hl)).mono ?_;rintro e w11 ⟨rfl,b11⟩;have Y2:=Y.more b11;clear x0 x1 x2 x3 x4 y0 y1 y2 y3 y4 Y b11;obtain⟨y0,y1,y2,y3,y4⟩:=zaq Y2.grow
 go_wp2_with fail
 refine(zk5 width (slD a1 l p1) l 1 _ Y2.fam (by have:=zae Y2.grow;have:=Y2.ks;omega) hl (by omega) (by omega)).mono ?_;rintro e w12 ⟨rfl,b12,rest12,F12⟩;have L12:=Y2.pl.keep (B:=H+1) (by have:=Y2.ks;omega) b12;have g12:=(rest12 G (zae Y2.grow) (fun i hi hc=>by have:=Y2.low i hi _ hc;omega)).trans Y2.grow;clear y0 y1 y2 y3 y4 Y2 b12 rest12;have k0:=hl 0 (by omega);have k1':=hl 1 (by omega);have k2':=hl 2 (by omega);have k3':=hl 3 (by omega);have s0:zbx _ w12 (slD a1 l p1 0) (zcs (1) (l 0).length):=(F12.own 0 (by omega)).at (by show (zcs _ _).length<=_;rw[zb7];omega);have s1:zbx _ w12 (slD a1 l p1 1) (zcs (1+(l 0).length) (l 1).length):=(F12.own 1 (by omega)).at (by show (zcs _ _).length<=_;rw[zb7];omega);have s2:zbx _ w12 (slD a1 l p1 2) (zcs (1+(l 0).length+(l 1).length) (l 2).length):=(F12.own 2 (by omega)).at (by show (zcs _ _).length<=_;rw[zb7];omega);have s3:zbx _ w12 (slD a1 l p1 3) (zcs (1+(l 0).length+(l 1).length+(l 2).length) (l 3).length):=(F12.own 3 (by omega)).at (by show (zcs _ _).length<=_;rw[zb7];omega);have hpos:0<=1+((l 0).length:Int)+((l 1).length:Int)+((l 2).length:Int)+((l 3).length:Int):=by omega
 have hH:=zm4 width (slD a1 l p1) (l 0).length (l 1).length (l 2).length (l 3).length 1 w12 s0 s1 s2 s3 k0 k1' k2' k3' (by omega) (by omega);clear s0 s1 s2 s3 F12;generalize 1+((l 0).length:Int)+((l 1).length:Int)+((l 2).length:Int)+((l 3).length:Int)=tt at *;have hne2:(tt != tt)=false:=by simp
 have hpos':¬tt<0:=by omega
 obtain⟨y0,y1,y2,y3,y4⟩:=zaq g12
 go_wp2_with fail
 refine hH.mono ?_;rintro e w13 ⟨rfl,b13⟩;have L13:=L12.grow b13;clear y0 y1 y2 y3 y4 hH g12 L12 b13
 go_wp2_with fail
 refine(zeF _ rs _ ((show zaW lo w (.slice ao rs.length cap) rs from HS.out).below L13.below) HSM.out).mono ?_;rintro e w14 ⟨v14,rfl,x14,_,b14⟩;have L14:=L13.grow b14;clear L13 b14
 go_wp2_with fail
 refine(himpl _ _ (x14.mono (zuL _)) (hBx _ L14.below)).mono ?_;intro e w15 hA;obtain⟨a2,p2,rfl,F2,b15⟩:=hA.form;clear hA x14;have hnd:Below w15.heap.size w15 (w15.alloc (.cells #[.slice (a2 0) (l 0).length (p2 0),.int .i64 width,.slice (a2 1) (l 1).length (p2 1),.slice (a2 2) (l 2).length (p2 2),.slice (a2 3) (l 3).length (p2 3)] 26)):=(Below.refl _ _).alloc (zuz _) _;have L15:=L14.grow (zaa b15 b15.size hnd);have F3:=F2.below hnd;have q15:(w15.alloc (.cells #[.slice (a2 0) (l 0).length (p2 0),.int .i64 width,.slice (a2 1) (l 1).length (p2 1),.slice (a2 2) (l 2).length (p2 2),.slice (a2 3) (l 3).length (p2 3)] 26)).heap[w15.heap.size]?=some (.cells #[.slice (a2 0) (l 0).length (p2 0),.int .i64 width,.slice (a2 1) (l 1).length (p2 1),.slice (a2 2) (l 2).length (p2 2),.slice (a2 3) (l 3).length (p2 3)] 26 (0,0)):=zuR _ _;unfold rowD slD;clear L14 b15 hnd F2
 go_upto_region 25 with fail
 generalize w15.alloc (.cells #[.slice (a2 0) (l 0).length (p2 0),.int .i64 width,.slice (a2 1) (l 1).length (p2 1),.slice (a2 2) (l 2).length (p2 2),.slice (a2 3) (l 3).length (p2 3)] 26)=V15 at *;generalize w15.heap.size=H2 at *;obtain⟨x0,x1,x2,x3,x4⟩:=zaq L15.tab;obtain⟨y0,y1,y2,y3,y4⟩:=zaq q15
 go_wp2_with fail
 refine(ziu _ _ _ _ _ _ _ _ (zqt width l) _ (F3.dfa width hl) (L15.fam.dfa width hl)).mono ?_;rintro e w16 ⟨rfl,b16⟩;go_wp2;go_ret;exact⟨rfl,(L15.grow b16).below⟩
end
variable {n:zau}
def psz:Pt->Nat
 |.set _=>1
 |.seq l r=>psz l+psz r+1
 |.alt l r=>psz l+psz r+1
 |.rep b _ _=>psz b+1
 |.grp b _=>psz b+1
def zfY:Pt->Prop
 |.set _=>True
 |.seq l r=>zfY l/\zfY r
 |.alt l r=>zfY l/\zfY r
 |.rep b mn mx=>zfY b/\zaY mn mx=true
 |.grp b _=>zfY b
theorem zkI{n:Int}(h:capW n<=2000):capW n=n:=by unfold capW at h ⊢;split at h<;>omega
theorem zjj{mn mx:Int}(h:zaY mn mx=true):∃k:Nat,za2 mn mx=(k:Int)/\1<=k/\∀c,cpc c mn mx<=k*(c+3)+1:=by
 unfold zaY at h;simp only[ztt,zuP] at h;obtain⟨⟨h1,h2⟩,h3⟩:=h;obtain⟨m,rfl⟩:∃m:Nat,mn=(m:Int):=⟨mn.toNat,by omega⟩
 by_cases hx:mx=-1
 ·subst hx;refine⟨m+1,by unfold za2;rw[zuV rfl];omega,by omega,fun c=>?_⟩;unfold cpc;rw[zuV rfl,ztB,zuv,Nat.one_mul];have:m*(c+1)<=m*(c+3):=Nat.mul_le_mul_left _ (by omega);omega
 ·obtain⟨x,rfl⟩:∃x:Nat,mx=(x:Int):=⟨mx.toNat,by omega⟩;obtain⟨y,rfl⟩:∃y,x=m+y:=⟨x-m,by omega⟩;have e1:(((m+y:Nat):Int)-(m:Int)).toNat=y:=by omega
  by_cases hz:m+y=0
  ·refine⟨1,by unfold za2;rw[zuU hx,zuV (by omega)];rfl,zuz _,fun c=>?_⟩;unfold cpc;rw[zuU hx,e1,ztB];obtain⟨rfl,rfl⟩:m=0/\y=0:=by omega
   omega
  ·refine⟨m+y,by unfold za2;rw[zuU hx,zuU (by omega)],by omega,fun c=>?_⟩;unfold cpc;rw[zuU hx,e1,ztB,zuv];have:m*(c+1)<=m*(c+3):=Nat.mul_le_mul_left _ (by omega);omega
theorem zcV:∀p:Pt,zfY p->1<=wPt p
 |.set _,_=>by simp[wPt]
 |.seq l r,h=>by have:=zcV l h.1;have:=zcV r h.2;unfold wPt capW;split<;>omega
 |.alt l r,h=>by have:=zcV l h.1;have:=zcV r h.2;unfold wPt capW;split<;>omega
 |.rep b mn mx,h=>by
  have:=zcV b h.1;obtain⟨k,e,hk,_⟩:=zjj h.2;unfold wPt;rw[e];have:1*(1:Int)<=wPt b*(k:Int):=ztA this (by omega) (by omega) (by omega);unfold capW;split<;>omega
 |.grp b _,h=>by have:=zcV b h;unfold wPt;exact this
theorem zrQ{a b x y:Nat}(hx:1<=x)(hy:1<=y):a*x+b*y+(x+y)<=(a+b+1)*(x+y):=by
 have h1:a*x<=a*(x+y):=Nat.mul_le_mul_left _ (by omega);have h2:b*y<=b*(x+y):=Nat.mul_le_mul_left _ (by omega);have:(a+b+1)*(x+y)=a*(x+y)+b*(x+y)+(x+y):=by rw[zuv,zuv,Nat.one_mul]
 omega
theorem zgu:∀p:Pt,zfY p->wPt p<=2000->∃W:Nat,wPt p=(W:Int)/\1<=W/\cnt p+3<=4*(psz p*W)
 |.set _,_,_=>⟨1,rfl,zuz _,by simp[cnt,psz]⟩
 |.seq l r,h,hw=>by
  have e:wPt (.seq l r)=wPt l+wPt r:=zkI hw;have p1:=zcV l h.1;have p2:=zcV r h.2;rw[e] at hw ⊢;obtain⟨x,ex,hx,cx⟩:=zgu l h.1 (by omega);obtain⟨y,ey,hy,cy⟩:=zgu r h.2 (by omega);have:=zrQ (a:=psz l) (b:=psz r) hx hy;exact⟨x+y,by omega,by omega,by simp only[cnt,psz];omega⟩
 |.alt l r,h,hw=>by
  have e:wPt (.alt l r)=wPt l+wPt r:=zkI hw;have p1:=zcV l h.1;have p2:=zcV r h.2;rw[e] at hw ⊢;obtain⟨x,ex,hx,cx⟩:=zgu l h.1 (by omega);obtain⟨y,ey,hy,cy⟩:=zgu r h.2 (by omega);have:=zrQ (a:=psz l) (b:=psz r) hx hy;exact⟨x+y,by omega,by omega,by simp only[cnt,psz];omega⟩
 |.rep b mn mx,h,hw=>by
  have e:wPt (.rep b mn mx)=wPt b*za2 mn mx:=zkI hw;obtain⟨k,ek,hk,hc⟩:=zjj h.2;have p1:=zcV b h.1;rw[e,ek] at hw ⊢;have h1:wPt b*1<=wPt b*(k:Int):=Int.mul_le_mul_of_nonneg_left (by omega) (by omega);obtain⟨x,ex,hx,cx⟩:=zgu b h.1 (by omega);refine⟨x*k,by rw[ex,Int.natCast_mul],Nat.mul_pos hx hk,?_⟩;have h2:=hc (cnt b);have h3:k*(cnt b+3)<=k*(4*(psz b*x)):=Nat.mul_le_mul_left _ cx;have h4:k*(4*(psz b*x))=4*(psz b*(x*k)):=by
   rw[Nat.mul_comm k,Nat.mul_assoc,Nat.mul_assoc]
  have h5:1<=x*k:=Nat.mul_pos hx hk;simp only[cnt,psz,zuv,Nat.one_mul];omega
 |.grp b g,h,hw=>by
  have e:wPt (.grp b g)=wPt b:=rfl;rw[e] at hw ⊢;obtain⟨x,ex,hx,cx⟩:=zgu b h hw;exact⟨x,ex,hx,by simp only[cnt,psz,zuv];omega⟩
def pszs(l:List Pt):Nat:=(l.map psz).sum
theorem zmt(a b:List Pt):pszs (a++b)=pszs a+pszs b:=by simp[pszs,List.map_append,List.sum_append]
theorem zh8(l:List Pt)(k:Nat):pszs l=pszs (l.take k)+pszs (l.drop k):=by rw[<-zmt,List.take_append_drop]
theorem zmK(h:zaK n=true):(n.kind=1/\zaI n.kind=0)\/((n.kind=2\/n.kind=3)/\zaI n.kind=2)\/(n.kind=4/\zaI n.kind=1/\zaY n.min n.max=true)\/(n.kind=5/\zaI n.kind=1):=by
 unfold zaK at h;split at h
 ·rename_i e;rw[e];exact .inl ⟨rfl,rfl⟩
 ·split at h
  ·rename_i e;exact .inr (.inl ⟨e,by unfold zaI;rw[zuV e]⟩)
  ·split at h
   ·rename_i e
    simp only[ztt] at h;refine .inr (.inr (.inl ⟨e,by rw[e];rfl,h.1.2⟩))
   ·split at h
    ·rename_i e;exact .inr (.inr (.inr ⟨e,by rw[e];rfl⟩))
    ·cases h
theorem zmB{ops:List Pt}(h:zaK n=true)(hl:ops.length=zaI n.kind)(hf:∀p,p∈ops->zfY p):zfY (zbH n ops)/\psz (zbH n ops)<=pszs ops+1/\wPt (zbH n ops)=zcf n (ops.map wPt):=by
 rcases zmK h with ⟨e,a⟩|⟨e,a⟩|⟨e,a,hb⟩|⟨e,a⟩
 ·have:zbH n ops=.set (hasF n.set):=by unfold zbH;rw[zuV e]
  rw[this];exact⟨trivial,by simp[psz],by unfold zcf;simp[e,wPt]⟩
 ·rw[a] at hl
  match ops,hl with
  |[x,y],_=>
  rcases e with e|e
  ·have:zbH n [x,y]=.seq x y:=by unfold zbH;rw[zuU (by omega),zuV e];rfl
   rw[this];exact⟨⟨hf x (by simp),hf y (by simp)⟩,by simp[psz,pszs];try omega,by unfold zcf;simp[e,wPt]⟩
  ·have:zbH n [x,y]=.alt x y:=by unfold zbH;rw[zuU (by omega),zuU (by omega),zuV e];rfl
   rw[this];exact⟨⟨hf x (by simp),hf y (by simp)⟩,by simp[psz,pszs];try omega,by unfold zcf;simp[e,wPt]⟩
 ·rw[a] at hl
  match ops,hl with
  |[x],_=>
  have:zbH n [x]=.rep x n.min n.max:=by unfold zbH;rw[zuU (by omega),zuU (by omega),zuU (by omega),zuV e];rfl
  rw[this];exact⟨⟨hf x (by simp),hb⟩,by simp[psz,pszs],by unfold zcf;simp[e,wPt]⟩
 ·rw[a] at hl
  match ops,hl with
  |[x],_=>
  have:zbH n [x]=.grp x n.group:=by unfold zbH;rw[zuU (by omega),zuU (by omega),zuU (by omega),zuU (by omega)];rfl
  rw[this];exact⟨hf x (by simp),by simp[psz,pszs],by unfold zcf;simp[e,wPt]⟩
theorem zrN{ns:List zau}(hk:∀i,i<ns.length->zaI (zaQ ns i)<=(stk ns i).length)(hb:ns.all zaK=true):∀i,i<=ns.length->(∀p,p∈tstk ns i->zfY p)/\pszs (tstk ns i)<=i/\(tstk ns i).map wPt=wstk ns i
 |0,_=>⟨fun p h=>by simp[tstk] at h,by simp[tstk,pszs],by simp[tstk,wstk]⟩
 |i+1,hi=>by
  obtain⟨h1,h2,h3⟩:=zrN hk hb i (by omega);have hle:zaI (ns.getD i .zero).kind<=(tstk ns i).length:=by rw[zi1];exact hk i (by omega)
  have hn:=ziI hb (k:=i) (by omega);have hd:=zmB (ops:=(tstk ns i).drop ((tstk ns i).length-zaI (ns.getD i .zero).kind)) hn (by rw[List.length_drop];omega) (fun p hp=>h1 p (List.mem_of_mem_drop hp));have hsp:=zh8 (tstk ns i) ((tstk ns i).length-zaI (ns.getD i .zero).kind);refine⟨fun p hp=>?_,?_,?_⟩
  ·rw[tstk,zlM] at hp;rcases zuc.1 hp with hp|hp
   ·exact h1 p (List.mem_of_mem_take hp)
   ·rw[zui.1 hp];exact hd.1
  ·rw[tstk,zlM,zmt];have:pszs [zbH (ns.getD i .zero) ((tstk ns i).drop ((tstk ns i).length-zaI (ns.getD i .zero).kind))]=psz (zbH (ns.getD i .zero) ((tstk ns i).drop ((tstk ns i).length-zaI (ns.getD i .zero).kind))):=by simp[pszs]
   have:=hd.2.1;omega
  ·rw[tstk,zlM,wstk,zgc,zt9,List.map_take,h3,<-h3,zt3];simp only[zub,List.map_nil,hd.2.2,List.map_drop]
theorem ztd{b:zai}(hk:zcM b.nodes=true)(hb:b.nodes.all zaK=true):zfY (zd6 b)/\psz (zd6 b)<=b.nodes.length/\wPt (zd6 b)=zhF b:=by
 have h0:=zmb hk;have ha:=zd0 hk;obtain⟨h1,h2,h3⟩:=zrN ha hb (b.nodes.length-1) (by omega);have hle:zaI (b.nodes.getD (b.nodes.length-1) .zero).kind<=(tstk b.nodes (b.nodes.length-1)).length:=by rw[zi1];exact ha _ (by omega)
 have hn:=ziI hb (k:=b.nodes.length-1) (by omega);have hd:=zmB (ops:=(tstk b.nodes (b.nodes.length-1)).drop ((tstk b.nodes (b.nodes.length-1)).length-zaI (b.nodes.getD (b.nodes.length-1) .zero).kind)) hn (by rw[List.length_drop];omega) (fun p hp=>h1 p (List.mem_of_mem_drop hp));have hsp:=zh8 (tstk b.nodes (b.nodes.length-1)) ((tstk b.nodes (b.nodes.length-1)).length-zaI (b.nodes.getD (b.nodes.length-1) .zero).kind);have hq:=hd.2.1;refine⟨hd.1,?_,?_⟩
 ·show psz (zbH _ _)<=_;exact zuA hq (by omega)
 ·show wPt (zbH _ _)=zcf _ _;rw[<-h3,<-List.map_drop,zt3];exact hd.2.2
theorem zn7:∀(bs:List zai),zku bs->zcd bs<=2000->cntB bs<=8000*zaJ bs/\0<=zcd bs
 |[],_,_=>by simp[cntB,zcd]
 |b::bs,h,hw=>by
  have hb:=h 0 (by simp);have ht:zku bs:=fun i hi=>by have:=h (i+1) (by simpa using hi);simpa using this
  simp only[List.getD_cons_zero] at hb;obtain⟨f,s,e⟩:=ztd hb.1 hb.2;have h1:=zcV _ f;have h2:=zfc ht bs.length (zuz _);rw[zuq] at h2;simp only[zcd] at hw ⊢;obtain⟨ih,_⟩:=zn7 bs ht (by omega);obtain⟨W,eW,hW,hc⟩:=zgu _ f (by omega);have hm:psz (zd6 b)*W<=b.nodes.length*2000:=zuG s (by omega);simp only[cntB,zaJ];exact⟨by omega,by omega⟩
theorem zn9:∀(rs:List za0),rs.all okR=true->cntR rs<=40000000*rs.length
 |[],_=>by simp[cntR]
 |r::rs,h=>by
  simp only[List.all_cons,ztt] at h;have ih:=zn9 rs h.2;have hk:=zh4 h.1;have hb:=(zn7 _ hk.1 hk.2.2).1;have hn:zaJ r.branches<=5000:=by
   have h1:=h.1;unfold okR zee at h1;simp only[ztt,zuP] at h1;exact h1.1.1.1.1.2
  simp only[cntR,zt2];omega
theorem zqW{rs:List za0}(hs:zdB rs)(h:zb5 rs=true):WOK rs:=by
 unfold zb5 at h;simp only[ztt,zuP] at h;obtain⟨⟨h1,h2⟩,h3⟩:=h;refine⟨hs,fun k hk=>?_,by have:=zn9 rs h2;omega⟩;have:rs.getD k .zero∈rs:=by simp[List.getD,hk]
 exact(zh4 (ztC.1 h2 _ this)).1
end Go.Proofs.YthddplbodacjgaaGreatDoor
