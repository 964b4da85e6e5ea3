import Derived.Test.YtdimhpfiieepiaaGreatDoorC50
import Derived.WalkMore
namespace Go.Proofs.YtdimhpfiieepiaaGreatDoor
set_option maxHeartbeats 4000000
set_option maxRecDepth 100000
open Go.RowKit
attribute [local go_sem ↓] Go.wp_at_zero Go.wp_at_succ
section
variable{lo T n lo':Nat}{w W:World}{v:Value}{rs:List Int}
def IntW(lo T:Nat)(w:World)(v:Value)(n:Nat):Prop:=∃ao cap,v=.slice ao n cap/\(0<n->∃(b o:Nat) (cs:Array Value),ao=some ⟨b,o,none⟩/\lo<=b/\b<T/\w.heap[b]?=some (.cells cs 3 (0,0))/\o+n<=cs.size/\∀i,i<n->slB cs[o+i]?=false)
theorem IntW.mk(h:IntW lo T w v n)(k:MkR lo T w W):IntW lo T W v n:=by
 obtain⟨ao,cap,rfl,h⟩:=h;refine⟨ao,cap,rfl,fun h0=>?_⟩;obtain⟨b,o,cs,rfl,h1,h2,h3,h4,h5⟩:=h h0;obtain⟨cs',e,s,p,q⟩:=k.row b cs _ h3;exact⟨b,o,cs',rfl,h1,h2,e,by omega,fun i hi=>q _ (h5 i hi)⟩
theorem IntW.keep{T':Nat}(h:IntW lo T w v n)(hl:lo'<=lo)(hT:T<=T')(hk:∀(b:Nat) (o:Obj),lo<=b->b<T->w.heap[b]?=some o->W.heap[b]?=some o):IntW lo' T' W v n:=by
 obtain⟨ao,cap,rfl,h⟩:=h;refine⟨ao,cap,rfl,fun h0=>?_⟩;obtain⟨b,o,cs,rfl,h1,h2,h3,h4,h5⟩:=h h0;exact⟨b,o,cs,rfl,by omega,by omega,hk b _ h1 h2 h3,h4,h5⟩
def IntB(lo:Nat)(w:World)(v:Value)(rs:List Int):Prop:=zbr lo w v rs/\IntW lo w.heap.size w v rs.length
theorem IntB.below{w':World}(h:IntB lo w v rs)(hb:Below w.heap.size w w'):IntB lo w' v rs:=⟨h.1.below hb,h.2.keep (zvJ _) hb.size fun b _ _ hl e=>(hb.block b hl).trans e⟩
theorem IntB.mono(h:IntB lo w v rs)(hl:lo'<=lo):IntB lo' w v rs:=⟨h.1.mono hl,h.2.keep hl (zvJ _) fun _ _ _ _ e=>e⟩
theorem IntB.setCell(h:IntB lo w v rs){a:Addr}(ha:a.block<lo)(u:Value):IntB lo (w.setCell a u) v rs:=⟨h.1.setCell ha u,h.2.keep (zvJ _) (by simp[World.setCell]) fun _ _ hb _ e=>(zv0 _ _ _ _ (by omega)).trans e⟩
theorem zda(v:Value)(xs:List Int)(w:World)(hs:zbr lo w v xs)(hn:xs.length<=1048576):
  Calls Tryz.prog 69 #[v] w fun e w'=>∃v',e=.returned v'/\IntB w.heap.size w' v' xs/\Below w.heap.size w w':=by
 obtain⟨ao,cap,rfl,hm,hc⟩:=hs;obtain⟨i0,hi,hz0,hz1,hz2⟩:=info_parts Tryz.infoInt
 go_enter Tryz.func69,Tryz.ntmps69
 go_wp2_with (refine wpList_make_full _ rfl _ _ 23 rfl w.heap.size 3 i0 _ 1 Tryz.underlying23 hi hz0 hz1 _ _ _ _ xs.length rfl rfl rfl rfl (by rw[hz2];omega) (by unfold maxLen;omega) (zvJ _) ?_;intro w1 hown hgrow)
 have hbw:Below w.heap.size w w1:=(Below.refl _ _).grown hgrow (zvJ _) (by intro k h;cases h);clear hgrow
 go_loopw [4] (fun i wr=>∃k:Nat,k<=xs.length/\i=.int .i64 k/\Below w.heap.size w wr/\∃zs:List Value,wr.ownsRow w.heap.size 3 1 (.slice (some ⟨w.heap.size,0,none⟩) xs.length xs.length) xs.length zs/\
   zb4 zs 1 k (fun j=>[.int .i64 (xs.getD j 0)]))
  (fun i _=>xs.length-(intOf i).toNat)
 case atStart=>exact⟨0,zvT _,rfl,hbw,_,hown,fun j hj=>absurd hj (zvQ _)⟩
 case round=>
  obtain⟨k,hk,rfl,hb,zs,hown,hfill⟩:=hrel
  by_cases hlt:k<xs.length
  ·obtain⟨b,o,x,rfl,Hn,hbl,c0⟩:=hc.elem hb hlt;obtain⟨u0,d0⟩:=zbC hown (j:=k) (by omega);have f0:=hown.frozenAt k;go_wp2
   go_roundw
   case rel=>exact⟨k+1,by omega,by go_num,hb.setCell (by simp) _,_,(hown.stored _ _).1,znK hfill (by have:=hown.1;omega) (by rw[Hn.out])⟩
   case measure=>simp[intOf];omega
  ·go_wp2;have hkk:k=xs.length:=by omega
   refine zvV (v:=.slice (some ⟨w.heap.size,0,none⟩) xs.length xs.length) (by simp[results,Tryz.results69,go_sem]) rfl ⟨_,rfl,⟨⟨_,_,rfl,hm,fun _=>⟨w.heap.size,0,rfl,zvJ _,zcE hown,fun i hi=>?_⟩⟩,?_⟩,hb⟩
   all_goals rw[hkk] at hfill
   rotate_left
   ·refine⟨_,_,rfl,fun _=>⟨w.heap.size,0,zs.toArray,rfl,zvJ _,zcE hown,zbq hown,by have:=hown.1;simp;omega,fun i hi=>?_⟩⟩;have hr:=zvW _ _ i _ _ _ (zbq hown);have e:=zaJ hown hfill (i:=i) (c:=0) (by omega) (by omega);rw[show i*1+0=i by omega] at e;rw[zvS,<-hr,e]
    rfl
   have e0:=zaJ hown hfill (c:=0) hi (by omega)
   simpa using e0
theorem zb0(v:Value)(n:Nat)(k:Int)(w:World)(h:IntW lo T w v n)(hk:0<=k/\k+(n:Int)<=100000000):
  Calls Tryz.prog 81 #[v,.int .i64 k] w fun e W=>e=.returned (.int .i64 (k+(n:Int)))/\MkR lo T w W:=by
 obtain⟨ao,cap,rfl,h⟩:=h;have hk0:=hk.1;have hk1:=hk.2;have H:Hid _:=h;clear h hk
 go_enter Tryz.func81,Tryz.ntmps81
 go_wp2
 go_loopw [1,5] (fun kv iv wr=>∃i:Nat,i<=n/\iv=.int .i64 i/\kv=.int .i64 (k+(i:Int))/\Hid (MkR lo T w wr)) (fun _ iv _=>n-(intOf iv).toNat)
 case atStart=>exact⟨0,zvT _,rfl,by simp,MkR.refl _ _ _⟩
 case round=>
  obtain⟨i,hi,rfl,rfl,HM⟩:=hrel
  by_cases hlt:i<n
  ·obtain⟨b,o,cs,rfl,h1,h2,h3,h4,h5⟩:=H.out (by omega);obtain⟨cs1,e1,s1,p1,q1⟩:=HM.out.row b cs _ h3;obtain⟨u0,c0⟩:=ziQ e1 (i:=o+i) (by omega);have f0:=zvY _ _ (o+i) _ _ e1;have m1:=MkR.put e1 h1 h2 (q1 _ (h5 i (by omega))) (.int .i64 (k+(i:Int))) rfl;have HM2:Hid _:=HM.out.trans m1;have hi0:(0:Int)<=(i:Int):=by omega
   have hi1:(i:Int)<(n:Int):=by omega
   obtain⟨kk,hkk⟩:∃kk:Int,k+(i:Int)=kk:=⟨_,rfl⟩;have hkb0:0<=kk:=by omega
   have hkb1:kk<=100000000:=by omega
   rw[hkk] at HM2 ⊢;have Hkk:Hid _:=hkk;clear m1 e1 p1 q1 s1 h3 h4 h5 hkk HM;go_wp2
   go_roundw
   case rel=>exact⟨i+1,by omega,by go_num,by rw[<-Hkk.out];go_num,HM2⟩
   case measure=>simp[intOf];omega
  ·obtain rfl:i=n:=by omega
   have HF:Hid (MkR lo T w wr):=HM.out;clear HM;go_wp2;go_ret;exact⟨rfl,HF.out⟩
end
section
variable{lo:Nat}
structure zgi(lo:Nat)(w:World)(cv bv fv tv ev nv kv:Value)(d:TabD):Prop where
 classes:IntB lo w cv d.classes
 base:IntB lo w bv d.base
 dflt:IntB lo w fv d.dflt
 tag:IntB lo w tv d.tag
 fin:IntB lo w ev d.fin
 next:IntB lo w nv d.next
 chk:IntB lo w kv d.chk
theorem zgi.tab{w:World}{cv bv fv tv ev nv kv:Value}{d:TabD}(h:zgi lo w cv bv fv tv ev nv kv d):zbe lo w cv bv fv tv ev nv kv d:=
 ⟨h.classes.1,h.base.1,h.dflt.1,h.tag.1,h.fin.1,h.next.1,h.chk.1⟩
theorem zmn(cv bv fv tv ev nv kv:Value)(d:TabD)(w:World)(hs:zbe lo w cv bv fv tv ev nv kv d)(hsm:zcu d):
  Calls Tryz.prog 35 #[.agg #[cv,.int .i64 d.width,bv,fv,tv,ev,nv,kv]] w fun e w'=>∃cv' bv' fv' tv' ev' nv' kv',e=.returned (.agg #[cv',.int .i64 d.width,bv',fv',tv',ev',nv',kv'])/\zgi w.heap.size w' cv' bv' fv' tv' ev' nv' kv' d/\Below w.heap.size w w':=by
 have hm0:d.classes.length<=1048576:=hsm _ (by simp[TabD.lists]);have hm1:d.base.length<=1048576:=hsm _ (by simp[TabD.lists]);have hm2:d.dflt.length<=1048576:=hsm _ (by simp[TabD.lists]);have hm3:d.tag.length<=1048576:=hsm _ (by simp[TabD.lists]);have hm4:d.fin.length<=1048576:=hsm _ (by simp[TabD.lists]);have hm5:d.next.length<=1048576:=hsm _ (by simp[TabD.lists]);have hm6:d.chk.length<=1048576:=hsm _ (by simp[TabD.lists]);have T:=Tri.new w 25 39 39 #[cv,.int .i64 d.width,bv,fv,tv,ev,nv,kv] #[.slice none 0 0,.int .i64 0,.slice none 0 0,.slice none 0 0,.slice none 0 0,.slice none 0 0,.slice none 0 0,.slice none 0 0] #[.slice none 0 0,.int .i64 0,.slice none 0 0,.slice none 0 0,.slice none 0 0,.slice none 0 0,.slice none 0 0,.slice none 0 0]
 go_enter Tryz.func35,Tryz.ntmps35
 go_wp2_with fail
 refine(zda _ d.classes _ (hs.below T.below).classes hm0).mono ?_;rintro e w1 ⟨v0,rfl,hr0,hb⟩;replace hr0:=IntB.mono hr0 T.size;replace T:=T.call hb;clear hb;obtain⟨⟨ao0,cap0,rfl,hn0,hc⟩,hx⟩:=hr0;replace hr0:IntB (w.heap.size+1+1+1) w1 (.slice ao0 d.classes.length cap0) d.classes:=⟨⟨_,_,rfl,hn0,hc⟩,hx⟩;clear hc hx;obtain⟨c0,c1,c2,f1,f2⟩:=T.cells
 go_wp2_with fail
 clear c0 c1 c2 f1 f2;replace T:=T.set 0 (.slice ao0 d.classes.length cap0);replace hr0:=hr0.setCell (a:=⟨w.heap.size+1+1,0,none⟩) (by simp) (.slice ao0 d.classes.length cap0);replace T:=T.set 1 (.int .i64 d.width);replace hr0:=hr0.setCell (a:=⟨w.heap.size+1+1,1,none⟩) (by simp) (.int .i64 d.width);refine(zda _ d.base _ (hs.below T.below).base hm1).mono ?_;rintro e w2 ⟨v1,rfl,hr1,hb⟩;replace hr1:=IntB.mono hr1 T.size;replace hr0:=hr0.below hb;replace T:=T.call hb;clear hb;obtain⟨⟨ao1,cap1,rfl,hn1,hc⟩,hx⟩:=hr1;replace hr1:IntB (w.heap.size+1+1+1) w2 (.slice ao1 d.base.length cap1) d.base:=⟨⟨_,_,rfl,hn1,hc⟩,hx⟩;clear hc hx;obtain⟨c0,c1,c2,f1,f2⟩:=T.cells
 go_wp2_with fail
 clear c0 c1 c2 f1 f2;replace T:=T.set 2 (.slice ao1 d.base.length cap1);replace hr0:=hr0.setCell (a:=⟨w.heap.size+1+1,2,none⟩) (by simp) (.slice ao1 d.base.length cap1);replace hr1:=hr1.setCell (a:=⟨w.heap.size+1+1,2,none⟩) (by simp) (.slice ao1 d.base.length cap1);refine(zda _ d.dflt _ (hs.below T.below).dflt hm2).mono ?_;rintro e w3 ⟨v2,rfl,hr2,hb⟩;replace hr2:=IntB.mono hr2 T.size;replace hr0:=hr0.below hb;replace hr1:=hr1.below hb;replace T:=T.call hb;clear hb;obtain⟨⟨ao2,cap2,rfl,hn2,hc⟩,hx⟩:=hr2;replace hr2:IntB (w.heap.size+1+1+1) w3 (.slice ao2 d.dflt.length cap2) d.dflt:=⟨⟨_,_,rfl,hn2,hc⟩,hx⟩;clear hc hx;obtain⟨c0,c1,c2,f1,f2⟩:=T.cells
 go_wp2_with fail
 clear c0 c1 c2 f1 f2;replace T:=T.set 3 (.slice ao2 d.dflt.length cap2);replace hr0:=hr0.setCell (a:=⟨w.heap.size+1+1,3,none⟩) (by simp) (.slice ao2 d.dflt.length cap2);replace hr1:=hr1.setCell (a:=⟨w.heap.size+1+1,3,none⟩) (by simp) (.slice ao2 d.dflt.length cap2);replace hr2:=hr2.setCell (a:=⟨w.heap.size+1+1,3,none⟩) (by simp) (.slice ao2 d.dflt.length cap2);refine(zda _ d.tag _ (hs.below T.below).tag hm3).mono ?_;rintro e w4 ⟨v3,rfl,hr3,hb⟩;replace hr3:=IntB.mono hr3 T.size;replace hr0:=hr0.below hb;replace hr1:=hr1.below hb;replace hr2:=hr2.below hb;replace T:=T.call hb;clear hb;obtain⟨⟨ao3,cap3,rfl,hn3,hc⟩,hx⟩:=hr3;replace hr3:IntB (w.heap.size+1+1+1) w4 (.slice ao3 d.tag.length cap3) d.tag:=⟨⟨_,_,rfl,hn3,hc⟩,hx⟩;clear hc hx;obtain⟨c0,c1,c2,f1,f2⟩:=T.cells
 go_wp2_with fail
 clear c0 c1 c2 f1 f2;replace T:=T.set 4 (.slice ao3 d.tag.length cap3);replace hr0:=hr0.setCell (a:=⟨w.heap.size+1+1,4,none⟩) (by simp) (.slice ao3 d.tag.length cap3);replace hr1:=hr1.setCell (a:=⟨w.heap.size+1+1,4,none⟩) (by simp) (.slice ao3 d.tag.length cap3);replace hr2:=hr2.setCell (a:=⟨w.heap.size+1+1,4,none⟩) (by simp) (.slice ao3 d.tag.length cap3);replace hr3:=hr3.setCell (a:=⟨w.heap.size+1+1,4,none⟩) (by simp) (.slice ao3 d.tag.length cap3);refine(zda _ d.fin _ (hs.below T.below).fin hm4).mono ?_;rintro e w5 ⟨v4,rfl,hr4,hb⟩;replace hr4:=IntB.mono hr4 T.size;replace hr0:=hr0.below hb;replace hr1:=hr1.below hb;replace hr2:=hr2.below hb;replace hr3:=hr3.below hb;replace T:=T.call hb;clear hb;obtain⟨⟨ao4,cap4,rfl,hn4,hc⟩,hx⟩:=hr4;replace hr4:IntB (w.heap.size+1+1+1) w5 (.slice ao4 d.fin.length cap4) d.fin:=⟨⟨_,_,rfl,hn4,hc⟩,hx⟩;clear hc hx;obtain⟨c0,c1,c2,f1,f2⟩:=T.cells
 go_wp2_with fail
 clear c0 c1 c2 f1 f2;replace T:=T.set 5 (.slice ao4 d.fin.length cap4);replace hr0:=hr0.setCell (a:=⟨w.heap.size+1+1,5,none⟩) (by simp) (.slice ao4 d.fin.length cap4);replace hr1:=hr1.setCell (a:=⟨w.heap.size+1+1,5,none⟩) (by simp) (.slice ao4 d.fin.length cap4);replace hr2:=hr2.setCell (a:=⟨w.heap.size+1+1,5,none⟩) (by simp) (.slice ao4 d.fin.length cap4);replace hr3:=hr3.setCell (a:=⟨w.heap.size+1+1,5,none⟩) (by simp) (.slice ao4 d.fin.length cap4);replace hr4:=hr4.setCell (a:=⟨w.heap.size+1+1,5,none⟩) (by simp) (.slice ao4 d.fin.length cap4);refine(zda _ d.next _ (hs.below T.below).next hm5).mono ?_;rintro e w6 ⟨v5,rfl,hr5,hb⟩;replace hr5:=IntB.mono hr5 T.size;replace hr0:=hr0.below hb;replace hr1:=hr1.below hb;replace hr2:=hr2.below hb;replace hr3:=hr3.below hb;replace hr4:=hr4.below hb;replace T:=T.call hb;clear hb;obtain⟨⟨ao5,cap5,rfl,hn5,hc⟩,hx⟩:=hr5;replace hr5:IntB (w.heap.size+1+1+1) w6 (.slice ao5 d.next.length cap5) d.next:=⟨⟨_,_,rfl,hn5,hc⟩,hx⟩;clear hc hx;obtain⟨c0,c1,c2,f1,f2⟩:=T.cells
 go_wp2_with fail
 clear c0 c1 c2 f1 f2;replace T:=T.set 6 (.slice ao5 d.next.length cap5);replace hr0:=hr0.setCell (a:=⟨w.heap.size+1+1,6,none⟩) (by simp) (.slice ao5 d.next.length cap5);replace hr1:=hr1.setCell (a:=⟨w.heap.size+1+1,6,none⟩) (by simp) (.slice ao5 d.next.length cap5);replace hr2:=hr2.setCell (a:=⟨w.heap.size+1+1,6,none⟩) (by simp) (.slice ao5 d.next.length cap5);replace hr3:=hr3.setCell (a:=⟨w.heap.size+1+1,6,none⟩) (by simp) (.slice ao5 d.next.length cap5);replace hr4:=hr4.setCell (a:=⟨w.heap.size+1+1,6,none⟩) (by simp) (.slice ao5 d.next.length cap5);replace hr5:=hr5.setCell (a:=⟨w.heap.size+1+1,6,none⟩) (by simp) (.slice ao5 d.next.length cap5);refine(zda _ d.chk _ (hs.below T.below).chk hm6).mono ?_;rintro e w7 ⟨v6,rfl,hr6,hb⟩;replace hr6:=IntB.mono hr6 T.size;replace hr0:=hr0.below hb;replace hr1:=hr1.below hb;replace hr2:=hr2.below hb;replace hr3:=hr3.below hb;replace hr4:=hr4.below hb;replace hr5:=hr5.below hb;replace T:=T.call hb;clear hb;obtain⟨⟨ao6,cap6,rfl,hn6,hc⟩,hx⟩:=hr6;replace hr6:IntB (w.heap.size+1+1+1) w7 (.slice ao6 d.chk.length cap6) d.chk:=⟨⟨_,_,rfl,hn6,hc⟩,hx⟩;clear hc hx;obtain⟨c0,c1,c2,f1,f2⟩:=T.cells;go_wp2;refine zvV (v:=.agg #[.slice ao0 d.classes.length cap0,.int .i64 d.width,.slice ao1 d.base.length cap1,.slice ao2 d.dflt.length cap2,.slice ao3 d.tag.length cap3,.slice ao4 d.fin.length cap4,.slice ao5 d.next.length cap5,.slice ao6 d.chk.length cap6]) (by simp[results,Tryz.results35,go_sem,c1]) rfl ⟨_,_,_,_,_,_,_,rfl,?_,?_⟩
 ·constructor
  all_goals
   refine IntB.mono (lo:=w.heap.size+1+1+1) ?_ (by omega)
   iterate 9 refine IntB.setCell ?_ (by simp) _
  ·exact hr0
  ·exact hr1
  ·exact hr2
  ·exact hr3
  ·exact hr4
  ·exact hr5
  ·exact hr6
 ·iterate 9 refine Below.setCell ?_ (by simp<;>omega) _
  exact T.below
end
section
variable{B sz g n cap:Nat}{W:World}{v:Value}{rs:List (Int×Int)}{xs:List Value}
def PvO(B:Nat)(W:World)(v:Value)(rs:List (Int×Int)):Prop:=W.ownsRow B 71 2 v rs.length (pv rs)
theorem hidP{p:Prop}(h:p):Hid p:=h
theorem zqj(rs:List (Int×Int))(i:Nat)(h:i<rs.length):(pv rs)[i*2]?=some (.int .i64 (rs.getD i (0,0)).1)/\(pv rs)[i*2+1]?=some (.int .i64 (rs.getD i (0,0)).2):=⟨zm1 rs (j:=0) h (by omega),zm1 rs (j:=1) h (by omega)⟩
theorem PvO.read(h:PvO B W v rs)(hn:rs.length<=1048576):zal B W v rs:=by
 rcases h.2 with ⟨rfl,h0⟩|⟨g,cap,cur,rfl,hg,hh,h1,h2,h3,h4⟩
 ·have hr:rs=[]:=zuZ h0;subst hr;exact⟨none,0,rfl,by simp,fun h=>absurd h (by simp)⟩
 ·refine⟨some ⟨g,0,none⟩,cap,rfl,by omega,fun _=>⟨g,0,rfl,hg,(zuH.1 hh).1,fun i hi=>?_⟩⟩;have e:=zqj rs i hi;have c0:=h.cellAt (i*2) (by omega);have c1:=h.cellAt (i*2+1) (by omega);rw[e.1] at c0;rw[e.2] at c1;exact⟨by rw[zvS];exact c0,by rw[zvS];exact c1⟩
theorem zgc{e:TypeId}(h:W.ownsRow B e sz (.slice (some ⟨g,0,none⟩) n cap) n xs)(j:Nat)(u:Value):(W.setCell ⟨g,j,none⟩ u).ownsRow B e sz (.slice (some ⟨g,0,none⟩) n cap) n (xs.set j u):=by
 refine⟨by rw[List.length_set];exact h.1,?_⟩;rcases h.2 with ⟨e,_⟩|⟨g',cap',cur,e,hg,hh,h1,h2,h3,h4⟩
 ·cases e
 ·cases e
  refine .inr ⟨g,cap,cur.setIfInBounds j u,rfl,hg,zv1 _ _ _ _ _ _ hh,h1,h2,by simp[h3],?_⟩;rw[Array.toList_setIfInBounds,List.take_set,h4]
def mxLP(k:Int)(xs:List Value)(a:Nat):List Value:=(List.range xs.length).map fun j=>if j<a then .int .i64 (k+(j:Int)) else xs.getD j undef
theorem zpY(k:Int)(xs:List Value):mxLP k xs 0=xs:=by
 unfold mxLP;apply List.ext_getElem
 ·simp
 ·intro n h1 h2;simp[List.getD,h2]
theorem zmS(k:Int)(xs:List Value)(a:Nat):(mxLP k xs a).set a (.int .i64 (k+(a:Int)))=mxLP k xs (a+1):=by
 unfold mxLP;apply List.ext_getElem
 ·simp
 ·intro n h1 h2;rw[List.getElem_set]
  by_cases e:a=n
  ·subst e;simp
  ·rw[zv2 e];simp only[List.getElem_map,List.getElem_range]
   by_cases e2:n<a
   ·rw[zv3 e2,zv3 (by omega)]
   ·rw[zv2 e2,zv2 (by omega)]
def mkRP(n:Nat)(k:Int):List (Int×Int):=(List.range n).map fun(j:Nat)=>(k+2*(j:Int),k+2*(j:Int)+1)
theorem zdH(n:Nat)(k:Int):(mkRP n k).length=n:=by simp[mkRP]
theorem zrU(k:Int)(rs:List (Int×Int)):mxLP k (pv rs) (rs.length*2)=pv (mkRP rs.length k):=by
 apply zu0
 intro m
 by_cases hm:m<rs.length*2
 ·have hL:(mxLP k (pv rs) (rs.length*2))[m]?=some (.int .i64 (k+(m:Int))):=by
   unfold mxLP;rw[zvd,List.getElem?_range (by rw[zfe];exact hm)];simp[hm]
  rw[hL];have hi:m/2<(mkRP rs.length k).length:=by rw[zdH];omega
  have hg:=zqj (mkRP rs.length k) (m/2) hi;have hv:(mkRP rs.length k).getD (m/2) (0,0)=(k+2*((m/2:Nat):Int),k+2*((m/2:Nat):Int)+1):=by
   unfold mkRP;have:m/2<rs.length:=by omega
   simp[List.getD,this]
  rw[hv] at hg;rcases Nat.mod_two_eq_zero_or_one m with e|e
  ·have:=hg.1;rw[show m/2*2=m by omega] at this;rw[this]
   congr 2
   omega
  ·have:=hg.2;rw[show m/2*2+1=m by omega] at this;rw[this]
   congr 2
   omega
 ·rw[zvb (by unfold mxLP;simp[zfe];omega),zvb (by rw[zfe,zdH];omega)]
theorem ziu{e:TypeId}(h:W.ownsRow B e sz (.slice (some ⟨g,0,none⟩) n cap) n xs){j:Nat}(hj:j<n*sz):(∃u,W.cell? ⟨g,j,none⟩=some u)/\W.frozen? ⟨g,j,none⟩=false:=by
 refine⟨?_,?_⟩
 ·have:=h.cellAt j hj;rw[this,zva (by rw[h.1];exact hj)];exact⟨_,rfl⟩
 ·rcases h.2 with ⟨e,_⟩|⟨g',cap',cur,e,hg,hh,_⟩
  ·cases e
  ·cases e;exact zvY _ _ _ _ _ hh
theorem zgR(W:World)(row:Option Nat):W.grownBy W row:=⟨rfl,rfl,rfl,zvJ _,fun _ _ _=>rfl⟩
theorem zf3{w':World}(h:W.grownBy w' (some g))(o:Nat)(u:Value):W.grownBy (w'.setCell ⟨g,o,none⟩ u) (some g):=
 ⟨h.os,h.tape,h.output,by simpa [World.setCell] using h.size,fun k hk hr=>by rw[zv0 _ _ _ _ (fun e=>hr (by rw[e]))];exact h.block k hk hr⟩
theorem zkh(k:Int)(w:World)(h:PvO B w v rs)(hk:0<=k/\k<=1000000000)(hn:rs.length<=100000):
  Calls Tryz.prog 44 #[v,.int .i64 k] w fun e w'=>e=.returned (.int .i64 (k+2*(rs.length:Int)))/\PvO B w' v (mkRP rs.length k)/\w.grownBy w' v.ownBlock:=by
 rcases h.2 with ⟨rfl,h0⟩|⟨g,cap,cur,rfl,hg,hh,h1,h2,h3,h4⟩
 ·have hr:rs=[]:=zuZ h0;subst hr;clear h h0
  go_enter Tryz.func44,Tryz.ntmps44
  go_wp2
  go_loopw [1,5] (fun kv iv wr=>kv=.int .i64 k/\iv=.int .i64 0/\wr=w) (fun _ _ _=>0)
  case atStart=>exact⟨rfl,rfl,rfl⟩
  case round=>
   obtain⟨rfl,rfl,rfl⟩:=hrel;go_wp2;go_ret;exact⟨by simp,⟨rfl,.inl ⟨rfl,rfl⟩⟩,zgR _ _⟩
 ·obtain⟨n,hnn⟩:∃n,n=rs.length:=⟨_,rfl⟩;have hO:w.ownsRow B 71 2 (.slice (some ⟨g,0,none⟩) n cap) n (pv rs):=by rw[hnn];exact h
  have HO0:Hid (w.ownsRow B 71 2 (.slice (some ⟨g,0,none⟩) n cap) n (mxLP k (pv rs) 0)):=by rw[zpY];exact hO
  have hrl:(pv rs).length=n*2:=by rw[zfe,hnn]
  have HRL:=hidP hrl;have HEND:Hid (mxLP k (pv rs) (n*2)=pv (mkRP n k)):=by rw[hnn];exact zrU k rs
  have hn2:n<=100000:=by omega
  rw[<-hnn];have Hnn:=hidP hnn;clear hh h3 h4 hO h hrl hnn hn
  go_enter Tryz.func44,Tryz.ntmps44
  go_wp2
  go_loopw [1,5] (fun kv iv wr=>∃i:Nat,i<=n/\kv=.int .i64 (k+2*(i:Int))/\iv=.int .i64 (i:Int)/\Hid (wr.ownsRow B 71 2 (.slice (some ⟨g,0,none⟩) n cap) n (mxLP k (pv rs) (i*2)))/\Hid (w.grownBy wr (some g))) (fun _ iv _=>n-(intOf iv).toNat)
  case atStart=>exact⟨0,by omega,by go_num,rfl,HO0,zgR _ _⟩
  case round=>
   clear HO0;obtain⟨i,hi,rfl,rfl,HO,HG⟩:=hrel
   by_cases hlt:i<n
   ·have hltI:(i:Int)<(n:Int):=by omega
    obtain⟨⟨u0,c0⟩,f0⟩:=ziu HO.out (j:=i*2) (by omega);have HO1:=zgc HO.out (i*2) (.int .i64 (k+2*(i:Int)));rw[show k+2*(i:Int)=k+((i*2:Nat):Int) by omega,zmS] at HO1;have HO1H:=hidP HO1;clear HO1;have HG1:=hidP (zf3 HG.out (i*2) (.int .i64 (k+2*(i:Int))));rw[show k+((i*2:Nat):Int)=k+2*(i:Int) by omega] at HO1H
    go_upto_region 5 with fail
    generalize wr.setCell ⟨g,i*2,none⟩ (.int .i64 (k+2*(i:Int)))=W2 at *;clear c0 f0;obtain⟨⟨u1,c1⟩,f1⟩:=ziu HO1H.out (j:=i*2+1) (by omega);have HO2:=zgc HO1H.out (i*2+1) (.int .i64 (k+2*(i:Int)+1));rw[show k+2*(i:Int)+1=k+((i*2+1:Nat):Int) by omega,zmS] at HO2;rw[show k+((i*2+1:Nat):Int)=k+2*(i:Int)+1 by omega,show i*2+1+1=(i+1)*2 by omega] at HO2;have HO2H:=hidP HO2;have HG2:=hidP (zf3 HG1.out (i*2+1) (.int .i64 (k+2*(i:Int)+1)));clear HO2 HG HO;go_wp2
    go_roundw
    case rel=>exact⟨i+1,by omega,by congr 1;omega,by go_num,HO2H,HG2⟩
    case measure=>simp[intOf];omega
   ·have hin:i=n:=by omega
    subst hin;go_wp2;go_ret;exact⟨rfl,by show World.ownsRow _ _ _ _ _ _ _;rw[zdH,<-HEND.out];exact HO.out,HG.out⟩
theorem zrR(n:Nat)(k:Int){i:Nat}(h:i<n):(mkRP n k).getD i (0,0)=(k+2*(i:Int),k+2*(i:Int)+1):=by
 unfold mkRP;simp[List.getD,h]
theorem zj4{lo:Nat}(k:Int)(w:World)(h:zal lo w v (mkRP n k))(hk:0<=k/\k<=1000000000)(hn:n<=100000):
  Calls Tryz.prog 45 #[v,.int .i64 k] w fun e w'=>e=.returned (.int .i64 (k+2*(n:Int)))/\w'=w:=by
 obtain⟨ao,cap,rfl,hm,hc⟩:=h;rw[zdH] at hm ⊢;have HC:Hid (0<n->∃b o,ao=some ⟨b,o,none⟩/\∀i,i<n->w.cell? ⟨b,o+i*2,none⟩=some (.int .i64 (k+2*(i:Int)))/\w.cell? ⟨b,o+i*2+1,none⟩=some (.int .i64 (k+2*(i:Int)+1))):=fun h0=>by
  obtain⟨b,o,e,_,_,h9⟩:=hc (by rw[zdH];exact h0);refine⟨b,o,e,fun i hi=>?_⟩;have h8:=h9 i (by rw[zdH];exact hi);rw[zrR n k hi] at h8;exact h8
 clear hc hm
 go_enter Tryz.func45,Tryz.ntmps45
 go_wp2
 go_loopw [1,5] (fun kv iv wr=>∃i:Nat,i<=n/\kv=.int .i64 (k+2*(i:Int))/\iv=.int .i64 (i:Int)/\wr=w) (fun _ iv _=>n-(intOf iv).toNat)
 case atStart=>exact⟨0,by omega,by go_num,rfl,rfl⟩
 case round=>
  obtain⟨i,hi,rfl,rfl,rfl⟩:=hrel
  by_cases hlt:i<n
  ·have hltI:(i:Int)<(n:Int):=by omega
   obtain⟨b,o,rfl,h9⟩:=HC.out (by omega);obtain⟨c0,c1⟩:=h9 i hlt;clear h9 HC;go_wp2
   go_roundw
   case rel=>exact⟨i+1,by omega,by congr 1;omega,by go_num,trivial⟩
   case measure=>simp[intOf];omega
  ·have hin:i=n:=by omega
   subst hin;go_wp2;go_ret;exact⟨rfl,rfl⟩
end
theorem zkL{lo:Nat}(ao:Option Addr)(rc:Nat)(cv bv fv tv ev nv kv:Value)(rs:List zaG)(d:TabD)(w:World)(hr:zaY lo w (.slice ao rs.length rc) rs)(hs:zbe lo w cv bv fv tv ev nv kv d):
  Calls Tryz.prog 5 #[.agg #[.slice ao rs.length rc,cv,.int .i64 d.width,bv,fv,tv,ev,nv,kv],.int .i64 1048576] w fun e w'=>∃r:Int,e=.returned (.int .i64 r)/\-1<=r/\r<=1048576/\(0<=r->zcL rs/\zcu d/\cRs rs<=4194304)/\Below w.heap.size w w':=by
 obtain⟨W0,hW0⟩:∃W0,w.alloc (.cells #[.slice ao rs.length rc,cv,.int .i64 d.width,bv,fv,tv,ev,nv,kv] 27)=W0:=⟨_,rfl⟩;have hb0:Below w.heap.size w W0:=by rw[<-hW0];exact(Below.refl _ _).alloc (zvJ _) _
 have r0:W0.heap[w.heap.size]?=some (.cells #[.slice ao rs.length rc,cv,.int .i64 d.width,bv,fv,tv,ev,nv,kv] 27 (0,0)):=by rw[<-hW0];exact zvZ _ _
 have c1:=zow (.slice ao rs.length rc) rs 1048576 W0 (hr.below hb0) (by omega) (by omega);have c2:=fun l W (hb:Below w.heap.size w W) (h0:0<=l) (h1:l<=1048576)=>zox cv bv fv tv ev nv kv d l W (hs.below hb) h0 h1
 have b1:=zmj rs 1048576 (by omega);have Hsr:Hid (0<=zbI rs 1048576->zcL rs/\cRs rs<=4194304):=fun h=>⟨zov h,zs7 h⟩
 obtain⟨q0,q1,q2,q3,q4,q5,q6,q7,q8⟩:=zbb r0;clear hr hs;generalize zbI rs 1048576=l at *
 go_enter Tryz.func5,Tryz.ntmps5
 go_wp2_with fail
 refine c1.mono ?_;rintro e w1 ⟨rfl,hb1⟩;have bl1:=zaa hb0 hb0.size hb1;clear q0 q1 q2 q3 q4 q5 q6 q7 q8 hW0 c1
 by_cases hl:l<0
 ·go_wp2;go_ret;exact⟨-1,rfl,by omega,by omega,fun h=>by omega,bl1⟩
 have c2:=c2 l w1 bl1 (by omega) (by omega);have b2:=znf d.lists l (by omega);have Hts:Hid (0<=zcR d.lists l->zcu d):=fun h=>zhv d.lists l (by omega) (by omega) h
 obtain⟨q0,q1,q2,q3,q4,q5,q6,q7,q8⟩:=zbb (zag r0 hb1);generalize zcR d.lists l=m at *
 go_wp2_with fail
 refine c2.mono ?_;rintro e w2 ⟨rfl,hb2⟩;have bl2:=zaa bl1 bl1.size hb2;clear c2 q0 q1 q2 q3 q4 q5 q6 q7 q8
 by_cases hm:m<0
 ·go_wp2;go_ret;exact⟨-1,rfl,by omega,by omega,fun h=>by omega,bl2⟩
 ·go_wp2;go_ret;exact⟨m,rfl,by omega,by omega,fun h=>⟨(Hsr.out (by omega)).1,Hts.out (by omega),(Hsr.out (by omega)).2⟩,bl2⟩
theorem RulW.keep{lo T T' lo':Nat}{w W:World}{v:Value}{rs:List zaG}(h:RulW lo T w v rs)(hl:lo'<=lo)(hT:T<=T')(hk:∀(b:Nat) (o:Obj),lo<=b->b<T->w.heap[b]?=some o->W.heap[b]?=some o):RulW lo' T' W v rs:=by
 obtain⟨ao,cap,rfl,h⟩:=h;refine⟨ao,cap,rfl,fun h0=>?_⟩;obtain⟨b,o,cs,rfl,h1,h2,h3,h4,h5⟩:=h h0;refine⟨b,o,cs,rfl,by omega,by omega,hk b _ h1 h2 h3,h4,fun i hi=>?_⟩;obtain⟨g1,sv,g2,g3⟩:=h5 i hi;exact⟨g1,sv,g2,g3.keep hl hT hk⟩
theorem IntB.same{lo:Nat}{w w':World}{v:Value}{xs:List Int}(h:IntB lo w v xs)(hs:Same lo w w'):IntB lo w' v xs:=⟨h.1.same hs,h.2.keep (zvJ _) hs.size fun b _ h1 h2 e=>(hs.block b h1 h2).trans e⟩
structure MatB(lo:Nat)(w:World)(rv cv bv fv tv ev nv kv:Value)(rs:List zaG)(d:TabD):Prop where
 rul:zaY lo w rv rs
 rulW:RulW lo w.heap.size w rv rs
 tab:zgi lo w cv bv fv tv ev nv kv d
section
variable {lo lo':Nat} {w w':World} {rv cv bv fv tv ev nv kv:Value} {rs:List zaG} {d:TabD}
theorem zgi.same(h:zgi lo w cv bv fv tv ev nv kv d)(hs:Same lo w w'):zgi lo w' cv bv fv tv ev nv kv d:=⟨h.1.same hs,h.2.same hs,h.3.same hs,h.4.same hs,h.5.same hs,h.6.same hs,h.7.same hs⟩
theorem zgi.mono(h:zgi lo w cv bv fv tv ev nv kv d)(hl:lo'<=lo):zgi lo' w cv bv fv tv ev nv kv d:=⟨h.1.mono hl,h.2.mono hl,h.3.mono hl,h.4.mono hl,h.5.mono hl,h.6.mono hl,h.7.mono hl⟩
theorem MatB.same(h:MatB lo w rv cv bv fv tv ev nv kv rs d)(hs:Same lo w w'):MatB lo w' rv cv bv fv tv ev nv kv rs d:=
 ⟨h.rul.same hs,h.rulW.keep (zvJ _) hs.size fun b _ h1 h2 e=>(hs.block b h1 h2).trans e,h.tab.same hs⟩
theorem MatB.mono(h:MatB lo w rv cv bv fv tv ev nv kv rs d)(hl:lo'<=lo):MatB lo' w rv cv bv fv tv ev nv kv rs d:=⟨h.rul.mono hl,h.rulW.keep hl (zvJ _) fun _ _ _ _ e=>e,h.tab.mono hl⟩
theorem MatB.below(h:MatB lo w rv cv bv fv tv ev nv kv rs d)(hb:Below w.heap.size w w'):MatB lo w' rv cv bv fv tv ev nv kv rs d:=h.same (.of_below hb)
end
theorem zkT{lo:Nat}(ao:Option Addr)(rc:Nat)(cv bv fv tv ev nv kv:Value)(rs:List zaG)(d:TabD)(w:World)(hr:zaY lo w (.slice ao rs.length rc) rs)(hsm:zcL rs)(hs:zbe lo w cv bv fv tv ev nv kv d)(hts:zcu d):
  Calls Tryz.prog 8 #[.agg #[.slice ao rs.length rc,cv,.int .i64 d.width,bv,fv,tv,ev,nv,kv]] w fun e w'=>∃ao' rc' cv' bv' fv' tv' ev' nv' kv',e=.returned (.agg #[.slice ao' rs.length rc',cv',.int .i64 d.width,bv',fv',tv',ev',nv',kv'])/\MatB w.heap.size w' (.slice ao' rs.length rc') cv' bv' fv' tv' ev' nv' kv' rs d/\Below w.heap.size w w':=by
 have T:=Tri.new w 27 41 41 #[.slice ao rs.length rc,cv,.int .i64 d.width,bv,fv,tv,ev,nv,kv] #[.slice none 0 0,.slice none 0 0,.int .i64 0,.slice none 0 0,.slice none 0 0,.slice none 0 0,.slice none 0 0,.slice none 0 0,.slice none 0 0] #[.slice none 0 0,.slice none 0 0,.int .i64 0,.slice none 0 0,.slice none 0 0,.slice none 0 0,.slice none 0 0,.slice none 0 0,.slice none 0 0]
 go_enter Tryz.func8,Tryz.ntmps8
 go_wp2_with fail
 refine(zoB _ rs _ (hr.below T.below) hsm).mono ?_;rintro e w1 ⟨v0,rfl,hr0,hw0,hb⟩;have hz:=T.size;have hw1:RulW (w.heap.size+1+1+1) w1.heap.size w1 v0 rs:=hw0.keep hz (zvJ _) fun _ _ _ _ e=>e
 have hr1:=hr0.mono hz;replace T:=T.call hb;clear hb hr0 hw0;obtain⟨ao0,cap0,rfl,hm0,hc0⟩:=hr1;have hr1:zaY (w.heap.size+1+1+1) w1 (.slice ao0 rs.length cap0) rs:=⟨_,_,rfl,hm0,hc0⟩;clear hc0 hm0;obtain⟨c0,c1,c2,f1,f2⟩:=T.cells
 go_wp2_with fail
 clear c0 c1 c2 f1 f2;replace T:=T.set 0 (.slice ao0 rs.length cap0);have hS1:Same (w.heap.size+1+1+1) w1 (w1.setCell ⟨w.heap.size+1+1,0,none⟩ (.slice ao0 rs.length cap0)):=Same.setCell w1 (by simp) _;replace hr1:=hr1.same hS1;replace hw1:=hw1.keep (zvJ _) hS1.size fun b _ h1 h2 e=>(hS1.block b h1 h2).trans e
 refine(zmn cv bv fv tv ev nv kv d _ (hs.below T.below) hts).mono ?_;rintro e w2 ⟨cv',bv',fv',tv',ev',nv',kv',rfl,ht2,hb2⟩;have hz1:=T.size;replace T:=T.call hb2;have M:MatB (w.heap.size+1+1+1) w2 (.slice ao0 rs.length cap0) cv' bv' fv' tv' ev' nv' kv' rs d:=⟨hr1.below hb2,hw1.keep (zvJ _) hb2.size fun b _ _ h2 e=>(hb2.block b h2).trans e,ht2.mono hz1⟩;obtain⟨⟨⟨a0,p0,rfl,_⟩,_⟩,⟨⟨a1,p1,rfl,_⟩,_⟩,⟨⟨a2,p2,rfl,_⟩,_⟩,⟨⟨a3,p3,rfl,_⟩,_⟩,⟨⟨a4,p4,rfl,_⟩,_⟩,⟨⟨a5,p5,rfl,_⟩,_⟩,⟨⟨a6,p6,rfl,_⟩,_⟩⟩:=ht2;have HM:=hidR M;obtain⟨c0,c1,c2,f1,f2⟩:=T.cells;have HT:=hidR T.below;clear M hb2 hr1 hw1 hS1;go_wp2;refine zvV (v:=.agg #[.slice ao0 rs.length cap0,.slice a0 d.classes.length p0,.int .i64 d.width,.slice a1 d.base.length p1,.slice a2 d.dflt.length p2,.slice a3 d.tag.length p3,.slice a4 d.fin.length p4,.slice a5 d.next.length p5,.slice a6 d.chk.length p6]) (by simp[results,Tryz.results8,go_sem,c1]) rfl ⟨ao0,cap0,_,_,_,_,_,_,_,rfl,?_,?_⟩
 ·refine MatB.mono (lo:=w.heap.size+1+1+1) (HM.out.same ?_) (by omega)
  iterate 17 refine Same.trans ?_ (Same.setCell _ (by simp) _)
  exact⟨zvJ _,fun _ _ _=>rfl⟩
 ·iterate 17 refine Below.setCell ?_ (by simp<;>omega) _
  exact HT.out
end Go.Proofs.YtdimhpfiieepiaaGreatDoor
