import Derived.Test.YthddplbodacjgaaGreatDoorC20
namespace Go.Proofs.YthddplbodacjgaaGreatDoor
set_option maxHeartbeats 400000
set_option maxRecDepth 100000
section
variable {lo T T' lo':Nat}{w W w':World}{v:Value}{rs:List (Int×Int)}
open Go.RowKit
theorem RngW.keep{n:Nat}(h:RngW lo T w v n)(hl:lo'<=lo)(hT:T<=T')(hk:∀(b:Nat) (o:Obj),lo<=b->b<T->w.heap[b]?=some o->W.heap[b]?=some o):RngW lo' T' W v n:=by
 obtain⟨ao,cap,rfl,h⟩:=h;refine⟨ao,cap,rfl,fun h0=>?_⟩;obtain⟨b,o,cs,rfl,h1,h2,h3,h4,h5⟩:=h h0;exact⟨b,o,cs,rfl,by omega,by omega,hk b _ h1 h2 h3,h4,h5⟩
theorem NodW.keep{ns:List zau}(h:NodW lo T w v ns)(hl:lo'<=lo)(hT:T<=T')(hk:∀(b:Nat) (o:Obj),lo<=b->b<T->w.heap[b]?=some o->W.heap[b]?=some o):NodW lo' T' W v ns:=by
 obtain⟨ao,cap,rfl,h⟩:=h;refine⟨ao,cap,rfl,fun h0=>?_⟩;obtain⟨b,o,cs,rfl,h1,h2,h3,h4,h5⟩:=h h0;refine⟨b,o,cs,rfl,by omega,by omega,hk b _ h1 h2 h3,h4,fun i hi=>?_⟩;obtain⟨g1,sv,g2,g3⟩:=h5 i hi;exact⟨g1,sv,g2,g3.keep hl hT hk⟩
theorem BraW.keep{bs:List zai}(h:BraW lo T w v bs)(hl:lo'<=lo)(hT:T<=T')(hk:∀(b:Nat) (o:Obj),lo<=b->b<T->w.heap[b]?=some o->W.heap[b]?=some o):BraW lo' T' W v bs:=by
 obtain⟨ao,cap,rfl,h⟩:=h;refine⟨ao,cap,rfl,fun h0=>?_⟩;obtain⟨b,o,cs,rfl,h1,h2,h3,h4,h5⟩:=h h0;refine⟨b,o,cs,rfl,by omega,by omega,hk b _ h1 h2 h3,h4,fun i hi=>?_⟩;obtain⟨g1,sv,g2,g3⟩:=h5 i hi;exact⟨g1,sv,g2,g3.keep hl hT hk⟩
def RngB(lo:Nat)(w:World)(v:Value)(rs:List (Int×Int)):Prop:=zan lo w v rs/\RngW lo w.heap.size w v rs.length
theorem RngB.below(h:RngB lo w v rs)(hb:Below w.heap.size w w'):RngB lo w' v rs:=⟨h.1.below hb,h.2.keep (zuz _) hb.size fun b _ _ hl e=>(hb.block b hl).trans e⟩
theorem RngB.mono(h:RngB lo w v rs)(hl:lo'<=lo):RngB lo' w v rs:=⟨h.1.mono hl,h.2.keep hl (zuz _) fun _ _ _ _ e=>e⟩
theorem RngB.setCell(h:RngB lo w v rs){a:Addr}(ha:a.block<lo)(u:Value):RngB lo (w.setCell a u) v rs:=⟨h.1.setCell ha u,h.2.keep (zuz _) (by simp[World.setCell]) fun _ _ hb _ e=>(zuS _ _ _ _ (by omega)).trans e⟩
def NodB(lo:Nat)(w:World)(v:Value)(rs:List zau):Prop:=zaP lo w v rs/\NodW lo w.heap.size w v rs
theorem NodB.below{rs:List zau}(h:NodB lo w v rs)(hb:Below w.heap.size w w'):NodB lo w' v rs:=⟨h.1.below hb,h.2.keep (zuz _) hb.size fun b _ _ hl e=>(hb.block b hl).trans e⟩
theorem NodB.mono{rs:List zau}(h:NodB lo w v rs)(hl:lo'<=lo):NodB lo' w v rs:=⟨h.1.mono hl,h.2.keep hl (zuz _) fun _ _ _ _ e=>e⟩
theorem NodB.setCell{rs:List zau}(h:NodB lo w v rs){a:Addr}(ha:a.block<lo)(u:Value):NodB lo (w.setCell a u) v rs:=⟨h.1.setCell ha u,h.2.keep (zuz _) (by simp[World.setCell]) fun _ _ hb _ e=>(zuS _ _ _ _ (by omega)).trans e⟩
def BraB(lo:Nat)(w:World)(v:Value)(rs:List zai):Prop:=zax lo w v rs/\BraW lo w.heap.size w v rs
theorem BraB.below{rs:List zai}(h:BraB lo w v rs)(hb:Below w.heap.size w w'):BraB lo w' v rs:=⟨h.1.below hb,h.2.keep (zuz _) hb.size fun b _ _ hl e=>(hb.block b hl).trans e⟩
theorem BraB.mono{rs:List zai}(h:BraB lo w v rs)(hl:lo'<=lo):BraB lo' w v rs:=⟨h.1.mono hl,h.2.keep hl (zuz _) fun _ _ _ _ e=>e⟩
theorem BraB.setCell{rs:List zai}(h:BraB lo w v rs){a:Addr}(ha:a.block<lo)(u:Value):BraB lo (w.setCell a u) v rs:=⟨h.1.setCell ha u,h.2.keep (zuz _) (by simp[World.setCell]) fun _ _ hb _ e=>(zuS _ _ _ _ (by omega)).trans e⟩
theorem zlL(v:Value)(rs:List (Int×Int))(w:World)(hs:zan lo w v rs)(hn:rs.length<=1048576):
  Calls Tryz.prog 116 #[v] w fun e w'=>∃v',e=.returned v'/\RngB w.heap.size w' v' rs/\Below w.heap.size w w':=by
 obtain⟨ao,cap,rfl,hm,hc⟩:=hs;obtain⟨i0,hi,hz0,hz1,hz2⟩:=info_parts Tryz.infoRange
 go_enter Tryz.func116,Tryz.ntmps116
 go_wp2_with (refine wpList_make_full _ rfl _ _ 83 rfl w.heap.size 150 i0 _ 2 Tryz.underlying83 hi hz0 hz1 _ _ _ _ rs.length rfl rfl rfl rfl (by rw[hz2];omega) (by unfold maxLen;omega) (zuz _) ?_;intro w1 hown hgrow)
 have hbw:Below w.heap.size w w1:=(Below.refl _ _).grown hgrow (zuz _) (by intro k h;cases h);clear hgrow
 go_loopw [4] (fun i wr=>∃k:Nat,k<=rs.length/\i=.int .i64 k/\Below w.heap.size w wr/\∃xs:List Value,wr.ownsRow w.heap.size 150 2 (.slice (some ⟨w.heap.size,0,none⟩) rs.length rs.length) rs.length xs/\
   zdl xs 2 k (fun j=>[.int .i64 (rs.getD j (0,0)).1,.int .i64 (rs.getD j (0,0)).2]))
  (fun i _=>rs.length-(intOf i).toNat)
 case atStart=>exact⟨0,zuL _,rfl,hbw,_,hown,fun j hj=>absurd hj (zuI _)⟩
 case round=>
  obtain⟨k,hk,rfl,hb,xs,hown,hfill⟩:=hrel
  by_cases hlt:k<rs.length
  ·obtain⟨b,o,lo,hi,rfl,Hn,hbl,c0,c1⟩:=hc.elem hb hlt
   go_wp2_with (go_at_call 122;refine(znL _ _ _).mono ?_;rintro e w2 ⟨rfl,hb2⟩;have hown2:=zad hown hb2;obtain⟨u0,u1,d0,d1,f0,f1⟩:=zo5 hown2 hlt)
   go_roundw
   case rel=>exact⟨k+1,by omega,by go_num,((zaa hb hb.size hb2).setCell (zuz _) _).setCell (zuz _) _,_,((hown2.stored _ _).1.stored _ _).1,zhP hfill (by have:=hown2.1;omega) (by rw[Hn.out])⟩
   case measure=>simp[intOf];omega
  ·go_wp2;have hkk:k=rs.length:=by omega
   refine zuN (v:=.slice (some ⟨w.heap.size,0,none⟩) rs.length rs.length) (by simp[results,Tryz.results116,go_sem]) rfl ⟨_,rfl,⟨⟨_,_,rfl,hm,fun _=>⟨w.heap.size,0,rfl,zuz _,zcj hown,fun i hi=>?_⟩⟩,?_⟩,hb⟩
   all_goals rw[hkk] at hfill
   rotate_left
   ·refine⟨_,_,rfl,fun _=>⟨w.heap.size,0,xs.toArray,rfl,zuz _,zcj hown,zb8 hown,by have:=hown.1;simp;omega,fun i hi=>?_⟩⟩;have hr:=zuO _ _ i _ _ _ (zb8 hown);have e:=zaU hown hfill (i:=i/2) (c:=i%2) (by omega) (by omega);rw[show i/2*2+i%2=i by omega] at e;rw[zuK,<-hr];rcases(show i%2=0\/i%2=1 by omega) with h2|h2<;>simp only[h2] at e<;>simp[e,slB]
   have e0:=zaU hown hfill (c:=0) hi (by omega);have e1:=zaU hown hfill (c:=1) hi (by omega);simp only[Nat.add_zero,zuK] at e0 e1 ⊢;exact⟨e0,e1⟩
theorem znK(k mn mx g:Int)(sv:Value)(rs:List (Int×Int))(w:World)(hs:zan lo w sv rs)(hn:rs.length<=1048576):
  Calls Tryz.prog 109 #[.agg #[.int .i64 k,sv,.int .i64 mn,.int .i64 mx,.int .i64 g]] w fun e w'=>∃sv',e=.returned (.agg #[.int .i64 k,sv',.int .i64 mn,.int .i64 mx,.int .i64 g])/\RngB w.heap.size w' sv' rs/\Below w.heap.size w w':=by
 go_enter Tryz.func109,Tryz.ntmps109
 go_wp2_with fail
 refine(zlL (lo:=lo) _ rs _ (hs.below ?_) hn).mono ?_
 ·exact(((Below.refl _ _).alloc (zuz _) _).alloc (by simp) _).alloc (by simp;omega) _
 rintro e w2 ⟨sv',rfl,hr,hb⟩;have hw:=hr.2;obtain⟨ao',cap',rfl,hm',hc'⟩:=hr.1;obtain⟨hcc,hff⟩:=zfX hb;have hz:=hb.size;simp only[World.size_alloc] at hc' hz hw;have hr:RngB (w.heap.size+1+1+1) w2 (.slice ao' rs.length cap') rs:=⟨⟨_,_,rfl,hm',hc'⟩,hw⟩;have hbb:=(((((Below.refl w.heap.size w).alloc (zuz _) _).alloc (by simp) _).alloc (by simp;omega) _).trans (hb.mono (by simp;omega)));clear hb;go_wp2;refine zuN (v:=.agg #[.int .i64 k,.slice ao' rs.length cap',.int .i64 mn,.int .i64 mx,.int .i64 g]) (by simp[results,Tryz.results109,go_sem,hcc]) rfl ⟨_,rfl,?_,?_⟩
 ·refine RngB.mono (lo:=w.heap.size+1+1+1) ?_ (by omega)
  iterate 9 refine RngB.setCell ?_ (by simp) _
  exact hr
 ·iterate 9 refine Below.setCell ?_ (by simp<;>omega) _
  exact hbb
theorem zlK(v:Value)(ns:List zau)(w:World)(hs:zaP lo w v ns)(hn:ns.length<=1048576)(hset:∀i,i<ns.length->(ns.getD i .zero).set.length<=1048576):
  Calls Tryz.prog 99 #[v] w fun e w'=>∃v',e=.returned v'/\NodB w.heap.size w' v' ns/\Below w.heap.size w w':=by
 obtain⟨ao,cap,rfl,hm,hc⟩:=hs;obtain⟨i0,hi,hz0,hz1,hz2⟩:=info_parts Tryz.infoNode
 go_enter Tryz.func99,Tryz.ntmps99
 go_wp2_with (refine wpList_make_full _ rfl _ _ 74 rfl w.heap.size 144 i0 _ 5 Tryz.underlying74 hi hz0 hz1 _ _ _ _ ns.length rfl rfl rfl rfl (by rw[hz2];omega) (by unfold maxLen;omega) (zuz _) ?_;intro w1 hown hgrow)
 have hbw:Below w.heap.size w w1:=(Below.refl _ _).grown hgrow (zuz _) (by intro k h;cases h);clear hgrow
 go_loopw [4] (fun i wr=>∃k:Nat,k<=ns.length/\i=.int .i64 k/\Below w.heap.size w wr/\∃(xs:List Value) (S:Nat->Value),wr.ownsRow w.heap.size 144 5 (.slice (some ⟨w.heap.size,0,none⟩) ns.length ns.length) ns.length xs/\
   zdl xs 5 k (ziJ ns S)/\∀j,j<k->RngB (w.heap.size+1) wr (S j) (ns.getD j .zero).set)
  (fun i _=>ns.length-(intOf i).toNat)
 case atStart=>exact⟨0,zuL _,rfl,hbw,_,fun _=>.nilIface,hown,fun j hj=>absurd hj (zuI _),fun j hj=>absurd hj (zuI _)⟩
 case round=>
  obtain⟨k,hk,rfl,hb,xs,S,hown,hfill,HS0⟩:=hrel;have HS:Hid (∀j,j<k->RngB (w.heap.size+1) wr (S j) (ns.getD j .zero).set):=HS0;clear HS0;have hgl:=zcj hown
  by_cases hlt:k<ns.length
  ·obtain⟨b,o,sv,nd,rfl,Hn,hbl,c0,c1,c2,c3,c4,hsv⟩:=hc.elem hb hlt;have hnd:nd.set.length<=1048576:=by have:=hset k hlt;rw[Hn.out] at this;exact this
   have Hset:Hid (∀i,i<ns.length->(ns.getD i .zero).set.length<=1048576):=hset;clear hset
   go_wp2_with (go_at_call 109;refine(znK _ _ _ _ _ _ _ hsv hnd).mono ?_;rintro e w2 ⟨sv',rfl,hr,hb2⟩;have hrw:=hr.2;obtain⟨ao',cap',rfl,hm',hc'⟩:=hr.1;have hown2:=zad hown hb2;obtain⟨u0,u1,u2,u3,u4,d0,d1,d2,d3,d4,f0,f1,f2,f3,f4⟩:=zq6 hown2 hlt)
   go_roundw
   case rel=>
    refine⟨k+1,by omega,by go_num,?_,_,upd S k (.slice ao' nd.set.length cap'),(((((hown2.stored _ _).1.stored _ _).1.stored _ _).1.stored _ _).1.stored _ _).1,zkT (hfill.congr fun j hj=>by simp only[ziJ,zid _ _ hj]) (by have:=hown2.1;omega) (by rw[ziJ,Hn.out,zaH]),fun j hj=>?_⟩
    ·iterate 5 refine Below.setCell ?_ (by simp) _
     exact zaa hb hb.size hb2
    ·iterate 5 refine RngB.setCell ?_ (by simp<;>omega) _
     by_cases e:j=k
     ·subst e;rw[zaH,Hn.out];exact RngB.mono ⟨⟨_,_,rfl,hm',hc'⟩,hrw⟩ (by omega)
     ·rw[zid _ _ (by omega)];exact(HS.out j (by omega)).below hb2
   case measure=>simp[intOf];omega
  ·go_wp2;have hkk:k=ns.length:=by omega
   rw[hkk] at hfill HS;refine zuN (v:=.slice (some ⟨w.heap.size,0,none⟩) ns.length ns.length) (by simp[results,Tryz.results99,go_sem]) rfl ⟨_,rfl,⟨⟨_,_,rfl,hm,fun _=>⟨w.heap.size,0,rfl,zuz _,hgl,fun i hi=>?_⟩⟩,?_⟩,hb⟩
   rotate_left
   ·refine⟨_,_,rfl,fun _=>⟨w.heap.size,0,xs.toArray,rfl,zuz _,hgl,zb8 hown,by have:=hown.1;simp;omega,fun i hi=>?_⟩⟩;have hr:=fun k=>zuO _ _ k _ _ _ (zb8 hown)
    refine⟨fun j hj hne=>?_,S i,?_,(HS.out i hi).2.keep (by omega) (zuz _) fun _ _ _ _ e=>e⟩
    ·have e:=zaU hown hfill (c:=j) hi hj;rw[zuK,<-hr];rcases(show j=0\/j=2\/j=3\/j=4 by omega) with h2|h2|h2|h2<;>subst h2<;>simp[ziJ] at e<;>simp[e,slB]
    ·have e:=zaU hown hfill (c:=1) hi (by omega);rw[zuK,<-hr,e]
     rfl
   have e0:=zaU hown hfill (c:=0) hi (by omega);have e1:=zaU hown hfill (c:=1) hi (by omega);have e2:=zaU hown hfill (c:=2) hi (by omega);have e3:=zaU hown hfill (c:=3) hi (by omega);have e4:=zaU hown hfill (c:=4) hi (by omega);simp only[Nat.add_zero,zuK] at e0 e1 e2 e3 e4 ⊢;exact⟨e0,⟨_,e1,(HS.out i hi).1.mono (by omega)⟩,e2,e3,e4⟩
theorem zkl(bol eol:Bool)(nv:Value)(ns:List zau)(w:World)(hs:zaP lo w nv ns)(hn:ns.length<=1048576)(hset:∀i,i<ns.length->(ns.getD i .zero).set.length<=1048576):
  Calls Tryz.prog 74 #[.agg #[.bool bol,.bool eol,nv]] w fun e w'=>∃nv',e=.returned (.agg #[.bool bol,.bool eol,nv'])/\NodB w.heap.size w' nv' ns/\Below w.heap.size w w':=by
 have Hset:Hid (∀i,i<ns.length->(ns.getD i .zero).set.length<=1048576):=hset;clear hset
 go_enter Tryz.func74,Tryz.ntmps74
 go_wp2_with fail
 refine(zlK (lo:=lo) _ ns _ (hs.below ?_) hn Hset.out).mono ?_
 ·exact(((Below.refl _ _).alloc (zuz _) _).alloc (by simp) _).alloc (by simp;omega) _
 rintro e w2 ⟨sv',rfl,hr,hb⟩;have hw:=hr.2;obtain⟨ao',cap',rfl,hm',hc'⟩:=hr.1;obtain⟨hcc,hff⟩:=zfX hb;have hz:=hb.size;simp only[World.size_alloc] at hc' hz hw;have hr:NodB (w.heap.size+1+1+1) w2 (.slice ao' ns.length cap') ns:=⟨⟨_,_,rfl,hm',hc'⟩,hw⟩;have hbb:=(((((Below.refl w.heap.size w).alloc (zuz _) _).alloc (by simp) _).alloc (by simp;omega) _).trans (hb.mono (by simp;omega)));clear hb;go_wp2;refine zuN (v:=.agg #[.bool bol,.bool eol,.slice ao' ns.length cap']) (by simp[results,Tryz.results74,go_sem,hcc]) rfl ⟨_,rfl,?_,?_⟩
 ·refine NodB.mono (lo:=w.heap.size+1+1+1) ?_ (by omega)
  iterate 4 refine NodB.setCell ?_ (by simp) _
  exact hr
 ·iterate 4 refine Below.setCell ?_ (by simp<;>omega) _
  exact hbb
theorem zi5(v:Value)(ns:List zai)(w:World)(hs:zax lo w v ns)(hsm:Small ns):
  Calls Tryz.prog 46 #[v] w fun e w'=>∃v',e=.returned v'/\BraB w.heap.size w' v' ns/\Below w.heap.size w w':=by
 obtain⟨ao,cap,rfl,hm,hc⟩:=hs;have hn:=hsm.1;obtain⟨i0,hi,hz0,hz1,hz2⟩:=info_parts Tryz.infoBranch
 go_enter Tryz.func46,Tryz.ntmps46
 go_wp2_with (refine wpList_make_full _ rfl _ _ 55 rfl w.heap.size 76 i0 _ 3 Tryz.underlying55 hi hz0 hz1 _ _ _ _ ns.length rfl rfl rfl rfl (by rw[hz2];omega) (by unfold maxLen;omega) (zuz _) ?_;intro w1 hown hgrow)
 have hbw:Below w.heap.size w w1:=(Below.refl _ _).grown hgrow (zuz _) (by intro k h;cases h);clear hgrow
 go_loopw [4] (fun i wr=>∃k:Nat,k<=ns.length/\i=.int .i64 k/\Below w.heap.size w wr/\∃(xs:List Value) (S:Nat->Value),wr.ownsRow w.heap.size 76 3 (.slice (some ⟨w.heap.size,0,none⟩) ns.length ns.length) ns.length xs/\
   zdl xs 3 k (zeW ns S)/\∀j,j<k->NodB (w.heap.size+1) wr (S j) (ns.getD j .zero).nodes)
  (fun i _=>ns.length-(intOf i).toNat)
 case atStart=>exact⟨0,zuL _,rfl,hbw,_,fun _=>.nilIface,hown,fun j hj=>absurd hj (zuI _),fun j hj=>absurd hj (zuI _)⟩
 case round=>
  obtain⟨k,hk,rfl,hb,xs,S,hown,hfill,HS0⟩:=hrel;have HS:Hid (∀j,j<k->NodB (w.heap.size+1) wr (S j) (ns.getD j .zero).nodes):=HS0;clear HS0;have hgl:=zcj hown
  by_cases hlt:k<ns.length
  ·obtain⟨b,o,nv,nd,rfl,Hn,hbl,c0,c1,c2,hsv⟩:=hc.elem hb hlt;have hnd:nd.nodes.length<=1048576:=by have:=(hsm.2 k hlt).1;rw[Hn.out] at this;exact this
   have Hset:Hid (∀j,j<nd.nodes.length->(nd.nodes.getD j .zero).set.length<=1048576):=by have:=(hsm.2 k hlt).2;rw[Hn.out] at this;exact this
   go_wp2_with (go_at_call 74;refine(zkl _ _ _ _ _ hsv hnd Hset.out).mono ?_;rintro e w2 ⟨sv',rfl,hr,hb2⟩;have hrw:=hr.2;obtain⟨ao',cap',rfl,hm',hc'⟩:=hr.1;have hown2:=zad hown hb2;obtain⟨u0,u1,u2,d0,d1,d2,f0,f1,f2⟩:=zo4 hown2 hlt)
   go_roundw
   case rel=>
    refine⟨k+1,by omega,by go_num,?_,_,upd S k (.slice ao' nd.nodes.length cap'),(((hown2.stored _ _).1.stored _ _).1.stored _ _).1,zjp (hfill.congr fun j hj=>by simp only[zeW,zid _ _ hj]) (by have:=hown2.1;omega) (by rw[zeW,Hn.out,zaH]),fun j hj=>?_⟩
    ·iterate 3 refine Below.setCell ?_ (by simp) _
     exact zaa hb hb.size hb2
    ·iterate 3 refine NodB.setCell ?_ (by simp<;>omega) _
     by_cases e:j=k
     ·subst e;rw[zaH,Hn.out];exact NodB.mono ⟨⟨_,_,rfl,hm',hc'⟩,hrw⟩ (by omega)
     ·rw[zid _ _ (by omega)];exact(HS.out j (by omega)).below hb2
   case measure=>simp[intOf];omega
  ·go_wp2;have hkk:k=ns.length:=by omega
   rw[hkk] at hfill HS;refine zuN (v:=.slice (some ⟨w.heap.size,0,none⟩) ns.length ns.length) (by simp[results,Tryz.results46,go_sem]) rfl ⟨_,rfl,⟨⟨_,_,rfl,hm,fun _=>⟨w.heap.size,0,rfl,zuz _,hgl,fun i hi=>?_⟩⟩,?_⟩,hb⟩
   rotate_left
   ·refine⟨_,_,rfl,fun _=>⟨w.heap.size,0,xs.toArray,rfl,zuz _,hgl,zb8 hown,by have:=hown.1;simp;omega,fun i hi=>?_⟩⟩;have hr:=fun k=>zuO _ _ k _ _ _ (zb8 hown)
    refine⟨fun j hj=>?_,S i,?_,(HS.out i hi).2.keep (by omega) (zuz _) fun _ _ _ _ e=>e⟩
    ·have e:=zaU hown hfill (c:=j) hi (by omega);rw[zuK,<-hr];rcases(show j=0\/j=1 by omega) with h2|h2<;>subst h2<;>simp[zeW] at e<;>simp[e,slB]
    ·have e:=zaU hown hfill (c:=2) hi (by omega);rw[zuK,<-hr,e]
     rfl
   have e0:=zaU hown hfill (c:=0) hi (by omega);have e1:=zaU hown hfill (c:=1) hi (by omega);have e2:=zaU hown hfill (c:=2) hi (by omega);simp only[Nat.add_zero,zuK] at e0 e1 e2 ⊢;exact⟨e0,e1,⟨_,e2,(HS.out i hi).1.mono (by omega)⟩⟩
theorem znM(g:Int)(bv:Value)(bs:List zai)(w:World)(hs:zax lo w bv bs)(hsm:Small bs):
  Calls Tryz.prog 22 #[.agg #[bv,.int .i64 g]] w fun e w'=>∃bv',e=.returned (.agg #[bv',.int .i64 g])/\BraB w.heap.size w' bv' bs/\Below w.heap.size w w':=by
 go_enter Tryz.func22,Tryz.ntmps22
 go_wp2_with fail
 refine(zi5 (lo:=lo) _ bs _ (hs.below ?_) hsm).mono ?_
 ·exact(((Below.refl _ _).alloc (zuz _) _).alloc (by simp) _).alloc (by simp;omega) _
 rintro e w2 ⟨sv',rfl,hr,hb⟩;have hw:=hr.2;obtain⟨ao',cap',rfl,hm',hc'⟩:=hr.1;obtain⟨hcc,hff⟩:=zfX hb;have hz:=hb.size;simp only[World.size_alloc] at hc' hz hw;have hr:BraB (w.heap.size+1+1+1) w2 (.slice ao' bs.length cap') bs:=⟨⟨_,_,rfl,hm',hc'⟩,hw⟩;have hbb:=(((((Below.refl w.heap.size w).alloc (zuz _) _).alloc (by simp) _).alloc (by simp;omega) _).trans (hb.mono (by simp;omega)));clear hb;go_wp2;refine zuN (v:=.agg #[.slice ao' bs.length cap',.int .i64 g]) (by simp[results,Tryz.results22,go_sem,hcc]) rfl ⟨_,rfl,?_,?_⟩
 ·refine BraB.mono (lo:=w.heap.size+1+1+1) ?_ (by omega)
  iterate 4 refine BraB.setCell ?_ (by simp) _
  exact hr
 ·iterate 4 refine Below.setCell ?_ (by simp<;>omega) _
  exact hbb
end
section
variable {ns:List zau}{l:Int}{rs:List za0}{lo:Nat}
open Go.RowKit
attribute [local go_sem ↓] Go.wp_at_zero Go.wp_at_succ
def zbJ:List za0->Int->Int
 |[],l=>l
 |r::rs,l=>if zaF r.branches l<0 then -1 else zbJ rs (zaF r.branches l)
def zcv(rs:List za0)(left:Int):Int:=if left-rs.length<0 then -1 else zbJ rs (left-rs.length)
theorem zi4(ns:List za0)(i:Nat)(hi:i<ns.length)(l:Int):
  zbJ (ns.drop i) l=if zaF (ns.getD i .zero).branches l<0 then -1 else zbJ (ns.drop (i+1)) (zaF (ns.getD i .zero).branches l):=by
 rw[ztG hi];simp[zbJ,List.getD,hi]
theorem zpL{n:zau}:∀(ns:List zau) (l:Int),0<=l->0<=zbr ns l->n∈ns->(n.set.length:Int)<=l
 |[],_,_,_,h=>by cases h
 |m::ns,l,hl,h,hm=>by
  unfold zbr at h;have hq:=zcQ m.set l hl
  by_cases hc:za5 m.set l<0
  ·rw[zuV hc] at h;omega
  ·rw[zuU hc] at h;rcases zud.1 hm with e|e
   ·subst e;unfold za5 at hc;split at hc<;>omega
   ·have:=zpL ns _ (by omega) h e;omega
theorem zsI(h:0<=za1 ns l):(ns.length:Int)<=l/\∀n,n∈ns->(n.set.length:Int)<=l:=by
 unfold za1 at h
 by_cases hc:l-ns.length<0
 ·rw[zuV hc] at h;omega
 ·rw[zuU hc] at h;exact⟨by omega,fun n hn=>by have:=zpL ns _ (by omega) h hn;omega⟩
theorem zpK{b:zai}:∀(bs:List zai) (l:Int),0<=l->0<=zaS bs l->b∈bs->((b.nodes.length:Int)<=l/\∀n,n∈b.nodes->(n.set.length:Int)<=l)
 |[],_,_,_,h=>by cases h
 |m::ns,l,hl,h,hm=>by
  unfold zaS at h;have hq:=zdh m.nodes l hl
  by_cases hc:za1 m.nodes l<0
  ·rw[zuV hc] at h;omega
  ·rw[zuU hc] at h;rcases zud.1 hm with e|e
   ·subst e;exact zsI (by omega)
   ·have:=zpK ns _ (by omega) h e;exact⟨by omega,fun n hn=>by have:=this.2 n hn;omega⟩
theorem zgA{α:Type}{d:α}{l:List α}{i:Nat}(h:i<l.length):l.getD i d∈l:=by
 simp[List.getD,h]
theorem zsH{bs:List zai}(hl2:l<=1048576)(h:0<=zaF bs l):Small bs:=by
 unfold zaF at h
 by_cases hc:l-bs.length<0
 ·rw[zuV hc] at h;omega
 ·rw[zuU hc] at h;refine⟨by omega,fun i hi=>?_⟩;have:=zpK bs _ (by omega) h (zgA (d:=.zero) hi);exact⟨by omega,fun j hj=>by have:=this.2 _ (zgA (d:=.zero) hj);omega⟩
theorem zkg{r:za0}:∀(rs:List za0) (l:Int),0<=l->l<=1048576->0<=zbJ rs l->r∈rs->Small r.branches
 |[],_,_,_,_,h=>by cases h
 |m::ns,l,hl,hl2,h,hm=>by
  unfold zbJ at h;have hq:=zcJ m.branches l hl
  by_cases hc:zaF m.branches l<0
  ·rw[zuV hc] at h;omega
  ·rw[zuU hc] at h;rcases zud.1 hm with e|e
   ·subst e;exact zsH hl2 (by omega)
   ·exact zkg ns _ (by omega) (by omega) h e
theorem zib(h:0<=zcv rs 1048576):zdB rs:=by
 unfold zcv at h
 by_cases hc:(1048576:Int)-rs.length<0
 ·rw[zuV hc] at h;omega
 ·rw[zuU hc] at h;exact⟨by omega,fun k hk=>zkg rs _ (by omega) (by omega) h (zgA hk)⟩
theorem zrx:∀(ns:List zau) (l:Int),0<=l->0<=zbr ns l->(cNs ns:Int)<=4*ns.length+2*(l-zbr ns l)
 |[],l,_,h=>by simp[cNs,zbr]
 |m::ns,l,hl,h=>by
  have hq:=zcQ m.set l hl;have e:zbr (m::ns) l=if za5 m.set l<0 then -1 else zbr ns (za5 m.set l):=rfl
  rw[e] at h ⊢
  by_cases hc:za5 m.set l<0
  ·rw[zuV hc] at h;omega
  ·rw[zuU hc] at h ⊢;have:=zrx ns _ (by omega) h;have hs:za5 m.set l=l-m.set.length:=by unfold za5 at hc ⊢;split at hc<;>omega
   simp only[cNs,zub,zup,cNd,zt2] at this ⊢;omega
theorem zr2(h:0<=za1 ns l):(cNs ns:Int)<=4*(l-za1 ns l):=by
 unfold za1 at h ⊢
 by_cases hc:l-ns.length<0
 ·rw[zuV hc] at h;omega
 ·rw[zuU hc] at h ⊢;have:=zrx ns _ (by omega) h;have:=zhg ns (l-ns.length) (by omega);omega
theorem zrw:∀(ns:List zai) (l:Int),0<=l->0<=zaS ns l->(cBs ns:Int)<=2*ns.length+4*(l-zaS ns l)
 |[],l,_,h=>by simp[cBs,zaS]
 |m::ns,l,hl,h=>by
  have hq:=zdh m.nodes l hl;have e:zaS (m::ns) l=if za1 m.nodes l<0 then -1 else zaS ns (za1 m.nodes l):=rfl
  rw[e] at h ⊢
  by_cases hc:za1 m.nodes l<0
  ·rw[zuV hc] at h;omega
  ·rw[zuU hc] at h ⊢;have:=zrw ns _ (by omega) h;have:=zr2 (by omega:0<=za1 m.nodes l);simp only[cBs,zub,zup,cBr,zt2] at this ⊢;simp only[cBs] at *;omega
theorem zr1{ns:List zai}(h:0<=zaF ns l):(cBs ns:Int)<=4*(l-zaF ns l):=by
 unfold zaF at h ⊢
 by_cases hc:l-ns.length<0
 ·rw[zuV hc] at h;omega
 ·rw[zuU hc] at h ⊢;have:=zrw ns _ (by omega) h;have:=zeK ns (l-ns.length) (by omega);omega
theorem zry:∀(ns:List za0) (l:Int),0<=l->0<=zbJ ns l->(cRs ns:Int)<=ns.length+4*(l-zbJ ns l)
 |[],l,_,h=>by simp[cRs,zbJ]
 |m::ns,l,hl,h=>by
  have hq:=zcJ m.branches l hl;have e:zbJ (m::ns) l=if zaF m.branches l<0 then -1 else zbJ ns (zaF m.branches l):=rfl
  rw[e] at h ⊢
  by_cases hc:zaF m.branches l<0
  ·rw[zuV hc] at h;omega
  ·rw[zuU hc] at h ⊢;have:=zry ns _ (by omega) h;have:=zr1 (by omega:0<=zaF m.branches l);simp only[cRs,zub,zup,cRl,zt2] at this ⊢;simp only[cRs] at *;omega
theorem zr3(h:0<=zcv rs 1048576):cRs rs<=4194304:=by
 unfold zcv at h
 by_cases hc:(1048576:Int)-rs.length<0
 ·rw[zuV hc] at h;omega
 ·rw[zuU hc] at h;have:=zry rs _ (by omega) h;omega
theorem zic(v:Value)(ns:List za0)(left:Int)(w:World)(hs:zaW lo w v ns)(h0:0<=left)(h1:left<=1048576):
  Calls Tryz.prog 4 #[v,.int .i64 left] w fun e w'=>e=.returned (.int .i64 (zcv ns left))/\Below w.heap.size w w':=by
 obtain⟨ao,cap,rfl,hm,hc⟩:=hs
 by_cases hle:left-ns.length<0
 ·go_enter Tryz.func4,Tryz.ntmps4
  go_wp2;go_ret;exact⟨zbl (by unfold zcv;split<;>omega),Below.refl _ _⟩
 ·have HS:Hid (zcv ns left=zbJ (ns.drop 0) (left-ns.length)):=by show _=_;rw[zcv,zuU hle];rfl
  go_enter Tryz.func4,Tryz.ntmps4
  go_wp2
  go_loopw [1,5] (fun l i wr=>∃k:Nat,k<=ns.length/\i=.int .i64 k/\∃L:Int,l=.int .i64 L/\0<=L/\L<=1048576/\Hid (zcv ns left=zbJ (ns.drop k) L)/\Below w.heap.size w wr)
   (fun _ i _=>ns.length-(intOf i).toNat)
  case atStart=>exact⟨0,zuL _,rfl,_,rfl,by omega,by omega,HS,Below.refl _ _⟩
  case round=>
   obtain⟨k,hk,rfl,L,rfl,hL0,hL1,HS,hb⟩:=hrel
   by_cases hlt:k<ns.length
   ·obtain⟨b,o,nv,nd,rfl,Hn,hbl,c0,c1,hnv0⟩:=hc.elem hb hlt;have hnv:=hnv0.below hb;clear hnv0;have hz:=hb.size;have hq:=zcJ nd.branches L hL0;have HD:Hid (zbJ (ns.drop k) L=if zaF nd.branches L<0 then -1 else zbJ (ns.drop (k+1)) (zaF nd.branches L)):=by have:=zi4 ns k hlt L;rw[Hn.out] at this;exact this
    by_cases hneg:zaF nd.branches L<0
    ·go_wp2_with (go_at_call 13;refine(zkh _ _ _ _ _ hnv hL0 hL1).mono ?_;rintro e w1 ⟨rfl,hb1⟩)
     go_ret
     exact⟨zbl (by rw[HS.out,HD.out,zuV hneg]),zaa hb hz hb1⟩
    ·go_wp2_with (go_at_call 13;refine(zkh _ _ _ _ _ hnv hL0 hL1).mono ?_;rintro e w1 ⟨rfl,hb1⟩)
     go_roundw
     case rel=>exact⟨k+1,by omega,by go_num,_,rfl,by omega,by omega,by show _=_;rw[HS.out,HD.out,zuU (by omega)],zaa hb hz hb1⟩
     case measure=>simp[intOf];omega
   ·go_wp2;go_ret;exact⟨zbl (by rw[HS.out,ztH (by omega)];rfl),hb⟩
def zlx(ns:List za0)(S:Nat->Value)(j:Nat):List Value:=[S j,.int .i64 (ns.getD j .zero).groups]
theorem zoD:(Tryz.prog.info? 57).map (fun i=>(i.zero,i.size,i.bytes))=some (some (.agg #[.slice none 0 0,.int .i64 0]),2,32):=by kernel_rfl
theorem zeF(v:Value)(ns:List za0)(w:World)(hs:zaW lo w v ns)(hsm:zdB ns):
  Calls Tryz.prog 6 #[v] w fun e w'=>∃v',e=.returned v'/\zaW w.heap.size w' v' ns/\RulW w.heap.size w'.heap.size w' v' ns/\Below w.heap.size w w':=by
 obtain⟨ao,cap,rfl,hm,hc⟩:=hs;have hn:=hsm.1;obtain⟨i0,hi,hz0,hz1,hz2⟩:=info_parts zoD
 go_enter Tryz.func6,Tryz.ntmps6
 go_wp2_with (refine wpList_make_full _ rfl _ _ 29 rfl w.heap.size 57 i0 _ 2 Tryz.underlying29 hi hz0 hz1 _ _ _ _ ns.length rfl rfl rfl rfl (by rw[hz2];omega) (by unfold maxLen;omega) (zuz _) ?_;intro w1 hown hgrow)
 have hbw:Below w.heap.size w w1:=(Below.refl _ _).grown hgrow (zuz _) (by intro k h;cases h);clear hgrow
 go_loopw [4] (fun i wr=>∃k:Nat,k<=ns.length/\i=.int .i64 k/\Below w.heap.size w wr/\∃(xs:List Value) (S:Nat->Value),wr.ownsRow w.heap.size 57 2 (.slice (some ⟨w.heap.size,0,none⟩) ns.length ns.length) ns.length xs/\
   zdl xs 2 k (zlx ns S)/\∀j,j<k->BraB (w.heap.size+1) wr (S j) (ns.getD j .zero).branches)
  (fun i _=>ns.length-(intOf i).toNat)
 case atStart=>exact⟨0,zuL _,rfl,hbw,_,fun _=>.nilIface,hown,fun j hj=>absurd hj (zuI _),fun j hj=>absurd hj (zuI _)⟩
 case round=>
  obtain⟨k,hk,rfl,hb,xs,S,hown,hfill,HS0⟩:=hrel;have HS:Hid (∀j,j<k->BraB (w.heap.size+1) wr (S j) (ns.getD j .zero).branches):=HS0;clear HS0;have hgl:=zcj hown
  by_cases hlt:k<ns.length
  ·obtain⟨b,o,nv,nd,rfl,Hn,hbl,c0,c1,hsv0⟩:=hc.elem hb hlt;have hsv:=hsv0.below hb;clear hsv0;have Hset:Hid (Small nd.branches):=by have:=hsm.2 k hlt;rw[Hn.out] at this;exact this
   go_wp2_with (go_at_call 22;refine(znM _ _ _ _ hsv Hset.out).mono ?_;rintro e w2 ⟨sv',rfl,hr,hb2⟩;have hrw:=hr.2;obtain⟨ao',cap',rfl,hm',hc'⟩:=hr.1;have hown2:=zad hown hb2;obtain⟨u0,u1,d0,d1,f0,f1⟩:=zo5 hown2 hlt)
   go_roundw
   case rel=>
    refine⟨k+1,by omega,by go_num,?_,_,upd S k (.slice ao' nd.branches.length cap'),((hown2.stored _ _).1.stored _ _).1,zhP (hfill.congr fun j hj=>by simp only[zlx,zid _ _ hj]) (by have:=hown2.1;omega) (by rw[zlx,Hn.out,zaH]),fun j hj=>?_⟩
    ·iterate 2 refine Below.setCell ?_ (by simp) _
     exact zaa hb hb.size hb2
    ·iterate 2 refine BraB.setCell ?_ (by simp<;>omega) _
     by_cases e:j=k
     ·subst e;rw[zaH,Hn.out];exact BraB.mono ⟨⟨_,_,rfl,hm',hc'⟩,hrw⟩ (by omega)
     ·rw[zid _ _ (by omega)];exact(HS.out j (by omega)).below hb2
   case measure=>simp[intOf];omega
  ·go_wp2;have hkk:k=ns.length:=by omega
   rw[hkk] at hfill HS;refine zuN (v:=.slice (some ⟨w.heap.size,0,none⟩) ns.length ns.length) (by simp[results,Tryz.results6,go_sem]) rfl ⟨_,rfl,⟨_,_,rfl,hm,fun _=>⟨w.heap.size,0,rfl,zuz _,hgl,fun i hi=>?_⟩⟩,?_,hb⟩
   rotate_left
   ·refine⟨_,_,rfl,fun _=>⟨w.heap.size,0,xs.toArray,rfl,zuz _,hgl,zb8 hown,by have:=hown.1;simp;omega,fun i hi=>?_⟩⟩;have hr:=fun k=>zuO _ _ k _ _ _ (zb8 hown)
    refine⟨?_,S i,?_,(HS.out i hi).2.keep (by omega) (zuz _) fun _ _ _ _ e=>e⟩
    ·have e:=zaU hown hfill (c:=1) hi (by omega);rw[zuK,<-hr,e]
     rfl
    ·have e:=zaU hown hfill (c:=0) hi (by omega);rw[Nat.add_zero] at e;rw[zuK,<-hr,e]
     rfl
   have e0:=zaU hown hfill (c:=0) hi (by omega);have e1:=zaU hown hfill (c:=1) hi (by omega);simp only[Nat.add_zero,zuK] at e0 e1 ⊢;exact⟨⟨_,e0,(HS.out i hi).1.mono (by omega)⟩,e1⟩
theorem zmU{l1 l2:Nat}(v v2:Value)(rs:List za0)(w:World)(hs:zaW l1 w v rs)(hs2:zaW l2 w v2 rs):
  Calls Tryz.prog 9 #[v,v2] w fun e w'=>e=.returned (.bool true)/\Below w.heap.size w w':=by
 obtain⟨ao,cap,rfl,hm,hc⟩:=hs;obtain⟨ao2,cap2,rfl,_,hc2⟩:=hs2
 go_enter Tryz.func9,Tryz.ntmps9
 go_wp2
 go_loopw [5] (fun i wr=>∃k:Nat,k<=rs.length/\i=.int .i64 k/\Below w.heap.size w wr)
  (fun i _=>rs.length-(intOf i).toNat)
 case atStart=>exact⟨0,zuL _,rfl,Below.refl _ _⟩
 case round=>
  obtain⟨k,hk,rfl,hb⟩:=hrel
  by_cases hlt:k<rs.length
  ·obtain⟨b,o,nv,nd,rfl,Hn,hbl,c0,c1,hsv⟩:=hc.elem hb hlt;obtain⟨b2,o2,nv2,nd2,rfl,Hn2,hbl2,d0,d1,hsv2⟩:=hc2.elem hb hlt;have hee:nd=nd2:=Hn.out.symm.trans Hn2.out;subst hee;have hbr:b<wr.heap.size:=zuB hbl hb.size;have hbr2:b2<wr.heap.size:=zuB hbl2 hb.size;have hi0:(0:Int)<=(k:Int):=by omega
   have hi1:(k:Int)<(rs.length:Int):=by omega
   have hq1:zax l1 wr.drew nv nd.branches:=hsv.below hb.drew;have hq2:zax l2 wr.drew nv2 nd.branches:=hsv2.below hb.drew;clear hsv hsv2;go_wp2
   go_region_held3 (fun w'=>w'.cell? ⟨b,o+k*2,none⟩=some nv/\w'.cell? ⟨b,o+k*2+1,none⟩=some (.int .i64 nd.groups)/\w'.cell? ⟨b2,o2+k*2,none⟩=some nv2/\w'.cell? ⟨b2,o2+k*2+1,none⟩=some (.int .i64 nd.groups)) ((first|go_keep|exact⟨(hcc _ _ hbr).trans c0,(hcc _ _ hbr).trans c1,(hcc _ _ hbr2).trans d0,(hcc _ _ hbr2).trans d1⟩)) ((go_at_call 28;refine(zom _ _ _ _ _ hq1 hq2).mono ?_;rintro e w2 ⟨rfl,hb2⟩;obtain⟨hcc,_⟩:=zfX hb2))
   go_wp2
   go_roundw
   case rel=>exact⟨k+1,by omega,by go_num,zaa hb.drew hb.size hb2⟩
   case measure=>simp[intOf];omega
  ·go_wp2;go_ret;exact⟨rfl,hb⟩
end
variable {l L:List St}{i j c k most K:Nat}{S:St}{bs:List BrG}{fst:Bool}{nx:List Nat}
theorem ziw(h:i<l.length):l.getD i zaZ=l[i]:=by rw[List.getD,ztT h];rfl
open Classical in
theorem zst(h1:1<=j)(h2:j<L.length)(he:L.getD j zaZ=S)(hn:∀i,1<=i->i<j->L.getD i zaZ≠S):nxtI L S=j:=by
 unfold nxtI;have hg:∀i,L.tail.getD i zaZ=L.getD (i+1) zaZ:=fun i=>by cases L<;>simp[List.getD]
 have hl:L.tail.length=L.length-1:=List.length_tail;have:L.tail.findIdx (fun T=>decide (T=S))=j-1:=by
  rw[List.findIdx_eq (by omega)];have gd:∀(i:Nat) (h:i<L.tail.length),L.tail[i]=L.getD (i+1) zaZ:=fun i h=>by rw[<-hg,ziw h]
  refine⟨?_,fun i hi=>?_⟩
  ·rw[gd,show j-1+1=j by omega,he];simp
  ·rw[gd];simp only[decide_eq_false_iff_not];exact hn (i+1) (by omega) (by omega)
 omega
open Classical in
theorem zq5(h0:0<L.length)(hn:∀i,1<=i->i<L.length->L.getD i zaZ≠S):nxtI L S=L.length:=by
 unfold nxtI;have hg:∀i,L.tail.getD i zaZ=L.getD (i+1) zaZ:=fun i=>by cases L<;>simp[List.getD]
 have hl:L.tail.length=L.length-1:=List.length_tail;have:L.tail.findIdx (fun T=>decide (T=S))=L.tail.length:=by
  rw[List.findIdx_eq_length];intro x hx;obtain⟨i,hi,rfl⟩:=zuf.1 hx;have gd:L.tail[i]=L.getD (i+1) zaZ:=by rw[<-hg,ziw hi]
  rw[gd];simp only[decide_eq_false_iff_not];exact hn (i+1) (by omega) (by omega)
 omega
theorem zpS(h:nxtI L (stpG bs fst S c)=j)(hj:j<L.length):updG bs fst S (L,nx) c=(L,nx++[j]):=by
 unfold updG;show (if nxtI L (stpG bs fst S c)<L.length then L else L++[stpG bs fst S c],nx++[nxtI L (stpG bs fst S c)])=_;rw[h,zuV hj]
theorem zpU(h:nxtI L (stpG bs fst S c)=L.length):updG bs fst S (L,nx) c=(L++[stpG bs fst S c],nx++[L.length]):=by
 unfold updG;show (if nxtI L (stpG bs fst S c)<L.length then L else L++[stpG bs fst S c],nx++[nxtI L (stpG bs fst S c)])=_;rw[h,zuU (by omega)]
theorem zjw{t:List St}(h:k<l.length):(l++t).getD k zaZ=l.getD k zaZ:=by simp[List.getD,List.getElem?_append_left h]
theorem zmq(bs:List BrG)(fst:Bool)(S:St)(st:List St×List Nat)(m:Nat){i:Nat}(h:i<st.1.length):(zb6 bs fst S st m).1.getD i zaZ=st.1.getD i zaZ:=by
 obtain⟨l,e⟩:=zms bs fst S st m;rw[e,zjw h]
theorem zsy(bs:List BrG)(k d:Nat){i:Nat}(h:i<(runG bs k).1.length):(runG bs (k+d)).1.getD i zaZ=(runG bs k).1.getD i zaZ/\(runG bs k).1.length<=(runG bs (k+d)).1.length:=by
 induction d with
 |zero=>exact⟨rfl,zuz _⟩
 |succ d ih=>
  have e:runG bs (k+(d+1))=runG bs (k+d+1):=rfl;refine⟨?_,zuA ih.2 (by rw[e];exact zly bs (k+d))⟩;rw[e,zfe,zmq _ _ _ _ _ (by omega)];exact ih.1
noncomputable def setI (bs:List BrG) (k:Nat):St:=(runG bs k).1.getD k zaZ
theorem zpB(hi:i<=k)(h:i<(runG bs i).1.length):(runG bs k).1.getD i zaZ=setI bs i:=by
 have:=(zsy bs i (k-i) h).1;rw[show i+(k-i)=k by omega] at this;exact this
noncomputable def tagL (bs:List BrG) (we:Bool) (k:Nat):List Int:=(List.range k).map fun i=>ansG bs (i==0) (setI bs i) we
theorem zfi(bs:List BrG)(we:Bool)(k:Nat):tagL bs we (k+1)=tagL bs we k++[ansG bs (k==0) (setI bs k) we]:=by simp[tagL,List.range_succ]
theorem zdu(bs:List BrG)(we:Bool)(k:Nat):(tagL bs we k).length=k:=by simp[tagL]
theorem zoB(bs:List BrG):0<(hdsG bs).length:=by
 have mono:∀n,0<(zah (posG bs).length (posR bs) (n+1)).length:=fun n=>by
  induction n with
  |zero=>rw[zba];simp[zah,clsF]
  |succ n ih=>
   rw[zba];split
   ·exact ih
   ·rw[zt1];omega
 exact mono 255
theorem zgE(bs:List BrG):(hdsG bs).length<=256:=zcq _ _ 256
theorem zrC(bs:List BrG){m:Nat}(h:m<(hdsG bs).length):(hdsG bs).getD m 0<256:=by
 refine zc0 _ _ 256 _ (?_:_∈hdsG bs);rw[show (hdsG bs).getD m 0=(hdsG bs)[m] by simp[List.getD,h]];exact zt0 _
theorem zs3(bs:List BrG){c:Nat}(h:c<256):clsG bs c<(hdsG bs).length:=by
 have h1:clsF (posG bs).length (posR bs) c<(zah (posG bs).length (posR bs) (c+1)).length:=by
  rw[zba];split
  ·assumption
  ·rw[zt1];have:clsF (posG bs).length (posR bs) c<=(zah (posG bs).length (posR bs) c).length:=ztN;simp;omega
 have mono:∀d,(zah (posG bs).length (posR bs) (c+1)).length<=(zah (posG bs).length (posR bs) (c+1+d)).length:=fun d=>by
  induction d with
  |zero=>exact zuz _
  |succ d ih=>
   refine zuA ih ?_;rw[show c+1+(d+1)=(c+1+d)+1 from rfl,zba];split
   ·exact zuz _
   ·rw[zt1];omega
 have:=mono (255-c);rw[show c+1+(255-c)=256 by omega] at this;exact zuB h1 this
theorem zio{α:Type}{lo hi:Int}{l:List α}{f:α->Int}(h:∀x∈l,lo<=f x/\f x<=hi):zcY lo hi (l.map f)=true:=by
 unfold zcY;rw[ztC];intro y hy;obtain⟨x,hx,rfl⟩:=zug.1 hy;exact zdb.2 (h x hx)
theorem zoh(hE:EndG bs most K)(hm:most<=4000)(hr:∀(k:Nat) (b:BrG),bs[k]?=some b->b.rule<=99):zaE (dfaG bs K):=by
 have hK:0<K:=by rw[<-hE.len];exact zpv bs K
 have hK2:K<=4000:=by
  have:=(hE.go (K-1) (by omega)).2;rw[show K-1+1=K by omega,hE.len] at this;omega
 have hi:=zfE bs K;have hp:=zoB bs;have hl:=zgE bs;refine⟨by simp[dfaG],?_,?_,?_,?_,by simp[dfaG],?_,?_,?_,?_,?_⟩
 ·show (1:Int)<=((hdsG bs).length:Nat);omega
 ·show (((hdsG bs).length:Nat):Int)<=256;omega
 ·show (1:Int)<=(((List.range K).map _).length:Nat);rw[zt3,zt5];omega
 ·show ((((List.range K).map _).length:Nat):Int)<=4000;rw[zt3,zt5];omega
 ·show ((((runG bs K).2.map _).length:Nat):Int)=(((List.range K).map _).length:Nat)*((hdsG bs).length:Nat);rw[zt3,zt3,zt5,hi.nl,Int.natCast_mul]
 ·refine zio fun c hc=>?_
  have:=zs3 bs (zuh.1 hc);show (0:Int)<=(clsG bs c:Nat)/\((clsG bs c:Nat):Int)<=((hdsG bs).length:Nat)-1;omega
 ·refine zio fun x hx=>?_
  have:=hi.lt x hx;rw[hE.len] at this;show (0:Int)<=(x:Nat)/\((x:Nat):Int)<=(((List.range K).map _).length:Nat)-1;rw[zt3,zt5];omega
 ·exact zio fun k _=>zrt bs _ _ _ hr
 ·exact zio fun k _=>zrt bs _ _ _ hr
theorem zl4(hE:EndG bs most K):(dfaG bs K).tag=tagL bs false K/\(dfaG bs K).fin=tagL bs true K:=by
 constructor
 ·show (List.range K).map _=(List.range K).map _;refine zua fun k hk=>?_
  have hk:=zuh.1 hk;rw[zpB (Nat.le_of_lt hk) (hE.go k hk).1]
 ·show (List.range K).map _=(List.range K).map _;refine zua fun k hk=>?_
  have hk:=zuh.1 hk;rw[zpB (Nat.le_of_lt hk) (hE.go k hk).1]
end Go.Proofs.YthddplbodacjgaaGreatDoor
