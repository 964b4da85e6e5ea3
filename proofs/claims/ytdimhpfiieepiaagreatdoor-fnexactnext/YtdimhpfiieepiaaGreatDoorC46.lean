import Derived.Test.YtdimhpfiieepiaaGreatDoorC45
namespace Go.Proofs.YtdimhpfiieepiaaGreatDoor
set_option maxHeartbeats 4000000
set_option maxRecDepth 100000
open Go.RowKit
attribute [local go_sem ↓] Go.wp_at_zero Go.wp_at_succ
section
variable{P:Program}{ops:Array Oper}{o:Oper}{a:Act}{w:World}{Q:Exit -> Act -> World -> Prop}
theorem zd6{K:Act->World->Prop}(hg:o.guard=none)(hL:∀a w,¬Q .outgrown a w)(h:wpList P ops (QK Q K) [o] a w):o.wp P a w K Q:=by
 unfold wpList at h;rw[zv3 (by simp[Region.wanted,hg])] at h;rcases h with h|h
 ·exact zuw h
 ·obtain⟨_,a',w',h'⟩:=h;exact absurd h' (hL a' w')
theorem zgh{Cw:World->Prop}{t j:Nat}{l:List (Nat×Oper)}(hk:t∉l.map Prod.fst)(hL:∀a w,¬Q .outgrown a w)(h:wpList P ops Q (o::l.map Prod.snd) a w):zbF P ops Cw t Q ((j,o)::l) a w:=by
 unfold wpList at h;unfold zbF
 by_cases hw:Region.wanted o (yielded ops a.tmps)=true
 ·rw[zv3 hw] at h ⊢;rcases h with h|h
  ·exact Oper.wp_mono (fun a w h=>⟨fun e=>absurd e hk,zb9 l a w hk hL h⟩) h
  ·obtain⟨_,a',w',h'⟩:=h;exact absurd h' (hL a' w')
 ·rw[zv2 hw] at h ⊢;exact⟨fun e=>absurd e hk,zb9 l _ w hk hL h⟩
theorem zex.plan{W:World}{g sc:Nat}{bs:List zah}(h:zex W (.slice (some ⟨g,0,none⟩) bs.length sc) bs):∃F:Nat->TypeId×Value×Pt,∀j,j<bs.length->W.cell? ⟨g,j,none⟩=some (.iface (F j).1 (F j).2.1)/\zan W (.iface (F j).1 (F j).2.1) (F j).2.2/\wPt (F j).2.2<=2000/\Eqv (F j).2.2 (tOf (bs.getD j .zero).nodes ((bs.getD j .zero).nodes.length-1)):=by
 obtain⟨g',sc',st,xs,e,h1,h2,h3,h4,h5,htr⟩:=h;cases e;obtain⟨N,hparts⟩:=htr.parts;exact @Go.Deep.choose_lt (TypeId×Value×Pt) ⟨(0,.nilIface,.set fun _=>false)⟩ bs.length (fun j q=>W.cell? ⟨g,j,none⟩=some (.iface q.1 q.2.1)/\zan W (.iface q.1 q.2.1) q.2.2/\wPt q.2.2<=2000/\Eqv q.2.2 (tOf (bs.getD j .zero).nodes ((bs.getD j .zero).nodes.length-1))) (fun j hj=>by
  obtain⟨t1,y1,k1,p,k2,k3,k4⟩:=htr.2.1 j (by omega);have h6:(zcY bs).getD j zbG=tOf (bs.getD j .zero).nodes ((bs.getD j .zero).nodes.length-1):=by simp[zcY,hj]
  rw[h6] at k4;exact⟨(t1,y1,p),(h5 j hj).trans k1,k2,by rw[k3];exact ztI hparts h4 j (by omega),k4⟩)
theorem zcP(w:World)(a:Addr)(u:Value):(w.setCell a u).heap.size=w.heap.size:=by simp[World.setCell]
theorem NpS.poke{pl:Nat}{x0 x1:Value}{w0:World}{Q:Nat->Option Pt}{vP:Value}{ps:List (Nat×Pt)}(h:NpS w pl x0 x1 w0 Q vP ps){b o:Nat}{u:Value}{cs:Array Value}{t:TypeId}(hb:w.heap[b]?=some (.cells cs t (0,0)))(ht:t≠293):NpS (w.setCell ⟨b,o,none⟩ u) pl x0 x1 (w0.setCell ⟨b,o,none⟩ u) Q vP ps:=by
 have hbl:=(zuH.1 hb).1;have hbel:=h.kd.bel;have hb0:=(hbel.block b hbl).trans hb;have e0:∀k,w.heap.size<=k->(w0.setCell ⟨b,o,none⟩ u).heap[k]?=w0.heap[k]?:=fun k hk=>zv0 _ _ _ _ (by show k≠b;omega)
 have km:zaT w0 (w0.setCell ⟨b,o,none⟩ u):=zaT.set hb0 ht;refine⟨⟨⟨hbel.os,hbel.tape,hbel.output,by rw[zcP,zcP];exact hbel.size,fun k hk=>?_⟩,fun a q ha=>?_,fun x hx=>?_,fun k hk=>?_⟩,?_,?_,?_⟩
 ·rw[zcP] at hk
  by_cases e:k=b
  ·subst e;rw[zv1 _ _ _ _ _ _ hb0,zv1 _ _ _ _ _ _ hb]
  ·rw[zv0 _ _ _ _ e,zv0 _ _ _ _ e];exact hbel.block k hk
 ·obtain⟨h1,h2,v,f,h3,h4⟩:=h.kd.pm a q ha;exact⟨by rw[zcP];exact h1,h2,v,f,(e0 a h1).trans h3,zan.keep km _ _ h4⟩
 ·obtain⟨lo',w',Q',h1,h2,h3,h4,h5,h6⟩:=h.kd.kd x hx;exact⟨lo',w',Q',by rw[zcP];exact h1,h2,h3.trans km,by rw[zcP];exact h4,fun k k1 k2=>⟨(e0 k (by omega)).trans (h5 k k1 k2).1,(h5 k k1 k2).2⟩,h6⟩
 ·obtain⟨h1,cur,ty,h2,h3⟩:=h.kd.ob k hk;exact⟨by rw[zcP];exact h1,cur,ty,(e0 k h1).trans h2,h3⟩
 ·rw[zcP];exact zav h.own fun k e=>e0 k (zaD h.own e).1
 ·exact(e0 pl h.lo).trans h.xp
 ·rw[zcP];exact h.lo
theorem zjT(xs:Array Value)(w:World):(callFunc 122 xs).run Tryz.prog w=.ok (.enter 122 xs) w:=by kernel_rfl
def PoA(W:World)(gq i:Nat)(G:Int)(bao:Option Addr)(bcp:Nat)(bs:List zah)(e:Ending)(W':World):Prop:=
 ∃(pl:Nat) (Q:Nat->Option Pt) (vP:Value) (ps:List (Nat×Pt)) (wB:World),e=.returned (.pointer (some ⟨pl,0,none⟩))/\NpS wB pl (.int .i64 G) (.slice bao bs.length bcp) W' Q vP ps/\ps.length=bs.length/\(∀k,k<bs.length->Eqv (opQ ps k) (tOf (bs.getD k .zero).nodes ((bs.getD k .zero).nodes.length-1)))/\zam (· = gq) W wB/\∀cs,W.heap[gq]?=some (.cells cs 161 (0,0))->wB.heap[gq]?=some (.cells (cs.setIfInBounds i (.pointer (some ⟨pl,0,none⟩))) 161 (0,0))
theorem zoi(W:World)(bf g cap gq n i gp sc rb ro rc:Nat)(cv bv fv tv ev nv kv:Value)(wd G:Int)(bao:Option Addr)(bcp:Nat)(bs:List zah)(cs:Array Value)(hin:i<n)
  (hbf:W.heap[bf]?=some (.cells (finC (.slice (some ⟨rb,ro,none⟩) n rc) cv wd bv fv tv ev nv kv (.slice (some ⟨g,0,none⟩) n cap) (.slice (some ⟨gq,0,none⟩) n n)) 128 (0,0)))
  (hq:W.heap[gq]?=some (.cells cs 161 (0,0))) (hcs:cs[i]?=some (.pointer none)) (hlen:bs.length<=100000)
  (k0:W.cell? ⟨rb,ro+i*2,none⟩=some (.slice bao bs.length bcp)) (k1:W.cell? ⟨rb,ro+i*2+1,none⟩=some (.int .i64 G))
  (kp:W.cell? ⟨g,i,none⟩=some (.slice (some ⟨gp,0,none⟩) bs.length sc)) (hp:zex W (.slice (some ⟨gp,0,none⟩) bs.length sc) bs) (hpg:∃cs2,W.heap[gp]?=some (.cells cs2 184 (0,0))):
  Calls Tryz.prog 101 #[.pointer (some ⟨bf,0,none⟩),.int .i64 i] W fun e W'=>PoA W gq i G bao bcp bs e W':=by
 obtain⟨cs2,hgp⟩:=hpg;have hbl:=(zuH.1 hbf).1;have hql:=(zuH.1 hq).1;have hne:bf≠gq:=fun e=>by
  rw[e,hq] at hbf;exact absurd (zad hbf) (by decide)
 have hx:∀s:ExtU W,s.W.cell? ⟨bf,10,none⟩=some (.slice (some ⟨gq,0,none⟩) n n)/\s.W.cell? ⟨bf,0,none⟩=some (.slice (some ⟨rb,ro,none⟩) n rc)/\s.W.cell? ⟨bf,9,none⟩=some (.slice (some ⟨g,0,none⟩) n cap)/\s.W.cell? ⟨rb,ro+i*2,none⟩=some (.slice bao bs.length bcp)/\s.W.cell? ⟨rb,ro+i*2+1,none⟩=some (.int .i64 G)/\s.W.cell? ⟨g,i,none⟩=some (.slice (some ⟨gp,0,none⟩) bs.length sc):=fun s=>by
  have r:=(s.h.block bf hbl).trans hbf;exact⟨zaj r 10,zaj r 0,zaj r 9,(s.h.cell (p:=⟨rb,ro+i*2,none⟩) (block_lt_of_cell k0)).trans k0,(s.h.cell (p:=⟨rb,ro+i*2+1,none⟩) (block_lt_of_cell k1)).trans k1,(s.h.cell (p:=⟨g,i,none⟩) (block_lt_of_cell kp)).trans kp⟩
 have x0:=fun s:ExtU W=>(hx s).1
 have x1:=fun s:ExtU W=>(hx s).2.1
 have x2:=fun s:ExtU W=>(hx s).2.2.1
 have x3:=fun s:ExtU W=>(hx s).2.2.2.1
 have x4:=fun s:ExtU W=>(hx s).2.2.2.2.1
 have x5:=fun s:ExtU W=>(hx s).2.2.2.2.2
 have b10:W.cell? ⟨bf,10,none⟩=some (.slice (some ⟨gq,0,none⟩) n n):=zaj hbf 10;have bq:W.cell? ⟨gq,i,none⟩=some (.pointer none):=(zaj hq i).trans hcs;have hi0:(0:Int)<=(i:Int):=by omega
 have hi1:(i:Int)<(n:Int):=by omega
 have hil:i<cs.size:=(zuH.1 hcs).1;have Hp:Hid (∀Wb,Below W.heap.size W Wb->zex Wb (.slice (some ⟨gp,0,none⟩) bs.length sc) bs):=fun Wb hb=>hp.keep hb.size (fun k _ _ e _=>(hb.block k (zuH.1 e).1).trans e) (fun g' sc' e=>by cases e;exact⟨cs2,hgp⟩)
 have Hbf:=hidR hbf;have Hq:=hidR hq;have hmix:Tryz.prog.follows .mixedOrders=true:=by kernel_rfl
 clear hx hp hbf hq k0 k1 kp hcs
 go_enter Tryz.func101,Tryz.ntmps101
 go_upto_region 2 with fail
 clear b10 bq;refine zcx [0,1,2,3,4,5,6,7,8,9,10,11,12,13,14,15,16,17,18,19] [20,21,22] 22 (fun w'=>∃s:ExtU W,w'=s.W) hmix ⟨⟨W.drew,(Below.refl _ _).drew⟩,rfl⟩ (by kernel_rfl) ?_;intro os hos;simp only[zu1,zu2,zu8,zu7] at hos;subst hos
 change wpQuiet _ _ _ _ [_,_,_,_,_,_,_,_,_,_,_,_,_,_,_,_,_,_,_,_] _
 repeat (go_big_quiet_step (fail))
 refine wpQuiet_nil ?_;rintro w' ⟨⟨Wb,hWb⟩,hw'⟩ r' hr';replace hw':w'=Wb:=hw';subst w';simp only[zu1,zu2,zu8,zu7,Option.map_some] at hr';subst hr';clear x0 x1 x2 x3 x4 x5;obtain⟨F,hF⟩:=(Hp.out Wb hWb).plan;have hnp:=znZ G bao bs.length bcp gp sc bs.length (fun k=>(F k).1) (fun k=>(F k).2.1) (fun k=>(F k).2.2) Wb (fun k hk=>(hF k hk).1) (fun k hk=>(hF k hk).2.1) (fun k hk=>(hF k hk).2.2.1) hlen;refine za2 rfl (fun K5 hK5=>?_);refine zdI 122 #[.tmp 25,.tmp 32] #[69,155] (by rfl) #[.agg #[.slice bao bs.length bcp,.int .i64 G],.slice (some ⟨gp,0,none⟩) bs.length sc] (by simp[Act.eval]) (fun v w'=>NpA Wb (.int .i64 G) (.slice bao bs.length bcp) bs.length (fun k=>(F k).2.2) (.returned v) w') (zjT _ _) (hnp.mono (by
  rintro e w1 ⟨pl,Q,vP,ps,rfl,h1⟩;exact⟨_,rfl,pl,Q,vP,ps,rfl,h1⟩)) ?_
 rintro v8 W8 ⟨pl,Q,vP,ps,hv8,hN,hpl,hpq⟩;injection hv8 with hv8
 subst hv8;have hb8:=hN.kd.bel;have hbW8:Below W.heap.size W W8:=zaa hWb hWb.size hb8;refine hK5 _ _ (fun _=>⟨⟨W8,hbW8⟩,rfl⟩) ?_;clear hK5 K5;have q8:=(hbW8.block gq hql).trans Hq.out;have c8:W8.cell? ⟨gq,i,none⟩=some cs[i]:=(zaj q8 i).trans (by simp[hil]);have f8:=zvY _ _ i _ _ q8;have hqb:=(hWb.block gq hql).trans Hq.out;have hN9:=hN.poke (o:=i) (u:=.pointer (some ⟨pl,0,none⟩)) hqb (by decide);have q9:=zv1 W8 gq i _ _ (.pointer (some ⟨pl,0,none⟩)) q8;have bf9:(W8.setCell ⟨gq,i,none⟩ (.pointer (some ⟨pl,0,none⟩))).heap[bf]?=_:=(zv0 _ _ _ _ hne).trans ((hbW8.block bf hbl).trans Hbf.out);have b10:(W8.setCell ⟨gq,i,none⟩ (.pointer (some ⟨pl,0,none⟩))).cell? ⟨bf,10,none⟩=some (.slice (some ⟨gq,0,none⟩) n n):=zaj bf9 10;have bq:(W8.setCell ⟨gq,i,none⟩ (.pointer (some ⟨pl,0,none⟩))).cell? ⟨gq,i,none⟩=some (.pointer (some ⟨pl,0,none⟩)):=(zaj q9 i).trans (by simp[hil]);have HF:Hid (PoA W gq i G bao bcp bs (.returned (.pointer (some ⟨pl,0,none⟩))) (W8.setCell ⟨gq,i,none⟩ (.pointer (some ⟨pl,0,none⟩)))):=⟨pl,Q,vP,ps,Wb.setCell ⟨gq,i,none⟩ (.pointer (some ⟨pl,0,none⟩)),rfl,hN9,hpl,fun k hk=>by rw[hpq k hk];exact(hF k hk).2.2.2,(zam.of_below hWb).grown (zaK _ gq i _) (fun k e=>.inl (Option.some.inj e).symm),fun cs' hcs'=>by
  rw[Hq.out] at hcs';cases ziR hcs';exact zv1 _ _ _ _ _ _ hqb⟩
 clear hnp hN hN9 hF hpq q9 bf9 Hbf;refine za2 rfl (fun K6 hK6=>zd6 (ops:=#[]) rfl (fun _ _ h=>h) ?_)
 change wpList _ _ _ [_] _ _
 go_wp2;rw[zbA];refine hK6 _ _ (fun _=>⟨⟨W8,hbW8⟩,rfl⟩) ?_;clear hK6 K6;refine zgh (by simp) (fun _ _ h=>h) ?_
 change wpList _ _ _ [_] _ _
 go_wp2;rw[za5];clear c8 f8 q8;go_wp2;go_ret;exact HF.out
end
section
variable{w w0:World}{pl:Nat}{x0 x1 vP:Value}{Q:Nat -> Option Pt}{ps:List (Nat×Pt)}
theorem zlk(xs:Array Value)(w:World):(callFunc 131 xs).run Tryz.prog w=.ok (.enter 131 xs) w:=by kernel_rfl
theorem znD(xs:Array Value)(w:World):(callFunc 150 xs).run Tryz.prog w=.ok (.enter 150 xs) w:=by kernel_rfl
def plFn(bs bt bp:Nat):Value:=.func (.func 150) #[] #[.pointer (some ⟨bs,0,none⟩),.pointer (some ⟨bt,0,none⟩),.pointer (some ⟨bp,0,none⟩)]
theorem zqh(t:ByteArray)(gs m cap:Nat)(w:World):
  Calls Tryz.prog 131 #[.string t,.slice (some ⟨gs,0,none⟩) m cap] w fun e w'=>∃bs bt bp,e=.returned (plFn bs bt bp)/\Below w.heap.size w w'/\w.heap.size<=bs/\w.heap.size<=bt/\w.heap.size<=bp/\w'.heap[bs]?=some (.cells #[.slice (some ⟨gs,0,none⟩) m cap] 33 (0,0))/\w'.heap[bt]?=some (.cells #[.string t] 9 (0,0))/\w'.heap[bp]?=some (.cells #[plFn bs bt bp] 205 (0,0)):=by
 obtain⟨W2,hW2⟩:∃W2,(w.alloc (.cells #[.string t] 9)).alloc (.cells #[.slice (some ⟨gs,0,none⟩) m cap] 33)=W2:=⟨_,rfl⟩;have hs2:W2.heap.size=w.heap.size+1+1:=by rw[<-hW2];simp
 have hb2:Below w.heap.size w W2:=by rw[<-hW2];exact((Below.refl _ _).alloc (zvJ _) _).alloc (by simp) _
 have q0:W2.heap[w.heap.size]?=some (.cells #[.string t] 9 (0,0)):=by rw[<-hW2];exact zak (zvZ _ _)
 have q1:W2.heap[w.heap.size+1]?=some (.cells #[.slice (some ⟨gs,0,none⟩) m cap] 33 (0,0)):=by rw[<-hW2];exact zdj _ _ _
 have st:=zdB (P:=Tryz.prog) W2 #[.nilFunc] 205 (.func (.func 150) #[] #[.pointer (some ⟨w.heap.size+1,0,none⟩),.pointer (some ⟨w.heap.size,0,none⟩),.pointer (some ⟨w.heap.size+1+1,0,none⟩)]) rfl 0 (by simp);simp only[zvz,List.set_cons_zero] at st;obtain⟨W3,hW3⟩:∃W3,W2.alloc (.cells #[.func (.func 150) #[] #[.pointer (some ⟨w.heap.size+1,0,none⟩),.pointer (some ⟨w.heap.size,0,none⟩),.pointer (some ⟨w.heap.size+1+1,0,none⟩)]] 205)=W3:=⟨_,rfl⟩;have hb3:Below W2.heap.size W2 W3:=by rw[<-hW3];exact(Below.refl _ _).alloc (zvJ _) _
 have q2:W3.heap[W2.heap.size]?=some (.cells #[plFn (w.heap.size+1) w.heap.size (w.heap.size+1+1)] 205 (0,0)):=by rw[<-hW3];exact zvZ _ _
 have c2:W3.cell? ⟨W2.heap.size,0,none⟩=some (.func (.func 150) #[] #[.pointer (some ⟨w.heap.size+1,0,none⟩),.pointer (some ⟨w.heap.size,0,none⟩),.pointer (some ⟨w.heap.size+1+1,0,none⟩)]):=(zvW _ _ _ _ _ _ q2:_=_);have p0:=(hb3.block _ (zuH.1 q0).1).trans q0;have p1:=(hb3.block _ (zuH.1 q1).1).trans q1;rw[hs2] at st c2 q2;have HF:=hidF (show ∃bs bt bp,Ending.returned (plFn (w.heap.size+1) w.heap.size (w.heap.size+1+1))=.returned (plFn bs bt bp)/\Below w.heap.size w W3/\w.heap.size<=bs/\w.heap.size<=bt/\w.heap.size<=bp/\W3.heap[bs]?=some (.cells #[.slice (some ⟨gs,0,none⟩) m cap] 33 (0,0))/\W3.heap[bt]?=some (.cells #[.string t] 9 (0,0))/\W3.heap[bp]?=some (.cells #[plFn bs bt bp] 205 (0,0)) from⟨_,_,_,rfl,zaa hb2 hb2.size hb3,by omega,by omega,by omega,p1,p0,q2⟩);clear q0 q1 q2 p0 p1 hb2 hb3
 go_enter Tryz.func131,Tryz.ntmps131
 go_wp2;go_ret;exact HF.out
theorem NpS.start(h:NpS w pl x0 x1 w0 Q vP ps)(hB:za7 w):PnI w0 pl Q (fun _ _=>False) w0:=by
 have hpos:=zbK hB;refine⟨rfl,rfl,rfl,zvJ _,fun _ _ _ _=>rfl,?_,?_,hB.keep (h.kd.bel.block 0 hpos),⟨x0,x1,vP,1048576,1048576,h.xp,h.xp,zvJ _⟩,fun a p ha=>?_,fun k a e=>e.elim,fun k a b e=>e.elim⟩
 ·exact h.kd.pm.below0 hpos
 ·intro e;have:=h.lo;omega
 ·obtain⟨h1,h2,v,f,h3,h4⟩:=h.kd.pm a p ha;exact⟨v,f,.pointer none,h3,h3,h4,h2,.inl rfl⟩
theorem NpS.cells(h:NpS w pl x0 x1 w0 Q vP ps){Ow:Nat->Nat->Prop}{W:World}(hI:PnI w0 pl Q Ow W):(∃room:Nat,W.heap[pl]?=some (.cells #[x0,x1,vP,.int .i64 room] 189 (0,0)))/\W.ownsRow w.heap.size 198 1 vP ps.length (opL ps):=by
 obtain⟨y0,y1,y2,r0,room,h1,h2,_⟩:=hI.plan;have e:=h.xp;rw[h1] at e;injection e with e
 injection e with e
 simp at e;obtain⟨rfl,rfl,rfl,-⟩:=e;exact⟨⟨room,h2⟩,zav h.own fun b hb=>by
  obtain⟨_,cur,z⟩:=zaD h.own hb;exact(hI.typ z (by decide) (by decide)).trans z.symm⟩
theorem NpS.bel(h:NpS w pl x0 x1 w0 Q vP ps){Ow:Nat->Nat->Prop}{W:World}(hI:PnI w0 pl Q Ow W):Below w.heap.size w W:=by
 have hb:=h.kd.bel;refine⟨hI.os.trans hb.os,hI.tape.trans hb.tape,hI.output.trans hb.output,zvK hb.size hI.size,fun k hk=>(hI.old k (zvL hk hb.size) (h.kd.pm.below0 hk) (fun e=>by have:=h.lo;omega)).trans (hb.block k hk)⟩
end
section
variable{bs:List zah}{t:ByteArray}{e n:Nat}{cl:Bool}{a:Int}
def LsR(bs:List zah)(t:ByteArray)(e:Nat)(cl:Bool)(n:Nat)(a:Int):Prop:=
 (a=-1/\∀i,i<=e->∀j,j<n->¬zaP (bs.getD j .zero) t i e cl)\/∃k:Nat,a=k/\k<=e/\(∃j,j<n/\zaP (bs.getD j .zero) t k e cl)/\∀i,i<k->∀j,j<n->¬zaP (bs.getD j .zero) t i e cl
def LgL(u:Word)(p:Pt)(e:Nat)(v:Int):Prop:=(v=-1/\∀m,¬Lg u p m e)\/∃k:Nat,v=k/\Lg u p k e/\∀m,m<k->¬Lg u p m e
def lsN(bol:Bool)(v a:Int):Bool:=decide (v>=0)&&(v==0 || !bol)&&(a == -1 || decide (v<a))
theorem LsR.skip(h:LsR bs t e cl n a)(hn:∀i,i<=e->¬zaP (bs.getD n .zero) t i e cl):LsR bs t e cl (n+1) a:=by
 rcases h with ⟨h1,h2⟩|⟨k,h1,h2,⟨j,h3,h4⟩,h5⟩
 ·refine .inl ⟨h1,fun i hi j hj=>?_⟩
  by_cases e1:j=n
  ·subst e1;exact hn i hi
  ·exact h2 i hi j (by omega)
 ·refine .inr ⟨k,h1,h2,⟨j,by omega,h4⟩,fun i hi j hj=>?_⟩
  by_cases e1:j=n
  ·subst e1;exact hn i (by omega)
  ·exact h5 i hi j (by omega)
theorem LsR.next{v:Int}{bol:Bool}{u:Word}{p:Pt}(h:LsR bs t e cl n a)(hv:LgL u p e v)(hp:∀i,i<=e->(zaP (bs.getD n .zero) t i e cl↔(i==0 || !bol)=true/\Lg u p i e)):LsR bs t e cl (n+1) (if lsN bol v a=true then v else a):=by
 rcases hv with ⟨hv1,hv2⟩|⟨k,rfl,hv1,hv2⟩
 ·have:lsN bol v a=false:=by unfold lsN;rw[hv1];rfl
  rw[this];exact h.skip fun i hi hb=>hv2 i ((hp i hi).1 hb).2
 ·have hke:=hv1.1;have hz:((k:Int)==0)=(k==0):=by
   by_cases e0:k=0
   ·subst e0;rfl
   ·have:((k:Int)==0)=false:=by simp;omega
    rw[this];simp;omega
  have hlow:∀i,i<k->¬zaP (bs.getD n .zero) t i e cl:=fun i hi hb=>hv2 i hi ((hp i (by omega)).1 hb).2
  cases hm:(k==0 || !bol)
  ·have:lsN bol k a=false:=by unfold lsN;rw[hz,hm];simp
   rw[this];refine h.skip fun i hi hb=>?_
   obtain⟨h1,h2⟩:=(hp i hi).1 hb;simp only[Bool.or_eq_false_iff,Bool.not_eq_false',zvU] at hm;rw[hm.2] at h1;simp only[Bool.not_true,Bool.or_false,beq_iff_eq] at h1;exact hv2 i (by omega) h2
  ·have hbk:zaP (bs.getD n .zero) t k e cl:=(hp k hke).2 ⟨hm,hv1⟩
   by_cases hla:a=-1\/(k:Int)<a
   ·have:lsN bol k a=true:=by
     unfold lsN;rw[hz,hm];simp only[ge_iff_le,Int.natCast_nonneg,decide_true,zuN,zuM,beq_iff_eq,zvX];exact hla
    rw[zv3 this];refine .inr ⟨k,rfl,hke,⟨n,by omega,hbk⟩,fun i hi j hj=>?_⟩
    by_cases e1:j=n
    ·subst e1;exact hlow i hi
    ·rcases h with ⟨h1,h2⟩|⟨k',h1,h2,h3,h5⟩
     ·exact h2 i (by omega) j (by omega)
     ·exact h5 i (by omega) j (by omega)
   ·have:lsN bol k a=false:=by
     unfold lsN;rw[hz,hm];simp only[ge_iff_le,Int.natCast_nonneg,decide_true,zuN,Bool.or_eq_false_iff,zvU,decide_eq_false_iff_not];omega
    rw[this];rcases h with ⟨h1,h2⟩|⟨k',h1,h2,⟨j,h3,h4⟩,h5⟩
    ·omega
    ·refine .inr ⟨k',h1,h2,⟨j,by omega,h4⟩,fun i hi j hj=>?_⟩
     by_cases e1:j=n
     ·subst e1;exact hlow i (by omega)
     ·exact h5 i hi j (by omega)
theorem zi7{lo:Nat}(w wB:World)(hbB:Below w.heap.size w wB)(bs:List zah)(ao:Option Addr)(cap:Nat)(hs:zao lo w (.slice ao bs.length cap) bs)(hlen:bs.length<=100000)(x0:Value)(pl:Nat)(Q:Nat->Option Pt)(vP:Value)(ps:List (Nat×Pt))(w0:World)(hN:NpS wB pl x0 (.slice ao bs.length cap) w0 Q vP ps)(hpl:ps.length=bs.length)(t:ByteArray)(ht:t.size<=4096)(e:Nat)(het:e<=t.size)(cl:Bool)
  (hE:∀k,k<bs.length->Eqv (opQ ps k) (tOf (bs.getD k .zero).nodes ((bs.getD k .zero).nodes.length-1))) (OwI:Nat->Nat->Prop) (WI:World) (hI0:PnI w0 pl Q OwI WI):
  Calls Tryz.prog 102 #[.pointer (some ⟨pl,0,none⟩),.string t,.int .i64 e,.bool cl] WI fun x w'=>∃(a:Int) (Ow':Nat->Nat->Prop),x=.returned (.int .i64 a)/\LsR bs t e cl bs.length a/\PnT w0 pl Q OwI WI Ow' w':=by
 obtain⟨ao2,cap2,hv2,hm2,hc⟩:=hs;cases hv2;have hul:t.data.toList.length=t.size:=by simp
 have cb:WI.cell? ⟨pl,1,none⟩=some (.slice ao bs.length cap):=by
  obtain⟨⟨room,h1⟩,_⟩:=hN.cells hI0;exact(zvW _ _ _ _ _ _ h1:_=_)
 have Hbel:Hid (∀W Ow,PnI w0 pl Q Ow W->Below w.heap.size w W):=fun W Ow hI=>zaa hbB hbB.size (hN.bel hI)
 have Hlg:Hid (∀k,k<bs.length->∀m,m<=e->(Lg t.data.toList (opQ ps k) m e↔In (tOf (bs.getD k .zero).nodes ((bs.getD k .zero).nodes.length-1)) ((t.data.toList.drop m).take (e-m)))):=fun k hk m hm=>by
  unfold Lg;rw[(hE k hk).wd];exact⟨fun h=>h.2.2,fun h=>⟨hm,by omega,h⟩⟩
 have Hat:Hid (∀k,k<bs.length->PcAt wB.heap.size w0 pl Q (opA ps k) (opQ ps k)):=fun k hk=>hN.kd.fin _ (zvt (zg9 (by omega)))
 have Hcell:Hid (∀W Ow,PnI w0 pl Q Ow W->∀k,k<bs.length->∃gp cp,W.cell? ⟨pl,2,none⟩=some (.slice (some ⟨gp,0,none⟩) bs.length cp)/\W.cell? ⟨gp,k,none⟩=some (.pointer (some ⟨opA ps k,0,none⟩))):=fun W Ow hI k hk=>by
  obtain⟨⟨room,h1⟩,h2⟩:=hN.cells hI;obtain⟨gp,cp,hv⟩:∃gp cp,vP=.slice (some ⟨gp,0,none⟩) ps.length cp:=by
   rcases h2.2 with ⟨_,e2⟩|⟨g,c,cur,e,_⟩
   ·omega
   ·exact⟨g,c,e⟩
  subst hv;exact⟨gp,cp,by have:=(zbk h1).1;rw[hpl] at this;exact this,zjh h2 (zg9 (by omega))⟩
 have HI0:=hidF (show PnT w0 pl Q OwI WI OwI WI from⟨hI0,zvJ _,fun _ _ _ h=>⟨rfl,h⟩⟩);clear hI0 hE hN hbB
 go_enter Tryz.func102,Tryz.ntmps102
 go_wp2;clear cb
 go_loopw [9,18] (fun av iv wr=>∃(k:Nat) (a:Int) (Ow:Nat->Nat->Prop),av=.int .i64 a/\iv=.int .i64 k/\k<=bs.length/\Hid (PnT w0 pl Q OwI WI Ow wr)/\Hid (LsR bs t e cl k a))
  (fun _ iv _=>bs.length-(intOf iv).toNat)
 case atStart=>exact⟨0,-1,_,rfl,rfl,zvT _,HI0,.inl ⟨rfl,fun i _ j hj=>absurd hj (zvQ _)⟩⟩
 case round=>
  clear HI0;obtain⟨k,a,Ow,rfl,rfl,hk,HIT,HL⟩:=hrel;have hbr:=Hbel.out wr Ow HIT.out.inv
  by_cases hlt:k<bs.length
  ·obtain⟨b,o,nv,bd,rfl,Hn,hbl,c0,c1,c2,hnv⟩:=hc.elem hbr hlt;obtain⟨nao,ncap,rfl,hnm,hnc⟩:=hnv;clear hnc;have hk0:(0:Int)<=(k:Int):=by omega
   have hk1:(k:Int)<(bs.length:Int):=by omega
   obtain⟨V,hV⟩:∃V,wr.alloc (.cells #[.bool bd.bol,.bool bd.eol,.slice nao bd.nodes.length ncap] 115)=V:=⟨_,rfl⟩;have hbV:Below wr.heap.size wr V:=by rw[<-hV];exact(Below.refl _ _).alloc (zvJ _) _
   have xV:V.heap[wr.heap.size]?=some (.cells #[.bool bd.bol,.bool bd.eol,.slice nao bd.nodes.length ncap] 115 (0,0)):=by rw[<-hV];exact zvZ _ _
   obtain⟨d0,d1,d2,-,-,-⟩:=zaf xV;have hsV:wr.heap.size<V.heap.size:=(zuH.1 xV).1;have hTV:=HIT.out.trans (PnT.of_below HIT.out.inv hbV);have Hpl:Hid (∀i,zdK (bs.getD k .zero).bol (bs.getD k .zero).eol t.size i e cl=((i==0 || !bd.bol)&&((cl&&e==t.size) || !bd.eol))):=fun i=>by rw[Hn.out,ziw]
   have hfo:∀b,¬Ow wr.heap.size b:=fun b ho=>by have:=(HIT.out.inv.ow _ b ho).2;omega
   have hw0:=HIT.out.inv.size;have hme:=zkk bd.bol bd.eol cl nao bd.nodes.length ncap t e V;have HTV:=hidF hTV;have HxV:=hidF xV;clear hbV xV hTV HIT hbr
   go_upto_region 5 with fail
   clear hV c0 c1 c2
   go_wp2_with fail
   refine hme.mono ?_;rintro r1 W1 ⟨rfl,hb1⟩;have HT1:=hidF (HTV.out.trans (PnT.of_below HTV.out.inv hb1));have x1:=(hb1.block _ hsV).trans HxV.out;have hs1:wr.heap.size<W1.heap.size:=(zuH.1 x1).1;have Hx1:=hidF x1;clear hme d0 d1 d2 x1;cases hm2:((cl&&e==t.size) || !bd.eol)
   ·have HL2:Hid (LsR bs t e cl (k+1) a):=HL.out.skip fun i _ hb=>by have:=hb.1;rw[Hpl.out,hm2,Bool.and_false] at this;cases this
    clear HTV HxV Hx1;go_wp2
    go_roundw
    case rel=>exact⟨k+1,a,Ow,rfl,by go_num,by omega,HT1,HL2⟩
    case measure=>simp[intOf];omega
   ·obtain⟨gp,cp,k2,k3⟩:=Hcell.out W1 Ow HT1.out.inv k hlt;have hst:=zdC (opA ps k) (opQ ps k) W1 HT1.out.inv (Hat.out k hlt).q
    go_wp2_with fail
    refine hst.mono ?_;rintro x2 W2 ⟨s,Ow2,X,v,ra,rb,O1,O2,rfl,hso,hma,hmb,hch⟩;have hon:=zgs e W2 (by omega);have Hso:=hidF hso;have Hch:=hidF hch;clear hst hso hch k2 k3
    go_wp2_with fail
    refine hon.mono ?_;rintro x3 W3 ⟨U,rfl,hU,hUb,hb3⟩;have hs3:=Hso.out.below (Hso.out.inv.below hb3) hb3;have hc3:Hid _:=Hch.out.below hb3;have hbk:=zdg hs3 (by omega) (by omega) t ht (e/64+1) W2.heap.size (e/64+1) U hU (by omega) (fun hx=>by have:=(Hso.out.x0 _ hx).2;omega) ⟨e,by omega,(hUb _).2 rfl⟩ (fun q _ hb=>by have:=(hUb q).1 hb;omega);have HUb:=hidF hUb;have Hs3:=hidF hs3;obtain⟨ne,hne⟩:∃ne,e/64+1=ne:=⟨_,rfl⟩;have hne9:ne<=100:=by omega
    have hne0:0<ne:=by omega
    have hnt:e<64*ne:=by omega
    rw[hne] at hbk ⊢;clear hon hU hUb hs3 hne
    go_wp2_with fail
    refine hbk.mono ?_;rintro x4 W4 ⟨Ow4,X4,high,tt,gs,b',O,S,pv,ps4,rfl,h4,hc4,hox,hxo,T,hh⟩;have hle:=zgT ne gs ne S W4 T.sp (by omega) (h4.inv.bru.keep h4.inv.zero);obtain⟨-,k1,-,-⟩:=zbg T.box;have hT14:=h4.plT (hc4 _ _ hc3.out);have HT4:=hidF (HT1.out.trans hT14);have Hx4:=hidF ((hT14.fre _ hw0 hs1 hfo).1.trans Hx1.out);have HSt:Hid (∀m,zai S m=true↔Lg t.data.toList (opQ ps k) m e):=fun m=>by
     rw[zdk Hs3.out.inv (Hat.out k hlt).q T (fun m hm=>by rw[hul,(HUb.out m).1 hm.2];omega) m];constructor
     ·rintro ⟨e',h1,h2⟩;rw[(HUb.out e').1 h1.2] at h2;exact h2
     ·intro h1;exact⟨e,⟨hnt,(HUb.out _).2 rfl⟩,h1⟩
    clear hbk T h4 hc4 hox hxo hT14 HT1 HTV Hx1 HxV Hso Hch Hs3 hc3
    go_wp2_with fail
    refine hle.mono ?_;rintro x5 W5 ⟨v5,rfl,hv5,hw5⟩;subst W5;have hLL:LgL t.data.toList (opQ ps k) e v5:=by
     rcases hv5 with ⟨h1,h2⟩|⟨p,h1,h2,h3,h5⟩
     ·refine .inl ⟨h1,fun m hm=>?_⟩;have h3:=(HSt.out m).2 hm;rw[h2 m (by have:=hm.1;omega)] at h3;cases h3
     ·refine .inr ⟨p,h1,(HSt.out p).1 h3,fun m hm hl=>?_⟩;have h6:=(HSt.out m).2 hl;rw[h5 m hm] at h6;cases h6
    have HLN:Hid (LsR bs t e cl (k+1) (if lsN bd.bol v5 a=true then v5 else a)):=HL.out.next hLL fun i hi=>by
     unfold zaP;rw[Hpl.out,hm2,Bool.and_true,Hlg.out k hlt i hi]
    obtain⟨d0,d1,d2,-,-,-⟩:=zaf Hx4.out;have Hv5:Hid (v5=-1\/∃p:Nat,v5=p):=hLL.elim (fun h=>.inl h.1) (fun⟨p,h,_⟩=>.inr ⟨p,h⟩);clear hle hv5 hLL HL k1;rcases Hv5.out with rfl|⟨p,rfl⟩
    ·have HL2:Hid (LsR bs t e cl (k+1) a):=HLN.out;clear HLN Hv5;go_wp2
     go_roundw
     case rel=>exact⟨k+1,a,Ow4,rfl,by go_num,by omega,HT4,HL2⟩
     case measure=>simp[intOf];omega
    ·have hmb:=zgY bd.bol bd.eol nao bd.nodes.length ncap p W4;have hp0:decide ((p:Int)>=0)=true:=decide_eq_true (by omega);have hz:((p:Int)==0)=(p==0):=by
      by_cases e0:p=0
      ·subst e0;rfl
      ·have:((p:Int)==0)=false:=by simp;omega
       rw[this];simp;omega
     have HLe:Hid (lsN bd.bol p a=((p==0 || !bd.bol)&&(a == -1 || decide ((p:Int)<a)))):=by show _=_;unfold lsN;rw[hp0,hz,zuN]
     clear Hv5 hz
     go_wp2_with fail
     refine hmb.mono ?_;rintro x6 W6 ⟨rfl,hb6⟩;have HT6:=hidF (HT4.out.below hb6);clear hmb d0 d1 d2 HT4 Hx4;cases hm:(p==0 || !bd.bol)
     ·have HL2:Hid (LsR bs t e cl (k+1) a):=by have:=HLN.out;rw[HLe.out,hm] at this;exact this
      clear HLN HLe;go_wp2
      go_roundw
      case rel=>exact⟨k+1,a,Ow4,rfl,by go_num,by omega,HT6,HL2⟩
      case measure=>simp[intOf];omega
     ·cases ha:(a == -1)
      ·cases hd:decide ((p:Int)<a)
       ·have HL2:Hid (LsR bs t e cl (k+1) a):=by have:=HLN.out;rw[HLe.out,hm,ha,hd] at this;exact this
        clear HLN HLe;go_wp2
        go_roundw
        case rel=>exact⟨k+1,a,Ow4,rfl,by go_num,by omega,HT6,HL2⟩
        case measure=>simp[intOf];omega
       ·have HL2:Hid (LsR bs t e cl (k+1) p):=by have:=HLN.out;rw[HLe.out,hm,ha,hd] at this;exact this
        clear HLN HLe;go_wp2
        go_roundw
        case rel=>exact⟨k+1,p,Ow4,rfl,by go_num,by omega,HT6,HL2⟩
        case measure=>simp[intOf];omega
      ·have HL2:Hid (LsR bs t e cl (k+1) p):=by have:=HLN.out;rw[HLe.out,hm,ha] at this;exact this
       clear HLN HLe;go_wp2
       go_roundw
       case rel=>exact⟨k+1,p,Ow4,rfl,by go_num,by omega,HT6,HL2⟩
       case measure=>simp[intOf];omega
  ·obtain rfl:k=bs.length:=by omega
   have hd:decide ((bs.length:Int)<(bs.length:Int))=false:=by simp
   have HF:Hid (∃(a':Int) (Ow':Nat->Nat->Prop),Ending.returned (.int .i64 a)=.returned (.int .i64 a')/\LsR bs t e cl bs.length a'/\PnT w0 pl Q OwI WI Ow' wr):=⟨a,Ow,rfl,HL.out,HIT.out⟩;clear HL HIT;go_wp2;go_ret;exact HF.out
end
variable{w:World}{lo:Nat}
theorem zuj{lo':Nat}{e:TypeId}{sz n:Nat}{g m c:Nat}{xs:List Value}(h:w.ownsRow lo e sz (.slice (some ⟨g,0,none⟩) m c) n xs)(hl:lo'<=g):w.ownsRow lo' e sz (.slice (some ⟨g,0,none⟩) m c) n xs:=by
 refine⟨h.1,?_⟩;rcases h.2 with ⟨h2,_⟩|⟨g',cap,cur,h1,h2,h3⟩
 ·cases h2
 ·cases h1;exact .inr ⟨g,_,cur,rfl,hl,h3⟩
def CapQ(G:Nat)(bs:List zah)(t:ByteArray)(a e:Nat)(cl:Bool)(r:List (Int×Int)):Prop:=
 ((∀k,k<bs.length->¬zaP (bs.getD k .zero) t a e cl)/\r=[])\/∃k,k<bs.length/\(∀j,j<k->¬zaP (bs.getD j .zero) t a e cl)/\zaP (bs.getD k .zero) t a e cl/\∃l,Pl t.data.toList (tOf (bs.getD k .zero).nodes ((bs.getD k .zero).nodes.length-1)) a e l/\r=upG (zbT ((a:Int),(e:Int)) G) l
def CapP(w0:World)(pl:Nat)(Q:Nat->Option Pt)(OwI:Nat->Nat->Prop)(WI:World)(G:Nat)(bs:List zah)(t:ByteArray)(a e:Nat)(cl:Bool)(x:Ending)(w':World):Prop:=
 ∃r v Ow',CapQ G bs t a e cl r/\x=.returned v/\w'.ownsRow WI.heap.size 71 2 v r.length (pv r)/\PnT w0 pl Q OwI WI Ow' w'/\∀k b,v.ownBlock=some k->¬Ow' k b
theorem zrZ{P:Program}{o:Oper}{a:Act}{K:Act->World->Prop}{Q:Exit->Act->World->Prop}(x:Operand)(xs:Array Operand)(ats:Array TypeId)
  (ho:o.op=.call {callee:=.value x,args:=xs,argTypes:=ats}) (f:FuncId) (caps:Array Value) (hx:a.eval x=.func (.func f) #[] caps) (args:Array Value) (hargs:(#[]++xs.map a.eval++caps:Array Value)=args) (R:Value->World->Prop) (hen:(callFunc f args).run P w=.ok (.enter f args) w)
  (hc:Calls P f args w fun e w'=>∃v,e=.returned v/\R v w') (h:∀v w',R v w'->K (a.put o.dst v) w'):Oper.wp P o a w K Q:=by
 obtain⟨dst,op,type,pos,after,guard⟩:=o;simp only at ho;subst ho;have e:execOp a.eval {dst,op:=.call {callee:=.value x,args:=xs,argTypes:=ats},type,pos,after,guard}=callFunc f (#[]++xs.map a.eval++caps):=by
  show (do let d <-Deferred.ofValue (a.eval x) (xs.map a.eval);invoke d.target d.args)=_;rw[hx]
  rfl
 unfold Oper.wp;rw[e,hargs,hen,Oper.upon_enter];refine hc.mono ?_;rintro e w' ⟨v,rfl,hR⟩;exact h v w' hR
theorem zle(w wB:World)(hbB:Below w.heap.size w wB)(bs:List zah)(ao:Option Addr)(cap:Nat)(hs:zao lo w (.slice ao bs.length cap) bs)(hlen:bs.length<=100000)(G:Nat)(hG:G<=500)(pl:Nat)(Q:Nat->Option Pt)(vP:Value)(ps:List (Nat×Pt))(w0:World)(hN:NpS wB pl (.int .i64 (G:Int)) (.slice ao bs.length cap) w0 Q vP ps)(hpl:ps.length=bs.length)(t:ByteArray)(ht:t.size<=4096)(a e:Nat)(hae:a<=e)(het:e<=t.size)(cl:Bool)
  (hE:∀k,k<bs.length->Eqv (opQ ps k) (tOf (bs.getD k .zero).nodes ((bs.getD k .zero).nodes.length-1))) (hgr:∀k,k<bs.length->∀l,Pl t.data.toList (tOf (bs.getD k .zero).nodes ((bs.getD k .zero).nodes.length-1)) a e l->∀x∈l,1<=x.1/\x.1<((G+1:Nat):Int)) (OwI:Nat->Nat->Prop) (WI:World) (hI0:PnI w0 pl Q OwI WI):
  Calls Tryz.prog 104 #[.pointer (some ⟨pl,0,none⟩),.string t,.int .i64 a,.int .i64 e,.bool cl] WI fun x w'=>CapP w0 pl Q OwI WI G bs t a e cl x w':=by
 obtain⟨ao2,cap2,hv2,hm2,hc⟩:=hs;cases hv2;have cb:WI.cell? ⟨pl,1,none⟩=some (.slice ao bs.length cap):=by
  obtain⟨⟨room,h1⟩,_⟩:=hN.cells hI0;exact(zvW _ _ _ _ _ _ h1:_=_)
 have Hbel:Hid (∀W Ow,PnI w0 pl Q Ow W->Below w.heap.size w W/\wB.heap.size<=W.heap.size):=fun W Ow hI=>⟨zaa hbB hbB.size (hN.bel hI),(hN.bel hI).size⟩
 have Hlg:Hid (∀k,k<bs.length->(Lg t.data.toList (opQ ps k) a e↔In (tOf (bs.getD k .zero).nodes ((bs.getD k .zero).nodes.length-1)) ((t.data.toList.drop a).take (e-a)))):=fun k hk=>by
  unfold Lg;rw[(hE k hk).wd];have:t.data.toList.length=t.size:=by simp
  exact⟨fun h=>h.2.2,fun h=>⟨hae,by omega,h⟩⟩
 have Hat:Hid (∀k,k<bs.length->PcAt wB.heap.size w0 pl Q (opA ps k) (opQ ps k)):=fun k hk=>hN.kd.fin _ (zvt (zg9 (by omega)))
 have Hcell:Hid (∀W Ow,PnI w0 pl Q Ow W->∀k,k<bs.length->∃gp cp,vP=.slice (some ⟨gp,0,none⟩) bs.length cp/\W.cell? ⟨pl,2,none⟩=some (.slice (some ⟨gp,0,none⟩) bs.length cp)/\W.cell? ⟨gp,k,none⟩=some (.pointer (some ⟨opA ps k,0,none⟩))):=fun W Ow hI k hk=>by
  obtain⟨⟨room,h1⟩,h2⟩:=hN.cells hI;obtain⟨gp,cp,hv⟩:∃gp cp,vP=.slice (some ⟨gp,0,none⟩) ps.length cp:=by
   rcases h2.2 with ⟨_,e2⟩|⟨g,c,cur,e,_⟩
   ·omega
   ·exact⟨g,c,e⟩
  subst hv;exact⟨gp,cp,by rw[hpl],by have:=(zbk h1).1;rw[hpl] at this;exact this,zjh h2 (zg9 (by omega))⟩
 have Hg0:Hid (∀W Ow,PnI w0 pl Q Ow W->∃x2 x3,W.heap[pl]?=some (.cells #[.int .i64 (G:Int),.slice ao bs.length cap,x2,x3] 189 (0,0))):=fun W Ow hI=>by
  obtain⟨⟨room,h1⟩,_⟩:=hN.cells hI;exact⟨_,_,h1⟩
 have HI0:=hidF (show PnT w0 pl Q OwI WI OwI WI from⟨hI0,zvJ _,fun _ _ _ h=>⟨rfl,h⟩⟩);have HE:=hidF hE;have Hgr:=hidF hgr;have hex:(t.extract a e).size=e-a:=by rw[ByteArray.size_extract];omega
 clear hI0 hE hgr hN hbB
 go_enter Tryz.func104,Tryz.ntmps104
 go_wp2;clear cb
 go_loopw [19] (fun iv wr=>∃(k:Nat) (Ow:Nat->Nat->Prop),iv=.int .i64 k/\k<=bs.length/\Hid (PnT w0 pl Q OwI WI Ow wr)/\Hid (∀j,j<k->¬zaP (bs.getD j .zero) t a e cl))
  (fun iv _=>bs.length-(intOf iv).toNat)
 case atStart=>exact⟨0,_,rfl,zvT _,HI0,fun j hj=>absurd hj (zvQ _)⟩
 case round=>
  clear HI0;obtain⟨k,Ow,rfl,hk,HIT,HNo⟩:=hrel;have HI:=hidF HIT.out.inv;have hbr:=(Hbel.out wr Ow HI.out).1
  by_cases hlt:k<bs.length
  ·obtain⟨b,o,nv,bd,rfl,Hn,hbl,c0,c1,c2,hnv⟩:=hc.elem hbr hlt;obtain⟨nao,ncap,rfl,hnm,hnc⟩:=hnv;clear hnc;have hk0:(0:Int)<=(k:Int):=by omega
   have hk1:(k:Int)<(bs.length:Int):=by omega
   obtain⟨V,hV⟩:∃V,wr.alloc (.cells #[.bool bd.bol,.bool bd.eol,.slice nao bd.nodes.length ncap] 115)=V:=⟨_,rfl⟩;have hbV:Below wr.heap.size wr V:=by rw[<-hV];exact(Below.refl _ _).alloc (zvJ _) _
   have xV:V.heap[wr.heap.size]?=some (.cells #[.bool bd.bol,.bool bd.eol,.slice nao bd.nodes.length ncap] 115 (0,0)):=by rw[<-hV];exact zvZ _ _
   obtain⟨d0,d1,d2,-,-,-⟩:=zaf xV;have hsV:wr.heap.size<V.heap.size:=(zuH.1 xV).1;have HTV:=hidF (PnT.of_below HI.out hbV);have HxV:=hidF xV;have Hpl:Hid (zdK (bs.getD k .zero).bol (bs.getD k .zero).eol t.size a e cl=((a==0 || !bd.bol)&&((cl&&e==t.size) || !bd.eol))):=by show _=_;rw[Hn.out,ziw]
   clear hbV xV
   go_upto_region 4 with fail
   clear hV c0 c1 c2
   go_cut [47] from 24 to 47 (fun v47 wx=>∃(Ow':Nat->Nat->Prop) (bb:Bool),v47=.bool bb/\Hid (PnT w0 pl Q Ow wr Ow' wx)/\Hid (bb=true↔zaP (bs.getD k .zero) t a e cl))
   case first=>
    have hmb:Calls Tryz.prog 128 #[.agg #[.bool bd.bol,.bool bd.eol,.slice nao bd.nodes.length ncap],.int .i64 a] V.drew fun r w'=>∃v,r=.returned v/\v=.bool (a==0 || !bd.bol)/\Below V.drew.heap.size V.drew w':=(zgY bd.bol bd.eol nao bd.nodes.length ncap a V.drew).mono fun r w' h=>⟨_,h.1,rfl,h.2⟩
    have hT1:∀W1,Below V.drew.heap.size V.drew W1->Hid (PnT w0 pl Q Ow wr Ow W1):=fun W1 hb=>HTV.out.below (((Below.refl V.heap.size V).drew).trans hb)
    have hq1:∀W1,Below V.drew.heap.size V.drew W1->W1.cell? ⟨wr.heap.size,0,none⟩=some (.bool bd.bol)/\W1.cell? ⟨wr.heap.size,1,none⟩=some (.bool bd.eol)/\W1.cell? ⟨wr.heap.size,2,none⟩=some (.slice nao bd.nodes.length ncap):=fun W1 hb=>by
     obtain⟨f0,f1,f2,-,-,-⟩:=zaf ((hb.block _ hsV).trans HxV.out);exact⟨f0,f1,f2⟩
    have hmix:Tryz.prog.follows .mixedOrders=true:=by kernel_rfl
    refine zhG hmix ?_;refine zcs [] [0,1] [2,3] 20 (fun w'=>w'=V.drew) rfl (by kernel_rfl) (fun _ _ h=>h) (fun _ _ _ _ h=>h.elim) ?_ _ rfl;intro os hos;simp only[zu1,zu2,zu8,zu7] at hos;subst hos
    change wpQuiet _ _ _ _ [_,_] _
    repeat (go_big_quiet_step (fail))
    refine wpQuiet_nil ?_;rintro w' rfl r' hr';simp only[zu1,zu2,zu8,zu7] at hr';subst hr'
    change wpList _ _ _ [_,_] _ _
    go_wp2_with fail
    refine hmb.mono ?_;rintro r1 W1 ⟨v1,rfl,rfl,hb1⟩;have HT1:=hT1 W1 hb1;obtain⟨f0,f1,f2⟩:=hq1 W1 hb1;clear hmb d0 d1 d2;cases hm1:(a==0 || !bd.bol)
    ·have HF:Hid (false=true↔zaP (bs.getD k .zero) t a e cl):=⟨fun h=>(by cases h),fun h=>by have:=h.1;rw[Hpl.out,hm1] at this;cases this⟩;go_wp2;rw[zbA];refine zcs [0,1,2,3] [4,5,6,7] [8,9,10] 13 (fun w'=>w'=W1) rfl (by kernel_rfl) (fun _ _ h=>h) (fun _ _ _ _ h=>h.elim) ?_ _ rfl;intro os hos;simp only[zu1,zu2,zu8,zu7] at hos;subst hos
     change wpQuiet _ _ _ _ [_,_,_,_] _
     repeat (go_big_quiet_step (fail))
     refine wpQuiet_nil ?_;rintro w' hw' r' hr';replace hw':W1=w':=Eq.symm hw';subst hw';simp only[zu1,zu2,zu8,zu7] at hr';subst hr'
     change wpList _ _ _ [_,_,_] _ _
     go_wp2;rw[zbA];refine zcs [0,1,2,3,4,5,6,7,8,9,10] [11,12,13,14,15,16,17,18,19,20,21] [22,23] 0 (fun w'=>w'=W1) rfl (by kernel_rfl) (fun _ _ h=>h) (fun _ _ _ _ h=>h.elim) ?_ _ rfl;intro os hos;simp only[zu1,zu2,zu8,zu7] at hos;subst hos
     change wpQuiet _ _ _ _ [_,_,_,_,_,_,_,_,_,_,_] _
     repeat (go_big_quiet_step (fail))
     refine wpQuiet_nil ?_;rintro w' hw' r' hr';replace hw':W1=w':=Eq.symm hw';subst hw';simp only[zu1,zu2,zu8,zu7] at hr';subst hr'
     change wpList _ _ _ [_,_] _ _
     go_wp2;rw[zbA];refine⟨by kernel_rfl,?_⟩;rw[za5];go_wp2
     go_meet
     exact⟨Ow,false,rfl,HT1,HF⟩
    ·have hme:Calls Tryz.prog 123 #[.agg #[.bool bd.bol,.bool bd.eol,.slice nao bd.nodes.length ncap],.string t,.int .i64 e,.bool cl] W1 fun r w'=>∃v,r=.returned v/\v=.bool ((cl&&e==t.size) || !bd.eol)/\Below W1.heap.size W1 w':=(zkk bd.bol bd.eol cl nao bd.nodes.length ncap t e W1).mono fun r w' h=>⟨_,h.1,rfl,h.2⟩
     go_wp2;rw[zbA];refine zcs [0,1,2,3] [4,5,6,7] [8,9,10] 13 (fun w'=>w'=W1) rfl (by kernel_rfl) (fun _ _ h=>h) (fun _ _ _ _ h=>h.elim) ?_ _ rfl;intro os hos;simp only[zu1,zu2,zu8,zu7] at hos;subst hos
     change wpQuiet _ _ _ _ [_,_,_,_] _
     repeat (go_big_quiet_step (fail))
     refine wpQuiet_nil ?_;rintro w' hw' r' hr';replace hw':W1=w':=Eq.symm hw';subst hw';simp only[zu1,zu2,zu8,zu7] at hr';subst hr'
     change wpList _ _ _ [_,_,_] _ _
     go_wp2_with fail
     refine hme.mono ?_;rintro r2 W2 ⟨v2,rfl,rfl,hb2⟩;have HT2:=hidF (HT1.out.below hb2);clear hme f0 f1 f2;cases hm2:((cl&&e==t.size) || !bd.eol)
     ·have HF:Hid (false=true↔zaP (bs.getD k .zero) t a e cl):=⟨fun h=>(by cases h),fun h=>by have:=h.1;rw[Hpl.out,hm1,hm2] at this;cases this⟩;go_wp2;rw[zbA];refine zcs [0,1,2,3,4,5,6,7,8,9,10] [11,12,13,14,15,16,17,18,19,20,21] [22,23] 0 (fun w'=>w'=W2) rfl (by kernel_rfl) (fun _ _ h=>h) (fun _ _ _ _ h=>h.elim) ?_ _ rfl;intro os hos;simp only[zu1,zu2,zu8,zu7] at hos;subst hos
      change wpQuiet _ _ _ _ [_,_,_,_,_,_,_,_,_,_,_] _
      repeat (go_big_quiet_step (fail))
      refine wpQuiet_nil ?_;rintro w' hw' r' hr';replace hw':W2=w':=Eq.symm hw';subst hw';simp only[zu1,zu2,zu8,zu7] at hr';subst hr'
      change wpList _ _ _ [_,_] _ _
      go_wp2;rw[zbA];refine⟨by kernel_rfl,?_⟩;rw[za5];go_wp2
      go_meet
      exact⟨Ow,false,rfl,HT2,HF⟩
     ·obtain⟨gp,cp,hvP,k2,k3⟩:=Hcell.out W2 Ow HT2.out.inv k hlt;have hma:=ziq W2 HT2.out.inv (Hat.out k hlt).q (t.extract a e) (by rw[hex];omega);have i0:(0:Int)<=(a:Int):=by omega
      have i1:(a:Int)<=(e:Int):=by omega
      have i2:(e:Int)<=(t.size:Int):=by omega
      have Hpt:Hid (zdK (bs.getD k .zero).bol (bs.getD k .zero).eol t.size a e cl=true):=by show _=_;rw[Hpl.out,hm1,hm2];rfl
      go_wp2;rw[zbA];refine zcs [0,1,2,3,4,5,6,7,8,9,10] [11,12,13,14,15,16,17,18,19,20,21] [22,23] 0 (fun w'=>w'=W2) rfl (by kernel_rfl) (fun _ _ h=>h) (fun _ _ _ _ h=>h.elim) ?_ _ rfl;intro os hos;simp only[zu1,zu2,zu8,zu7] at hos;subst hos
      change wpQuiet _ _ _ _ [_,_,_,_,_,_,_,_,_,_,_] _
      repeat (go_big_quiet_step (fail))
      refine wpQuiet_nil ?_;rintro w' hw' r' hr';replace hw':W2=w':=Eq.symm hw';subst hw';simp only[zu1,zu2,zu8,zu7] at hr';subst hr'
      change wpList _ _ _ [_,_] _ _
      go_wp2_with fail
      refine hma.mono ?_;rintro r3 W3 ⟨Ow3,bb,rfl,hbb,hT3⟩;have HT3:=hidF (HT2.out.trans hT3);have HF:Hid (bb=true↔zaP (bs.getD k .zero) t a e cl):=by
       show _↔_;rw[hbb,zgH,hex];have h1:=zeA (u:=t.data.toList) (i:=a) (n:=e-a) (by simp;omega) (p:=opQ ps k) (a:=0) (b:=e-a) (zvJ _);rw[zvH,show a+(e-a)=e from by omega] at h1;rw[h1,Hlg.out k hlt];exact⟨fun h=>⟨Hpt.out,h⟩,fun h=>h.2⟩
      clear hma hbb hT3 k2 k3;go_wp2;rw[zbA];refine⟨by kernel_rfl,?_⟩;rw[za5];go_wp2
      go_meet
      exact⟨Ow3,bb,rfl,HT3,HF⟩
   case rest=>
    obtain⟨Ow4,bb,rfl,HT4,HBb⟩:=hcut;cases bb with
    |false=>
     have HNo2:Hid (∀j,j<k+1->¬zaP (bs.getD j .zero) t a e cl):=fun j hj=>by
      by_cases ej:j=k
      ·subst ej;rw[<-HBb.out];simp
      ·exact HNo.out j (by omega)
     have HI4:=hidF (HIT.out.trans HT4.out);clear HT4 HTV HxV HIT;go_wp2
     go_roundw
     case rel=>exact⟨k+1,Ow4,by go_num,by omega,HI4,HNo2⟩
     case measure=>simp[intOf];omega
    |true=>
     have hbel:=HBb.out.1 rfl;obtain⟨y2,y3,hy⟩:=Hg0.out wc Ow4 HT4.out.inv;have hno:=zir pl G _ y2 y3 wc hy hG;have hlgk:Lg t.data.toList (opQ ps k) a e:=(Hlg.out k hlt).2 hbel.2;have HI4:=hidF HT4.out.inv;have HTT:=hidF (HIT.out.trans HT4.out);clear HIT
     go_wp2_with fail
     refine hno.mono ?_;rintro x5 W5 ⟨gs,rfl,hgs,own5,hb5⟩;have hpn:pv (List.replicate (G+1) ((-1:Int),(-1:Int)))=pv (List.replicate (G+1) (-1,-1)):=rfl;obtain⟨o1,q1⟩:=own5.stored (0*2) (.int .i64 a);obtain⟨o2,q2⟩:=o1.stored (0*2+1) (.int .i64 e);rw[zqk _ _ _ _ (by simp)] at o2;have hnl:(List.replicate (G+1) ((-1:Int),(-1:Int))).set 0 ((a:Int),(e:Int))=zbT ((a:Int),(e:Int)) G:=by simp[zbT,List.replicate_succ]
     rw[hnl] at o2;simp only[Nat.zero_mul,zvS] at o1 o2 q1 q2;obtain⟨u0,u1,s0,s1,fz0,fz1⟩:=zhb own5 (k:=0) (by omega);simp only[Nat.zero_mul,zvS] at s0 s1 fz0 fz1;obtain⟨W6,hW6⟩:∃W6,(W5.setCell ⟨gs,0,none⟩ (.int .i64 a)).setCell ⟨gs,1,none⟩ (.int .i64 e)=W6:=⟨_,rfl⟩;rw[hW6] at o2 q2;have tc6:zam (· = gs) W5 W6:=((zam.refl _ W5).grown q1 (fun k e=>.inl (Option.some.inj e).symm)).grown q2 (fun k e=>.inl (Option.some.inj e).symm);have hI5:=HI4.out.below hb5;have hfree:∀b,¬Ow4 gs b:=fun b ho=>by have:=(HI4.out.ow gs b ho).2;omega
     have hwc:=HI4.out.size;have hty5:∃cur,W5.heap[gs]?=some (.cells cur 71 (0,0)):=(zaD own5 (by simp[Value.ownBlock])).2;have hI6:=hI5.free tc6 (fun mg f e=>(tc6.same mg (zuH.1 e).1 (fun e2=>by
      have e2:mg=gs:=e2;obtain⟨cur,h5⟩:=hty5;rw[e2,h5] at e;exact absurd (zad e) (by decide))).trans e) (fun k e=>by have e:k=gs:=e;subst e;exact⟨by omega,hfree⟩)
     have own6:W6.ownsRow w0.heap.size 71 2 (.slice (some ⟨gs,0,none⟩) (G+1) (G+1)) (G+1) (pv (zbT ((a:Int),(e:Int)) G)):=zck o2 hwc;have HI6:=hidF hI6;have Hk6:Hid (∀j,j<W5.heap.size->j≠gs->W6.heap[j]?=W5.heap[j]?):=fun j h1 h2=>tc6.same j h1 h2
     have Hown6:=hidF own6;have hgs6:gs<W6.heap.size:=(zdJ own6).2.2.1;have hs56:=tc6.size;have hs45:=hb5.size;have hG1:(G:Int)+1=((G+1:Nat):Int):=by omega
     obtain⟨m,Hm⟩:∃m,Hid (G+1=m):=⟨_,rfl⟩;have hm0:(0:Int)<(m:Int):=by have:=Hm.out;omega
     rw[Hm.out] at Hown6 ⊢;clear hno own5 o1 o2 q1 q2 tc6 hI5 hI6 own6 hty5 hy hpn hnl;obtain⟨gp,cp,hvP,-,-⟩:=Hcell.out W6 Ow4 HI6.out k hlt;have hx9:∀s:ExtU W6,s.W.cell? ⟨pl,2,none⟩=some (.slice (some ⟨gp,0,none⟩) bs.length cp)/\s.W.cell? ⟨gp,k,none⟩=some (.pointer (some ⟨opA ps k,0,none⟩)):=fun s=>by
      obtain⟨gp',cp',hv',k2,k3⟩:=Hcell.out s.W Ow4 (HI6.out.below s.h) k hlt;rw[hvP] at hv';injection hv' with e1 e2 e3
      injection e1 with e1
      injection e1 with e1
      subst e1;subst e3;exact⟨k2,k3⟩
     have x1:∀s:ExtU W6,s.W.cell? ⟨pl,2,none⟩=some (.slice (some ⟨gp,0,none⟩) bs.length cp):=fun s=>(hx9 s).1
     have x2:∀s:ExtU W6,s.W.cell? ⟨gp,k,none⟩=some (.pointer (some ⟨opA ps k,0,none⟩)):=fun s=>(hx9 s).2
     clear hx9 hvP;have hpk:opA ps k=opA ps k:=rfl
     go_upto_region 7 with fail
     clear hW6 s0 s1 fz0 fz1;have hmix:Tryz.prog.follows .mixedOrders=true:=by kernel_rfl
     refine zcx [0,1,3,4,5,6,7,8,9,10,11] [2,12] 12 (fun w'=>∃s:ExtU W6,w'=s.W) hmix ⟨⟨W6.drew,(Below.refl _ _).drew⟩,rfl⟩ (by kernel_rfl) ?_;intro os hos;simp only[zu1,zu2,zu8,zu7] at hos;subst hos
     change wpQuiet _ _ _ _ [_,_,_,_,_,_,_,_,_,_,_] _
     repeat (go_big_quiet_step (fail))
     refine wpQuiet_nil ?_;rintro w' ⟨⟨Wb,hWb⟩,hw'⟩ r' hr';replace hw':w'=Wb:=hw';subst w';simp only[zu1,zu2,zu8,zu7,Option.map_some] at hr';subst hr';clear x1 x2 hpk;refine za2 rfl (fun K5 hK5=>?_);refine zdI 131 #[.tmp 55,.tmp 56] #[9,33] (by rfl) #[.string t,.slice (some ⟨gs,0,none⟩) m m] (by simp[Act.eval]) (fun v w'=>∃bs bt bp,v=plFn bs bt bp/\Below Wb.heap.size Wb w'/\Wb.heap.size<=bs/\Wb.heap.size<=bt/\Wb.heap.size<=bp/\w'.heap[bs]?=some (.cells #[.slice (some ⟨gs,0,none⟩) m m] 33 (0,0))/\w'.heap[bt]?=some (.cells #[.string t] 9 (0,0))/\w'.heap[bp]?=some (.cells #[plFn bs bt bp] 205 (0,0))) (zlk _ _) ((zqh t gs m m Wb).mono (by
      rintro e w1 ⟨bs1,bt1,bp1,rfl,h1⟩;exact⟨_,rfl,bs1,bt1,bp1,rfl,h1⟩)) ?_
     rintro v8 W8 ⟨b1,b2,b3,rfl,hb8,l1,l2,l3,z1,z2,z3⟩;have hW68:Below W6.heap.size W6 W8:=zaa hWb hWb.size hb8;refine hK5 _ _ (fun _=>⟨⟨W8,hW68⟩,rfl⟩) ?_;clear hK5 K5;have hs6b:=hWb.size;have hfr8:∀b',W6.heap.size<=b'->w0.heap.size<=b'/\∀q,¬Ow4 b' q:=fun b' hb'=>⟨by omega,fun q ho=>by have:=(HI6.out.ow b' q ho).2;omega⟩
     have hPl:PlW w0 pl Q b1 b2 b3 gs m m t Ow4 W8 (zbT ((a:Int),(e:Int)) G):=⟨HI6.out.below hW68,z1,z2,z3,zac Hown6.out hW68,by rw[zcD];exact Hm.out,hfr8 b1 (by omega),hfr8 b2 (by omega),hfr8 b3 (by omega),⟨by omega,hfree⟩⟩;have hpc:=zr5 (lo:=wB.heap.size) ht (opQ ps k) W8 Ow4 _ (opA ps k) a e hPl (Hat.out k hlt) hlgk (fun l hl x hx=>by
      have:=Hgr.out k hlt l ((HE.out k hlt).pl _ _ _ _ hlgk hl) x hx;rw[Hm.out] at this;exact this)
     refine za2 rfl (fun K6 hK6=>?_);refine zrZ (.tmp 57) #[.tmp 64,.tmp 65,.tmp 66] #[198,3,3] (by rfl) 150 #[.pointer (some ⟨b1,0,none⟩),.pointer (some ⟨b2,0,none⟩),.pointer (some ⟨b3,0,none⟩)] (by simp[Act.eval,Act.put];rfl) #[.pointer (some ⟨opA ps k,0,none⟩),.int .i64 a,.int .i64 e,.pointer (some ⟨b1,0,none⟩),.pointer (some ⟨b2,0,none⟩),.pointer (some ⟨b3,0,none⟩)] (by simp[Act.eval,Act.put]) (fun v w'=>PlP w0 pl Q b1 b2 b3 gs m m t Ow4 W8 (zbT ((a:Int),(e:Int)) G) (opQ ps k) a e (.returned v) w') (znD _ _) (hpc.mono (by
      rintro e w1 ⟨Ow9,l,rfl,h1⟩;exact⟨_,rfl,Ow9,l,rfl,h1⟩)) ?_
     rintro v9 W9 ⟨Ow9,l,hv9,hl9,hP9,hT9⟩;injection hv9 with hv9
     subst hv9;refine hK6 _ _ (fun h=>by simp at h) ?_;clear hK6 K6;have HF:Hid (CapP w0 pl Q OwI WI G bs t a e cl (.returned (.slice (some ⟨gs,0,none⟩) m m)) W9):=by
      have hsI:=HTT.out.size;refine⟨upG (zbT ((a:Int),(e:Int)) G) l,_,Ow9,.inr ⟨k,hlt,HNo.out,hbel,l,(HE.out k hlt).pl _ _ _ _ hlgk hl9,rfl⟩,rfl,?_,HTT.out.trans ⟨hP9.inv,by have:=hT9.size;have:=hW68.size;omega,fun j h1 h2 h3=>?_⟩,fun j b hj=>?_⟩
      ·rw[zdp,zcD,Hm.out];exact zuj hP9.row (by omega)
      ·obtain⟨e2,f2⟩:=hT9.fre j h1 (by have:=hW68.size;omega) (by omega) h3;exact⟨e2.trans ((hW68.block j (by omega)).trans ((Hk6.out j (by omega) (by omega)).trans (hb5.block j h2))),f2⟩
      ·have hj:gs=j:=by simpa [Value.ownBlock] using hj
       subst hj;exact hP9.fg.2 b
     clear hpc hPl hl9 hP9 HI6 Hown6 hT9 Hk6;show zfB _ .normal _ _;rw[za5];go_wp2;go_ret;exact HF.out
  ·obtain rfl:k=bs.length:=by omega
   have hd:decide ((bs.length:Int)<(bs.length:Int))=false:=by simp
   have HF:Hid (CapP w0 pl Q OwI WI G bs t a e cl (.returned (.slice (some ⟨wr.heap.size,0,none⟩) 0 0)) (wr.alloc (.cells #[] 71))):=⟨[],_,Ow,.inl ⟨HNo.out,rfl⟩,rfl,zcF wr _ 2 WI.heap.size wr.heap.size HIT.out.size rfl,HIT.out.below ((Below.refl _ _).alloc (zvJ _) _),fun j b hj ho=>by
    have hj:wr.heap.size=j:=by simpa [Value.ownBlock] using hj
    have:=(HIT.out.inv.ow j b ho).2;omega⟩
   clear HI HNo HIT;go_wp2;go_ret;exact HF.out
end Go.Proofs.YtdimhpfiieepiaaGreatDoor
