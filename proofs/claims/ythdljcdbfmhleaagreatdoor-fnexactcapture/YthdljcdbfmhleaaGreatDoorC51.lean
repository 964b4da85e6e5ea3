import Derived.Test.YthdljcdbfmhleaaGreatDoorC50
import Derived.ProofKit
import Derived.Deep.Slices
import Derived.Deep.Strs
import Derived.Lib.SmallJoins
import Derived.Test.YthdljcdbfmhleaaGreatDoorRows
import Derived.Test.YthdljcdbfmhleaaGreatDoorCards
import Derived.Test.YthdljcdbfmhleaaGreatDoorTie
import Derived.ChangeMaps5
import Derived.ChangeSame
import Derived.ChangeVars
import Derived.JoinedOf
import Derived.RowKitTokens
import Derived.LaidLaws
import Derived.LaidHandle
import Derived.Lib.LaidTab
import Derived.SevenTiedAt
namespace Go.Proofs.YthdljcdbfmhleaaGreatDoor
set_option maxHeartbeats 4000000
set_option maxRecDepth 100000
section
variable {l:Int}{ns:List zak}
open Go.RowKit
theorem zgw{rs:List (Int×Int)}(h:0<=zaI rs l)(hl:l<=1048576):rs.length<=1048576:=by
 unfold zaI at h;split at h<;>omega
theorem zdC:∀(ns:List zak) (l:Int),0<=l->l<=1048576->0<=za0 ns l->∀j,j<ns.length->(ns.getD j .zero).set.length<=1048576
 |[],_,_,_,_,j,hj=>absurd hj (zsg _)
 |n::ns,l,h0,h1,h,j,hj=>by
  unfold za0 at h;have hb:=zb2 n.set l h0
  by_cases hc:zaI n.set l<0
  ·rw[zst hc] at h;omega
  ·rw[zss hc] at h;cases j with
   |zero=>exact zgw (rs:=n.set) (show 0<=zaI n.set l by omega) h1
   |succ j=>exact zdC ns _ (by omega) (by omega) h j (by simpa using hj)
theorem zhF(h1:l<=1048576)(h:0<=zaH ns l):ns.length<=1048576/\∀j,j<ns.length->(ns.getD j .zero).set.length<=1048576:=by
 unfold zaH at h
 by_cases hc:l-ns.length<0
 ·rw[zst hc] at h;omega
 ·rw[zss hc] at h;exact⟨by omega,zdC ns _ (by omega) (by omega) h⟩
theorem zcJ:∀(bs:List zaf) (l:Int),0<=l->l<=1048576->0<=zaE bs l->∀i,i<bs.length->(bs.getD i .zero).nodes.length<=1048576/\∀j,j<(bs.getD i .zero).nodes.length->((bs.getD i .zero).nodes.getD j .zero).set.length<=1048576
 |[],_,_,_,_,j,hj=>absurd hj (zsg _)
 |b::bs,l,h0,h1,h,i,hi=>by
  unfold zaE at h;have hb:=zck b.nodes l h0
  by_cases hc:zaH b.nodes l<0
  ·rw[zst hc] at h;omega
  ·rw[zss hc] at h;cases i with
   |zero=>exact zhF (ns:=b.nodes) h1 (show 0<=zaH b.nodes l by omega)
   |succ i=>exact zcJ bs _ (by omega) (by omega) h i (by simpa using hi)
theorem zpp{bs:List zaf}(h:0<=zaN bs 1048576):Small bs:=by
 unfold zaN at h
 by_cases hc:(1048576:Int)-bs.length<0
 ·rw[zst hc] at h;omega
 ·rw[zss hc] at h;exact⟨by omega,zcJ bs _ (by omega) (by omega) h⟩
theorem zpz:∀(ns:List zak) (l:Int),0<=l->0<=za0 ns l->(cNs ns:Int)<=4*ns.length+2*(l-za0 ns l)
 |[],l,_,h=>by simp[cNs,za0]
 |m::ns,l,hl,h=>by
  have hq:=zb2 m.set l hl;have e:za0 (m::ns) l=if zaI m.set l<0 then -1 else za0 ns (zaI m.set l):=rfl
  rw[e] at h ⊢
  by_cases hc:zaI m.set l<0
  ·rw[zst hc] at h;omega
  ·rw[zss hc] at h ⊢;have:=zpz ns _ (by omega) h;have hs:zaI m.set l=l-m.set.length:=by unfold zaI at hc ⊢;split at hc<;>omega
   simp only[cNs,zrQ,List.sum_cons,cNd,zrL] at this ⊢;omega
theorem zpW(h:0<=zaH ns l):(cNs ns:Int)<=4*(l-zaH ns l):=by
 unfold zaH at h ⊢
 by_cases hc:l-ns.length<0
 ·rw[zst hc] at h;omega
 ·rw[zss hc] at h ⊢;have:=zpz ns _ (by omega) h;have:=zgb ns (l-ns.length) (by omega);omega
theorem zpy:∀(ns:List zaf) (l:Int),0<=l->0<=zaE ns l->(cBs ns:Int)<=2*ns.length+4*(l-zaE ns l)
 |[],l,_,h=>by simp[cBs,zaE]
 |m::ns,l,hl,h=>by
  have hq:=zck m.nodes l hl;have e:zaE (m::ns) l=if zaH m.nodes l<0 then -1 else zaE ns (zaH m.nodes l):=rfl
  rw[e] at h ⊢
  by_cases hc:zaH m.nodes l<0
  ·rw[zst hc] at h;omega
  ·rw[zss hc] at h ⊢;have:=zpy ns _ (by omega) h;have:=zpW (by omega:0<=zaH m.nodes l);simp only[cBs,zrQ,List.sum_cons,cBr,zrL] at this ⊢;simp only[cBs] at *;omega
theorem zpV{ns:List zaf}(h:0<=zaN ns l):(cBs ns:Int)<=4*(l-zaN ns l):=by
 unfold zaN at h ⊢
 by_cases hc:l-ns.length<0
 ·rw[zst hc] at h;omega
 ·rw[zss hc] at h ⊢;have:=zpy ns _ (by omega) h;have:=zdB ns (l-ns.length) (by omega);omega
attribute [local go_sem ↓] Go.wp_at_zero Go.wp_at_succ
theorem zjt{lo T:Nat}(g:Int)(ao:Option Addr)(bn bc:Nat)(bs:List zaf)(k:Nat)(w:World)(h:BraW lo T w (.slice ao bn bc) bs)(hT:T<=w.heap.size)(hk:k+cBs bs<=90000000):
  Calls Tryz.prog 10 #[.agg #[.slice ao bn bc,.int .i64 g],.int .i64 (k:Int)] w fun e W=>e=.returned (.int .i64 ((k+cBs bs:Nat):Int))/\(∀j,j<w.heap.size->(j<lo\/T<=j)->W.heap[j]?=w.heap[j]?)/\w.heap.size<=W.heap.size/\W.os=w.os/\W.tape=w.tape/\W.output=w.output:=by
 obtain⟨W0,hW0⟩:∃W0,w.alloc (.cells #[.slice ao bn bc,.int .i64 g] 30)=W0:=⟨_,rfl⟩;have hb0:Below w.heap.size w W0:=by rw[<-hW0];exact(Below.refl _ _).alloc (zsa _) _
 have x0:W0.heap[w.heap.size]?=some (.cells #[.slice ao bn bc,.int .i64 g] 30 (0,0)):=by rw[<-hW0];exact zsp _ _
 have c0:=(zay x0).1;have hc:=zgq (.slice ao bn bc) bs k W0 (h.keep (zsa _) (zsa _) (fun b o _ hl e=>(hb0.block b (by omega)).trans e)) hk;clear h x0
 go_enter Tryz.func10,Tryz.ntmps10
 go_wp2_with fail
 refine hc.mono ?_;rintro e W1 ⟨rfl,hM⟩;have HM:=hidF hM;clear hc hM c0;go_wp2;go_ret;exact⟨rfl,fun j hj hl=>(HM.out.out j (zsc hj hb0.size) hl).trans (hb0.block j hj),zsb hb0.size HM.out.size,HM.out.os.trans hb0.os,HM.out.tape.trans hb0.tape,HM.out.output.trans hb0.output⟩
theorem zjf(xs:Array Value)(w:World):(callFunc 6 xs).run Tryz.prog w=.ok (.enter 6 xs) w:=by kernel_rfl
theorem zjc(xs:Array Value)(w:World):(callFunc 9 xs).run Tryz.prog w=.ok (.enter 9 xs) w:=by kernel_rfl
end
section
open Go.RowKit
attribute [local go_sem ↓] Go.wp_at_zero Go.wp_at_succ
theorem ziu{w:World}{B:Nat}{e:TypeId}{sz n:Nat}{v:Value}{xs:List Value}(h:w.ownsRow B e sz v n xs):∃ao nn c,v=.slice ao nn c:=by
 rcases h.2 with ⟨e,_⟩|⟨g,c,_,e,_⟩
 ·exact⟨_,_,_,e⟩
 ·exact⟨_,_,_,e⟩
theorem zhi{lo:Nat}(G:Int)(v:Value)(bs:List zaf)(t:ByteArray)(aa ee:Int)(cl:Bool)(w:World)(hs:zaj lo w v bs)(hBr:zaY w):
  Calls Tryz.prog 3 #[.agg #[v,.int .i64 G],.string t,.int .i64 aa,.int .i64 ee,.bool cl] w fun r w'=>r=.returned (.bool true)/\Below w.heap.size w w':=by
 have hs0:=hs;have hpos:=zbm hBr;obtain⟨ao,cap,rfl,hm,hc⟩:=hs;obtain⟨r,hr⟩:=zme G bs t aa ee cl;have hrl:=zoi hr;have hb0:Below w.heap.size w (w.alloc (.cells #[.slice ao bs.length cap,.int .i64 G] 24)):=(Below.refl _ _).alloc (zsa _) _;have hsz:=zdA bs 1048576 (by omega)
 by_cases htx:(1048576:Int)<(t.size:Int)
 ·go_enter Tryz.func3,Tryz.ntmps3
  go_wp2;go_ret;exact⟨rfl,hb0⟩
 go_enter Tryz.func3,Tryz.ntmps3
 go_wp2_with fail
 refine(znS G _ bs 1048576 _ (hs0.below hb0) (by omega) (by omega)).mono ?_;rintro e w1 ⟨rfl,hb1⟩;have hbb1:=zaa hb0 hb0.size hb1;have hz1:w.heap.size<w1.heap.size:=zsc (by simp) hb1.size;have a0:w1.cell? ⟨w.heap.size,0,none⟩=some (.slice ao bs.length cap):=(hb1.cell (by simp)).trans (by simp);have a1:w1.cell? ⟨w.heap.size,1,none⟩=some (.int .i64 G):=(hb1.cell (by simp)).trans (by simp)
 by_cases hneg:zaN bs 1048576<0
 ·go_wp2;go_ret;exact⟨rfl,hbb1⟩
 have hsm:Small bs:=zpp (by omega);have hcb:cBs bs<=4194304:=by have:=zpV (ns:=bs) (l:=1048576) (by omega);omega
 go_wp2_with fail
 refine(zge G _ bs _ (hs0.below hbb1) hsm).mono ?_;rintro e w2 ⟨bv2,rfl,hx2,hb2⟩;have hbb2:=zaa hbb1 hbb1.size hb2;have b0:=(hb2.cell (p:=⟨w.heap.size,0,none⟩) hz1).trans a0;have b1:=(hb2.cell (p:=⟨w.heap.size,1,none⟩) hz1).trans a1;have hz2:w.heap.size<w2.heap.size:=zsc hz1 hb2.size;clear a0 a1
 go_wp2_with fail
 refine(zgv G _ bs t aa ee cl r _ hx2 hsm hr).mono ?_;rintro e w3 ⟨v3,rfl,own3,hb3⟩;have hbb3:=zaa hbb2 hbb2.size hb3;have d0:=(hb3.cell (p:=⟨w.heap.size,0,none⟩) hz2).trans b0;have d1:=(hb3.cell (p:=⟨w.heap.size,1,none⟩) hz2).trans b1;have hz3:w.heap.size<w3.heap.size:=zsc hz2 hb3.size;have R3:∀W,Below w3.heap.size w3 W->zag w2.heap.size W v3 r:=fun W hb=>(PvO.read own3 (by omega)).below hb
 have D3:∀W,Below w3.heap.size w3 W->W.cell? ⟨w.heap.size,0,none⟩=some (.slice ao bs.length cap)/\W.cell? ⟨w.heap.size,1,none⟩=some (.int .i64 G)/\Below w.heap.size w W/\w.heap.size<W.heap.size:=fun W hb=>⟨(hb.cell (p:=⟨w.heap.size,0,none⟩) hz3).trans d0,(hb.cell (p:=⟨w.heap.size,1,none⟩) hz3).trans d1,zaa hbb3 hbb3.size hb,zsc hz3 hb.size⟩
 obtain⟨vo3,vn3,vc3,rfl⟩:=ziu own3;clear b0 b1
 go_wp2_with fail
 refine(zl2 G _ bs _ (hs0.below hbb3) hsm).mono ?_;rintro e w4 ⟨bv4,rfl,hx4,hb4⟩;obtain⟨ao4,cap4,hv4,hm4,hc4⟩:=hx4.1;subst hv4;obtain⟨W4,hW4⟩:∃W4,w4.alloc (.cells #[.slice ao4 bs.length cap4,.int .i64 G] 30)=W4:=⟨_,rfl⟩;have hb4a:Below w4.heap.size w4 W4:=by rw[<-hW4];exact(Below.refl _ _).alloc (zsa _) _
 have xW4:W4.heap[w4.heap.size]?=some (.cells #[.slice ao4 bs.length cap4,.int .i64 G] 30 (0,0)):=by rw[<-hW4];exact zsp _ _
 have hb34:Below w3.heap.size w3 W4:=zaa hb4 hb4.size hb4a;obtain⟨g0,g1⟩:=zay xW4;have hl4:w4.heap.size<W4.heap.size:=(zrc.1 xW4).1;have hx4a:zaj w3.heap.size W4 (.slice ao4 bs.length cap4) bs:=hx4.1.below hb4a;have Hw4:Hid (BraW w3.heap.size w4.heap.size w4 (.slice ao4 bs.length cap4) bs):=hx4.2;have hci:=zdw G _ bs t aa ee cl r W4 hx4a hsm (hBr.keep ((D3 W4 hb34).2.2.1.block 0 hpos)) hr;clear hx4 d0 d1
 go_wp2_with fail
 refine hci.mono ?_;rintro e w5 ⟨v5,rfl,own5,hb5⟩;obtain⟨vo5,vn5,vc5,rfl⟩:=ziu own5;have hb35:Below w3.heap.size w3 w5:=zaa hb34 hb34.size hb5;have x5:=(hb5.block _ hl4).trans xW4;have hx5:zaj w3.heap.size w5 (.slice ao4 bs.length cap4) bs:=hx4a.below hb5;have heq1:=zex _ _ r w5 (PvO.read own5 (by omega)) (R3 w5 hb35);clear hci g0 g1
 go_wp2_with fail
 refine heq1.mono ?_;rintro e w6 ⟨rfl,hb6⟩;have hb36:Below w3.heap.size w3 w6:=zaa hb35 hb35.size hb6;have hl5:w4.heap.size<w5.heap.size:=(zrc.1 x5).1;have x6:=(hb6.block _ hl5).trans x5;have hl6:w4.heap.size<w6.heap.size:=(zrc.1 x6).1;have y0:∀s:ExtU w6,s.W.cell? ⟨w.heap.size,0,none⟩=some (.slice ao bs.length cap):=fun s=>(D3 s.W (zaa hb36 hb36.size s.h)).1
 have y1:∀s:ExtU w6,s.W.cell? ⟨w.heap.size,1,none⟩=some (.int .i64 G):=fun s=>(D3 s.W (zaa hb36 hb36.size s.h)).2.1
 have z0:∀s:ExtU w6,s.W.cell? ⟨w4.heap.size,0,none⟩=some (.slice ao4 bs.length cap4):=fun s=>(zay ((s.h.block _ hl6).trans x6)).1
 have z1:∀s:ExtU w6,s.W.cell? ⟨w4.heap.size,1,none⟩=some (.int .i64 G):=fun s=>(zay ((s.h.block _ hl6).trans x6)).2
 have Hx5:=hidF hx5;have HR3:=hidF R3;have HD3:=hidF D3;have Hs0:=hidF hs0;have Hown5:=hidF own5;have Hr:=hidF hr;have HBr:=hidF hBr;clear hx5 R3 D3 hs0 own5 own3 hr hBr heq1 hx4a hc hc4 hx2 hW4 hb0
 go_upto_region 12 with fail
 have hmix:Tryz.prog.follows .mixedOrders=true:=by kernel_rfl
 refine zdE [0,1] [2,3,4] 3 (fun w'=>∃s:ExtU w6,w'=s.W) hmix ⟨⟨w6.drew,(Below.refl _ _).drew⟩,rfl⟩ (by kernel_rfl) ?_;intro os hos;simp only[zru,zrv,zrB,zrA] at hos;subst hos
 change wpQuiet _ _ _ _ [_,_] _
 repeat (go_big_quiet_step (fail))
 refine wpQuiet_nil ?_;rintro w' ⟨⟨Wb,hWb⟩,hw'⟩ r' hr';replace hw':w'=Wb:=hw';subst w';simp only[zru,zrv,zrB,zrA,Option.map_some] at hr';subst hr';clear y0 y1 z0 z1;have hb3b:Below w3.heap.size w3 Wb:=zaa hb36 hb36.size hWb;refine zbE rfl (fun K5 hK5=>?_);refine zd6 6 #[.tmp 47] #[24] (by rfl) #[.agg #[.slice ao bs.length cap,.int .i64 G]] (by simp[Act.eval]) (fun v w'=>∃bv',v=.agg #[bv',.int .i64 G]/\zaj Wb.heap.size w' bv' bs/\Below Wb.heap.size Wb w') (zjf _ _) ((zge G _ bs Wb (Hs0.out.below (HD3.out Wb hb3b).2.2.1) hsm).mono (by
  rintro e w1 ⟨bv',rfl,h1⟩;exact⟨_,rfl,bv',rfl,h1⟩)) ?_
 rintro v8 W8 ⟨bv8,rfl,hx8,hb8⟩;refine hK5 _ _ (fun _=>⟨⟨W8,zaa hWb hWb.size hb8⟩,rfl⟩) ?_;clear hK5 K5;have hb38:Below w3.heap.size w3 W8:=zaa hb3b hb3b.size hb8;have hb58:Below w5.heap.size w5 W8:=zaa (zaa hb6 hb6.size hWb) (zsb hb6.size hWb.size) hb8;refine zbE rfl (fun K6 hK6=>?_);refine zd6 9 #[.tmp 46,.tmp 48] #[30,30] (by rfl) #[.agg #[.slice ao4 bs.length cap4,.int .i64 G],.agg #[bv8,.int .i64 G]] (by simp[Act.eval,Act.put]) (fun v w'=>v=.bool true/\Below W8.heap.size W8 w') (zjc _ _) ((zmF G _ _ bs W8 (Hx5.out.below hb58) hx8).mono (by
  rintro e w1 ⟨rfl,h1⟩;exact⟨_,rfl,rfl,h1⟩)) ?_
 rintro v9 W9 ⟨rfl,hb9⟩;refine hK6 _ _ (fun h=>by simp at h) ?_;clear hK6 K6;refine zcu _ _ _ (by simp) (fun _ _ h=>h) ?_
 change wpList _ _ _ [_] _ _
 have hb39:Below w3.heap.size w3 W9:=zaa hb38 hb38.size hb9;have hb59:Below w5.heap.size w5 W9:=zaa hb58 hb58.size hb9;have x9:=(hb59.block _ hl5).trans x5;obtain⟨q0,q1⟩:=zay x9;have hb49:Below w4.heap.size w4 W9:=zaa (zaa hb4a hb4a.size hb5) (zsb hb4a.size hb5.size) hb59;have hmk:=zjt G ao4 bs.length cap4 bs 1 W9 (Hw4.out.keep (zsa _) (zsa _) (fun b o _ hl e=>(hb49.block b hl).trans e)) hb49.size (by omega);rw[show ((1:Nat):Int)=1 from rfl] at hmk;obtain⟨kk,hkk⟩:∃kk,1+cBs bs=kk:=⟨_,rfl⟩;rw[hkk] at hmk;have hkd:decide ((kk:Int)<0)=false:=by simp
 clear hx8;go_wp2;rw[za5]
 go_wp2_with fail
 refine hmk.mono ?_;rintro e10 W10 ⟨rfl,hM,hMs,hMo,hMt,hMu⟩;have hb310:Below w3.heap.size w3 W10:=⟨hMo.trans hb39.os,hMt.trans hb39.tape,hMu.trans hb39.output,zsb hb39.size hMs,fun k hk=>(hM k (zsc hk hb39.size) (.inl hk)).trans (hb39.block k hk)⟩;have own10:PvO W4.heap.size W10 (.slice vo5 vn5 vc5) r:=zaO Hown5.out (fun k e=>by
  obtain⟨z1,cur,z2⟩:=zaR Hown5.out e;have hk5:=(zrc.1 z2).1;have:=hb59.size;exact(hM k (by omega) (.inr (by omega))).trans (hb59.block k hk5))
 have heq2:=zex _ _ r W10 (PvO.read own10 (by omega)) (HR3.out W10 hb310);have Hown10:=hidF own10;clear hmk hM q0 q1 own10
 go_wp2_with fail
 refine heq2.mono ?_;rintro e11 W11 ⟨rfl,hb11⟩;have hb311:Below w3.heap.size w3 W11:=zaa hb310 hb310.size hb11;have own11:PvO W4.heap.size W11 (.slice vo5 vn5 vc5) r:=zab Hown10.out hb11;have hmp:=zih 1 W11 own11 (by omega) (by omega);have hW4s:w3.heap.size<=W4.heap.size:=hb34.size;have Hown11:=hidF own11;clear heq2 own11
 go_wp2_with fail
 refine hmp.mono ?_;rintro e12 W12 ⟨rfl,own12,grow12⟩;have hb312:Below w3.heap.size w3 W12:=hb311.grown grow12 hb311.size (fun k e=>by
  obtain⟨z1,_⟩:=zaR Hown11.out e;omega)
 have hhe:=zh4 (n:=r.length) 1 W12 (PvO.read own12 (by rw[zcO];omega)) (by omega) (by omega);clear hmp own12 grow12
 go_wp2_with fail
 refine hhe.mono ?_;rintro e13 W13 ⟨rfl,hW13⟩;subst hW13;obtain⟨f0,f1,hbw,hlw⟩:=HD3.out _ hb312;have hto:=zge G _ bs _ (Hs0.out.below hbw) hsm;have hnn:decide ((1:Int)+2*(r.length:Int)<0)=false:=by simp;omega
 have hne:((1:Int)+2*(r.length:Int) != 1+2*(r.length:Int))=false:=by simp
 clear hhe
 go_wp2_with fail
 refine hto.mono ?_;rintro e14 W14 ⟨bv14,rfl,hx14,hb14⟩;have hb314:Below w3.heap.size w3 W14:=zaa hb312 hb312.size hb14;have hbw14:=(HD3.out _ hb314).2.2.1;have hci2:=zdw G _ bs t aa ee cl r W14 hx14 hsm (HBr.out.keep (hbw14.block 0 hpos)) Hr.out;clear hto f0 f1
 go_wp2_with fail
 refine hci2.mono ?_;rintro e15 W15 ⟨v15,rfl,own15,hb15⟩;have hb315:Below w3.heap.size w3 W15:=zaa hb314 hb314.size hb15;have heq3:=zex _ _ r W15 (PvO.read own15 (by omega)) (HR3.out W15 hb315);clear hci2 own15 hx14
 go_wp2_with fail
 refine heq3.mono ?_;rintro e16 W16 ⟨rfl,hb16⟩;have HF:=hidF (HD3.out _ (zaa hb315 hb315.size hb16)).2.2.1;clear heq3;go_wp2;go_ret;exact⟨rfl,HF.out⟩
end
section
open Go.RowKit Go.ChangeShapes Go.WideShapes Go.ChangeAt
theorem Tryz.cellsInt:Tryz.prog.cellsOf 3=1:=by kernel_rfl
theorem Tryz.cellsBool:Tryz.prog.cellsOf 4=1:=by kernel_rfl
theorem Tryz.cellsRange:Tryz.prog.cellsOf 227=2:=by kernel_rfl
theorem Tryz.cellsRangeS:Tryz.prog.cellsOf 145=1:=by kernel_rfl
theorem Tryz.cellsNode:Tryz.prog.cellsOf 147=5:=by kernel_rfl
theorem Tryz.cellsNodeS:Tryz.prog.cellsOf 63=1:=by kernel_rfl
theorem Tryz.cellsBranch:Tryz.prog.cellsOf 65=3:=by kernel_rfl
theorem Tryz.cellsRule:Tryz.prog.cellsOf 24=2:=by kernel_rfl
section
variable {H:Type} {enc:TypeId×Value->H} {W:World} {spare:Nat->Bool} {held:Bool}
theorem zlV{fuel:Nat}{cs:List Value}{x:DataW H×List MemPlace}(h:DataW.trod enc Tryz.prog W 0 spare held fuel 227 cs=some x):∃lo hi:Int,cs=[.int .i64 lo,.int .i64 hi]:=by
 obtain⟨y0,y1,n,_,hl,h0,h1⟩:=trod_struct2 Tryz.underlying227 h;rw[Tryz.cellsRange] at hl
 match cs,hl with
 |[c0,c1],_=>
  simp[Tryz.cellsInt] at h0 h1;obtain⟨a,e0,_,_⟩:=DataW.trod_int Tryz.underlying3 h0;obtain⟨b,e1,_,_⟩:=DataW.trod_int Tryz.underlying3 h1;simp only[List.cons.injEq,and_true] at e0 e1;exact⟨a,b,by rw[e0,e1]⟩
theorem zjX{fuel:Nat}{c:Value}{x:DataW H×List MemPlace}(h:DataW.trod enc Tryz.prog W 0 spare held fuel 145 [c]=some x):∃rs,zag 0 W c rs:=by
 rcases Go.Deep.open_slice Tryz.underlying145 h with ⟨hc,_⟩|⟨a,len,cap,m,n,D,Pl,hc,_,hlc,hcm,hmm,_,hx⟩
 ·simp only[List.cons.injEq,and_true] at hc;exact⟨[],none,0,hc,by simp,fun h0=>absurd h0 (zsg _)⟩
 ·simp only[List.cons.injEq,and_true] at hc;have hlm:len<=m:=by rw[hmm];split<;>omega
  rw[Tryz.cellsRange] at hx;rcases Nat.eq_zero_or_pos len with h0|h0
  ·subst h0;exact⟨[],some a,cap,hc,by simp,fun h0=>absurd h0 (zsg _)⟩
  ·obtain⟨b,o,C,rfl,hb,hC⟩:=zfP (W:=W) (a:=a) (len:=len) (sz:=2) (E:=fun cs=>∃r:Int×Int,cs=[.int .i64 r.1,.int .i64 r.2]) (by omega) (fun i hi=>by
    obtain⟨cs',h1,h2⟩:=hx i (by omega);obtain⟨lo,hi',he⟩:=zlV h2;exact⟨cs',h1,(lo,hi'),he⟩) h0
   obtain⟨F,hF⟩:=Go.Deep.choose_lt (α:=Int×Int) (p:=fun i r=>C i=[.int .i64 r.1,.int .i64 r.2]) (fun i hi=>(hC i hi).1);refine⟨(List.range len).map F,some ⟨b,o,none⟩,cap,by rw[hc];simp,by simp;exact zeC (zsb hlc hcm),fun _=>⟨b,o,rfl,zsj _,hb,fun i hi=>?_⟩⟩;have hi':i<len:=by simpa using hi
   rw[zcS F (0,0) len i hi'];have q0:=(hC i hi').2 0 (by omega);have q1:=(hC i hi').2 1 (by omega);rw[hF i hi'] at q0 q1;exact⟨by simpa using q0,by simpa using q1⟩
theorem znC{fuel:Nat}{cs:List Value}{x:DataW H×List MemPlace}(h:DataW.trod enc Tryz.prog W 0 spare held fuel 147 cs=some x):∃(nd:zak) (sv:Value),cs=[.int .i64 nd.kind,sv,.int .i64 nd.min,.int .i64 nd.max,.int .i64 nd.group]/\zag 0 W sv nd.set:=by
 obtain⟨xs,n,_,_,hl,hlen,hf⟩:=DataW.trod_struct Tryz.underlying147 h;rw[Tryz.cellsNode] at hl;obtain⟨y0,y1,y2,y3,y4,rfl⟩:=zqL (show xs.length=5 from hlen);obtain⟨c0,c1,c2,c3,c4,rfl⟩:=zqL hl
 ·· have f0:=hf 0 _ rfl;have f1:=hf 1 _ rfl;have f2:=hf 2 _ rfl;have f3:=hf 3 _ rfl;have f4:=hf 4 _ rfl;simp[Tryz.cellsInt,Tryz.cellsRangeS] at f0 f1 f2 f3 f4;obtain⟨k,e0,_,_⟩:=DataW.trod_int Tryz.underlying3 f0;obtain⟨rs,hrs⟩:=zjX f1;obtain⟨mn,e2,_,_⟩:=DataW.trod_int Tryz.underlying3 f2;obtain⟨mx,e3,_,_⟩:=DataW.trod_int Tryz.underlying3 f3;obtain⟨g,e4,_,_⟩:=DataW.trod_int Tryz.underlying3 f4;simp only[List.cons.injEq,and_true] at e0 e2 e3 e4;exact⟨⟨k,rs,mn,mx,g⟩,c1,by rw[e0,e2,e3,e4],hrs⟩
theorem zlU{fuel:Nat}{c:Value}{x:DataW H×List MemPlace}(h:DataW.trod enc Tryz.prog W 0 spare held fuel 63 [c]=some x):∃ns,zas 0 W c ns:=by
 rcases Go.Deep.open_slice Tryz.underlying63 h with ⟨hc,_⟩|⟨a,len,cap,m,n,D,Pl,hc,_,hlc,hcm,hmm,_,hx⟩
 ·simp only[List.cons.injEq,and_true] at hc;exact⟨[],none,0,hc,by simp,fun h0=>absurd h0 (zsg _)⟩
 ·simp only[List.cons.injEq,and_true] at hc;have hlm:len<=m:=by rw[hmm];split<;>omega
  rw[Tryz.cellsNode] at hx;rcases Nat.eq_zero_or_pos len with h0|h0
  ·subst h0;exact⟨[],some a,cap,hc,by simp,fun h0=>absurd h0 (zsg _)⟩
  ·obtain⟨b,o,C,rfl,hb,hC⟩:=zfP (W:=W) (a:=a) (len:=len) (sz:=5) (E:=fun cs=>∃q:zak×Value,cs=[.int .i64 q.1.kind,q.2,.int .i64 q.1.min,.int .i64 q.1.max,.int .i64 q.1.group]/\zag 0 W q.2 q.1.set) (by omega) (fun i hi=>by
    obtain⟨cs',h1,h2⟩:=hx i (by omega);obtain⟨nd,sv,he,hr⟩:=znC h2;exact⟨cs',h1,(nd,sv),he,hr⟩) h0
   obtain⟨F,hF⟩:=@Go.Deep.choose_lt (zak×Value) ⟨(.zero,.nilIface)⟩ len (fun i q=>C i=[.int .i64 q.1.kind,q.2,.int .i64 q.1.min,.int .i64 q.1.max,.int .i64 q.1.group]/\zag 0 W q.2 q.1.set) (fun i hi=>(hC i hi).1);refine⟨(List.range len).map fun i=>(F i).1,some ⟨b,o,none⟩,cap,by rw[hc];simp,by simp;exact zeC (zsb hlc hcm),fun _=>⟨b,o,rfl,zsj _,hb,fun i hi=>?_⟩⟩;have hi':i<len:=by simpa using hi
   rw[zcS (fun i=>(F i).1) .zero len i hi'];have q0:=(hC i hi').2 0 (by omega);have q1:=(hC i hi').2 1 (by omega);have q2:=(hC i hi').2 2 (by omega);have q3:=(hC i hi').2 3 (by omega);have q4:=(hC i hi').2 4 (by omega);rw[(hF i hi').1] at q0 q1 q2 q3 q4;exact⟨by simpa using q0,⟨(F i).2,by simpa using q1,(hF i hi').2⟩,by simpa using q2,by simpa using q3,by simpa using q4⟩
theorem zjW{fuel:Nat}{cs:List Value}{x:DataW H×List MemPlace}(h:DataW.trod enc Tryz.prog W 0 spare held fuel 65 cs=some x):∃(bd:zaf) (nv:Value),cs=[.bool bd.bol,.bool bd.eol,nv]/\zas 0 W nv bd.nodes:=by
 obtain⟨xs,n,_,_,hl,hlen,hf⟩:=DataW.trod_struct Tryz.underlying65 h;rw[Tryz.cellsBranch] at hl;obtain⟨y0,y1,y2,rfl⟩:=zqK (show xs.length=3 from hlen);obtain⟨c0,c1,c2,rfl⟩:=zqK hl
 ·· have f0:=hf 0 _ rfl;have f1:=hf 1 _ rfl;have f2:=hf 2 _ rfl;simp[Tryz.cellsBool,Tryz.cellsNodeS] at f0 f1 f2;obtain⟨k,e0,_⟩:=DataW.trod_bool Tryz.underlying4 f0;obtain⟨k2,e1,_⟩:=DataW.trod_bool Tryz.underlying4 f1;obtain⟨ns,hns⟩:=zlU f2;simp only[List.cons.injEq,and_true] at e0 e1;exact⟨⟨k,k2,ns⟩,c2,by rw[e0,e1],hns⟩
theorem zhq{fuel:Nat}{c:Value}{x:DataW H×List MemPlace}(h:DataW.trod enc Tryz.prog W 0 spare held fuel 22 [c]=some x):∃bs,zaj 0 W c bs:=by
 rcases Go.Deep.open_slice Tryz.underlying22 h with ⟨hc,_⟩|⟨a,len,cap,m,n,D,Pl,hc,_,hlc,hcm,hmm,_,hx⟩
 ·simp only[List.cons.injEq,and_true] at hc;exact⟨[],none,0,hc,by simp,fun h0=>absurd h0 (zsg _)⟩
 ·simp only[List.cons.injEq,and_true] at hc;have hlm:len<=m:=by rw[hmm];split<;>omega
  rw[Tryz.cellsBranch] at hx;rcases Nat.eq_zero_or_pos len with h0|h0
  ·subst h0;exact⟨[],some a,cap,hc,by simp,fun h0=>absurd h0 (zsg _)⟩
  ·obtain⟨b,o,C,rfl,hb,hC⟩:=zfP (W:=W) (a:=a) (len:=len) (sz:=3) (E:=fun cs=>∃q:zaf×Value,cs=[.bool q.1.bol,.bool q.1.eol,q.2]/\zas 0 W q.2 q.1.nodes) (by omega) (fun i hi=>by
    obtain⟨cs',h1,h2⟩:=hx i (by omega);obtain⟨nd,sv,he,hr⟩:=zjW h2;exact⟨cs',h1,(nd,sv),he,hr⟩) h0
   obtain⟨F,hF⟩:=@Go.Deep.choose_lt (zaf×Value) ⟨(.zero,.nilIface)⟩ len (fun i q=>C i=[.bool q.1.bol,.bool q.1.eol,q.2]/\zas 0 W q.2 q.1.nodes) (fun i hi=>(hC i hi).1);refine⟨(List.range len).map fun i=>(F i).1,some ⟨b,o,none⟩,cap,by rw[hc];simp,by simp;exact zeC (zsb hlc hcm),fun _=>⟨b,o,rfl,zsj _,hb,fun i hi=>?_⟩⟩;have hi':i<len:=by simpa using hi
   rw[zcS (fun i=>(F i).1) .zero len i hi'];have q0:=(hC i hi').2 0 (by omega);have q1:=(hC i hi').2 1 (by omega);have q2:=(hC i hi').2 2 (by omega);rw[(hF i hi').1] at q0 q1 q2;exact⟨by simpa using q0,by simpa using q1,⟨(F i).2,by simpa using q2,(hF i hi').2⟩⟩
end
end
open Go.ChangeShapes Go.WideShapes Go.ChangeAt Go.RowKit Go.Joins
theorem Tryz.own:ownKnob Tryz.prog.godebug=none:=by kernel_rfl
theorem Tryz.laidOut:laidOutB Tryz.prog=true:=by kernel_rfl
theorem Tryz.tabNamed:Tryz.prog.globalNamed "math/bits.deBruijn64tab" = some 0:=by kernel_rfl
theorem Tryz.tabType:(Tryz.prog.globals[0]?).map (·.type)=some 235:=by kernel_rfl
theorem Tryz.cellsByte:Tryz.prog.cellsOf 5=1:=by kernel_rfl
theorem Tryz.cellsTab:Tryz.prog.cellsOf 235=64:=by kernel_rfl
theorem zgn{W:World}(h:laidMetH Tryz.prog Rows.fnExactCaptureRow.laid W):zaY W:=by
 have h':laidMet Tryz.prog [("math/bits.deBruijn64tab",Lib.tabData .u8 (ziJ.map fun n:Nat=>(n:Int)))] W:=h;have hT:=Lib.tabIs_of_head Tryz.tabNamed Tryz.tabType Tryz.underlying235 Tryz.underlying5 Tryz.cellsByte Tryz.cellsTab h';intro i hi;have hi':i<ziJ.length:=hi;have:=hT.cell Tryz.tabNamed i (by simpa using hi');rw[this];simp[List.getD,hi']
noncomputable def zh7 (os:Os):World:=
 {World.holding Tryz.prog os ⟨#[],#[],[]⟩ with heap:=(World.holding Tryz.prog os ⟨#[],#[],[]⟩).heap.modify 0 fun
   |.cells _ t frozen=>.cells (ziJ.map fun n:Nat=>Value.int .u8 (n:Int)).toArray t frozen
   |o=>o}
theorem zhh(os:Os)(args:Array Value):laidMetH Tryz.prog Rows.fnExactCaptureRow.laid ((zh7 os).forCall (fun _ _=>0) ⟨#[],args,[]⟩).memory:=
 laidMet_of_run' 8 (by kernel_rfl) (by kernel_rfl)
theorem zc3(os:Os)(started:os.Started)(H:Type)(enc:TypeId×Value->H):
  ReturnsInHanded {} Tryz.checked os 3 .any (fun w args=>(Rows.fnExactCaptureSpec.pre enc Tryz.prog Tryz.f3 Rows.fnExactCaptureRow.domain false w args/\laidMetH Tryz.prog Rows.fnExactCaptureRow.laid w)/\sizedMet enc Tryz.prog Tryz.f3 (OpenSpec.ofChange Rows.fnExactCaptureSpec) false w args)
   (Rows.fnExactCaptureSpec.post enc Tryz.prog Tryz.f3 false true false false):=by
 refine returnsInHanded_of_change_and (C:=Tryz.checked) (X:=fun w _=>laidMetH Tryz.prog Rows.fnExactCaptureRow.laid w) (fun _ _ _ hh h=>h.of_heap hh) Tryz.own started (by kernel_rfl) Tryz.func3
  (ChangeSpec.witness_at (enc:=enc) (C:=Tryz.checked) (os:=os) (X:=fun w _=>laidMetH Tryz.prog Rows.fnExactCaptureRow.laid w) false (zh7 os) #[.agg #[.slice none 0 0,.int .i64 0],.string ⟨#[]⟩,.int .i64 0,.int .i64 0,.bool false] 8 rfl (by kernel_rfl) (by kernel_rfl) (by kernel_rfl) (by kernel_rfl) (by kernel_rfl) (zhh os _)) ?_
 intro W base args ds gs before hval0 hW _ _ hL _;have hval:∀(j:Nat) t v,Tryz.f3.params[j]?=some t->args[j]?=some v->Value.okWide Tryz.prog W .any base t v:=hval0;have hW':=hW;obtain⟨p,q,hA0,hV,rfl,hfz,hnd⟩:=hW;have hA:DataW.TrodAll enc Tryz.prog W 0 (fun _=>true) true Tryz.f3.params.toList args.toList ds p:=hA0;rw[Tryz.params3] at hA hval;obtain⟨v0,vs0,d0,ds0,p0,q0,hargs,rfl,rfl,h0,r0⟩:=trodAll_cons hA;obtain⟨v1,vs1,d1,ds1,p1,q1,rfl,rfl,rfl,h1,r1⟩:=trodAll_cons r0;obtain⟨v2,vs2,d2,ds2,p2,q2,rfl,rfl,rfl,h2,r2⟩:=trodAll_cons r1;obtain⟨v3,vs3,d3,ds3,p3,q3,rfl,rfl,rfl,h3,r3⟩:=trodAll_cons r2;obtain⟨v4,vs4,d4,ds4,p4,q4,rfl,rfl,rfl,h4,r4⟩:=trodAll_cons r3;obtain⟨rfl,rfl,rfl⟩:=trodAll_nil r4;obtain rfl:args=#[v0,v1,v2,v3,v4]:=by cases args;simp_all
 obtain⟨rfl,rfl⟩:=trodVars_none hV;have k0:=h0;have lt0:∀x∈p0,x.block<W.heap.size:=by obtain⟨m,hm⟩:=k0;exact DataW.trod_lt m _ _ _ hm
 have k1:=h1;have lt1:∀x∈p1,x.block<W.heap.size:=by obtain⟨m,hm⟩:=k1;exact DataW.trod_lt m _ _ _ hm
 have k2:=h2;have lt2:∀x∈p2,x.block<W.heap.size:=by obtain⟨m,hm⟩:=k2;exact DataW.trod_lt m _ _ _ hm
 have k3:=h3;have lt3:∀x∈p3,x.block<W.heap.size:=by obtain⟨m,hm⟩:=k3;exact DataW.trod_lt m _ _ _ hm
 have k4:=h4;have lt4:∀x∈p4,x.block<W.heap.size:=by obtain⟨m,hm⟩:=k4;exact DataW.trod_lt m _ _ _ hm
 obtain⟨c0,c1,y0,y1,m,rfl,_,_,hy0,hy1⟩:=open_agg2 Tryz.underlying24 (by kernel_rfl) Tryz.cellsRule (hval 0 24 v0 rfl rfl) h0;obtain⟨bs,hbs⟩:=zhq hy0;obtain⟨G,e1,_,_⟩:=DataW.trod_int Tryz.underlying3 hy1;simp only[List.cons.injEq,and_true] at e1;subst e1;obtain⟨t,rfl,-,-,ht0⟩:=Go.ChangeMaps.open_string Tryz.underlying9 (hval 1 9 v1 rfl rfl) h1;obtain⟨aa,rfl,-,-,-⟩:=open_int Tryz.underlying3 (hval 2 3 v2 rfl rfl) h2;obtain⟨ee,rfl,-,-,-⟩:=open_int Tryz.underlying3 (hval 3 3 v3 rfl rfl) h3;obtain⟨cl,rfl,-,-⟩:=open_bool Tryz.underlying4 (hval 4 4 v4 rfl rfl) h4;clear hA0 hval0;have hB:=zgn hL;refine(zhi G c0 bs t aa ee cl W hbs hB).mono fun e W' ⟨he,bel⟩=>?_
 subst he;exact⟨_,rfl,_,_,_,[],_,[],hW',trodAll_mk1 (shut_bool Tryz.underlying4 _),(trodAll_cons_mk (Below.trod Tryz.laidOut (by kernel_rfl) (of_decide_eq_true (by kernel_rfl)) k0 bel lt0) (trodAll_cons_mk (Below.trod Tryz.laidOut (by kernel_rfl) (of_decide_eq_true (by kernel_rfl)) k1 bel lt1) (trodAll_cons_mk (Below.trod Tryz.laidOut (by kernel_rfl) (of_decide_eq_true (by kernel_rfl)) k2 bel lt2) (trodAll_cons_mk (Below.trod Tryz.laidOut (by kernel_rfl) (of_decide_eq_true (by kernel_rfl)) k3 bel lt3) (trodAll_cons_mk (Below.trod Tryz.laidOut (by kernel_rfl) (of_decide_eq_true (by kernel_rfl)) k4 bel lt4) trodAll_mk0))))),rfl,bel.frame _,fun h=>by cases h⟩
theorem zd1:Rows.FnExactCaptureSaid:=
 OpenClaim.holds_of_wide 3 Tryz.f3 rfl rfl rfl rfl rfl rfl rfl ⟨rfl,rfl,rfl,rfl,rfl⟩ rfl rfl rfl rfl rfl (by kernel_rfl) Tryz.func3 (by kernel_rfl)
  (of_decide_eq_true (by kernel_rfl)) (by unfold Func.isWrapper;first|(rw[zst (by decide +kernel)];kernel_rfl)|(rw[zss (by decide +kernel)];exact⟨rfl,rfl⟩))
  (fun os started H enc _=>zc3 os started H enc)
theorem fnExactCapture_holds:Rows.FnExactCaptureCardSaid:=
 Claim7.holds_tied_plain_at .later [] [.data] true Rows.fnExactCaptureCard.stood.harness Rows.fnExactCaptureCard.stood.looks
  zd1 (fun _ h=>by cases h) (by kernel_rfl) (fun _ h=>by cases h) fnExactCapture_row_tie rfl ⟨rfl,rfl⟩ (by kernel_rfl) rfl
  (fun f fn hf hfn=>by
   obtain rfl:f=3:=Option.some.inj ((show Tryz.prog.funcNamed "loop.example/s0007/laws.FnExactCapture" = some 3 by kernel_rfl).symm.trans hf) |>.symm
   obtain rfl:fn=Tryz.f3:=(Option.some.inj (Tryz.func3.symm.trans hfn)).symm;exact⟨by kernel_rfl,fun j t ht=>by
    rw[Tryz.params3] at ht;have h3:t=24\/t=9\/t=3\/t=4:=by
     rcases j with _|_|_|_|_|j
     ·exact .inl (by simpa using ht.symm)
     ·exact .inr (.inl (by simpa using ht.symm))
     ·exact .inr (.inr (.inl (by simpa using ht.symm)))
     ·exact .inr (.inr (.inl (by simpa using ht.symm)))
     ·exact .inr (.inr (.inr (by simpa using ht.symm)))
     ·simp at ht
    rcases h3 with h3|h3|h3|h3
    ·subst h3;exact(show Tryz.prog.wantsStandIn 24=false by kernel_rfl)
    ·subst h3;exact(show Tryz.prog.wantsStandIn 9=false by kernel_rfl)
    ·subst h3;exact(show Tryz.prog.wantsStandIn 3=false by kernel_rfl)
    ·subst h3;exact(show Tryz.prog.wantsStandIn 4=false by kernel_rfl)⟩)
  (by kernel_rfl)
#print axioms fnExactCapture_holds
end Go.Proofs.YthdljcdbfmhleaaGreatDoor
