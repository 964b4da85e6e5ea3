import Derived.Test.YtdimhpfiieepiaaGreatDoorC36
import Derived.WalkSpells
namespace Go.Proofs.YtdimhpfiieepiaaGreatDoor
set_option maxHeartbeats 2000000
set_option maxRecDepth 100000
open Go.RowKit
section
attribute [local go_sem ↓] Go.wp_at_zero Go.wp_at_succ
def StrA(w0:World)(pl:Nat)(Q:Nat->Option Pt)(a:Nat)(p:Pt)(Ow:Nat->Nat->Prop)(w:World)(e:Ending)(w':World):Prop:=
 ∃(s:Nat) (Ow':Nat->Nat->Prop) (X:Nat->Prop) (v:StV) (ra rb:RdV) (O1 O2:Nat->Prop),e=.returned (.pointer (some ⟨s,0,none⟩))/\StrO w0 pl Q a p Ow' w' s X v ra rb O1 O2/\ra.m<=8192/\rb.m<=8192/\Chg pl a Ow w Ow' w' X
theorem zaT.set{w:World}{b o:Nat}{x:Value}{cs:Array Value}{t:TypeId}(h:w.heap[b]?=some (.cells cs t (0,0)))(ht:t≠293):zaT w (w.setCell ⟨b,o,none⟩ x):=fun mg f e=>by
 refine(zv0 _ _ _ _ (show mg≠b from fun e2=>?_)).trans e;rw[e2,h] at e;exact ht (zad e)
section
variable {w0:World} {pl:Nat} {Q:Nat->Option Pt} {Ow:Nat->Nat->Prop}
theorem zhu{a:Nat}{p:Pt}{w w2:World}(h:PnI w0 pl Q Ow w)(ha:Q a=some p){s:Nat}{v:StV}{ra rb:RdV}{O1 O2:Nat->Prop}(hst:Strd O1 O2 w2 s v ra rb)(hrw:zdT (unD p 0) v.n v.nw v.f v.F v.G v.A v.L)(hem:v.e=true↔(unD p 0).e)(hb0:w.heap.size<=v.b0)(hn:v.n<=2000)(hnw:v.nw=((wPt p).toNat+63)/64)(hm1:ra.m=1)(hm2:rb.m=1)(hbl:Below w.heap.size w w2){f k0 v0 x0 x1 x2:Value}{room z:Nat}(h2:w.heap[a]?=some (.cells #[.pointer (some ⟨pl,0,none⟩),v0,f,k0] 222 (0,0)))(hp:w.heap[pl]?=some (.cells #[x0,x1,x2,.int .i64 room] 189 (0,0)))(hr:room<=1048576)(hz:z<=room):
  StrA w0 pl Q a p Ow w (.returned (.pointer (some ⟨s,0,none⟩))) ((w2.setCell ⟨pl,3,none⟩ (.int .i64 ((room:Int)-z))).setCell ⟨a,3,none⟩ (.pointer (some ⟨s,0,none⟩))):=by
 have hal:=h.alt ha;have hpl:=h.pl0;have hsz:=h.size;have hbs:=hbl.size;have hne:=h.ne ha;have p2:=(hbl.block pl (by omega)).trans hp;have a2:=(hbl.block a (by omega)).trans h2;have p3:=zv1 w2 pl 3 _ _ (.int .i64 ((room:Int)-z)) p2;have a3:(w2.setCell ⟨pl,3,none⟩ (.int .i64 ((room:Int)-z))).heap[a]?=_:=(zv0 _ _ _ _ (show a≠pl from hne)).trans a2;have p4:((w2.setCell ⟨pl,3,none⟩ (.int .i64 ((room:Int)-z))).setCell ⟨a,3,none⟩ (.pointer (some ⟨s,0,none⟩))).heap[pl]?=_:=(zv0 _ _ _ _ (show pl≠a from fun e=>hne e.symm)).trans p3;have a4:=zv1 _ a 3 _ _ (.pointer (some ⟨s,0,none⟩)) a3;have km:zaT w2 ((w2.setCell ⟨pl,3,none⟩ (.int .i64 ((room:Int)-z))).setCell ⟨a,3,none⟩ (.pointer (some ⟨s,0,none⟩))):=(zaT.set p2 (by decide)).trans (zaT.set a3 (by decide));have ot:∀k,k≠pl->k≠a->((w2.setCell ⟨pl,3,none⟩ (.int .i64 ((room:Int)-z))).setCell ⟨a,3,none⟩ (.pointer (some ⟨s,0,none⟩))).heap[k]?=w2.heap[k]?:=fun k h1 h2=>(zv0 _ _ _ _ (show k≠a from h2)).trans (zv0 _ _ _ _ (show k≠pl from h1))
 have hsX:((w2.setCell ⟨pl,3,none⟩ (.int .i64 ((room:Int)-z))).setCell ⟨a,3,none⟩ (.pointer (some ⟨s,0,none⟩))).heap.size=w2.heap.size:=by simp
 have eos:((w2.setCell ⟨pl,3,none⟩ (.int .i64 ((room:Int)-z))).setCell ⟨a,3,none⟩ (.pointer (some ⟨s,0,none⟩))).os=w.os:=hbl.os;have etp:((w2.setCell ⟨pl,3,none⟩ (.int .i64 ((room:Int)-z))).setCell ⟨a,3,none⟩ (.pointer (some ⟨s,0,none⟩))).tape=w.tape:=hbl.tape;have eop:((w2.setCell ⟨pl,3,none⟩ (.int .i64 ((room:Int)-z))).setCell ⟨a,3,none⟩ (.pointer (some ⟨s,0,none⟩))).output=w.output:=hbl.output;rw[show ((room:Int)-z)=((room-z:Nat):Int) from by omega] at *;generalize ((w2.setCell ⟨pl,3,none⟩ (.int .i64 ((room-z:Nat):Int))).setCell ⟨a,3,none⟩ (.pointer (some ⟨s,0,none⟩)))=W at *;have hB:=hst.c.c1.le;have hst':StrQ W s p (fun k=>w.heap.size<=k/\k<W.heap.size) v ra rb O1 O2:=by
  refine⟨hst.keep (fun k hk=>ot k ?_ ?_) km (ot 0 (fun e=>h.p0 e.symm) (fun e=>by have:=h.q0;rw[e,ha] at this;cases this)) (by omega),hrw,hem,hn,hnw,fun k h1 h2=>⟨by omega,by omega⟩,fun k h1=>?_,fun k h1=>?_⟩
  ·rcases hk with h1|h1|h1
   ·omega
   ·have:=hst.o1 k h1;have:=hst.c.s0;have:=hst.c.s1;omega
   ·have:=hst.o2 k h1;have:=hst.c.s0;have:=hst.c.s1;omega
  ·rcases hk with h1|h1|h1
   ·omega
   ·have:=hst.o1 k h1;have:=hst.c.s0;have:=hst.c.s1;omega
   ·have:=hst.o2 k h1;have:=hst.c.s0;have:=hst.c.s1;omega
  ·have:=hst.o1 k h1;have:=hst.c.s0;have:=hst.c.s1;exact⟨by omega,by omega⟩
  ·have:=hst.o2 k h1;have:=hst.c.s0;have:=hst.c.s1;exact⟨by omega,by omega⟩
 have tcF:zam (fun k=>k=pl\/k=a\/False) w W:=⟨eos,etp,eop,by omega,fun k hk hn=>(ot k (fun e=>hn (.inl e)) (fun e=>hn (.inr (.inl e)))).trans (hbl.block k hk)⟩;have kmw:=(zaT.of hbl).trans km;refine⟨s,_,fun k=>w.heap.size<=k/\k<W.heap.size,v,ra,rb,O1,O2,rfl,⟨h.turn ha (X:=fun _=>False) (X':=fun k=>w.heap.size<=k/\k<W.heap.size) (fun k hk=>hk.elim) tcF kmw ⟨_,_,_,_,_,hp,p4,by omega⟩ ⟨_,_,_,_,h2,a4,.inr ⟨s,v,ra,rb,O1,O2,rfl,hst',by omega,by omega⟩⟩ (fun k hk=>⟨by omega,hk.2,.inr (.inl hk.1)⟩),ha,hst',fun k hk=>⟨by omega,hk.2⟩,.inl ⟨fun k=>⟨fun hk=>.inl ⟨rfl,hk⟩,fun hk=>hk.elim (fun x=>x.2) (fun x=>absurd rfl x.1)⟩,(zbg a4).2.2.2⟩⟩,by omega,by omega,⟨tcF.mono fun k _ hk=>hk.elim .inl fun hk=>hk.elim (fun e=>.inr (.inl e)) False.elim,kmw,fun k b hb=>⟨fun x=>x.elim (fun y=>absurd y.1 hb) (fun y=>y.2),fun x=>.inr ⟨hb,x⟩⟩,fun k hk=>hk.elim (fun y=>.inr y.2.1) (fun y=>absurd rfl y.1),fun k hk=>.inr hk.1⟩⟩
theorem zht{a:Nat}{p:Pt}{w w2:World}(h:PnI w0 pl Q Ow w)(ha:Q a=some p){s:Nat}{v:StV}{ra rb:RdV}{O1 O2:Nat->Prop}(hst:Strd O1 O2 w2 s v ra rb)(hrw:zdT (unD p 0) v.n v.nw v.f v.F v.G v.A v.L)(hem:v.e=true↔(unD p 0).e)(hb0:w.heap.size<=v.b0)(hn:v.n<=2000)(hnw:v.nw=((wPt p).toNat+63)/64)(hm1:ra.m=1)(hm2:rb.m=1)(hbl:Below w.heap.size w w2):
  StrA w0 pl Q a p Ow w (.returned (.pointer (some ⟨s,0,none⟩))) w2:=by
 have hsz:=h.size;have hbs:=hbl.size;have hB:=hst.c.c1.le;have hs0:=hst.c.s0;have hs1:=hst.c.s1;refine⟨s,Ow,fun k=>w.heap.size<=k/\k<w2.heap.size,v,ra,rb,O1,O2,rfl,⟨h.below hbl,ha,⟨hst,hrw,hem,hn,hnw,fun k h1 h2=>⟨by omega,by omega⟩,fun k h1=>?_,fun k h1=>?_⟩,fun k hk=>⟨by omega,hk.2⟩,.inr fun k b hk ho=>by have:=h.ow k b ho;omega⟩,by omega,by omega,⟨.of_below hbl,zaT.of hbl,fun _ _ _=>Iff.rfl,fun _ hk=>.inl hk,fun k hk=>.inr hk.1⟩⟩
 ·have:=hst.o1 k h1;exact⟨by omega,by omega⟩
 ·have:=hst.o2 k h1;exact⟨by omega,by omega⟩
theorem ziC{a:Nat}{p:Pt}{w w2:World}(h:PnI w0 pl Q Ow w)(ha:Q a=some p){s:Nat}{v:StV}{ra rb ra' rb':RdV}{O1 O2 O1' O2':Nat->Prop}(hq:StrQ w s p (fun k=>Ow k a) v ra rb O1 O2){f v0:Value}(h2:w.heap[a]?=some (.cells #[.pointer (some ⟨pl,0,none⟩),v0,f,.pointer (some ⟨s,0,none⟩)] 222 (0,0)))(hst:Strd O1' O2' w2 s v ra' rb')(hO1:∀k,O1' k->O1 k\/w.heap.size<=k)(hO2:∀k,O2' k->O2 k\/w.heap.size<=k)(tc:zam (· = s) w w2)(hm1:ra'.m<=8192)(hm2:rb'.m<=8192):
  StrA w0 pl Q a p Ow w (.returned (.pointer (some ⟨s,0,none⟩))) w2:=by
 have hso:StrO w0 pl Q a p Ow w s (fun k=>Ow k a) v ra rb O1 O2:=⟨h,ha,hq,fun k hk=>h.ow k a hk,.inl ⟨fun _=>Iff.rfl,(zbg h2).2.2.2⟩⟩;have km:zaT w w2:=fun mg f e=>(tc.same mg (zuH.1 e).1 (fun e2=>by
  have e2:mg=s:=e2;rw[e2,hq.st.box] at e;exact absurd (zad e) (by decide))).trans e
 have hsz:=tc.size;have hlt:∀k,Ow k a->k<w.heap.size:=fun k hk=>(h.ow k a hk).2
 have hsq:StrQ w2 s p (fun k=>Ow k a\/(w.heap.size<=k/\k<w2.heap.size)) v ra' rb' O1' O2':=by
  refine⟨hst,hq.rw,hq.em,hq.nl,hq.nwe,fun k h1 h2=>.inl (hq.lo k h1 h2),fun k h1=>?_,fun k h1=>?_⟩
  ·rcases hO1 k h1 with h3|h3
   ·exact .inl (hq.x1 k h3)
   ·exact .inr ⟨h3,(hst.o1 k h1).2⟩
  ·rcases hO2 k h1 with h3|h3
   ·exact .inl (hq.x2 k h3)
   ·exact .inr ⟨h3,(hst.o2 k h1).2⟩
 obtain⟨Ow',hs,-,hc⟩:=hso.step (w':=w2) (X':=fun k=>Ow k a\/(w.heap.size<=k/\k<w2.heap.size)) (tc.mono fun k _ hk=>by have hk:k=s:=hk;rw[hk];exact hq.sX) km hsq (by omega) (by omega) (fun k hk=>hk.elim .inl fun hk=>.inr hk.1) (fun k hk=>hk.elim (fun hk=>by have:=hlt k hk;omega) fun hk=>hk.2);exact⟨s,Ow',_,v,ra',rb',O1',O2',rfl,hs,hm1,hm2,hc _ _ (Chg.refl pl a Ow w)⟩
theorem zdC(a:Nat)(p:Pt)(w:World)(h:PnI w0 pl Q Ow w)(ha:Q a=some p):
  Calls Tryz.prog 124 #[.pointer (some ⟨a,0,none⟩)] w fun e w'=>StrA w0 pl Q a p Ow w e w':=by
 obtain⟨v0,f,k0,h1,h2,h3,h4,h5⟩:=h.pc a p ha;obtain⟨c0,c1,c2,c3⟩:=zbg h2;have hal:=h.alt ha;have hsz:=h.size;have Hi:Hid _:=h;rcases h5 with rfl|⟨s,v,ra,rb,O1,O2,rfl,hq,hma,hmb⟩
 ·obtain⟨x0,x1,x2,r0,room,-,hp,hr⟩:=h.plan;have hpl:=h.pl0;have hbrW:za7 w:=h.bru.keep h.zero;have hns:=zko p v0 w (zan.keep h.marks p v0 h3) h4 hbrW (by omega);have H2:Hid _:=h2;have Hp:Hid _:=hp;clear h h1 h2 h3 h4 hp hbrW
  go_enter Tryz.func124,Tryz.ntmps124
  go_wp2_with fail
  refine hns.mono ?_;rintro e w1 ⟨s,v,ra,rb,O1,O2,rfl,hst,hm1,hm2,hrw,hem,hb0,hn,hnw,hbl⟩;have hsz1:=ztG O1 O2 s v ra rb w1 hst (by omega);obtain⟨z,hz⟩:∃z:Nat,(v.n:Int)*v.nw=z:=⟨v.n*v.nw,by simp⟩;rw[hz] at hsz1;have hbs:=hbl.size;have hst1:=hst.c.c1.le;have Hst:Hid _:=hst;have Hrw:Hid _:=hrw;have Hem:Hid _:=hem;have Hbl:Hid _:=hbl;have Hnwe:Hid _:=hnw;clear hst hrw hem hbl hns hz hnw c1 c2 c3 c0
  go_wp2_with fail
  refine hsz1.mono ?_;rintro e w2 ⟨rfl,hb2⟩;have hbl2:Below w.heap.size w w2:=Hbl.out.trans (hb2.mono hbs);have c0:=(zbg ((hbl2.block a (by omega)).trans H2.out)).1;have p3:=(zbg ((hbl2.block pl (by omega)).trans Hp.out)).2.2.2;have pf:=zvY _ _ 3 _ _ ((hbl2.block pl (by omega)).trans Hp.out);have hst2:Strd O1 O2 w2 s v ra rb:=Hst.out.keep (fun k hk=>hb2.block k (by
   rcases hk with h1|h1|h1
   ·omega
   ·exact(Hst.out.o1 k h1).2
   ·exact(Hst.out.o2 k h1).2)) (zaT.of hb2) (hb2.block 0 (by omega)) hb2.size
  have Hst2:Hid _:=hst2;have Hbl2:Hid _:=hbl2;have Hb0:Hid _:=hb0;have Hn:Hid _:=hn;have Hm1:Hid _:=hm1;have Hm2:Hid _:=hm2;clear hst2 hsz1 hb0 hn hm1 hm2
  by_cases hle:z<=room
  ·have hd:decide ((z:Int)<=(room:Int))=true:=by simp;omega
   have HF:Hid _:=zhu Hi.out ha Hst2.out Hrw.out Hem.out Hb0.out Hn.out Hnwe.out Hm1.out Hm2.out hbl2 H2.out Hp.out hr hle;have a2:=(hbl2.block a (by omega)).trans H2.out;have p2:=(hbl2.block pl (by omega)).trans Hp.out;have hne:=Hi.out.ne ha;have a3:(w2.setCell ⟨pl,3,none⟩ (.int .i64 ((room:Int)-z))).heap[a]?=_:=(zv0 _ _ _ _ (show a≠pl from hne)).trans a2;have d3:=(zbg a3).2.2.2;have df:=zvY _ _ 3 _ _ a3;clear a2 a3 hbl2 hb2 p2;go_wp2;go_ret;exact HF.out
  ·have hd:decide ((z:Int)<=(room:Int))=false:=by simp;omega
   have hd2:¬z<=room:=hle;have HF:Hid _:=zht Hi.out ha Hst2.out Hrw.out Hem.out Hb0.out Hn.out Hnwe.out Hm1.out Hm2.out hbl2;clear hbl2 hb2;go_wp2;go_ret;exact HF.out
 ·have hkn:=zrG O1 O2 s v ra rb w hq.st (by omega) (by omega);have H2:Hid _:=h2;have Hq:Hid _:=hq;clear h h1 h2 h3 h4 c0 c1 c2
  go_enter Tryz.func124,Tryz.ntmps124
  go_wp2_with fail
  refine hkn.mono ?_;rintro e w1 ⟨rfl,hb1⟩;have hsx:=(Hi.out.ow s a Hq.out.sX).2;have hst1:Strd O1 O2 w1 s v ra rb:=Hq.out.st.keep (fun k hk=>hb1.block k (by
   rcases hk with h1|h1|h1
   ·exact(Hi.out.ow k a (Hq.out.lo k h1.1 h1.2)).2
   ·exact(Hi.out.ow k a (Hq.out.x1 k h1)).2
   ·exact(Hi.out.ow k a (Hq.out.x2 k h1)).2)) (zaT.of hb1) (hb1.block 0 (by omega)) hb1.size
  have e3:=(zbg ((hb1.block a (by omega)).trans H2.out)).2.2.2
  by_cases hgt:8192<ra.m+rb.m
  ·have hd:decide ((8192:Int)<(ra.m:Int)+rb.m)=true:=by simp;omega
   have hfg:=zj1 s v _ _ w1 hst1.box hst1.c;have Hb1:Hid _:=hb1;clear hst1 hb1 hkn c3
   go_wp2_with fail
   refine hfg.mono ?_;rintro e w2 ⟨rfl,a',b',O1',O2',hst2,hm1,hm2,hnew,tc2⟩;have hne:a≠s:=by have:=(Hi.out.ow s a Hq.out.sX).1;omega
   have e4:w2.cell? ⟨a,3,none⟩=some (.pointer (some ⟨s,0,none⟩)):=(World.cell?_of_block (tc2.same a (by have:=Hb1.out.size;omega) hne)).trans e3;have HF:Hid _:=ziC Hi.out ha Hq.out H2.out hst2 (fun k hk=>.inr (by have:=hnew k (.inl hk);have:=Hb1.out.size;omega)) (fun k hk=>.inr (by have:=hnew k (.inr hk);have:=Hb1.out.size;omega)) ((zam.of_below Hb1.out).trans tc2) (by omega) (by omega);clear hst2 hnew tc2 e3 hfg;go_wp2;go_ret;exact HF.out
  ·have hd:decide ((8192:Int)<(ra.m:Int)+rb.m)=false:=by simp;omega
   have HF:Hid _:=ziC Hi.out ha Hq.out H2.out hst1 (fun k hk=>.inl hk) (fun k hk=>.inl hk) (.of_below hb1) (by omega) (by omega);clear hst1 hb1 hkn c3;go_wp2;go_ret;exact HF.out
end
end
section
attribute [local go_sem ↓] Go.wp_at_zero Go.wp_at_succ
theorem hidF{p:Prop}(h:p):Hid p:=h
theorem znQ{w:World}{B:Nat}{pv:Value}{ps:List Nat}(h:w.ownsRow B 3 1 pv ps.length (zdu ps))(hp:0<ps.length):∃g c:Nat,pv=.slice (some ⟨g,0,none⟩) ps.length c/\g<w.heap.size/\∀j,j<ps.length->w.cell? ⟨g,j,none⟩=some (.int .i64 ((ps.getD j 0:Nat):Int)):=by
 obtain⟨g,cap,cur,h1,h2,h3⟩:=zbz h hp;exact⟨g,cap,h1,(zuH.1 h2).1,fun j hj=>by rw[zvW _ _ _ _ _ _ h2,h3 j hj];simp[zdu,hj,List.getD_eq_getElem?_getD]⟩
theorem zuC{O:Nat->Prop}{w:World}{n nw bt ga gl:Nat}{lv:Value}{f:Nat->Nat->Bool}{Lk:Nat->Nat->Nat}{A L:Nat->Nat}{b:RdV}(hr:RdAt O w n nw bt ga gl lv f Lk A L b)(t ne gs high off B:Nat)(pv:Value)(ps:List Nat)(hbox:w.heap[t]?=some (.cells #[.pointer (some ⟨b.r,0,none⟩),.slice (some ⟨gs,0,none⟩) ne ne,.int .i64 high,pv] 195 (0,0)))(hpa:w.ownsRow B 3 1 pv ps.length (zdu ps))(hix:∀j,j<ps.length->ps.getD j 0<b.m)(hoff:off<high)(hh:high<=4096):
  Calls Tryz.prog 219 #[.pointer (some ⟨t,0,none⟩),.int .i64 off] w fun e w'=>((ps.length<=high-1-off/\e=.returned (.slice none 0 0))\/(high-1-off<ps.length/\e=.returned (.slice (some ⟨b.gx (ps.getD (high-1-off) 0),0,none⟩) nw nw)))/\Below w.heap.size w w':=by
 obtain⟨c0,-,c2,c3⟩:=zbg hbox;obtain⟨pa,pc,rfl⟩:=zbN hpa;obtain⟨bk,Hbk⟩:∃bk,Hid (high-1-off=bk):=⟨_,rfl⟩;have hbi:(high:Int)-1-off=(bk:Int):=by have:=Hbk.out;omega
 rw[Hbk.out];obtain⟨pn,Hpn⟩:∃pn,Hid (ps.length=pn):=⟨_,rfl⟩;rw[Hpn.out] at c3 ⊢;have hr5:=(zaW hr.s.box).2.2.2.2.2.1;obtain⟨gS,cS,eS,-,hcS⟩:=hr.rowS;rw[eS] at hr5
 by_cases hlt:bk<pn
 ·obtain⟨g,c,hg,-,hc⟩:=znQ hpa (by have:=Hpn.out;omega);have d0:=hc bk (by have:=Hpn.out;omega);have hx:=hix bk (by have:=Hpn.out;omega);have d1:=hcS _ hx;generalize ps.getD bk 0=x at *;injection hg with h1 _ h3
  subst h1;subst h3;have hi0:(0:Int)<=(x:Int):=by omega
  have hi1:(x:Int)<(b.m:Int):=by omega
  have hb0:(0:Int)<=(bk:Int):=by omega
  have hb1:(bk:Int)<(pn:Int):=by omega
  have hd:decide ((pn:Int)<=(bk:Int))=false:=by simp;omega
  clear hc hcS hix hpa hbox eS hr
  go_enter Tryz.func219,Tryz.ntmps219
  go_wp2
  go_region
  all_goals
   go_wp2;go_ret;exact⟨.inr ⟨hlt,rfl⟩,(Below.refl _ _).drew⟩
 ·have hd:decide ((pn:Int)<=(bk:Int))=true:=by simp;omega
  clear hcS hix hpa hbox eS hr
  go_enter Tryz.func219,Tryz.ntmps219
  go_wp2;go_ret;exact⟨.inl ⟨by omega,rfl⟩,Below.refl _ _⟩
theorem zlG(nw g cap:Nat)(w:World):
  Calls Tryz.prog 195 #[.slice (some ⟨g,0,none⟩) nw cap,.slice none 0 0] w fun e w'=>e=.returned (.bool false)/\Below w.heap.size w w':=by
 go_enter Tryz.func195,Tryz.ntmps195
 go_wp2
 go_loopw [9] (fun i wr=>i=.int .i64 0/\wr=w) (fun i _=>0)
 case atStart=>exact⟨rfl,rfl⟩
 case round=>
  obtain⟨rfl,rfl⟩:=hrel;go_wp2;go_ret;exact⟨rfl,Below.refl _ _⟩
def LgM(u:Word)(M:PA)(fr e:Nat):Prop:=(e=fr/\M.e)\/(fr<e/\∃q,Fwd u M fr e q/\M.last q)
theorem zmD{u:Word}{M:PA}{i j:Nat}(hij:i<j)(h:∀p,¬Fwd u M i j p):∀k p,¬Fwd u M i (j+k) p
 |0,p=>h p
 |k+1,p=>fun hf=>by
  obtain⟨c,hc,-⟩:=hf.byte (show i<=j+k by omega);obtain⟨q,h1,-⟩:=(ze3 (show i<j+k by omega) hc).1 hf;exact zmD hij h k q h1
def Best(u:Word)(M:PA)(E:Nat->Prop)(fr k e:Nat)(ok:Bool):Prop:=(ok=true/\E e/\LgM u M fr e/\e<=k/\∀x,x<=k->E x->LgM u M fr x->x<=e)\/(ok=false/\e=fr/\∀x,x<=k->E x->¬LgM u M fr x)
structure FwS(w:World)(O1 O2:Nat->Prop)(s:Nat)(v:StV)(a b:RdV)(u:Word)(M:PA)(E:Nat->Prop)(fr:Nat)(W:World)(k now:Nat)(a':RdV)(O:Nat->Prop):Prop where
 tc:zam O1 w W
 km:zaT w W
 st:Strd O O2 W s v a' b
 rn:RdN a a'
 mb:a'.m+fr<=a.m+k
 o1:∀k,O1 k->O k
 o1':∀k,O k->O1 k\/w.heap.size<=k
 le:fr<=k
 nw:now<a'.m
 fw:zeE v.nw (a'.Ts now) (Fwd u M fr k)
section
variable {w:World} {O1 O2:Nat->Prop} {s:Nat} {v:StV} {a b:RdV} {u:Word} {M:PA} {E:Nat->Prop} {fr:Nat} {W:World} {k now:Nat} {a':RdV} {O:Nat->Prop}
theorem FwS.below(h:FwS w O1 O2 s v a b u M E fr W k now a' O){W':World}(hb:Below W.heap.size W W'):FwS w O1 O2 s v a b u M E fr W' k now a' O:=
 ⟨h.tc.trans (.of_below hb),h.km.trans (zaT.of hb),h.st.other (S:=fun _=>False) (.of_below hb) (fun _ e=>e.elim) (fun _ e=>e.elim) (fun _ e=>e.elim),h.rn,h.mb,h.o1,h.o1',h.le,h.nw,h.fw⟩
theorem FwS.read(hR:zdT M v.n v.nw v.f v.F v.G v.A v.L)(h:FwS w O1 O2 s v a b u M E fr W k now a' O){c:UInt8}(hc:u[k]?=some c){bg:Bool}(hbg:bg=true↔k=fr){x:Nat}{a2:RdV}{W':World}(hx:x<a2.m)(hm:a2.m<=a'.m+1)(hn:RdN a' a2)(hs:zgz v.nw v.f v.F v.A (a'.Ts now) c.toNat bg (a2.Ts x))(st:Strd (news O W W') O2 W' s v a2 b)(tc:zam O W W')(km:zaT W W'):FwS w O1 O2 s v a b u M E fr W' (k+1) x a2 (news O W W'):=by
 have hsz:=h.tc.size;refine⟨⟨tc.os.trans h.tc.os,tc.tape.trans h.tc.tape,tc.output.trans h.tc.output,zvK h.tc.size tc.size,fun k hk hn=>(tc.same k (by omega) (fun e=>(h.o1' k e).elim hn fun e=>by omega)).trans (h.tc.same k hk hn)⟩,h.km.trans km,st,h.rn.trans hn,by have:=h.mb;omega,fun k hk=>.inl (h.o1 k hk),fun k hk=>hk.elim (h.o1' k) fun e=>.inr (by omega),by have:=h.le;omega,hx,?_⟩;exact zro hR h.le hc hbg (fun q h1 h2=>h.st.ra.sets now q h.nw h1 h2) (fun q h1 h2=>st.ra.sets x q hx h1 h2) h.fw hs
theorem FwS.ends(hR:zdT M v.n v.nw v.f v.F v.G v.A v.L)(h:FwS w O1 O2 s v a b u M E fr W (k+1) now a' O)(hlt:fr<k+1):LgM u M fr (k+1)↔zcO v.nw (a'.Ts now) v.L=true:=by
 rw[<-zri hR (fun x=>(h.st.ra.s.set now h.nw).lt x) h.fw];constructor
 ·rintro (⟨e,_⟩|⟨_,h1⟩)
  ·omega
  ·exact h1
 ·intro h1;exact .inr ⟨hlt,h1⟩
theorem FwS.dead(hR:zdT M v.n v.nw v.f v.F v.G v.A v.L)(h:FwS w O1 O2 s v a b u M E fr W (k+1) 0 a' O)(hlt:fr<k+1):∀x,k<x->¬LgM u M fr x:=fun x hx hL=>by
 have h0:∀p,¬Fwd u M fr (k+1) p:=fun p hf=>by
  have hp:=(hR.D p).1 (hf.2.2.inside hR.fi hR.fo);have hn:=hR.n64;have h1:=(h.fw p (by omega)).2 hf;have h2:=h.st.ra.zero (p/64) (by omega);unfold zai at h1;rw[h2] at h1;simp at h1
 rcases hL with ⟨e,_⟩|⟨_,q,hq,_⟩
 ·omega
 ·exact zmD hlt h0 (x-(k+1)) q (by rw[show k+1+(x-(k+1))=x from by omega];exact hq)
end
theorem Best.last{u:Word}{M:PA}{E:Nat->Prop}{fr k e:Nat}{ok:Bool}(h:Best u M E fr k e ok)(hd:∀x,k<x->E x->¬LgM u M fr x)(n:Nat)(hkn:k<=n):Best u M E fr n e ok:=by
 rcases h with ⟨h1,h2,h3,h4,h5⟩|⟨h1,h2,h3⟩
 ·refine .inl ⟨h1,h2,h3,by omega,fun x _ hE hL=>?_⟩;rcases zvM k x with h|h
  ·exact absurd hL (hd x h hE)
  ·exact h5 x h hE hL
 ·refine .inr ⟨h1,h2,fun x _ hE hL=>?_⟩;rcases zvM k x with h|h
  ·exact hd x h hE hL
  ·exact h3 x h hE hL
theorem Best.hit{u:Word}{M:PA}{E:Nat->Prop}{fr k:Nat}(h1:E (k+1))(h2:LgM u M fr (k+1)):Best u M E fr (k+1) (k+1) true:=.inl ⟨rfl,h1,h2,zvJ _,fun _ h _ _=>h⟩
theorem Best.miss{u:Word}{M:PA}{E:Nat->Prop}{fr k e:Nat}{ok:Bool}(h:Best u M E fr k e ok)(hd:E (k+1)->¬LgM u M fr (k+1)):Best u M E fr (k+1) e ok:=by
 rcases h with ⟨h1,h2,h3,h4,h5⟩|⟨h1,h2,h3⟩
 ·refine .inl ⟨h1,h2,h3,by omega,fun x hx hE hL=>?_⟩
  by_cases e:x=k+1
  ·subst e;exact absurd hL (hd hE)
  ·exact h5 x (by omega) hE hL
 ·refine .inr ⟨h1,h2,fun x hx hE hL=>?_⟩
  by_cases e:x=k+1
  ·subst e;exact hd hE hL
  ·exact h3 x (by omega) hE hL
end
section
attribute [local go_sem ↓] Go.wp_at_zero Go.wp_at_succ
def mkS(t:TypeId)(x y:Value):Sem Value:=Instr.makeSlice t x y
theorem zjb(x y:Value):Instr.makeSlice 193 x y=mkS 193 x y:=rfl
attribute [local go_sem ↓] zjb
theorem zlb(r g ne:Nat)(hi:Int):Tryz.prog.built 195 [(0,.pointer (some ⟨r,0,none⟩)),(1,.slice (some ⟨g,0,none⟩) ne ne),(2,.int .i64 hi)]=some #[.pointer (some ⟨r,0,none⟩),.slice (some ⟨g,0,none⟩) ne ne,.int .i64 hi,.slice none 0 0]:=by kernel_rfl
theorem Tryz.infoIntB:(Tryz.prog.info? 3).map (fun i=>(i.zero,i.size,i.bytes))=some (some (.int .i64 0),1,8):=by kernel_rfl
theorem zlc(t:ByteArray){p:Nat}(h:p<t.size):t.data.toList[p]?=some (t[p]'h):=by
 rw[zva (by simpa using h)];simp;rfl
def BkwP(O1 O2:Nat->Prop)(w:World)(s:Nat)(v:StV)(a b:RdV)(ne:Nat)(u:Word)(M:PA)(E:Nat->Prop)(e:Ending)(w':World):Prop:=
 ∃(high t gs:Nat) (b':RdV) (O:Nat->Prop) (S:Nat->Nat) (pv:Value) (ps:List Nat),e=.returned (.pointer (some ⟨t,0,none⟩))/\E high/\zoH w O1 O2 s v a b ne u M E high t gs w' b' O S pv ps
theorem zk8{O1 O2:Nat->Prop}{w:World}{s:Nat}{v:StV}{a b:RdV}(h:Strd O1 O2 w s v a b)(M:PA)(hR:zdT M v.n v.nw v.f v.F v.G v.A v.L)(hem:v.e=true↔M.e)(t:ByteArray)(ht:t.size<=4096)(ne ge cap:Nat)(ET:Nat->Nat)(hE:zar w ne ge ET)(hne:ne<=100)(hO:¬O2 ge)(hx:∃q,q<64*ne/\zai ET q=true)(hq:∀q,q<64*ne->zai ET q=true->q<=t.size)(hbm:b.m<=90000000):
  Calls Tryz.prog 125 #[.pointer (some ⟨s,0,none⟩),.string t,.slice (some ⟨ge,0,none⟩) ne cap] w fun e w'=>BkwP O1 O2 w s v a b ne t.data.toList M (fun q=>q<64*ne/\zai ET q=true) e w':=by
 obtain⟨i0,hi,hz0,hz1,hz2⟩:=info_parts Tryz.infoU64;have hB:=h.c.c1.le;have hO1:∀k,O1 k->k<w.heap.size:=fun k hk=>(h.o1 k hk).2
 have hl:=zgT ne ge cap ET w hE (by omega) h.c.c1.bru;have hg:=zeJ ne ge cap ET w hE (by omega);have Hh:Hid _:=h
 go_enter Tryz.func125,Tryz.ntmps125
 go_wp2_with fail
 refine hl.mono ?_;rintro e w1 ⟨lv,rfl,hlp,hw1⟩;subst w1;obtain⟨low,rfl,-,-,hlow⟩:∃low:Nat,lv=low/\low<64*ne/\zai ET low=true/\∀q,q<low->zai ET q=false:=by
  rcases hlp with ⟨-,h1⟩|⟨p,h1⟩
  ·obtain⟨q,h2,h3⟩:=hx;rw[h1 q h2] at h3;cases h3
  ·exact⟨p,h1⟩
 clear hl hlp
 go_wp2_with fail
 refine hg.mono ?_;rintro e w1 ⟨hv,rfl,hgp,hb1⟩;obtain⟨high,rfl,hhi,hhb,hhigh⟩:∃high:Nat,hv=high/\high<64*ne/\zai ET high=true/\∀q,high<q->q<64*ne->zai ET q=false:=by
  rcases hgp with ⟨-,h1⟩|⟨p,h1⟩
  ·obtain⟨q,h2,h3⟩:=hx;rw[h1 q h2] at h3;cases h3
  ·exact⟨p,h1⟩
 have hht:=hq high hhi hhb;have Hlow:Hid _:=hlow;have Hhigh:Hid _:=hhigh;have Hhb:Hid _:=hhb;clear hg hgp hlow hhigh hhb hx;have hs1:=hb1.size;have st1:Strd O1 O2 w1 s v a b:=h.other (S:=fun _=>False) (.of_below hb1) (fun k e=>e.elim) (fun k e=>e.elim) (fun k e=>e.elim);obtain⟨w2,hmk,hown2,hg2⟩:=run_make_full (P:=Tryz.prog) w1.drew w1.heap.size 193 236 i0 _ 1 Tryz.underlying193 hi hz0 hz1 .i64 .i64 ne (by rw[hz2];omega) (by unfold maxLen;omega) (zvJ _);have hmk':(mkS 193 (.int .i64 (ne:Int)) (.int .i64 (ne:Int))).run Tryz.prog w1.drew=.ok (.slice (some ⟨w1.heap.size,0,none⟩) ne ne) w2:=hmk;have hgs:w2.heap[w1.heap.size]?=some (.cells (zcS ne za0) 236 (0,0)):=by
  have:=ze9 hown2;rw[zeM] at this;exact this
 have hb2:Below w1.heap.size w1 w2:=⟨hg2.os,hg2.tape,hg2.output,hg2.size,fun k hk=>hg2.block k hk (by simp)⟩;have hs2:w1.heap.size<w2.heap.size:=(zuH.1 hgs).1;have c6:=(zaS st1.box).2.2.2.2.2.2;have hsl:s<w1.heap.size:=(zuH.1 st1.box).1;have d6:=(zaS ((hb2.block s hsl).trans st1.box)).2.2.2.2.2.2;have hbt:=zlb b.r w1.heap.size ne (high:Int);obtain⟨W3,hW3⟩:∃W3,w2.alloc (.cells #[.pointer (some ⟨b.r,0,none⟩),.slice (some ⟨w1.heap.size,0,none⟩) ne ne,.int .i64 high,.slice none 0 0] 195)=W3:=⟨_,rfl⟩;have hb3:Below w2.heap.size w2 W3:=by rw[<-hW3];exact(Below.refl _ _).alloc (zvJ _) _
 have x3:W3.heap[w2.heap.size]?=some (.cells #[.pointer (some ⟨b.r,0,none⟩),.slice (some ⟨w1.heap.size,0,none⟩) ne ne,.int .i64 high,.slice none 0 0] 195 (0,0)):=by rw[<-hW3];exact zvZ _ _
 have hb13:Below w1.heap.size w1 W3:=hb2.trans (hb3.mono (by omega));have hb03:Below w.heap.size w W3:=hb1.trans (hb13.mono hs1);have HS:Hid (BkS w O1 O2 s v a b ne t.data.toList M (fun q=>q<64*ne/\zai ET q=true) high w2.heap.size w1.heap.size W3 (high+1) high high 0 b O2 za0 (.slice none 0 0) []):=by
  refine⟨.of_below hb03,zaT.of hb03,h.other (S:=fun _=>False) (.of_below hb03) (fun k e=>e.elim) (fun k e=>e.elim) (fun k e=>e.elim),RdN.refl b,zvJ _,fun k hk=>hk,fun k hk=>.inl hk,fun ho=>by have:=(h.o2 _ ho).2;omega,fun ho=>by have:=(h.o2 _ ho).2;omega,fun k e=>by simp[Value.ownBlock] at e,x3,⟨(hb3.block _ hs2).trans hgs,fun _=>by simp[za0]⟩,⟨rfl,.inl ⟨rfl,rfl⟩⟩,by omega,by omega,zvJ _,by simp,h.rb.pos,fun q hq'=>?_,fun j hj=>by simp at hj,fun q=>?_⟩
  ·constructor
   ·intro h1;have h2:=h.rb.zero (q/64) (by omega);unfold zai at h1;rw[h2] at h1;simp at h1
   ·intro hb;have:=zjG (hi:=high) (fun m hm=>by
     rcases zvM high m with e|e
     ·have:=Hhigh.out m e hm.1;rw[hm.2] at this;cases this
     ·exact e) hb
    omega
  ·rw[zcg];constructor
   ·intro e;cases e
   ·rintro ⟨h1,h2|⟨p,_,h2⟩⟩
    ·have:=Hhigh.out q (by omega) h2.1.1;rw[h2.1.2] at this;cases this
    ·have:=zjG (hi:=high) (fun m hm=>by
      rcases zvM high m with e|e
      ·have:=Hhigh.out m e hm.1;rw[hm.2] at this;cases this
      ·exact e) h2
     omega
 have hEl:ge<w.heap.size:=hE.glt;have Hfr:Hid (∀W:World,zam O2 w W->zar W ne ge ET):=fun W tc=>⟨(tc.same ge hEl hO).trans hE.row,hE.lt⟩
 have HR:Hid _:=hR;have Hem:Hid _:=hem;clear h st1 hown2 hg2 hmk hgs hb2 hb3 x3 hb13 hb03 hE hi hz0 hz1 hz2 hR hem;go_wp2
 go_region
 all_goals
  clear hW3 hmk' c6 d6 hbt;go_wp2
  go_loopw [10,11] (fun nv av wr=>∃(k now:Nat) (b':RdV) (O:Nat->Prop) (S:Nat->Nat) (pv:Value) (ps:List Nat),nv=.int .i64 now/\av=.int .i64 k/\Hid (BkS w O1 O2 s v a b ne t.data.toList M (fun q=>q<64*ne/\zai ET q=true) high w2.heap.size w1.heap.size wr (k+1) k k now b' O S pv ps))
   (fun _ av _=>(intOf av).toNat)
  case atStart=>exact⟨high,0,b,O2,za0,_,[],rfl,rfl,HS⟩
  case round=>
   clear HS;obtain⟨k,now,b',O,S,pv,ps,rfl,rfl,HS⟩:=hrel;have hkh:=HS.out.le;have hE2:=Hfr.out wr HS.out.tc;have hhas:=zi2 ne ge cap ET k wr hE2 (by omega) (by omega);obtain⟨-,c1,-,-,-,-,c6⟩:=zaS HS.out.st.box;have d6:=(zaW HS.out.st.rb.s.box).2.2.2.2.2.2.1;obtain⟨gP,cP,eP,hgP,hcP⟩:=HS.out.st.rb.rowP;have dP:=hcP now HS.out.nw;rw[eP] at d6;have hnow:=HS.out.nw;have hn0:(0:Int)<=(now:Int):=by omega
   have hn1:(now:Int)<(b'.m:Int):=by omega
   have hsta:=zst HR.out (fun x=>(HS.out.st.rb.s.set now hnow).lt x) HS.out.bk;have Hsta:Hid _:=hsta;obtain⟨e0,He0⟩:∃e0,Hid (e0=zai ET k):=⟨_,rfl⟩;obtain⟨m0,Hm0⟩:∃m0,Hid (m0=zcO v.nw (b'.Ts now) v.A):=⟨_,rfl⟩;rw[<-He0.out] at hhas;rw[<-Hm0.out] at dP;have Hm:Hid (Sta t.data.toList M (fun q=>q<64*ne/\zai ET q=true) k↔(e0&&v.e || m0)=true):=by
    refine Hsta.out.trans ?_;rw[zuM,zuK,<-Hm0.out,Hem.out,He0.out];exact or_congr (and_congr ⟨fun x=>x.2,fun x=>⟨by omega,x⟩⟩ Iff.rfl) Iff.rfl
   obtain⟨x0,Hx0⟩:∃x0,Hid (x0=(e0&&v.e || m0)):=⟨_,rfl⟩;clear hE2 hsta Hsta hcP
   go_wp2_with fail
   refine hhas.mono ?_;rintro e1 W ⟨rfl,hW⟩;subst W;clear hhas
   go_upto_region 7 with fail
   go_cut [52] from 33 to 52 (fun v52 wx=>v52=.bool x0/\wx=wr)
   case first=>
    obtain⟨ve,Hve⟩:∃ve,Hid (v.e=ve):=⟨_,rfl⟩;rw[Hve.out] at c1;clear HS;cases e0<;>cases ve<;>cases m0
    all_goals
     go_wp2
     go_meet
     exact⟨by rw[Hx0.out,Hve.out];rfl,rfl⟩
   case rest=>
    obtain⟨rfl,hwc⟩:=hcut;subst wc;cases x0 with
    |true=>
     have hadd:=zeG ne w1.heap.size ne S k wr HS.out.sp.row (by omega) (by omega) HS.out.sp.lt;obtain⟨-,b1,-,-⟩:=zbg HS.out.box
     go_upto_region 8 with fail
     clear c1 c6 d6 dP
     go_wp2_with fail
     refine hadd.mono ?_;rintro e2 W1 ⟨rfl,hr1,hg1⟩;have HS2:Hid _:=HS.out.add hr1 hg1 (Hm.out.2 Hx0.out.symm) hB hO1;clear HS Hm Hx0 hadd hr1 hg1 b1;obtain⟨S2,HS2⟩:∃S2,Hid (BkS w O1 O2 s v a b ne t.data.toList M (fun q=>q<64*ne/\zai ET q=true) high w2.heap.size w1.heap.size W1 k k k now b' O S2 pv ps):=⟨_,HS2⟩
     by_cases hk0:k=0
     ·subst hk0;have HF:Hid _:=HS2.out.bottom;clear HS2;go_wp2;go_ret;exact⟨high,_,_,_,_,_,_,_,rfl,⟨hhi,Hhb.out⟩,HF.out⟩
     ·obtain⟨p,Hkp⟩:∃p,Hid (k=p+1):=⟨k-1,by show _=_;omega⟩;have hd0:((k:Int)==0)=false:=by simp;omega
      by_cases hc:k<low/\now=0
      ·obtain⟨hc1,rfl⟩:=hc;have HF:Hid _:=HS2.out.early HR.out (fun m hm hE=>by have:=Hlow.out m (by omega);rw[hE.2] at this;cases this);have hd1:decide ((k:Int)<(low:Int))=true:=by simp;omega
       clear HS2;go_wp2;go_ret;exact⟨high,_,_,_,_,_,_,_,rfl,⟨hhi,Hhb.out⟩,HF.out⟩
      ·have HSd:Hid (∀n,BkS w O1 O2 s v a b ne t.data.toList M (fun q=>q<64*ne/\zai ET q=true) high w2.heap.size w1.heap.size (W1.drewN n) (p+1) (p+1) (p+1) now b' O S2 pv ps):=by rw[<-Hkp.out];exact fun n=>HS2.out.drewN n hB hO1
       have hle:=HS2.out.le;have hpt:p<t.size:=by have:=Hkp.out;omega
       have hrd:=fun n=>zm2 (HSd.out n).st now (t[p]'hpt).toNat e0 (HSd.out n).nw (UInt8.toNat_lt _) (by have:=(HSd.out n).mb;omega)
       obtain⟨-,-,-,-,-,-,q6⟩:=zaS HS2.out.st.box;have hpi:(k:Int)-1=(p:Int):=by have:=Hkp.out;omega
       have hp0:(0:Int)<=(p:Int):=by omega
       have hp1:(p:Int)<(t.size:Int):=by omega
       have hcn:Hid (¬(k<low/\now=0)):=hc;clear hc HS2 hk0
       go_upto_region 9 with fail
       go_cut [69] from 59 to 69 (fun v69 wx=>v69=.bool false/\wx=W1)
       case first=>
        clear hrd q6 HSd
        by_cases h1:k<low
        ·have h2:now≠0:=fun e=>hcn.out ⟨h1,e⟩
         have hd1:decide ((k:Int)<(low:Int))=true:=by simp;omega
         have hd2:((now:Int)==0)=false:=by simp;omega
         go_wp2
         go_meet
         exact⟨rfl,rfl⟩
        ·have hd1:decide ((k:Int)<(low:Int))=false:=by simp;omega
         go_wp2
         go_meet
         exact⟨rfl,rfl⟩
       case rest=>
       obtain⟨rfl,hwc⟩:=hcut;subst wc
       go_upto_region 11 with fail
       have hmix:Tryz.prog.follows .mixedOrders=true:=by kernel_rfl
       refine za4 10 (fun w'=>∃n,w'=W1.drewN n) hmix ⟨1,rfl⟩ (by decide) (by kernel_rfl) ?_;intro os hos;simp only[zvD,zvF] at hos;subst hos
       repeat (go_big_quiet_step (fail))
       refine wpQuiet_nil ?_;rintro w' ⟨nq,rfl⟩ r' hr';simp only[zuX,zuY] at hr';subst hr'
       go_wp2_with fail
       refine(hrd nq).mono ?_;rintro e2 W2 ⟨x,b2,rfl,hx,hm,hn,hs,st,tc,km⟩;have H3:Hid _:=(HSd.out nq).read HR.out (zlc t hpt) (by rw[He0.out,Hkp.out];exact⟨fun z=>⟨by have:=Hkp.out;omega,z⟩,fun z=>z.2⟩) hx hm hn hs st tc km;obtain⟨pa,pc,hpf⟩:=zbN H3.out.pa;subst hpf;obtain⟨j0,j1,j2,j3⟩:=zbg H3.out.box;have hown:=H3.out.pa;have hpl:=H3.out.len;have hszw:=H3.out.tc.size;have htl:w2.heap.size<W2.heap.size:=(zuH.1 H3.out.box).1;have hp9:ps.length<=100000000:=by omega
       obtain⟨pn,hpn⟩:∃pn,ps.length=pn:=⟨_,rfl⟩;rw[hpn] at hown j3 hp9;have Hpl:Hid _:=hpn;have Hpn:Hid (∀k,(Value.slice pa pn pc).ownBlock=some k->k≠w2.heap.size):=by rw[<-hpn];exact fun k e=>(H3.out.pne e).1
       obtain⟨i1,hj,hy0,hy1,hy2⟩:=info_parts Tryz.infoIntB;have Hbx:Hid _:=H3.out.box;clear hrd HSd hx hm hn hs st tc km q6 hpl hpn
       go_wp2_with (at_builtin;refine zce W2 _ rfl rfl (.tmp 86) (.tmp 88) 23 rfl w.heap.size 3 i1 (.int .i64 0) 8 Tryz.underlying23 hj hy0 hy1 hy2 rfl (.slice pa pn pc) pn (zdu ps) (.int .i64 (x:Int)) rfl hown rfl rfl hp9 (by omega) hszw ?_;intro g7 cap7 W7 own7 grow7 at7;have box7:=(grow7.block w2.heap.size htl (fun e=>Hpn.out _ e.symm rfl)).trans Hbx.out;have f7:=zvY _ _ 3 _ _ box7;have k7:=(zbg box7).2.2.2)
       have HP:Hid (BkS w O1 O2 s v a b ne t.data.toList M (fun q=>q<64*ne/\zai ET q=true) high w2.heap.size w1.heap.size (W7.setCell ⟨w2.heap.size,3,none⟩ (.slice (some ⟨g7,0,none⟩) (pn+1) cap7)) (p+1) p p x b2 (news O (W1.drewN nq) W2) S2 (.slice (some ⟨g7,0,none⟩) (pn+1) cap7) (ps++[x])):=by
        have hh:=H3.out;rw[<-Hpl.out] at own7 grow7 at7 ⊢;exact hh.push own7 grow7 (at7.imp id Nat.le_of_lt) hB hO1
       clear H3 own7 grow7 at7 box7 f7 k7
       go_roundw
       case rel=>exact⟨p,x,b2,_,_,_,_,rfl,by congr 1,HP⟩
       case measure=>simp[intOf];have:=Hkp.out;omega
    |false=>
     have HS2:Hid _:=HS.out.skip (fun x=>by have:=Hm.out.1 x;rw[<-Hx0.out] at this;cases this);clear HS Hm Hx0 c1 c6 d6 dP;obtain⟨W1,hW1⟩:∃W1,wr=W1:=⟨_,rfl⟩;subst wr
     by_cases hk0:k=0
     ·subst hk0;have HF:Hid _:=HS2.out.bottom;clear HS2;go_wp2;go_ret;exact⟨high,_,_,_,_,_,_,_,rfl,⟨hhi,Hhb.out⟩,HF.out⟩
     ·obtain⟨p,Hkp⟩:∃p,Hid (k=p+1):=⟨k-1,by show _=_;omega⟩;have hd0:((k:Int)==0)=false:=by simp;omega
      by_cases hc:k<low/\now=0
      ·obtain⟨hc1,rfl⟩:=hc;have HF:Hid _:=HS2.out.early HR.out (fun m hm hE=>by have:=Hlow.out m (by omega);rw[hE.2] at this;cases this);have hd1:decide ((k:Int)<(low:Int))=true:=by simp;omega
       clear HS2;go_wp2;go_ret;exact⟨high,_,_,_,_,_,_,_,rfl,⟨hhi,Hhb.out⟩,HF.out⟩
      ·have HSd:Hid (∀n,BkS w O1 O2 s v a b ne t.data.toList M (fun q=>q<64*ne/\zai ET q=true) high w2.heap.size w1.heap.size (W1.drewN n) (p+1) (p+1) (p+1) now b' O S pv ps):=by rw[<-Hkp.out];exact fun n=>HS2.out.drewN n hB hO1
       have hle:=HS2.out.le;have hpt:p<t.size:=by have:=Hkp.out;omega
       have hrd:=fun n=>zm2 (HSd.out n).st now (t[p]'hpt).toNat e0 (HSd.out n).nw (UInt8.toNat_lt _) (by have:=(HSd.out n).mb;omega)
       obtain⟨-,-,-,-,-,-,q6⟩:=zaS HS2.out.st.box;have hpi:(k:Int)-1=(p:Int):=by have:=Hkp.out;omega
       have hp0:(0:Int)<=(p:Int):=by omega
       have hp1:(p:Int)<(t.size:Int):=by omega
       have hcn:Hid (¬(k<low/\now=0)):=hc;clear hc HS2 hk0
       go_upto_region 9 with fail
       go_cut [69] from 59 to 69 (fun v69 wx=>v69=.bool false/\wx=W1)
       case first=>
        clear hrd q6 HSd
        by_cases h1:k<low
        ·have h2:now≠0:=fun e=>hcn.out ⟨h1,e⟩
         have hd1:decide ((k:Int)<(low:Int))=true:=by simp;omega
         have hd2:((now:Int)==0)=false:=by simp;omega
         go_wp2
         go_meet
         exact⟨rfl,rfl⟩
        ·have hd1:decide ((k:Int)<(low:Int))=false:=by simp;omega
         go_wp2
         go_meet
         exact⟨rfl,rfl⟩
       case rest=>
       obtain⟨rfl,hwc⟩:=hcut;subst wc
       go_upto_region 11 with fail
       have hmix:Tryz.prog.follows .mixedOrders=true:=by kernel_rfl
       refine za4 10 (fun w'=>∃n,w'=W1.drewN n) hmix ⟨1,rfl⟩ (by decide) (by kernel_rfl) ?_;intro os hos;simp only[zvD,zvF] at hos;subst hos
       repeat (go_big_quiet_step (fail))
       refine wpQuiet_nil ?_;rintro w' ⟨nq,rfl⟩ r' hr';simp only[zuX,zuY] at hr';subst hr'
       go_wp2_with fail
       refine(hrd nq).mono ?_;rintro e2 W2 ⟨x,b2,rfl,hx,hm,hn,hs,st,tc,km⟩;have H3:Hid _:=(HSd.out nq).read HR.out (zlc t hpt) (by rw[He0.out,Hkp.out];exact⟨fun z=>⟨by have:=Hkp.out;omega,z⟩,fun z=>z.2⟩) hx hm hn hs st tc km;obtain⟨pa,pc,hpf⟩:=zbN H3.out.pa;subst hpf;obtain⟨j0,j1,j2,j3⟩:=zbg H3.out.box;have hown:=H3.out.pa;have hpl:=H3.out.len;have hszw:=H3.out.tc.size;have htl:w2.heap.size<W2.heap.size:=(zuH.1 H3.out.box).1;have hp9:ps.length<=100000000:=by omega
       obtain⟨pn,hpn⟩:∃pn,ps.length=pn:=⟨_,rfl⟩;rw[hpn] at hown j3 hp9;have Hpl:Hid _:=hpn;have Hpn:Hid (∀k,(Value.slice pa pn pc).ownBlock=some k->k≠w2.heap.size):=by rw[<-hpn];exact fun k e=>(H3.out.pne e).1
       obtain⟨i1,hj,hy0,hy1,hy2⟩:=info_parts Tryz.infoIntB;have Hbx:Hid _:=H3.out.box;clear hrd HSd hx hm hn hs st tc km q6 hpl hpn
       go_wp2_with (at_builtin;refine zce W2 _ rfl rfl (.tmp 86) (.tmp 88) 23 rfl w.heap.size 3 i1 (.int .i64 0) 8 Tryz.underlying23 hj hy0 hy1 hy2 rfl (.slice pa pn pc) pn (zdu ps) (.int .i64 (x:Int)) rfl hown rfl rfl hp9 (by omega) hszw ?_;intro g7 cap7 W7 own7 grow7 at7;have box7:=(grow7.block w2.heap.size htl (fun e=>Hpn.out _ e.symm rfl)).trans Hbx.out;have f7:=zvY _ _ 3 _ _ box7;have k7:=(zbg box7).2.2.2)
       have HP:Hid (BkS w O1 O2 s v a b ne t.data.toList M (fun q=>q<64*ne/\zai ET q=true) high w2.heap.size w1.heap.size (W7.setCell ⟨w2.heap.size,3,none⟩ (.slice (some ⟨g7,0,none⟩) (pn+1) cap7)) (p+1) p p x b2 (news O (W1.drewN nq) W2) S (.slice (some ⟨g7,0,none⟩) (pn+1) cap7) (ps++[x])):=by
        have hh:=H3.out;rw[<-Hpl.out] at own7 grow7 at7 ⊢;exact hh.push own7 grow7 (at7.imp id Nat.le_of_lt) hB hO1
       clear H3 own7 grow7 at7 box7 f7 k7
       go_roundw
       case rel=>exact⟨p,x,b2,_,_,_,_,rfl,by congr 1,HP⟩
       case measure=>simp[intOf];have:=Hkp.out;omega
end
section
attribute [local go_sem ↓] Go.wp_at_zero Go.wp_at_succ
def FurP(O1 O2:Nat->Prop)(w:World)(s:Nat)(v:StV)(a b:RdV)(u:Word)(M:PA)(E:Nat->Prop)(fr:Nat)(e:Ending)(w':World):Prop:=
 ∃(k now n end':Nat) (ok:Bool) (a':RdV) (O:Nat->Prop),e=.returned (.tuple #[.int .i64 end',.bool ok])/\FwS w O1 O2 s v a b u M E fr w' k now a' O/\k<=max fr u.length/\(∀x,E x->x<=n)/\Best u M E fr n end' ok
def zoF(O1:Nat->Prop)(w:World)(nw:Nat)(u:Word)(M:PA)(E:Nat->Prop)(fr high:Nat)(av:Value):Prop:=
 av=.pointer none\/∃(t:Nat) (Bk:Nat->Nat->Prop),av=.pointer (some ⟨t,0,none⟩)/\(∀W,zam O1 w W->∀k,k<high->Calls Tryz.prog 219 #[.pointer (some ⟨t,0,none⟩),.int .i64 k] W fun e w'=>∃rv,e=.returned rv/\((rv=.slice none 0 0/\∀p,¬Bk k p)\/∃(g:Nat) (T:Nat->Nat),rv=.slice (some ⟨g,0,none⟩) nw nw/\zar w' nw g T/\zeE nw T (Bk k))/\Below W.heap.size W w')/\∀k,fr<=k->k<high->(∀p,Fwd u M fr (k+1) p->¬Bk k p)->∀x,k<x->E x->¬LgM u M fr x
theorem zpS{M:PA}{n nw:Nat}{f:Nat->Nat->Bool}{F G:Nat->Nat->Nat}{X Y:Nat->Nat}(hR:zdT M n nw f F G X Y){u:Word}{i j:Nat}{T U:Nat->Nat}{B:Nat->Prop}(hT:zeE nw T (Fwd u M i j))(hl:∀x,T x<18446744073709551616)(hU:zeE nw U B)(hm:zcO nw T U=false):∀p,Fwd u M i j p->¬B p:=fun p h1 h2=>by
 have hp:=(hR.D p).1 (h1.2.2.inside hR.fi hR.fo);have hn:=hR.n64;have:zcO nw T U=true:=(zgZ nw T U hl).2 ⟨p,by omega,(hT p (by omega)).2 h1,(hU p (by omega)).2 h2⟩;rw[hm] at this;cases this
theorem zlp{O1 O2:Nat->Prop}{w:World}{s:Nat}{v:StV}{a b:RdV}(h:Strd O1 O2 w s v a b)(M:PA)(hR:zdT M v.n v.nw v.f v.F v.G v.A v.L)(hem:v.e=true↔M.e)(t:ByteArray)(ht:t.size<=4096)(ne ge cap fr:Nat)(ET:Nat->Nat)(hE:zar w ne ge ET)(hne:ne<=100)(hO:¬O1 ge)(hx:∃q,q<64*ne/\zai ET q=true)(hq:∀q,q<64*ne->zai ET q=true->q<=t.size)(hfr:fr<=t.size)(hfn:fr<64*ne)(ham:a.m<=90000000)(av:Value)
  (hal:∀high,(high<64*ne/\zai ET high=true)->(∀q,q<64*ne->zai ET q=true->q<=high)->zoF O1 w v.nw t.data.toList M (fun q=>q<64*ne/\zai ET q=true) fr high av):
  Calls Tryz.prog 231 #[.pointer (some ⟨s,0,none⟩),.string t,.int .i64 fr,.slice (some ⟨ge,0,none⟩) ne cap,av] w fun e w'=>FurP O1 O2 w s v a b t.data.toList M (fun q=>q<64*ne/\zai ET q=true) fr e w':=by
 have hB:=h.c.c1.le;have hhas0:=zi2 ne ge cap ET fr w hE hfn (by omega);obtain⟨ve,Hve⟩:∃ve,Hid (v.e=ve):=⟨_,rfl⟩;obtain⟨x0,Hx0⟩:∃x0,Hid (x0=(ve&&zai ET fr)):=⟨_,rfl⟩;obtain⟨ef,Hef⟩:∃ef,Hid (ef=zai ET fr):=⟨_,rfl⟩;rw[<-Hef.out] at hhas0;have c1:=(zaS h.box).2.1;rw[Hve.out] at c1;have HS0:Hid (FwS w O1 O2 s v a b t.data.toList M (fun q=>q<64*ne/\zai ET q=true) fr w fr 0 a O1):=by
  refine⟨zam.refl _ _,fun _ _ e=>e,h,RdN.refl a,zvJ _,fun _ x=>x,fun _ x=>.inl x,zvJ _,h.ra.pos,fun q hq'=>⟨fun h1=>?_,fun h1=>?_⟩⟩
  ·have h2:=h.ra.zero (q/64) (by omega);unfold zai at h1;rw[h2] at h1;simp at h1
  ·have:=h1.1;omega
 have HB0:Hid (Best t.data.toList M (fun q=>q<64*ne/\zai ET q=true) fr fr fr x0):=by
  have hL:LgM t.data.toList M fr fr↔M.e:=⟨fun x=>x.elim (fun y=>y.2) (fun y=>by omega),fun x=>.inl ⟨rfl,x⟩⟩;cases hb:x0
  ·refine .inr ⟨rfl,rfl,fun x hx hE2 hL2=>?_⟩;have hxe:x=fr:=by
    rcases hL2 with ⟨e,_⟩|⟨e,_⟩<;>omega
   subst hxe;have h1:=hem.2 (hL.1 hL2);have:=Hx0.out;rw[hb,<-Hve.out,h1,hE2.2] at this;cases this
  ·have:=Hx0.out;rw[hb,<-Hve.out] at this;have h2:=Bool.and_eq_true_iff.1 this.symm;exact .inl ⟨rfl,⟨hfn,h2.2⟩,hL.2 (hem.1 h2.1),zvJ _,fun x h _ _=>h⟩
 have hg:=zeJ ne ge cap ET w hE (by omega);have hEl:ge<w.heap.size:=hE.glt;have Hfr:Hid (∀W:World,zam O1 w W->zar W ne ge ET):=fun W tc=>⟨(tc.same ge hEl hO).trans hE.row,hE.lt⟩
 have HR:Hid _:=hR;have Hal:=hidF hal;clear h hE hR hem hal hO
 go_enter Tryz.func231,Tryz.ntmps231
 go_upto_region 1 with fail
 go_cut [12,13] from 17 to 27 (fun v12 v13 wx=>v12=.int .i64 fr/\v13=.bool x0/\wx=w)
 case first=>
  have hx0:=Hx0.out;rw[<-Hef.out] at hx0;have Hx1:Hid _:=hx0;clear hx0 HS0 HB0 hg;cases ve with
  |false=>
   go_wp2
   go_meet
   exact⟨rfl,by rw[Hx1.out];rfl,rfl⟩
  |true=>
   go_wp2_with fail
   refine hhas0.mono ?_;rintro e1 W ⟨rfl,hW⟩;subst W;clear hhas0;go_wp2
   go_meet
   exact⟨rfl,by rw[Hx1.out];rfl,rfl⟩
 case rest=>
  obtain⟨rfl,rfl,hwc⟩:=hcut;subst wc;clear hhas0 c1
  go_wp2_with fail
  refine hg.mono ?_;rintro e w1 ⟨hv,rfl,hgp,hb1⟩;obtain⟨high,rfl,hhi,hhb,hhigh⟩:∃high:Nat,hv=high/\high<64*ne/\zai ET high=true/\∀q,high<q->q<64*ne->zai ET q=false:=by
   rcases hgp with ⟨-,h1⟩|⟨p,h1⟩
   ·obtain⟨q,h2,h3⟩:=hx;rw[h1 q h2] at h3;cases h3
   ·exact⟨p,h1⟩
  have hht:=hq high hhi hhb;have hmax:∀q,q<64*ne->zai ET q=true->q<=high:=fun q h1 h2=>by
   rcases zvM high q with e|e
   ·have:=hhigh q e h1;rw[h2] at this;cases this
   ·exact e
  have HAl:=hidF (Hal.out high ⟨hhi,hhb⟩ hmax);have Hmax:Hid _:=hmax;have HS1:Hid _:=HS0.out.below hb1;clear hg hgp hhigh hhb hx Hal HS0 hmax hb1;go_wp2
  go_loopw [12,13,15,16] (fun ev kv nv av wr=>∃(k now end':Nat) (ok:Bool) (a':RdV) (O:Nat->Prop),ev=.int .i64 end'/\kv=.bool ok/\nv=.int .i64 now/\av=.int .i64 k/\Hid (FwS w O1 O2 s v a b t.data.toList M (fun q=>q<64*ne/\zai ET q=true) fr wr k now a' O)/\Hid (Best t.data.toList M (fun q=>q<64*ne/\zai ET q=true) fr k end' ok)/\k<=max fr high)
   (fun _ _ _ av _=>high-(intOf av).toNat)
  case atStart=>exact⟨fr,0,fr,x0,a,O1,rfl,rfl,rfl,rfl,HS1,HB0,by omega⟩
  case round=>
   clear HS1 HB0;obtain⟨k,now,end',ok,a',O,rfl,rfl,rfl,rfl,HS,HBe,hkh⟩:=hrel
   by_cases hlt:k<high
   ·have hd:decide ((k:Int)<(high:Int))=true:=by simp;omega
    have hkt:k<t.size:=by omega
    have HSd:Hid (∀n,FwS w O1 O2 s v a b t.data.toList M (fun q=>q<64*ne/\zai ET q=true) fr (wr.drewN n) k now a' O):=fun n=>HS.out.below ⟨rfl,rfl,rfl,zvJ _,fun _ _=>rfl⟩
    obtain⟨bg,Hbg⟩:∃bg,Hid (bg=decide (k=fr)):=⟨_,rfl⟩;have hbgE:((k:Int)==(fr:Int))=bg:=by
     rw[Hbg.out]
     by_cases e:k=fr
     ·simp[e]
     ·have e2:¬(k:Int)=(fr:Int):=by omega
      simp[e,e2]
    have hmb:=HS.out.mb;have hrd:=fun n=>zsd (HSd.out n).st now (t[k]'hkt).toNat bg (HSd.out n).nw (UInt8.toNat_lt _) (by omega)
    have q5:=(zaS HS.out.st.box).2.2.2.2.2.1;have hk0:(0:Int)<=(k:Int):=by omega
    have hk1:(k:Int)<(t.size:Int):=by omega
    have hle:=HS.out.le;clear HS
    go_upto_region 7 with fail
    have hmix:Tryz.prog.follows .mixedOrders=true:=by kernel_rfl
    refine za4 11 (fun w'=>∃n,w'=wr.drewN n) hmix ⟨1,rfl⟩ (by decide) (by kernel_rfl) ?_;intro os hos;simp only[zvD,zvF] at hos;subst hos
    repeat (go_big_quiet_step (fail))
    refine wpQuiet_nil ?_;rintro w' ⟨nq,rfl⟩ r' hr';simp only[zuX,zuY] at hr';subst hr'
    go_wp2_with fail
    refine(hrd nq).mono ?_;rintro e2 W2 ⟨x,a2,rfl,hx,hm,hn,hs,st,tc,km⟩;have H3:Hid _:=(HSd.out nq).read HR.out (zlc t hkt) (by rw[Hbg.out];simp) hx hm hn hs st tc km;clear hrd HSd hm hn hs st tc km q5 hbgE;obtain⟨-,-,-,-,-,q5,-⟩:=zaS H3.out.st.box;have d5:=(zaW H3.out.st.ra.s.box).2.2.2.2.2.1;obtain⟨gS,cS,eS,hgS,hcS⟩:=H3.out.st.ra.rowS;have dS:=hcS x hx;rw[eS] at d5;have hset:=H3.out.st.ra.s.set x hx;have hx0:(0:Int)<=(x:Int):=by omega
    have hx1:(x:Int)<(a2.m:Int):=by omega
    have hnwl:=H3.out.st.c.c1.nwl;clear hcS eS
    go_upto_region 8 with fail
    go_cut [70] from 48 to 70 (fun v70 wx=>∃bb:Bool,v70=.bool bb/\Below W2.heap.size W2 wx/\Hid (bb=true->∀y,k<y->(y<64*ne/\zai ET y=true)->¬LgM t.data.toList M fr y))
    case first=>
     by_cases hz:x=0
     ·have HD:Hid (∀y,k<y->(y<64*ne/\zai ET y=true)->¬LgM t.data.toList M fr y):=by
       have h4:=H3.out;rw[hz] at h4;exact fun y hy _=>h4.dead HR.out (by omega) y hy
      have hd0:((x:Int)==0)=true:=by simp[hz]
      have Hz:Hid _:=hz;clear hz H3 HBe
      go_region
      all_goals
       go_wp2
       go_meet
       exact⟨true,rfl,(Below.refl _ _).drew,fun _=>HD.out⟩
     ·have hd0:((x:Int)==0)=false:=by simp[hz]
      have Hz:Hid _:=hz;clear hz;rcases HAl.out with hav|⟨tt,Bk,hav,hat,hmet⟩
      ·subst hav;clear H3 HBe
       go_region
       all_goals
        go_wp2
        go_meet
        exact⟨false,rfl,(Below.refl _ _).drew,fun e=>by cases e⟩
      ·subst hav;have hat2:=hat W2.drew H3.out.tc.drew k hlt;have hgl:=hset.glt;have hsl:s<W2.heap.size:=(zuH.1 H3.out.st.box).1;have hrl:a2.r<W2.heap.size:=(zuH.1 H3.out.st.ra.s.box).1;have Hme:Hid (∀(W3:World) (rv:Value),Below W2.heap.size W2 W3->((rv=.slice none 0 0/\∀p,¬Bk k p)\/∃(g:Nat) (T:Nat->Nat),rv=.slice (some ⟨g,0,none⟩) v.nw v.nw/\zar W3 v.nw g T/\zeE v.nw T (Bk k))->Calls Tryz.prog 195 #[.slice (some ⟨a2.gx x,0,none⟩) v.nw v.nw,rv] W3 fun e w'=>∃mb:Bool,e=.returned (.bool mb)/\Hid (mb=false->∀y,k<y->(y<64*ne/\zai ET y=true)->¬LgM t.data.toList M fr y)/\Below W3.heap.size W3 w'):=by
        intro W3 rv hb3 hrv;rcases hrv with ⟨rfl,hno⟩|⟨g,T,rfl,hT,hTs⟩
        ·refine(zlG v.nw _ v.nw W3).mono ?_;rintro e w' ⟨rfl,hb⟩;exact⟨false,rfl,fun _=>hmet k hle hlt (fun p _=>hno p),hb⟩
        ·refine(zmQ v.nw _ g v.nw v.nw (a2.Ts x) T W3 (hset.below hb3) hT hnwl).mono ?_;rintro e w' ⟨rfl,hb⟩;exact⟨_,rfl,fun hm=>hmet k hle hlt (zpS HR.out H3.out.fw hset.lt hTs hm),hb⟩
       clear H3 HBe hat hmet HAl
       go_region_held3 (fun w'=>w'.cell? ⟨s,5,none⟩=some (.pointer (some ⟨a2.r,0,none⟩))/\w'.cell? ⟨a2.r,5,none⟩=some (.slice (some ⟨gS,0,none⟩) a2.m cS)/\w'.cell? ⟨gS,x,none⟩=some (.slice (some ⟨a2.gx x,0,none⟩) v.nw v.nw)) ((first|exact⟨q5,d5,dS⟩|exact⟨n5,m5,nS⟩|exact⟨o5,p5,oS⟩|go_keep)) ((first|(go_at_call 219;refine hat2.mono ?_;rintro e3 W3 ⟨rv,rfl,hrv,hb3⟩;have hb3':Below W2.heap.size W2 W3:=⟨hb3.os,hb3.tape,hb3.output,hb3.size,hb3.block⟩;have n5:=(hb3'.cell (p:=⟨s,5,none⟩) hsl).trans q5;have m5:=(hb3'.cell (p:=⟨a2.r,5,none⟩) hrl).trans d5;have nS:=(hb3'.cell (p:=⟨gS,x,none⟩) hgS).trans dS;have hme:=Hme.out W3 rv hb3' hrv;clear hrv)|(go_at_call 195;refine hme.mono ?_;rintro e4 W4 ⟨mb,rfl,Hmb,hb4⟩;have o5:=(hb4.cell (p:=⟨s,5,none⟩) (zvL hsl hb3'.size)).trans n5;have p5:=(hb4.cell (p:=⟨a2.r,5,none⟩) (zvL hrl hb3'.size)).trans m5;have oS:=(hb4.cell (p:=⟨gS,x,none⟩) (zvL hgS hb3'.size)).trans nS)))
       go_wp2
       go_meet
       exact⟨!mb,rfl,hb3'.trans (hb4.mono hb3'.size),fun e=>Hmb.out (by simpa using e)⟩
    case rest=>
     obtain⟨bb,rfl,hbw,Hbb⟩:=hcut;cases bb with
     |true=>
      have hul:t.data.toList.length=t.size:=by simp
      have HF:Hid (FurP O1 O2 w s v a b t.data.toList M (fun q=>q<64*ne/\zai ET q=true) fr (.returned (.tuple #[.int .i64 end',.bool ok])) wc):=⟨k+1,x,high,end',ok,a2,_,rfl,H3.out.below hbw,by omega,fun y hy=>Hmax.out y hy.1 hy.2,HBe.out.last (Hbb.out rfl) high (by omega)⟩;clear H3 HBe HAl Hbb hset;go_wp2
      go_ret2
      exact HF.out
     |false=>
      have H4:Hid _:=H3.out.below hbw;have hE2:=Hfr.out wc H4.out.tc;have hhas:=zi2 ne ge cap ET (k+1) wc hE2 (by omega) (by omega);obtain⟨-,-,-,-,-,r5,-⟩:=zaS H4.out.st.box;have d6:=(zaW H4.out.st.ra.s.box).2.2.2.2.2.2.1;obtain⟨gP,cP,eP,hgP,hcP⟩:=H4.out.st.ra.rowP;have dP:=hcP x hx;rw[eP] at d6;have hends:=hidF (H4.out.ends HR.out (by omega));obtain⟨m0,Hm0⟩:∃m0,Hid (m0=zcO v.nw (a2.Ts x) v.L):=⟨_,rfl⟩;rw[<-Hm0.out] at dP;obtain⟨e0,He0⟩:∃e0,Hid (e0=zai ET (k+1)):=⟨_,rfl⟩;rw[<-He0.out] at hhas;have hk2:((k+1:Nat):Int)=(k:Int)+1:=by omega
      rw[hk2] at hhas;clear H3 hE2 hcP eP q5 d5 dS hset Hbb hbw HAl hk2;cases m0 with
      |false=>
       have HB2:Hid _:=HBe.out.miss (fun _ hL=>by have:=hends.out.1 hL;rw[<-Hm0.out] at this;cases this);clear hhas HBe;go_wp2
       go_roundw
       case rel=>exact⟨k+1,x,end',ok,a2,_,rfl,rfl,rfl,by go_num,H4,HB2,by omega⟩
       case measure=>simp[intOf];omega
      |true=>
       go_wp2_with fail
       refine hhas.mono ?_;rintro e3 W5 ⟨rfl,hW5⟩;subst W5;clear hhas;cases e0 with
       |false=>
        have HB2:Hid _:=HBe.out.miss (fun hE3 _=>by have:=hE3.2;rw[<-He0.out] at this;cases this);clear HBe;go_wp2
        go_roundw
        case rel=>exact⟨k+1,x,end',ok,a2,_,rfl,rfl,rfl,by go_num,H4,HB2,by omega⟩
        case measure=>simp[intOf];omega
       |true=>
        have HB2:Hid (Best t.data.toList M (fun q=>q<64*ne/\zai ET q=true) fr (k+1) (k+1) true):=Best.hit ⟨by omega,He0.out.symm⟩ (hends.out.2 Hm0.out.symm);clear HBe;go_wp2
        go_roundw
        case rel=>exact⟨k+1,x,k+1,true,a2,_,by go_num,rfl,rfl,by go_num,H4,HB2,by omega⟩
        case measure=>simp[intOf];omega
   ·have hd:decide ((k:Int)<(high:Int))=false:=by simp;omega
    have hul:t.data.toList.length=t.size:=by simp
    have hkt:k<=max fr t.data.toList.length:=by omega
    have HF:Hid (FurP O1 O2 w s v a b t.data.toList M (fun q=>q<64*ne/\zai ET q=true) fr (.returned (.tuple #[.int .i64 end',.bool ok])) wr):=⟨k,now,k,end',ok,a',O,rfl,HS.out,hkt,fun x hx=>by have:=Hmax.out x hx.1 hx.2;omega,HBe.out⟩;clear HS HBe HAl;go_wp2
    go_ret2
    exact HF.out
end
variable{lo lo' pl a sz n B k:Nat}{w w':World}{Q Q' R:Nat -> Option Pt}{p q:Pt}{v:Value}{xs:List Value}
def opL(xs:List (Nat×Pt)):List Value:=xs.map fun x=>.pointer (some ⟨x.1,0,none⟩)
def lkL:List (Nat×Lnk)->List Value
 |[]=>[]
 |(a,(_,o))::xs=>.pointer (some ⟨a,0,none⟩) :: .bool o::lkL xs
theorem zdy:∀(xs ys:List (Nat×Lnk)),lkL (xs++ys)=lkL xs++lkL ys
 |[],_=>rfl
 |(_,_,_)::xs,ys=>by simp[lkL,zdy xs ys]
theorem zlC:∀(xs:List (Nat×Lnk)) (i a:Nat) (q:Pt) (o:Bool),xs[i]?=some (a,q,o)->(lkL xs)[i*2]?=some (.pointer (some ⟨a,0,none⟩))/\(lkL xs)[i*2+1]?=some (.bool o)
 |(a0,q0,o0)::xs,0,a,q,o,h=>by simp at h;obtain⟨rfl,-,rfl⟩:=h;exact⟨rfl,rfl⟩
 |(a0,q0,o0)::xs,i+1,a,q,o,h=>by
  obtain⟨h1,h2⟩:=zlC xs i a q o (by simpa using h);rw[show (i+1)*2=i*2+1+1 from by omega];exact⟨h1,h2⟩
structure PcB(lo:Nat)(w:World)(pl:Nat)(Q:Nat->Option Pt)(a:Nat)(p:Pt)(f:Value):Prop where
 lo:lo<=a
 q:Q a=some p
 box:∃v,w.heap[a]?=some (.cells #[.pointer (some ⟨pl,0,none⟩),v,f,.pointer none] 222 (0,0))/\zan w v p
 wt:wPt p<=2000
def zby:Pt->List Lnk
 |.seq p q=>zfc (zcy (.seq p q))
 |.rep b mn mx=>repL b mn.toNat mx
 |_=>[]
inductive PcAt (lo:Nat) (w:World) (pl:Nat) (Q:Nat->Option Pt):Nat->Pt->Prop
 |leaf (a:Nat) (p:Pt):PcB lo w pl Q a p .nilIface->noG p->PcAt lo w pl Q a p
 |group (a a':Nat) (b:Pt) (g:Int):PcB lo w pl Q a (.grp b g) (.iface 242 (.agg #[.int .i64 g,.pointer (some ⟨a',0,none⟩)]))->PcAt lo w pl Q a' b->PcAt lo w pl Q a (.grp b g)
 |choice (a:Nat) (l r:Pt) (go cap:Nat) (xs:List (Nat×Pt)):PcB lo w pl Q a (.alt l r) (.iface 311 (.agg #[.slice (some ⟨go,0,none⟩) xs.length cap]))->w.ownsRow lo 198 1 (.slice (some ⟨go,0,none⟩) xs.length cap) xs.length (opL xs)->xs.map Prod.snd=zbf (.alt l r)->(∀x,x∈xs->PcAt lo w pl Q x.1 x.2)->PcAt lo w pl Q a (.alt l r)
 |chain (a:Nat) (p:Pt) (go cap:Nat) (xs:List (Nat×Lnk)):PcB lo w pl Q a p (.iface 305 (.agg #[.slice (some ⟨go,0,none⟩) xs.length cap]))->w.ownsRow lo 299 2 (.slice (some ⟨go,0,none⟩) xs.length cap) xs.length (lkL xs)->xs.map Prod.snd=zby p->(∀l r,p≠.alt l r)->(∀b g,p≠.grp b g)->(∀b,p≠.rep b 0 (-1))->(∀f,p≠.set f)->(∀x,x∈xs->PcAt lo w pl Q x.1 x.2.1)->PcAt lo w pl Q a p
 |rounds (a a':Nat) (b:Pt):PcB lo w pl Q a (.rep b 0 (-1)) (.iface 313 (.agg #[.pointer (some ⟨a,0,none⟩),.pointer (some ⟨a',0,none⟩)]))->PcAt lo w pl Q a' b->PcAt lo w pl Q a (.rep b 0 (-1))
theorem PcB.keep{f:Value}(h:PcB lo w pl Q a p f)(hl:lo'<=lo)(hk:∀k,lo<=k->k<w.heap.size->w'.heap[k]?=w.heap[k]?)(hm:zaT w w')(hQ:∀k q,Q k=some q->Q' k=some q):PcB lo' w' pl Q' a p f:=by
 obtain⟨v,h1,h2⟩:=h.box;exact⟨zvK hl h.lo,hQ a p h.q,⟨v,(hk a h.lo (zuH.1 h1).1).trans h1,zan.keep hm p v h2⟩,h.wt⟩
theorem zck{e:TypeId}(h:w.ownsRow lo e sz v n xs)(hl:lo'<=lo):w.ownsRow lo' e sz v n xs:=by
 refine⟨h.1,?_⟩;rcases h.2 with h2|⟨g,cap,cur,h1,h2,h3⟩
 ·exact .inl h2
 ·exact .inr ⟨g,cap,cur,h1,by omega,h3⟩
theorem zfa{e:TypeId}(h:w.ownsRow lo e sz v n xs)(hk:∀k,lo<=k->k<w.heap.size->w'.heap[k]?=w.heap[k]?):w'.ownsRow lo e sz v n xs:=by
 refine⟨h.1,?_⟩;rcases h.2 with h2|⟨g,cap,cur,h1,h2,h3,h4⟩
 ·exact .inl h2
 ·exact .inr ⟨g,cap,cur,h1,h2,(hk g h2 (zuH.1 h3).1).trans h3,h4⟩
theorem PcAt.keep(h:PcAt lo w pl Q a p)(hl:lo'<=lo)(hk:∀k,lo<=k->k<w.heap.size->w'.heap[k]?=w.heap[k]?)(hm:zaT w w')(hQ:∀k q,Q k=some q->Q' k=some q):PcAt lo' w' pl Q' a p:=by
 induction h with
 |leaf a p h1 h2=>exact .leaf a p (h1.keep hl hk hm hQ) h2
 |group a a' b g h1 _ ih=>exact .group a a' b g (h1.keep hl hk hm hQ) ih
 |choice a l r go cap xs h1 h2 h3 _ ih=>exact .choice a l r go cap xs (h1.keep hl hk hm hQ) (zck (zfa h2 hk) hl) h3 ih
 |chain a p go cap xs h1 h2 h3 h4 h5 h6 h7 _ ih=>exact .chain a p go cap xs (h1.keep hl hk hm hQ) (zck (zfa h2 hk) hl) h3 h4 h5 h6 h7 ih
 |rounds a a' b h1 _ ih=>exact .rounds a a' b (h1.keep hl hk hm hQ) ih
theorem PcAt.blk(h:PcAt lo w pl Q a p):∃f,PcB lo w pl Q a p f/\(f=.nilIface->noG p)/\(f=.nilIface\/∃t x,f=.iface t x):=by
 cases h with
 |leaf _ _ h1 h2=>exact⟨_,h1,fun _=>h2,.inl rfl⟩
 |group _ a' b g h1 _=>exact⟨_,h1,fun e=>(by cases e),.inr ⟨_,_,rfl⟩⟩
 |choice _ l r go cap xs h1 _ _ _=>exact⟨_,h1,fun e=>(by cases e),.inr ⟨_,_,rfl⟩⟩
 |chain _ _ go cap xs h1 _ _ _ _ _ _ _=>exact⟨_,h1,fun e=>(by cases e),.inr ⟨_,_,rfl⟩⟩
 |rounds _ a' b h1 _=>exact⟨_,h1,fun e=>(by cases e),.inr ⟨_,_,rfl⟩⟩
def PcM(B:Nat)(w:World)(pl:Nat)(Q:Nat->Option Pt):Prop:=∀a q,Q a=some q->B<=a/\wPt q<=2000/\∃v f,w.heap[a]?=some (.cells #[.pointer (some ⟨pl,0,none⟩),v,f,.pointer none] 222 (0,0))/\zan w v q
theorem PcM.keep{B':Nat}(h:PcM B w pl Q)(hl:B'<=B)(hk:∀k,B<=k->k<w.heap.size->w'.heap[k]?=w.heap[k]?)(hm:zaT w w'):PcM B' w' pl Q:=fun a q hq=>by
 obtain⟨h1,h2,v,f,h3,h4⟩:=h a q hq;exact⟨by omega,h2,v,f,(hk a h1 (zuH.1 h3).1).trans h3,zan.keep hm q v h4⟩
def qU(Q R:Nat->Option Pt)(k:Nat):Option Pt:=match Q k with
 |some q=>some q
 |none=>R k
theorem zl3(h:Q k=some q):qU Q R k=some q:=by unfold qU;rw[h]
theorem zjk(h0:Q k=none)(h:R k=some q):qU Q R k=some q:=by unfold qU;rw[h0];exact h
theorem zuD(h:qU Q R k=some q):Q k=some q\/R k=some q:=by
 unfold qU at h;split at h
 ·rename_i q' hq;rw[hq];exact .inl h
 ·exact .inr h
theorem PcM.below0(h:PcM B w pl Q){k:Nat}(hk:k<B):Q k=none:=by
 cases hq:Q k with
 |none=>rfl
 |some q=>have:=(h k q hq).1;omega
theorem PcM.high(h:PcM B w pl Q){k:Nat}(hk:w.heap.size<=k):Q k=none:=by
 cases hq:Q k with
 |none=>rfl
 |some q=>
  obtain⟨_,_,v,f,h3,_⟩:=h k q hq;have:=(zuH.1 h3).1;omega
theorem PcM.union(h:PcM B w pl Q)(k:PcM B w pl R):PcM B w pl (qU Q R):=fun a q hq=>(zuD hq).elim (h a q) (k a q)
def qOne(a:Nat)(p:Pt)(k:Nat):Option Pt:=if k=a then some p else none
theorem zhf(a:Nat)(p:Pt):qOne a p a=some p:=zv3 rfl
theorem zl2(h:qOne a p k=some q):k=a/\p=q:=by
 unfold qOne at h;split at h
 ·rename_i e;exact⟨e,Option.some.inj h⟩
 ·cases h
theorem PcM.nothing(B:Nat)(w:World)(pl:Nat):PcM B w pl (fun _=>none):=fun a q h=>by cases h
def PcR(w:World)(pl:Nat)(p:Pt)(e:Ending)(w':World):Prop:=
 ∃(a:Nat) (Q:Nat->Option Pt),e=.returned (.pointer (some ⟨a,0,none⟩))/\Below w.heap.size w w'/\PcM w.heap.size w' pl Q/\PcAt w.heap.size w' pl Q a p
def zcX(p:Pt):Prop:=∀(pl:Nat) (v:Value) (w:World),zan w v p->wPt p<=2000->Calls Tryz.prog 139 #[.pointer (some ⟨pl,0,none⟩),v] w fun e w'=>PcR w pl p e w'
theorem zgC{x y:Int}(h:capW x<=2000)(hxy:y<=x):y<=2000:=by unfold capW at h;split at h<;>omega
theorem ztO{b:Pt}{mn mx:Int}(hT:zan w v (.rep b mn mx))(hw:wPt (.rep b mn mx)<=2000):wPt b<=2000:=by
 obtain⟨lv,_,h1,h2⟩:=hT;have h3:=zbw b _ h1;have hc:=zcZ h2;refine zgC (x:=wPt b*zaV mn mx) hw ?_;have:wPt b*1<=wPt b*zaV mn mx:=Int.mul_le_mul_of_nonneg_left (by omega) (by omega);omega
theorem zfm{l r:Pt}(hT:zan w v (.seq l r)\/zan w v (.alt l r))(hw:capW (wPt l+wPt r)<=2000):wPt l<=2000/\wPt r<=2000:=by
 have:∃lv rv,zan w lv l/\zan w rv r:=by
  rcases hT with ⟨lv,rv,_,h1,h2⟩|⟨lv,rv,_,h1,h2⟩<;>exact⟨lv,rv,h1,h2⟩
 obtain⟨lv,rv,h1,h2⟩:=this;have h3:=zbw l _ h1;have h4:=zbw r _ h2;exact⟨zgC hw (by omega),zgC hw (by omega)⟩
theorem zdP:∀(p:Pt) (v:Value),zan w v p->OkP p
 |.set _,_,_=>trivial
 |.seq l r,_,⟨_,_,_,h1,h2⟩=>⟨zdP l _ h1,zdP r _ h2⟩
 |.alt l r,_,⟨_,_,_,h1,h2⟩=>⟨zdP l _ h1,zdP r _ h2⟩
 |.rep b mn mx,_,⟨_,_,h1,h2⟩=>by
  refine⟨zdP b _ h1,?_⟩;simp[zaM] at h2;omega
 |.grp b _,_,⟨_,_,h1⟩=>zdP b _ h1
end Go.Proofs.YtdimhpfiieepiaaGreatDoor
