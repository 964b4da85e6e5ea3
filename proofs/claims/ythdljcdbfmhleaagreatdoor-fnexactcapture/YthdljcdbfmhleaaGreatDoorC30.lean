import Derived.Test.YthdljcdbfmhleaaGreatDoorC29
import Derived.WalkSpells
namespace Go.Proofs.YthdljcdbfmhleaaGreatDoor
set_option maxHeartbeats 2000000
set_option maxRecDepth 100000
open Go.RowKit
attribute [local go_sem ↓] Go.wp_at_zero Go.wp_at_succ
section
def StrA(w0:World)(pl:Nat)(Q:Nat->Option Pt)(a:Nat)(p:Pt)(Ow:Nat->Nat->Prop)(w:World)(e:Ending)(w':World):Prop:=
 ∃(s:Nat) (Ow':Nat->Nat->Prop) (X:Nat->Prop) (v:StV) (ra rb:RdV) (O1 O2:Nat->Prop),e=.returned (.pointer (some ⟨s,0,none⟩))/\StrO w0 pl Q a p Ow' w' s X v ra rb O1 O2/\ra.m<=8192/\rb.m<=8192/\Chg pl a Ow w Ow' w' X
theorem zaJ.set{w:World}{b o:Nat}{x:Value}{cs:Array Value}{t:TypeId}(h:w.heap[b]?=some (.cells cs t (0,0)))(ht:t≠197):zaJ w (w.setCell ⟨b,o,none⟩ x):=fun mg f e=>by
 refine(zsq _ _ _ _ (show mg≠b from fun e2=>?_)).trans e;rw[e2,h] at e;exact ht (zad e)
section
variable {w0:World} {pl:Nat} {Q:Nat->Option Pt} {Ow:Nat->Nat->Prop}
theorem zf8{a:Nat}{p:Pt}{w w2:World}(h:PnI w0 pl Q Ow w)(ha:Q a=some p){s:Nat}{v:StV}{ra rb:RdV}{O1 O2:Nat->Prop}(hst:Strd O1 O2 w2 s v ra rb)(hrw:zcZ (unD p 0) v.n v.nw v.f v.F v.G v.A v.L)(hem:v.e=true↔(unD p 0).e)(hb0:w.heap.size<=v.b0)(hn:v.n<=2000)(hnw:v.nw=((wPt p).toNat+63)/64)(hm1:ra.m=1)(hm2:rb.m=1)(hbl:Below w.heap.size w w2){f k0 v0 x0 x1 x2:Value}{room z:Nat}(h2:w.heap[a]?=some (.cells #[.pointer (some ⟨pl,0,none⟩),v0,f,k0] 114 (0,0)))(hp:w.heap[pl]?=some (.cells #[x0,x1,x2,.int .i64 room] 83 (0,0)))(hr:room<=1048576)(hz:z<=room):
  StrA w0 pl Q a p Ow w (.returned (.pointer (some ⟨s,0,none⟩))) ((w2.setCell ⟨pl,3,none⟩ (.int .i64 ((room:Int)-z))).setCell ⟨a,3,none⟩ (.pointer (some ⟨s,0,none⟩))):=by
 have hal:=h.alt ha;have hpl:=h.pl0;have hsz:=h.size;have hbs:=hbl.size;have hne:=h.ne ha;have p2:=(hbl.block pl (by omega)).trans hp;have a2:=(hbl.block a (by omega)).trans h2;have p3:=zsr w2 pl 3 _ _ (.int .i64 ((room:Int)-z)) p2;have a3:(w2.setCell ⟨pl,3,none⟩ (.int .i64 ((room:Int)-z))).heap[a]?=_:=(zsq _ _ _ _ (show a≠pl from hne)).trans a2;have p4:((w2.setCell ⟨pl,3,none⟩ (.int .i64 ((room:Int)-z))).setCell ⟨a,3,none⟩ (.pointer (some ⟨s,0,none⟩))).heap[pl]?=_:=(zsq _ _ _ _ (show pl≠a from fun e=>hne e.symm)).trans p3;have a4:=zsr _ a 3 _ _ (.pointer (some ⟨s,0,none⟩)) a3;have km:zaJ w2 ((w2.setCell ⟨pl,3,none⟩ (.int .i64 ((room:Int)-z))).setCell ⟨a,3,none⟩ (.pointer (some ⟨s,0,none⟩))):=(zaJ.set p2 (by decide)).trans (zaJ.set a3 (by decide));have ot:∀k,k≠pl->k≠a->((w2.setCell ⟨pl,3,none⟩ (.int .i64 ((room:Int)-z))).setCell ⟨a,3,none⟩ (.pointer (some ⟨s,0,none⟩))).heap[k]?=w2.heap[k]?:=fun k h1 h2=>(zsq _ _ _ _ (show k≠a from h2)).trans (zsq _ _ _ _ (show k≠pl from h1))
 have hsX:((w2.setCell ⟨pl,3,none⟩ (.int .i64 ((room:Int)-z))).setCell ⟨a,3,none⟩ (.pointer (some ⟨s,0,none⟩))).heap.size=w2.heap.size:=by simp
 have eos:((w2.setCell ⟨pl,3,none⟩ (.int .i64 ((room:Int)-z))).setCell ⟨a,3,none⟩ (.pointer (some ⟨s,0,none⟩))).os=w.os:=hbl.os;have etp:((w2.setCell ⟨pl,3,none⟩ (.int .i64 ((room:Int)-z))).setCell ⟨a,3,none⟩ (.pointer (some ⟨s,0,none⟩))).tape=w.tape:=hbl.tape;have eop:((w2.setCell ⟨pl,3,none⟩ (.int .i64 ((room:Int)-z))).setCell ⟨a,3,none⟩ (.pointer (some ⟨s,0,none⟩))).output=w.output:=hbl.output;rw[show ((room:Int)-z)=((room-z:Nat):Int) from by omega] at *;generalize ((w2.setCell ⟨pl,3,none⟩ (.int .i64 ((room-z:Nat):Int))).setCell ⟨a,3,none⟩ (.pointer (some ⟨s,0,none⟩)))=W at *;have hB:=hst.c.c1.le;have hst':StrQ W s p (fun k=>w.heap.size<=k/\k<W.heap.size) v ra rb O1 O2:=by
  refine⟨hst.keep (fun k hk=>ot k ?_ ?_) km (ot 0 (fun e=>h.p0 e.symm) (fun e=>by have:=h.q0;rw[e,ha] at this;cases this)) (by omega),hrw,hem,hn,hnw,fun k h1 h2=>⟨by omega,by omega⟩,fun k h1=>?_,fun k h1=>?_⟩
  ·rcases hk with h1|h1|h1
   ·omega
   ·have:=hst.o1 k h1;have:=hst.c.s0;have:=hst.c.s1;omega
   ·have:=hst.o2 k h1;have:=hst.c.s0;have:=hst.c.s1;omega
  ·rcases hk with h1|h1|h1
   ·omega
   ·have:=hst.o1 k h1;have:=hst.c.s0;have:=hst.c.s1;omega
   ·have:=hst.o2 k h1;have:=hst.c.s0;have:=hst.c.s1;omega
  ·have:=hst.o1 k h1;have:=hst.c.s0;have:=hst.c.s1;exact⟨by omega,by omega⟩
  ·have:=hst.o2 k h1;have:=hst.c.s0;have:=hst.c.s1;exact⟨by omega,by omega⟩
 have tcF:zan (fun k=>k=pl\/k=a\/False) w W:=⟨eos,etp,eop,by omega,fun k hk hn=>(ot k (fun e=>hn (.inl e)) (fun e=>hn (.inr (.inl e)))).trans (hbl.block k hk)⟩;have kmw:=(zaJ.of hbl).trans km;refine⟨s,_,fun k=>w.heap.size<=k/\k<W.heap.size,v,ra,rb,O1,O2,rfl,⟨h.turn ha (X:=fun _=>False) (X':=fun k=>w.heap.size<=k/\k<W.heap.size) (fun k hk=>hk.elim) tcF kmw ⟨_,_,_,_,_,hp,p4,by omega⟩ ⟨_,_,_,_,h2,a4,.inr ⟨s,v,ra,rb,O1,O2,rfl,hst',by omega,by omega⟩⟩ (fun k hk=>⟨by omega,hk.2,.inr (.inl hk.1)⟩),ha,hst',fun k hk=>⟨by omega,hk.2⟩,.inl ⟨fun k=>⟨fun hk=>.inl ⟨rfl,hk⟩,fun hk=>hk.elim (fun x=>x.2) (fun x=>absurd rfl x.1)⟩,(za1 a4).2.2.2⟩⟩,by omega,by omega,⟨tcF.mono fun k _ hk=>hk.elim .inl fun hk=>hk.elim (fun e=>.inr (.inl e)) False.elim,kmw,fun k b hb=>⟨fun x=>x.elim (fun y=>absurd y.1 hb) (fun y=>y.2),fun x=>.inr ⟨hb,x⟩⟩,fun k hk=>hk.elim (fun y=>.inr y.2.1) (fun y=>absurd rfl y.1),fun k hk=>.inr hk.1⟩⟩
theorem zf7{a:Nat}{p:Pt}{w w2:World}(h:PnI w0 pl Q Ow w)(ha:Q a=some p){s:Nat}{v:StV}{ra rb:RdV}{O1 O2:Nat->Prop}(hst:Strd O1 O2 w2 s v ra rb)(hrw:zcZ (unD p 0) v.n v.nw v.f v.F v.G v.A v.L)(hem:v.e=true↔(unD p 0).e)(hb0:w.heap.size<=v.b0)(hn:v.n<=2000)(hnw:v.nw=((wPt p).toNat+63)/64)(hm1:ra.m=1)(hm2:rb.m=1)(hbl:Below w.heap.size w w2):
  StrA w0 pl Q a p Ow w (.returned (.pointer (some ⟨s,0,none⟩))) w2:=by
 have hsz:=h.size;have hbs:=hbl.size;have hB:=hst.c.c1.le;have hs0:=hst.c.s0;have hs1:=hst.c.s1;refine⟨s,Ow,fun k=>w.heap.size<=k/\k<w2.heap.size,v,ra,rb,O1,O2,rfl,⟨h.below hbl,ha,⟨hst,hrw,hem,hn,hnw,fun k h1 h2=>⟨by omega,by omega⟩,fun k h1=>?_,fun k h1=>?_⟩,fun k hk=>⟨by omega,hk.2⟩,.inr fun k b hk ho=>by have:=h.ow k b ho;omega⟩,by omega,by omega,⟨.of_below hbl,zaJ.of hbl,fun _ _ _=>Iff.rfl,fun _ hk=>.inl hk,fun k hk=>.inr hk.1⟩⟩
 ·have:=hst.o1 k h1;exact⟨by omega,by omega⟩
 ·have:=hst.o2 k h1;exact⟨by omega,by omega⟩
theorem zgU{a:Nat}{p:Pt}{w w2:World}(h:PnI w0 pl Q Ow w)(ha:Q a=some p){s:Nat}{v:StV}{ra rb ra' rb':RdV}{O1 O2 O1' O2':Nat->Prop}(hq:StrQ w s p (fun k=>Ow k a) v ra rb O1 O2){f v0:Value}(h2:w.heap[a]?=some (.cells #[.pointer (some ⟨pl,0,none⟩),v0,f,.pointer (some ⟨s,0,none⟩)] 114 (0,0)))(hst:Strd O1' O2' w2 s v ra' rb')(hO1:∀k,O1' k->O1 k\/w.heap.size<=k)(hO2:∀k,O2' k->O2 k\/w.heap.size<=k)(tc:zan (· = s) w w2)(hm1:ra'.m<=8192)(hm2:rb'.m<=8192):
  StrA w0 pl Q a p Ow w (.returned (.pointer (some ⟨s,0,none⟩))) w2:=by
 have hso:StrO w0 pl Q a p Ow w s (fun k=>Ow k a) v ra rb O1 O2:=⟨h,ha,hq,fun k hk=>h.ow k a hk,.inl ⟨fun _=>Iff.rfl,(za1 h2).2.2.2⟩⟩;have km:zaJ w w2:=fun mg f e=>(tc.same mg (zrc.1 e).1 (fun e2=>by
  have e2:mg=s:=e2;rw[e2,hq.st.box] at e;exact absurd (zad e) (by decide))).trans e
 have hsz:=tc.size;have hlt:∀k,Ow k a->k<w.heap.size:=fun k hk=>(h.ow k a hk).2
 have hsq:StrQ w2 s p (fun k=>Ow k a\/(w.heap.size<=k/\k<w2.heap.size)) v ra' rb' O1' O2':=by
  refine⟨hst,hq.rw,hq.em,hq.nl,hq.nwe,fun k h1 h2=>.inl (hq.lo k h1 h2),fun k h1=>?_,fun k h1=>?_⟩
  ·rcases hO1 k h1 with h3|h3
   ·exact .inl (hq.x1 k h3)
   ·exact .inr ⟨h3,(hst.o1 k h1).2⟩
  ·rcases hO2 k h1 with h3|h3
   ·exact .inl (hq.x2 k h3)
   ·exact .inr ⟨h3,(hst.o2 k h1).2⟩
 obtain⟨Ow',hs,-,hc⟩:=hso.step (w':=w2) (X':=fun k=>Ow k a\/(w.heap.size<=k/\k<w2.heap.size)) (tc.mono fun k _ hk=>by have hk:k=s:=hk;rw[hk];exact hq.sX) km hsq (by omega) (by omega) (fun k hk=>hk.elim .inl fun hk=>.inr hk.1) (fun k hk=>hk.elim (fun hk=>by have:=hlt k hk;omega) fun hk=>hk.2);exact⟨s,Ow',_,v,ra',rb',O1',O2',rfl,hs,hm1,hm2,hc _ _ (Chg.refl pl a Ow w)⟩
theorem zdj(a:Nat)(p:Pt)(w:World)(h:PnI w0 pl Q Ow w)(ha:Q a=some p):
  Calls Tryz.prog 63 #[.pointer (some ⟨a,0,none⟩)] w fun e w'=>StrA w0 pl Q a p Ow w e w':=by
 obtain⟨v0,f,k0,h1,h2,h3,h4,h5⟩:=h.pc a p ha;obtain⟨c0,c1,c2,c3⟩:=za1 h2;have hal:=h.alt ha;have hsz:=h.size;have Hi:Hid _:=h;rcases h5 with rfl|⟨s,v,ra,rb,O1,O2,rfl,hq,hma,hmb⟩
 ·obtain⟨x0,x1,x2,r0,room,-,hp,hr⟩:=h.plan;have hpl:=h.pl0;have hbrW:zaY w:=h.bru.keep h.zero;have hns:=zil p v0 w (zai.keep h.marks p v0 h3) h4 hbrW (by omega);have H2:Hid _:=h2;have Hp:Hid _:=hp;clear h h1 h2 h3 h4 hp hbrW
  go_enter Tryz.func63,Tryz.ntmps63
  go_wp2_with fail
  refine hns.mono ?_;rintro e w1 ⟨s,v,ra,rb,O1,O2,rfl,hst,hm1,hm2,hrw,hem,hb0,hn,hnw,hbl⟩;have hsz1:=zqr O1 O2 s v ra rb w1 hst (by omega);obtain⟨z,hz⟩:∃z:Nat,(v.n:Int)*v.nw=z:=⟨v.n*v.nw,by simp⟩;rw[hz] at hsz1;have hbs:=hbl.size;have hst1:=hst.c.c1.le;have Hst:Hid _:=hst;have Hrw:Hid _:=hrw;have Hem:Hid _:=hem;have Hbl:Hid _:=hbl;have Hnwe:Hid _:=hnw;clear hst hrw hem hbl hns hz hnw c1 c2 c3 c0
  go_wp2_with fail
  refine hsz1.mono ?_;rintro e w2 ⟨rfl,hb2⟩;have hbl2:Below w.heap.size w w2:=Hbl.out.trans (hb2.mono hbs);have c0:=(za1 ((hbl2.block a (by omega)).trans H2.out)).1;have p3:=(za1 ((hbl2.block pl (by omega)).trans Hp.out)).2.2.2;have pf:=zso _ _ 3 _ _ ((hbl2.block pl (by omega)).trans Hp.out);have hst2:Strd O1 O2 w2 s v ra rb:=Hst.out.keep (fun k hk=>hb2.block k (by
   rcases hk with h1|h1|h1
   ·omega
   ·exact(Hst.out.o1 k h1).2
   ·exact(Hst.out.o2 k h1).2)) (zaJ.of hb2) (hb2.block 0 (by omega)) hb2.size
  have Hst2:Hid _:=hst2;have Hbl2:Hid _:=hbl2;have Hb0:Hid _:=hb0;have Hn:Hid _:=hn;have Hm1:Hid _:=hm1;have Hm2:Hid _:=hm2;clear hst2 hsz1 hb0 hn hm1 hm2
  by_cases hle:z<=room
  ·have hd:decide ((z:Int)<=(room:Int))=true:=by simp;omega
   have HF:Hid _:=zf8 Hi.out ha Hst2.out Hrw.out Hem.out Hb0.out Hn.out Hnwe.out Hm1.out Hm2.out hbl2 H2.out Hp.out hr hle;have a2:=(hbl2.block a (by omega)).trans H2.out;have p2:=(hbl2.block pl (by omega)).trans Hp.out;have hne:=Hi.out.ne ha;have a3:(w2.setCell ⟨pl,3,none⟩ (.int .i64 ((room:Int)-z))).heap[a]?=_:=(zsq _ _ _ _ (show a≠pl from hne)).trans a2;have d3:=(za1 a3).2.2.2;have df:=zso _ _ 3 _ _ a3;clear a2 a3 hbl2 hb2 p2;go_wp2;go_ret;exact HF.out
  ·have hd:decide ((z:Int)<=(room:Int))=false:=by simp;omega
   have hd2:¬z<=room:=hle;have HF:Hid _:=zf7 Hi.out ha Hst2.out Hrw.out Hem.out Hb0.out Hn.out Hnwe.out Hm1.out Hm2.out hbl2;clear hbl2 hb2;go_wp2;go_ret;exact HF.out
 ·have hkn:=zoK O1 O2 s v ra rb w hq.st (by omega) (by omega);have H2:Hid _:=h2;have Hq:Hid _:=hq;clear h h1 h2 h3 h4 c0 c1 c2
  go_enter Tryz.func63,Tryz.ntmps63
  go_wp2_with fail
  refine hkn.mono ?_;rintro e w1 ⟨rfl,hb1⟩;have hsx:=(Hi.out.ow s a Hq.out.sX).2;have hst1:Strd O1 O2 w1 s v ra rb:=Hq.out.st.keep (fun k hk=>hb1.block k (by
   rcases hk with h1|h1|h1
   ·exact(Hi.out.ow k a (Hq.out.lo k h1.1 h1.2)).2
   ·exact(Hi.out.ow k a (Hq.out.x1 k h1)).2
   ·exact(Hi.out.ow k a (Hq.out.x2 k h1)).2)) (zaJ.of hb1) (hb1.block 0 (by omega)) hb1.size
  have e3:=(za1 ((hb1.block a (by omega)).trans H2.out)).2.2.2
  by_cases hgt:8192<ra.m+rb.m
  ·have hd:decide ((8192:Int)<(ra.m:Int)+rb.m)=true:=by simp;omega
   have hfg:=zh2 s v _ _ w1 hst1.box hst1.c;have Hb1:Hid _:=hb1;clear hst1 hb1 hkn c3
   go_wp2_with fail
   refine hfg.mono ?_;rintro e w2 ⟨rfl,a',b',O1',O2',hst2,hm1,hm2,hnew,tc2⟩;have hne:a≠s:=by have:=(Hi.out.ow s a Hq.out.sX).1;omega
   have e4:w2.cell? ⟨a,3,none⟩=some (.pointer (some ⟨s,0,none⟩)):=(World.cell?_of_block (tc2.same a (by have:=Hb1.out.size;omega) hne)).trans e3;have HF:Hid _:=zgU Hi.out ha Hq.out H2.out hst2 (fun k hk=>.inr (by have:=hnew k (.inl hk);have:=Hb1.out.size;omega)) (fun k hk=>.inr (by have:=hnew k (.inr hk);have:=Hb1.out.size;omega)) ((zan.of_below Hb1.out).trans tc2) (by omega) (by omega);clear hst2 hnew tc2 e3 hfg;go_wp2;go_ret;exact HF.out
  ·have hd:decide ((8192:Int)<(ra.m:Int)+rb.m)=false:=by simp;omega
   have HF:Hid _:=zgU Hi.out ha Hq.out H2.out hst1 (fun k hk=>.inl hk) (fun k hk=>.inl hk) (.of_below hb1) (by omega) (by omega);clear hst1 hb1 hkn c3;go_wp2;go_ret;exact HF.out
end
end
section
theorem hidF{p:Prop}(h:p):Hid p:=h
theorem zls{w:World}{B:Nat}{pv:Value}{ps:List Nat}(h:w.ownsRow B 3 1 pv ps.length (zcC ps))(hp:0<ps.length):∃g c:Nat,pv=.slice (some ⟨g,0,none⟩) ps.length c/\g<w.heap.size/\∀j,j<ps.length->w.cell? ⟨g,j,none⟩=some (.int .i64 ((ps.getD j 0:Nat):Int)):=by
 obtain⟨g,cap,cur,h1,h2,h3⟩:=zbc h hp;exact⟨g,cap,h1,(zrc.1 h2).1,fun j hj=>by rw[zsm _ _ _ _ _ _ h2,h3 j hj];simp[zcC,hj,List.getD_eq_getElem?_getD]⟩
theorem zq8{O:Nat->Prop}{w:World}{n nw bt ga gl:Nat}{lv:Value}{f:Nat->Nat->Bool}{Lk:Nat->Nat->Nat}{A L:Nat->Nat}{b:RdV}(hr:RdAt O w n nw bt ga gl lv f Lk A L b)(t ne gs high off B:Nat)(pv:Value)(ps:List Nat)(hbox:w.heap[t]?=some (.cells #[.pointer (some ⟨b.r,0,none⟩),.slice (some ⟨gs,0,none⟩) ne ne,.int .i64 high,pv] 131 (0,0)))(hpa:w.ownsRow B 3 1 pv ps.length (zcC ps))(hix:∀j,j<ps.length->ps.getD j 0<b.m)(hoff:off<high)(hh:high<=4096):
  Calls Tryz.prog 154 #[.pointer (some ⟨t,0,none⟩),.int .i64 off] w fun e w'=>((ps.length<=high-1-off/\e=.returned (.slice none 0 0))\/(high-1-off<ps.length/\e=.returned (.slice (some ⟨b.gx (ps.getD (high-1-off) 0),0,none⟩) nw nw)))/\Below w.heap.size w w':=by
 obtain⟨c0,-,c2,c3⟩:=za1 hbox;obtain⟨pa,pc,rfl⟩:=zbp hpa;obtain⟨bk,Hbk⟩:∃bk,Hid (high-1-off=bk):=⟨_,rfl⟩;have hbi:(high:Int)-1-off=(bk:Int):=by have:=Hbk.out;omega
 rw[Hbk.out];obtain⟨pn,Hpn⟩:∃pn,Hid (ps.length=pn):=⟨_,rfl⟩;rw[Hpn.out] at c3 ⊢;have hr5:=(zaM hr.s.box).2.2.2.2.2.1;obtain⟨gS,cS,eS,-,hcS⟩:=hr.rowS;rw[eS] at hr5
 by_cases hlt:bk<pn
 ·obtain⟨g,c,hg,-,hc⟩:=zls hpa (by have:=Hpn.out;omega);have d0:=hc bk (by have:=Hpn.out;omega);have hx:=hix bk (by have:=Hpn.out;omega);have d1:=hcS _ hx;generalize ps.getD bk 0=x at *;injection hg with h1 _ h3
  subst h1;subst h3;have hi0:(0:Int)<=(x:Int):=by omega
  have hi1:(x:Int)<(b.m:Int):=by omega
  have hb0:(0:Int)<=(bk:Int):=by omega
  have hb1:(bk:Int)<(pn:Int):=by omega
  have hd:decide ((pn:Int)<=(bk:Int))=false:=by simp;omega
  clear hc hcS hix hpa hbox eS hr
  go_enter Tryz.func154,Tryz.ntmps154
  go_wp2
  go_region
  all_goals
   go_wp2;go_ret;exact⟨.inr ⟨hlt,rfl⟩,(Below.refl _ _).drew⟩
 ·have hd:decide ((pn:Int)<=(bk:Int))=true:=by simp;omega
  clear hcS hix hpa hbox eS hr
  go_enter Tryz.func154,Tryz.ntmps154
  go_wp2;go_ret;exact⟨.inl ⟨by omega,rfl⟩,Below.refl _ _⟩
theorem zjy(nw g cap:Nat)(w:World):
  Calls Tryz.prog 130 #[.slice (some ⟨g,0,none⟩) nw cap,.slice none 0 0] w fun e w'=>e=.returned (.bool false)/\Below w.heap.size w w':=by
 go_enter Tryz.func130,Tryz.ntmps130
 go_wp2
 go_loopw [9] (fun i wr=>i=.int .i64 0/\wr=w) (fun i _=>0)
 case atStart=>exact⟨rfl,rfl⟩
 case round=>
  obtain⟨rfl,rfl⟩:=hrel;go_wp2;go_ret;exact⟨rfl,Below.refl _ _⟩
def LgM(u:Word)(M:PA)(fr e:Nat):Prop:=(e=fr/\M.e)\/(fr<e/\∃q,Fwd u M fr e q/\M.last q)
theorem zkq{u:Word}{M:PA}{i j:Nat}(hij:i<j)(h:∀p,¬Fwd u M i j p):∀k p,¬Fwd u M i (j+k) p
 |0,p=>h p
 |k+1,p=>fun hf=>by
  obtain⟨c,hc,-⟩:=hf.byte (show i<=j+k by omega);obtain⟨q,h1,-⟩:=(zd2 (show i<j+k by omega) hc).1 hf;exact zkq hij h k q h1
def Best(u:Word)(M:PA)(E:Nat->Prop)(fr k e:Nat)(ok:Bool):Prop:=(ok=true/\E e/\LgM u M fr e/\e<=k/\∀x,x<=k->E x->LgM u M fr x->x<=e)\/(ok=false/\e=fr/\∀x,x<=k->E x->¬LgM u M fr x)
structure FwS(w:World)(O1 O2:Nat->Prop)(s:Nat)(v:StV)(a b:RdV)(u:Word)(M:PA)(E:Nat->Prop)(fr:Nat)(W:World)(k now:Nat)(a':RdV)(O:Nat->Prop):Prop where
 tc:zan O1 w W
 km:zaJ w W
 st:Strd O O2 W s v a' b
 rn:RdN a a'
 mb:a'.m+fr<=a.m+k
 o1:∀k,O1 k->O k
 o1':∀k,O k->O1 k\/w.heap.size<=k
 le:fr<=k
 nw:now<a'.m
 fw:zdG v.nw (a'.Ts now) (Fwd u M fr k)
section
variable {w:World} {O1 O2:Nat->Prop} {s:Nat} {v:StV} {a b:RdV} {u:Word} {M:PA} {E:Nat->Prop} {fr:Nat} {W:World} {k now:Nat} {a':RdV} {O:Nat->Prop}
theorem FwS.below(h:FwS w O1 O2 s v a b u M E fr W k now a' O){W':World}(hb:Below W.heap.size W W'):FwS w O1 O2 s v a b u M E fr W' k now a' O:=
 ⟨h.tc.trans (.of_below hb),h.km.trans (zaJ.of hb),h.st.other (S:=fun _=>False) (.of_below hb) (fun _ e=>e.elim) (fun _ e=>e.elim) (fun _ e=>e.elim),h.rn,h.mb,h.o1,h.o1',h.le,h.nw,h.fw⟩
theorem FwS.read(hR:zcZ M v.n v.nw v.f v.F v.G v.A v.L)(h:FwS w O1 O2 s v a b u M E fr W k now a' O){c:UInt8}(hc:u[k]?=some c){bg:Bool}(hbg:bg=true↔k=fr){x:Nat}{a2:RdV}{W':World}(hx:x<a2.m)(hm:a2.m<=a'.m+1)(hn:RdN a' a2)(hs:zfg v.nw v.f v.F v.A (a'.Ts now) c.toNat bg (a2.Ts x))(st:Strd (news O W W') O2 W' s v a2 b)(tc:zan O W W')(km:zaJ W W'):FwS w O1 O2 s v a b u M E fr W' (k+1) x a2 (news O W W'):=by
 have hsz:=h.tc.size;refine⟨⟨tc.os.trans h.tc.os,tc.tape.trans h.tc.tape,tc.output.trans h.tc.output,zsb h.tc.size tc.size,fun k hk hn=>(tc.same k (by omega) (fun e=>(h.o1' k e).elim hn fun e=>by omega)).trans (h.tc.same k hk hn)⟩,h.km.trans km,st,h.rn.trans hn,by have:=h.mb;omega,fun k hk=>.inl (h.o1 k hk),fun k hk=>hk.elim (h.o1' k) fun e=>.inr (by omega),by have:=h.le;omega,hx,?_⟩;exact zos hR h.le hc hbg (fun q h1 h2=>h.st.ra.sets now q h.nw h1 h2) (fun q h1 h2=>st.ra.sets x q hx h1 h2) h.fw hs
theorem FwS.ends(hR:zcZ M v.n v.nw v.f v.F v.G v.A v.L)(h:FwS w O1 O2 s v a b u M E fr W (k+1) now a' O)(hlt:fr<k+1):LgM u M fr (k+1)↔zb8 v.nw (a'.Ts now) v.L=true:=by
 rw[<-zon hR (fun x=>(h.st.ra.s.set now h.nw).lt x) h.fw];constructor
 ·rintro (⟨e,_⟩|⟨_,h1⟩)
  ·omega
  ·exact h1
 ·intro h1;exact .inr ⟨hlt,h1⟩
theorem FwS.dead(hR:zcZ M v.n v.nw v.f v.F v.G v.A v.L)(h:FwS w O1 O2 s v a b u M E fr W (k+1) 0 a' O)(hlt:fr<k+1):∀x,k<x->¬LgM u M fr x:=fun x hx hL=>by
 have h0:∀p,¬Fwd u M fr (k+1) p:=fun p hf=>by
  have hp:=(hR.D p).1 (hf.2.2.inside hR.fi hR.fo);have hn:=hR.n64;have h1:=(h.fw p (by omega)).2 hf;have h2:=h.st.ra.zero (p/64) (by omega);unfold zae at h1;rw[h2] at h1;simp at h1
 rcases hL with ⟨e,_⟩|⟨_,q,hq,_⟩
 ·omega
 ·exact zkq hlt h0 (x-(k+1)) q (by rw[show k+1+(x-(k+1))=x from by omega];exact hq)
end
theorem Best.last{u:Word}{M:PA}{E:Nat->Prop}{fr k e:Nat}{ok:Bool}(h:Best u M E fr k e ok)(hd:∀x,k<x->E x->¬LgM u M fr x)(n:Nat)(hkn:k<=n):Best u M E fr n e ok:=by
 rcases h with ⟨h1,h2,h3,h4,h5⟩|⟨h1,h2,h3⟩
 ·refine .inl ⟨h1,h2,h3,by omega,fun x _ hE hL=>?_⟩;rcases zsd k x with h|h
  ·exact absurd hL (hd x h hE)
  ·exact h5 x h hE hL
 ·refine .inr ⟨h1,h2,fun x _ hE hL=>?_⟩;rcases zsd k x with h|h
  ·exact hd x h hE hL
  ·exact h3 x h hE hL
theorem Best.hit{u:Word}{M:PA}{E:Nat->Prop}{fr k:Nat}(h1:E (k+1))(h2:LgM u M fr (k+1)):Best u M E fr (k+1) (k+1) true:=.inl ⟨rfl,h1,h2,zsa _,fun _ h _ _=>h⟩
theorem Best.miss{u:Word}{M:PA}{E:Nat->Prop}{fr k e:Nat}{ok:Bool}(h:Best u M E fr k e ok)(hd:E (k+1)->¬LgM u M fr (k+1)):Best u M E fr (k+1) e ok:=by
 rcases h with ⟨h1,h2,h3,h4,h5⟩|⟨h1,h2,h3⟩
 ·refine .inl ⟨h1,h2,h3,by omega,fun x hx hE hL=>?_⟩
  by_cases e:x=k+1
  ·subst e;exact absurd hL (hd hE)
  ·exact h5 x (by omega) hE hL
 ·refine .inr ⟨h1,h2,fun x hx hE hL=>?_⟩
  by_cases e:x=k+1
  ·subst e;exact hd hE hL
  ·exact h3 x (by omega) hE hL
end
def mkS(t:TypeId)(x y:Value):Sem Value:=Instr.makeSlice t x y
theorem zhk(x y:Value):Instr.makeSlice 129 x y=mkS 129 x y:=rfl
attribute [local go_sem ↓] zhk
theorem zi3(r g ne:Nat)(hi:Int):Tryz.prog.built 131 [(0,.pointer (some ⟨r,0,none⟩)),(1,.slice (some ⟨g,0,none⟩) ne ne),(2,.int .i64 hi)]=some #[.pointer (some ⟨r,0,none⟩),.slice (some ⟨g,0,none⟩) ne ne,.int .i64 hi,.slice none 0 0]:=by kernel_rfl
theorem Tryz.infoIntB:(Tryz.prog.info? 3).map (fun i=>(i.zero,i.size,i.bytes))=some (some (.int .i64 0),1,8):=by kernel_rfl
theorem zi4(t:ByteArray){p:Nat}(h:p<t.size):t.data.toList[p]?=some (t[p]'h):=by
 rw[zrD (by simpa using h)];simp;rfl
def BkwP(O1 O2:Nat->Prop)(w:World)(s:Nat)(v:StV)(a b:RdV)(ne:Nat)(u:Word)(M:PA)(E:Nat->Prop)(e:Ending)(w':World):Prop:=
 ∃(high t gs:Nat) (b':RdV) (O:Nat->Prop) (S:Nat->Nat) (pv:Value) (ps:List Nat),e=.returned (.pointer (some ⟨t,0,none⟩))/\E high/\zl8 w O1 O2 s v a b ne u M E high t gs w' b' O S pv ps
theorem zi0{O1 O2:Nat->Prop}{w:World}{s:Nat}{v:StV}{a b:RdV}(h:Strd O1 O2 w s v a b)(M:PA)(hR:zcZ M v.n v.nw v.f v.F v.G v.A v.L)(hem:v.e=true↔M.e)(t:ByteArray)(ht:t.size<=4096)(ne ge cap:Nat)(ET:Nat->Nat)(hE:zal w ne ge ET)(hne:ne<=100)(hO:¬O2 ge)(hx:∃q,q<64*ne/\zae ET q=true)(hq:∀q,q<64*ne->zae ET q=true->q<=t.size)(hbm:b.m<=90000000):
  Calls Tryz.prog 64 #[.pointer (some ⟨s,0,none⟩),.string t,.slice (some ⟨ge,0,none⟩) ne cap] w fun e w'=>BkwP O1 O2 w s v a b ne t.data.toList M (fun q=>q<64*ne/\zae ET q=true) e w':=by
 obtain⟨i0,hi,hz0,hz1,hz2⟩:=info_parts Tryz.infoU64;have hB:=h.c.c1.le;have hO1:∀k,O1 k->k<w.heap.size:=fun k hk=>(h.o1 k hk).2
 have hl:=zh8 ne ge cap ET w hE (by omega) h.c.c1.bru;have hg:=zdK ne ge cap ET w hE (by omega);have Hh:Hid _:=h
 go_enter Tryz.func64,Tryz.ntmps64
 go_wp2_with fail
 refine hl.mono ?_;rintro e w1 ⟨lv,rfl,hlp,hw1⟩;subst w1;obtain⟨low,rfl,-,-,hlow⟩:∃low:Nat,lv=low/\low<64*ne/\zae ET low=true/\∀q,q<low->zae ET q=false:=by
  rcases hlp with ⟨-,h1⟩|⟨p,h1⟩
  ·obtain⟨q,h2,h3⟩:=hx;rw[h1 q h2] at h3;cases h3
  ·exact⟨p,h1⟩
 clear hl hlp
 go_wp2_with fail
 refine hg.mono ?_;rintro e w1 ⟨hv,rfl,hgp,hb1⟩;obtain⟨high,rfl,hhi,hhb,hhigh⟩:∃high:Nat,hv=high/\high<64*ne/\zae ET high=true/\∀q,high<q->q<64*ne->zae ET q=false:=by
  rcases hgp with ⟨-,h1⟩|⟨p,h1⟩
  ·obtain⟨q,h2,h3⟩:=hx;rw[h1 q h2] at h3;cases h3
  ·exact⟨p,h1⟩
 have hht:=hq high hhi hhb;have Hlow:Hid _:=hlow;have Hhigh:Hid _:=hhigh;have Hhb:Hid _:=hhb;clear hg hgp hlow hhigh hhb hx;have hs1:=hb1.size;have st1:Strd O1 O2 w1 s v a b:=h.other (S:=fun _=>False) (.of_below hb1) (fun k e=>e.elim) (fun k e=>e.elim) (fun k e=>e.elim);obtain⟨w2,hmk,hown2,hg2⟩:=run_make_full (P:=Tryz.prog) w1.drew w1.heap.size 129 185 i0 _ 1 Tryz.underlying129 hi hz0 hz1 .i64 .i64 ne (by rw[hz2];omega) (by unfold maxLen;omega) (zsa _);have hmk':(mkS 129 (.int .i64 (ne:Int)) (.int .i64 (ne:Int))).run Tryz.prog w1.drew=.ok (.slice (some ⟨w1.heap.size,0,none⟩) ne ne) w2:=hmk;have hgs:w2.heap[w1.heap.size]?=some (.cells (zca ne zaQ) 185 (0,0)):=by
  have:=zfR hown2;rw[zdN] at this;exact this
 have hb2:Below w1.heap.size w1 w2:=⟨hg2.os,hg2.tape,hg2.output,hg2.size,fun k hk=>hg2.block k hk (by simp)⟩;have hs2:w1.heap.size<w2.heap.size:=(zrc.1 hgs).1;have c6:=(zaG st1.box).2.2.2.2.2.2;have hsl:s<w1.heap.size:=(zrc.1 st1.box).1;have d6:=(zaG ((hb2.block s hsl).trans st1.box)).2.2.2.2.2.2;have hbt:=zi3 b.r w1.heap.size ne (high:Int);obtain⟨W3,hW3⟩:∃W3,w2.alloc (.cells #[.pointer (some ⟨b.r,0,none⟩),.slice (some ⟨w1.heap.size,0,none⟩) ne ne,.int .i64 high,.slice none 0 0] 131)=W3:=⟨_,rfl⟩;have hb3:Below w2.heap.size w2 W3:=by rw[<-hW3];exact(Below.refl _ _).alloc (zsa _) _
 have x3:W3.heap[w2.heap.size]?=some (.cells #[.pointer (some ⟨b.r,0,none⟩),.slice (some ⟨w1.heap.size,0,none⟩) ne ne,.int .i64 high,.slice none 0 0] 131 (0,0)):=by rw[<-hW3];exact zsp _ _
 have hb13:Below w1.heap.size w1 W3:=hb2.trans (hb3.mono (by omega));have hb03:Below w.heap.size w W3:=hb1.trans (hb13.mono hs1);have HS:Hid (BkS w O1 O2 s v a b ne t.data.toList M (fun q=>q<64*ne/\zae ET q=true) high w2.heap.size w1.heap.size W3 (high+1) high high 0 b O2 zaQ (.slice none 0 0) []):=by
  refine⟨.of_below hb03,zaJ.of hb03,h.other (S:=fun _=>False) (.of_below hb03) (fun k e=>e.elim) (fun k e=>e.elim) (fun k e=>e.elim),RdN.refl b,zsa _,fun k hk=>hk,fun k hk=>.inl hk,fun ho=>by have:=(h.o2 _ ho).2;omega,fun ho=>by have:=(h.o2 _ ho).2;omega,fun k e=>by simp[Value.ownBlock] at e,x3,⟨(hb3.block _ hs2).trans hgs,fun _=>by simp[zaQ]⟩,⟨rfl,.inl ⟨rfl,rfl⟩⟩,by omega,by omega,zsa _,by simp,h.rb.pos,fun q hq'=>?_,fun j hj=>by simp at hj,fun q=>?_⟩
  ·constructor
   ·intro h1;have h2:=h.rb.zero (q/64) (by omega);unfold zae at h1;rw[h2] at h1;simp at h1
   ·intro hb;have:=zhN (hi:=high) (fun m hm=>by
     rcases zsd high m with e|e
     ·have:=Hhigh.out m e hm.1;rw[hm.2] at this;cases this
     ·exact e) hb
    omega
  ·rw[zbL];constructor
   ·intro e;cases e
   ·rintro ⟨h1,h2|⟨p,_,h2⟩⟩
    ·have:=Hhigh.out q (by omega) h2.1.1;rw[h2.1.2] at this;cases this
    ·have:=zhN (hi:=high) (fun m hm=>by
      rcases zsd high m with e|e
      ·have:=Hhigh.out m e hm.1;rw[hm.2] at this;cases this
      ·exact e) h2
     omega
 have hEl:ge<w.heap.size:=hE.glt;have Hfr:Hid (∀W:World,zan O2 w W->zal W ne ge ET):=fun W tc=>⟨(tc.same ge hEl hO).trans hE.row,hE.lt⟩
 have HR:Hid _:=hR;have Hem:Hid _:=hem;clear h st1 hown2 hg2 hmk hgs hb2 hb3 x3 hb13 hb03 hE hi hz0 hz1 hz2 hR hem;go_wp2
 go_region
 all_goals
  clear hW3 hmk' c6 d6 hbt;go_wp2
  go_loopw [10,11] (fun nv av wr=>∃(k now:Nat) (b':RdV) (O:Nat->Prop) (S:Nat->Nat) (pv:Value) (ps:List Nat),nv=.int .i64 now/\av=.int .i64 k/\Hid (BkS w O1 O2 s v a b ne t.data.toList M (fun q=>q<64*ne/\zae ET q=true) high w2.heap.size w1.heap.size wr (k+1) k k now b' O S pv ps))
   (fun _ av _=>(intOf av).toNat)
  case atStart=>exact⟨high,0,b,O2,zaQ,_,[],rfl,rfl,HS⟩
  case round=>
   clear HS;obtain⟨k,now,b',O,S,pv,ps,rfl,rfl,HS⟩:=hrel;have hkh:=HS.out.le;have hE2:=Hfr.out wr HS.out.tc;have hhas:=zhe ne ge cap ET k wr hE2 (by omega) (by omega);obtain⟨-,c1,-,-,-,-,c6⟩:=zaG HS.out.st.box;have d6:=(zaM HS.out.st.rb.s.box).2.2.2.2.2.2.1;obtain⟨gP,cP,eP,hgP,hcP⟩:=HS.out.st.rb.rowP;have dP:=hcP now HS.out.nw;rw[eP] at d6;have hnow:=HS.out.nw;have hn0:(0:Int)<=(now:Int):=by omega
   have hn1:(now:Int)<(b'.m:Int):=by omega
   have hsta:=zpm HR.out (fun x=>(HS.out.st.rb.s.set now hnow).lt x) HS.out.bk;have Hsta:Hid _:=hsta;obtain⟨e0,He0⟩:∃e0,Hid (e0=zae ET k):=⟨_,rfl⟩;obtain⟨m0,Hm0⟩:∃m0,Hid (m0=zb8 v.nw (b'.Ts now) v.A):=⟨_,rfl⟩;rw[<-He0.out] at hhas;rw[<-Hm0.out] at dP;have Hm:Hid (Sta t.data.toList M (fun q=>q<64*ne/\zae ET q=true) k↔(e0&&v.e || m0)=true):=by
    refine Hsta.out.trans ?_;rw[zrg,zrf,<-Hm0.out,Hem.out,He0.out];exact or_congr (and_congr ⟨fun x=>x.2,fun x=>⟨by omega,x⟩⟩ Iff.rfl) Iff.rfl
   obtain⟨x0,Hx0⟩:∃x0,Hid (x0=(e0&&v.e || m0)):=⟨_,rfl⟩;clear hE2 hsta Hsta hcP
   go_wp2_with fail
   refine hhas.mono ?_;rintro e1 W ⟨rfl,hW⟩;subst W;clear hhas
   go_upto_region 7 with fail
   go_cut [52] from 33 to 52 (fun v52 wx=>v52=.bool x0/\wx=wr)
   case first=>
    obtain⟨ve,Hve⟩:∃ve,Hid (v.e=ve):=⟨_,rfl⟩;rw[Hve.out] at c1;clear HS;cases e0<;>cases ve<;>cases m0
    all_goals
     go_wp2
     go_meet
     exact⟨by rw[Hx0.out,Hve.out];rfl,rfl⟩
   case rest=>
    obtain⟨rfl,hwc⟩:=hcut;subst wc;cases x0 with
    |true=>
     have hadd:=zdH ne w1.heap.size ne S k wr HS.out.sp.row (by omega) (by omega) HS.out.sp.lt;obtain⟨-,b1,-,-⟩:=za1 HS.out.box
     go_upto_region 8 with fail
     clear c1 c6 d6 dP
     go_wp2_with fail
     refine hadd.mono ?_;rintro e2 W1 ⟨rfl,hr1,hg1⟩;have HS2:Hid _:=HS.out.add hr1 hg1 (Hm.out.2 Hx0.out.symm) hB hO1;clear HS Hm Hx0 hadd hr1 hg1 b1;obtain⟨S2,HS2⟩:∃S2,Hid (BkS w O1 O2 s v a b ne t.data.toList M (fun q=>q<64*ne/\zae ET q=true) high w2.heap.size w1.heap.size W1 k k k now b' O S2 pv ps):=⟨_,HS2⟩
     by_cases hk0:k=0
     ·subst hk0;have HF:Hid _:=HS2.out.bottom;clear HS2;go_wp2;go_ret;exact⟨high,_,_,_,_,_,_,_,rfl,⟨hhi,Hhb.out⟩,HF.out⟩
     ·obtain⟨p,Hkp⟩:∃p,Hid (k=p+1):=⟨k-1,by show _=_;omega⟩;have hd0:((k:Int)==0)=false:=by simp;omega
      by_cases hc:k<low/\now=0
      ·obtain⟨hc1,rfl⟩:=hc;have HF:Hid _:=HS2.out.early HR.out (fun m hm hE=>by have:=Hlow.out m (by omega);rw[hE.2] at this;cases this);have hd1:decide ((k:Int)<(low:Int))=true:=by simp;omega
       clear HS2;go_wp2;go_ret;exact⟨high,_,_,_,_,_,_,_,rfl,⟨hhi,Hhb.out⟩,HF.out⟩
      ·have HSd:Hid (∀n,BkS w O1 O2 s v a b ne t.data.toList M (fun q=>q<64*ne/\zae ET q=true) high w2.heap.size w1.heap.size (W1.drewN n) (p+1) (p+1) (p+1) now b' O S2 pv ps):=by rw[<-Hkp.out];exact fun n=>HS2.out.drewN n hB hO1
       have hle:=HS2.out.le;have hpt:p<t.size:=by have:=Hkp.out;omega
       have hrd:=fun n=>zkN (HSd.out n).st now (t[p]'hpt).toNat e0 (HSd.out n).nw (UInt8.toNat_lt _) (by have:=(HSd.out n).mb;omega)
       obtain⟨-,-,-,-,-,-,q6⟩:=zaG HS2.out.st.box;have hpi:(k:Int)-1=(p:Int):=by have:=Hkp.out;omega
       have hp0:(0:Int)<=(p:Int):=by omega
       have hp1:(p:Int)<(t.size:Int):=by omega
       have hcn:Hid (¬(k<low/\now=0)):=hc;clear hc HS2 hk0
       go_upto_region 9 with fail
       go_cut [69] from 59 to 69 (fun v69 wx=>v69=.bool false/\wx=W1)
       case first=>
        clear hrd q6 HSd
        by_cases h1:k<low
        ·have h2:now≠0:=fun e=>hcn.out ⟨h1,e⟩
         have hd1:decide ((k:Int)<(low:Int))=true:=by simp;omega
         have hd2:((now:Int)==0)=false:=by simp;omega
         go_wp2
         go_meet
         exact⟨rfl,rfl⟩
        ·have hd1:decide ((k:Int)<(low:Int))=false:=by simp;omega
         go_wp2
         go_meet
         exact⟨rfl,rfl⟩
       case rest=>
       obtain⟨rfl,hwc⟩:=hcut;subst wc
       go_upto_region 11 with fail
       have hmix:Tryz.prog.follows .mixedOrders=true:=by kernel_rfl
       refine zbt 10 (fun w'=>∃n,w'=W1.drewN n) hmix ⟨1,rfl⟩ (by decide) (by kernel_rfl) ?_;intro os hos;simp only[zr6,zr8] at hos;subst hos
       repeat (go_big_quiet_step (fail))
       refine wpQuiet_nil ?_;rintro w' ⟨nq,rfl⟩ r' hr';simp only[zrr,List.drop_zero] at hr';subst hr'
       go_wp2_with fail
       refine(hrd nq).mono ?_;rintro e2 W2 ⟨x,b2,rfl,hx,hm,hn,hs,st,tc,km⟩;have H3:Hid _:=(HSd.out nq).read HR.out (zi4 t hpt) (by rw[He0.out,Hkp.out];exact⟨fun z=>⟨by have:=Hkp.out;omega,z⟩,fun z=>z.2⟩) hx hm hn hs st tc km;obtain⟨pa,pc,hpf⟩:=zbp H3.out.pa;subst hpf;obtain⟨j0,j1,j2,j3⟩:=za1 H3.out.box;have hown:=H3.out.pa;have hpl:=H3.out.len;have hszw:=H3.out.tc.size;have htl:w2.heap.size<W2.heap.size:=(zrc.1 H3.out.box).1;have hp9:ps.length<=100000000:=by omega
       obtain⟨pn,hpn⟩:∃pn,ps.length=pn:=⟨_,rfl⟩;rw[hpn] at hown j3 hp9;have Hpl:Hid _:=hpn;have Hpn:Hid (∀k,(Value.slice pa pn pc).ownBlock=some k->k≠w2.heap.size):=by rw[<-hpn];exact fun k e=>(H3.out.pne e).1
       obtain⟨i1,hj,hy0,hy1,hy2⟩:=info_parts Tryz.infoIntB;have Hbx:Hid _:=H3.out.box;clear hrd HSd hx hm hn hs st tc km q6 hpl hpn
       go_wp2_with (at_builtin;refine zbJ W2 _ rfl rfl (.tmp 86) (.tmp 88) 44 rfl w.heap.size 3 i1 (.int .i64 0) 8 Tryz.underlying44 hj hy0 hy1 hy2 rfl (.slice pa pn pc) pn (zcC ps) (.int .i64 (x:Int)) rfl hown rfl rfl hp9 (by omega) hszw ?_;intro g7 cap7 W7 own7 grow7 at7;have box7:=(grow7.block w2.heap.size htl (fun e=>Hpn.out _ e.symm rfl)).trans Hbx.out;have f7:=zso _ _ 3 _ _ box7;have k7:=(za1 box7).2.2.2)
       have HP:Hid (BkS w O1 O2 s v a b ne t.data.toList M (fun q=>q<64*ne/\zae ET q=true) high w2.heap.size w1.heap.size (W7.setCell ⟨w2.heap.size,3,none⟩ (.slice (some ⟨g7,0,none⟩) (pn+1) cap7)) (p+1) p p x b2 (news O (W1.drewN nq) W2) S2 (.slice (some ⟨g7,0,none⟩) (pn+1) cap7) (ps++[x])):=by
        have hh:=H3.out;rw[<-Hpl.out] at own7 grow7 at7 ⊢;exact hh.push own7 grow7 (at7.imp id Nat.le_of_lt) hB hO1
       clear H3 own7 grow7 at7 box7 f7 k7
       go_roundw
       case rel=>exact⟨p,x,b2,_,_,_,_,rfl,by congr 1,HP⟩
       case measure=>simp[intOf];have:=Hkp.out;omega
    |false=>
     have HS2:Hid _:=HS.out.skip (fun x=>by have:=Hm.out.1 x;rw[<-Hx0.out] at this;cases this);clear HS Hm Hx0 c1 c6 d6 dP;obtain⟨W1,hW1⟩:∃W1,wr=W1:=⟨_,rfl⟩;subst wr
     by_cases hk0:k=0
     ·subst hk0;have HF:Hid _:=HS2.out.bottom;clear HS2;go_wp2;go_ret;exact⟨high,_,_,_,_,_,_,_,rfl,⟨hhi,Hhb.out⟩,HF.out⟩
     ·obtain⟨p,Hkp⟩:∃p,Hid (k=p+1):=⟨k-1,by show _=_;omega⟩;have hd0:((k:Int)==0)=false:=by simp;omega
      by_cases hc:k<low/\now=0
      ·obtain⟨hc1,rfl⟩:=hc;have HF:Hid _:=HS2.out.early HR.out (fun m hm hE=>by have:=Hlow.out m (by omega);rw[hE.2] at this;cases this);have hd1:decide ((k:Int)<(low:Int))=true:=by simp;omega
       clear HS2;go_wp2;go_ret;exact⟨high,_,_,_,_,_,_,_,rfl,⟨hhi,Hhb.out⟩,HF.out⟩
      ·have HSd:Hid (∀n,BkS w O1 O2 s v a b ne t.data.toList M (fun q=>q<64*ne/\zae ET q=true) high w2.heap.size w1.heap.size (W1.drewN n) (p+1) (p+1) (p+1) now b' O S pv ps):=by rw[<-Hkp.out];exact fun n=>HS2.out.drewN n hB hO1
       have hle:=HS2.out.le;have hpt:p<t.size:=by have:=Hkp.out;omega
       have hrd:=fun n=>zkN (HSd.out n).st now (t[p]'hpt).toNat e0 (HSd.out n).nw (UInt8.toNat_lt _) (by have:=(HSd.out n).mb;omega)
       obtain⟨-,-,-,-,-,-,q6⟩:=zaG HS2.out.st.box;have hpi:(k:Int)-1=(p:Int):=by have:=Hkp.out;omega
       have hp0:(0:Int)<=(p:Int):=by omega
       have hp1:(p:Int)<(t.size:Int):=by omega
       have hcn:Hid (¬(k<low/\now=0)):=hc;clear hc HS2 hk0
       go_upto_region 9 with fail
       go_cut [69] from 59 to 69 (fun v69 wx=>v69=.bool false/\wx=W1)
       case first=>
        clear hrd q6 HSd
        by_cases h1:k<low
        ·have h2:now≠0:=fun e=>hcn.out ⟨h1,e⟩
         have hd1:decide ((k:Int)<(low:Int))=true:=by simp;omega
         have hd2:((now:Int)==0)=false:=by simp;omega
         go_wp2
         go_meet
         exact⟨rfl,rfl⟩
        ·have hd1:decide ((k:Int)<(low:Int))=false:=by simp;omega
         go_wp2
         go_meet
         exact⟨rfl,rfl⟩
       case rest=>
       obtain⟨rfl,hwc⟩:=hcut;subst wc
       go_upto_region 11 with fail
       have hmix:Tryz.prog.follows .mixedOrders=true:=by kernel_rfl
       refine zbt 10 (fun w'=>∃n,w'=W1.drewN n) hmix ⟨1,rfl⟩ (by decide) (by kernel_rfl) ?_;intro os hos;simp only[zr6,zr8] at hos;subst hos
       repeat (go_big_quiet_step (fail))
       refine wpQuiet_nil ?_;rintro w' ⟨nq,rfl⟩ r' hr';simp only[zrr,List.drop_zero] at hr';subst hr'
       go_wp2_with fail
       refine(hrd nq).mono ?_;rintro e2 W2 ⟨x,b2,rfl,hx,hm,hn,hs,st,tc,km⟩;have H3:Hid _:=(HSd.out nq).read HR.out (zi4 t hpt) (by rw[He0.out,Hkp.out];exact⟨fun z=>⟨by have:=Hkp.out;omega,z⟩,fun z=>z.2⟩) hx hm hn hs st tc km;obtain⟨pa,pc,hpf⟩:=zbp H3.out.pa;subst hpf;obtain⟨j0,j1,j2,j3⟩:=za1 H3.out.box;have hown:=H3.out.pa;have hpl:=H3.out.len;have hszw:=H3.out.tc.size;have htl:w2.heap.size<W2.heap.size:=(zrc.1 H3.out.box).1;have hp9:ps.length<=100000000:=by omega
       obtain⟨pn,hpn⟩:∃pn,ps.length=pn:=⟨_,rfl⟩;rw[hpn] at hown j3 hp9;have Hpl:Hid _:=hpn;have Hpn:Hid (∀k,(Value.slice pa pn pc).ownBlock=some k->k≠w2.heap.size):=by rw[<-hpn];exact fun k e=>(H3.out.pne e).1
       obtain⟨i1,hj,hy0,hy1,hy2⟩:=info_parts Tryz.infoIntB;have Hbx:Hid _:=H3.out.box;clear hrd HSd hx hm hn hs st tc km q6 hpl hpn
       go_wp2_with (at_builtin;refine zbJ W2 _ rfl rfl (.tmp 86) (.tmp 88) 44 rfl w.heap.size 3 i1 (.int .i64 0) 8 Tryz.underlying44 hj hy0 hy1 hy2 rfl (.slice pa pn pc) pn (zcC ps) (.int .i64 (x:Int)) rfl hown rfl rfl hp9 (by omega) hszw ?_;intro g7 cap7 W7 own7 grow7 at7;have box7:=(grow7.block w2.heap.size htl (fun e=>Hpn.out _ e.symm rfl)).trans Hbx.out;have f7:=zso _ _ 3 _ _ box7;have k7:=(za1 box7).2.2.2)
       have HP:Hid (BkS w O1 O2 s v a b ne t.data.toList M (fun q=>q<64*ne/\zae ET q=true) high w2.heap.size w1.heap.size (W7.setCell ⟨w2.heap.size,3,none⟩ (.slice (some ⟨g7,0,none⟩) (pn+1) cap7)) (p+1) p p x b2 (news O (W1.drewN nq) W2) S (.slice (some ⟨g7,0,none⟩) (pn+1) cap7) (ps++[x])):=by
        have hh:=H3.out;rw[<-Hpl.out] at own7 grow7 at7 ⊢;exact hh.push own7 grow7 (at7.imp id Nat.le_of_lt) hB hO1
       clear H3 own7 grow7 at7 box7 f7 k7
       go_roundw
       case rel=>exact⟨p,x,b2,_,_,_,_,rfl,by congr 1,HP⟩
       case measure=>simp[intOf];have:=Hkp.out;omega
end Go.Proofs.YthdljcdbfmhleaaGreatDoor
