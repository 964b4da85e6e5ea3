import Derived.Test.YthdljcdbfmhleaaGreatDoorC40
namespace Go.Proofs.YthdljcdbfmhleaaGreatDoor
set_option maxHeartbeats 4000000
set_option maxRecDepth 100000
open Go.RowKit
section
structure KdR(w:World)(pl:Nat)(wr:World)(Q:Nat->Option Pt)(F:Nat->Prop)(ps:List (Nat×Pt)):Prop where
 bel:Below w.heap.size w wr
 pm:PcM w.heap.size wr pl Q
 kd:∀x,x∈ps->∃(lo':Nat) (w':World) (Q':Nat->Option Pt),w.heap.size<=lo'/\PcAt lo' w' pl Q' x.1 x.2/\zaJ w' wr/\w'.heap.size<=wr.heap.size/\(∀k,lo'<=k->k<w'.heap.size->wr.heap[k]?=w'.heap[k]?/\¬F k)/\∀k q,Q' k=some q->Q k=some q
 ob:∀k,F k->w.heap.size<=k/\∃cur ty,wr.heap[k]?=some (.cells cur ty (0,0))/\ty≠114/\ty≠197
theorem KdR.start(w:World)(pl:Nat)(F:Nat->Prop)(wr:World)(hb:Below w.heap.size w wr)(ob:∀k,F k->w.heap.size<=k/\∃cur ty,wr.heap[k]?=some (.cells cur ty (0,0))/\ty≠114/\ty≠197):KdR w pl wr (fun _=>none) F []:=
 ⟨hb,PcM.nothing _ _ _,fun x hx=>(by cases hx),ob⟩
section
variable {w:World} {pl:Nat} {wr:World} {Q:Nat->Option Pt} {F:Nat->Prop} {ps:List (Nat×Pt)}
theorem KdR.flt(h:KdR w pl wr Q F ps){k:Nat}(hk:F k):k<wr.heap.size:=by
 obtain⟨_,cur,ty,e,_⟩:=h.ob k hk;exact(zrc.1 e).1
theorem KdR.keepM(h:KdR w pl wr Q F ps){wr2:World}(tc:zan F wr wr2):zaJ wr wr2:=fun mg f e=>(tc.same mg (zrc.1 e).1 (fun hF=>by
 obtain⟨_,cur,ty,e2,_,e3⟩:=h.ob mg hF;rw[e2] at e;exact e3 (zad e))).trans e
theorem KdR.turn(h:KdR w pl wr Q F ps){wr2:World}{F2:Nat->Prop}(tc:zan F wr wr2)(hF:∀k,F2 k->F k\/wr.heap.size<=k)(ob:∀k,F2 k->w.heap.size<=k/\∃cur ty,wr2.heap[k]?=some (.cells cur ty (0,0))/\ty≠114/\ty≠197):KdR w pl wr2 Q F2 ps:=by
 have hm:=h.keepM tc;have hs:=h.bel.size;refine⟨⟨tc.os.trans h.bel.os,tc.tape.trans h.bel.tape,tc.output.trans h.bel.output,zsb hs tc.size,fun k hk=>(tc.same k (by omega) (fun e=>by have:=(h.ob k e).1;omega)).trans (h.bel.block k hk)⟩,?_,?_,ob⟩
 ·intro a q hq;obtain⟨h1,h2,v,f,h3,h4⟩:=h.pm a q hq;refine⟨h1,h2,v,f,(tc.same a (zrc.1 h3).1 (fun e=>?_)).trans h3,zai.keep hm q v h4⟩;obtain⟨_,cur,ty,e2,e3,_⟩:=h.ob a e;rw[e2] at h3;exact e3 (zad h3)
 ·intro x hx;obtain⟨lo',w',Q',h1,h2,h3,h4,h5,h6⟩:=h.kd x hx;refine⟨lo',w',Q',h1,h2,h3.trans hm,zsb h4 tc.size,fun k k1 k2=>?_,h6⟩;obtain⟨e1,e2⟩:=h5 k k1 k2;exact⟨(tc.same k (by omega) e2).trans e1,fun e=>(hF k e).elim e2 (fun e=>by omega)⟩
theorem KdR.below(h:KdR w pl wr Q F ps){wr2:World}(hb:Below wr.heap.size wr wr2):KdR w pl wr2 Q F ps:=
 h.turn (.of_below hb) (fun _ e=>.inl e) (fun k e=>by
  obtain⟨h1,cur,ty,h2,h3⟩:=h.ob k e;exact⟨h1,cur,ty,(hb.block k (zrc.1 h2).1).trans h2,h3⟩)
theorem KdR.add(h:KdR w pl wr Q F ps){q:Pt}{e:Ending}{w':World}(hp:PcR wr pl q e w'):∃(a:Nat) (Q2:Nat->Option Pt),e=.returned (.pointer (some ⟨a,0,none⟩))/\Below wr.heap.size wr w'/\KdR w pl w' Q2 F (ps++[(a,q)]):=by
 obtain⟨a,Q',rfl,hb,hm,ha⟩:=hp;have h1:=h.below hb;have hs:=h.bel.size;have hm':PcM w.heap.size w' pl Q':=hm.keep hs (fun _ _ _=>rfl) (fun _ _ e=>e);have hq:∀k q,Q' k=some q->Q k=none:=fun k q e=>h.pm.high (by have:=(hm k q e).1;omega)
 refine⟨a,qU Q Q',rfl,hb,h1.bel,h1.pm.union hm',fun x hx=>?_,h1.ob⟩;rcases zrR.1 hx with hx|hx
 ·obtain⟨lo',w1,Q1,k1,k2,k3,k4,k5,k6⟩:=h1.kd x hx;exact⟨lo',w1,Q1,k1,k2,k3,k4,k5,fun k q e=>zjU (k6 k q e)⟩
 ·rw[zrY.1 hx];exact⟨wr.heap.size,w',Q',hs,ha,fun _ _ e=>e,zsa _,fun k k1 k2=>⟨rfl,fun e=>by have:=h.flt e;omega⟩,fun k q e=>zhp (hq k q e) e⟩
theorem KdR.fin(h:KdR w pl wr Q F ps):∀x,x∈ps->PcAt w.heap.size wr pl Q x.1 x.2:=fun x hx=>by
 obtain⟨lo',w',Q',h1,h2,h3,h4,h5,h6⟩:=h.kd x hx;exact h2.keep h1 (fun k k1 k2=>(h5 k k1 k2).1) h3 h6
end
def FmA(lo:Nat)(w:World)(pl:Nat)(Q:Nat->Option Pt)(p:Pt)(f:Value):Prop:=
 (f=.nilIface\/∃t x,f=.iface t x)/\∀(lo1:Nat) (w1:World) (Q1:Nat->Option Pt) (a:Nat),lo1<=lo->(∀k,lo<=k->k<w.heap.size->w1.heap[k]?=w.heap[k]?)->zaJ w w1->(∀k q,Q k=some q->Q1 k=some q)->PcB lo1 w1 pl Q1 a p f->PcAt lo1 w1 pl Q1 a p
def FmR(w:World)(pl:Nat)(p:Pt)(e:Ending)(w':World):Prop:=
 ∃(Q:Nat->Option Pt) (f:Value),e=.returned f/\Below w.heap.size w w'/\PcM w.heap.size w' pl Q/\FmA w.heap.size w' pl Q p f
theorem zmK{lo:Nat}{w:World}{pl:Nat}{Q:Nat->Option Pt}{p:Pt}(h:noG p):FmA lo w pl Q p .nilIface:=⟨.inl rfl,fun _ _ _ a _ _ _ _ hb=>.leaf a p hb h⟩
theorem zft{lo:Nat}{w:World}{pl:Nat}{Q:Nat->Option Pt}{p:Pt}{go cap:Nat}{xs:List (Nat×Lnk)}(hr:w.ownsRow lo 155 2 (.slice (some ⟨go,0,none⟩) xs.length cap) xs.length (lkL xs))(hf:xs.map Prod.snd=zba p)(h1:∀l r,p≠.alt l r)(h2:∀b g,p≠.grp b g)(h3:∀b,p≠.rep b 0 (-1))(h0:∀f,p≠.set f)(hp:∀x,x∈xs->PcAt lo w pl Q x.1 x.2.1):FmA lo w pl Q p (.iface 161 (.agg #[.slice (some ⟨go,0,none⟩) xs.length cap])):=
 ⟨.inr ⟨_,_,rfl⟩,fun _ _ _ a hl hk hm hQ hb=>.chain a p go cap xs hb (zdy (zd7 hr hk) hl) hf h1 h2 h3 h0 fun x hx=>(hp x hx).keep hl hk hm hQ⟩
theorem zlo{lo:Nat}{w:World}{pl:Nat}{Q:Nat->Option Pt}{l r:Pt}{go cap:Nat}{xs:List (Nat×Pt)}(hr:w.ownsRow lo 86 1 (.slice (some ⟨go,0,none⟩) xs.length cap) xs.length (opL xs))(hf:xs.map Prod.snd=zaW (.alt l r))(hp:∀x,x∈xs->PcAt lo w pl Q x.1 x.2):FmA lo w pl Q (.alt l r) (.iface 167 (.agg #[.slice (some ⟨go,0,none⟩) xs.length cap])):=
 ⟨.inr ⟨_,_,rfl⟩,fun _ _ _ a hl hk hm hQ hb=>.choice a l r go cap xs hb (zdy (zd7 hr hk) hl) hf fun x hx=>(hp x hx).keep hl hk hm hQ⟩
theorem zmJ{lo:Nat}{w:World}{pl:Nat}{Q:Nat->Option Pt}{b:Pt}{g:Int}{a':Nat}(hp:PcAt lo w pl Q a' b):FmA lo w pl Q (.grp b g) (.iface 126 (.agg #[.int .i64 g,.pointer (some ⟨a',0,none⟩)])):=
 ⟨.inr ⟨_,_,rfl⟩,fun _ _ _ a hl hk hm hQ hb=>.group a a' b g hb (hp.keep hl hk hm hQ)⟩
theorem zh0:∀(p:Pt),(∀q,q∈zbU p->noG q)->noG p
 |.seq l r,h=>⟨h l (zrU ..),zh0 r fun q hq=>h q (zrT _ hq)⟩
 |.set _,_=>trivial
 |.alt l r,h=>h (.alt l r) (zrY.2 rfl)
 |.rep b mn mx,h=>h (.rep b mn mx) (zrY.2 rfl)
 |.grp b g,h=>h (.grp b g) (zrY.2 rfl)
theorem zfs:∀(p:Pt),(∀q,q∈zaW p->noG q)->noG p
 |.alt l r,h=>⟨zfs l fun q hq=>h q (zrR.2 (.inl hq)),zfs r fun q hq=>h q (zrR.2 (.inr hq))⟩
 |.set _,_=>trivial
 |.seq l r,h=>h (.seq l r) (zrY.2 rfl)
 |.rep b mn mx,h=>h (.rep b mn mx) (zrY.2 rfl)
 |.grp b g,h=>h (.grp b g) (zrY.2 rfl)
end
section
variable {w wr:World}{pl:Nat}{Q:Nat -> Option Pt}{vL:Value}{xs:List (Nat×Lnk)}
attribute [local go_sem ↓] Go.wp_at_zero Go.wp_at_succ
def AsS(v:Value)(p:Pt)(b:Bool)(lv rv:Value):Prop:=(∀w,Sem.run Tryz.prog (Instr.typeAssert v 85 116 true) w=.ok (.tuple #[.agg #[lv,rv],.bool b]) w)/\(b=true\/zbU p=[p])
theorem zkX:∀(p:Pt) (v:Value),zai w v p->∃b lv rv,AsS v p b lv rv/\(b=true->∃l r,p=.seq l r/\zai w lv l/\zai w rv r)/\((b=false/\lv=.nilIface/\rv=.nilIface)\/(b=true/\(∃t x,lv=.iface t x)/\∃t x,rv=.iface t x))
 |.seq l r,_,⟨lv,rv,rfl,h1,h2⟩=>by
  obtain⟨t1,x1,e1⟩:=zaz h1;obtain⟨t2,x2,e2⟩:=zaz h2;exact⟨true,lv,rv,⟨fun w=>by kernel_rfl,.inl rfl⟩,fun _=>⟨l,r,rfl,h1,h2⟩,.inr ⟨rfl,⟨t1,x1,e1⟩,⟨t2,x2,e2⟩⟩⟩
 |.set f,_,⟨mg,rfl,_⟩=>⟨false,.nilIface,.nilIface,⟨fun w=>by kernel_rfl,.inr rfl⟩,fun e=>(by cases e),.inl ⟨rfl,rfl,rfl⟩⟩
 |.alt l r,_,⟨lv,rv,rfl,_⟩=>⟨false,.nilIface,.nilIface,⟨fun w=>by kernel_rfl,.inr rfl⟩,fun e=>(by cases e),.inl ⟨rfl,rfl,rfl⟩⟩
 |.rep b mn mx,_,⟨lv,rfl,_⟩=>⟨false,.nilIface,.nilIface,⟨fun w=>by kernel_rfl,.inr rfl⟩,fun e=>(by cases e),.inl ⟨rfl,rfl,rfl⟩⟩
 |.grp b g,_,⟨lv,rfl,_⟩=>⟨false,.nilIface,.nilIface,⟨fun w=>by kernel_rfl,.inr rfl⟩,fun e=>(by cases e),.inl ⟨rfl,rfl,rfl⟩⟩
def psL(xs:List (Nat×Lnk)):List (Nat×Pt):=xs.map fun x=>(x.1,x.2.1)
structure ChS(w:World)(pl:Nat)(wr:World)(Q:Nat->Option Pt)(vL:Value)(xs:List (Nat×Lnk)):Prop where
 kd:KdR w pl wr Q (fun k=>vL.ownBlock=some k) (psL xs)
 own:wr.ownsRow w.heap.size 155 2 vL xs.length (lkL xs)
theorem ChS.below(h:ChS w pl wr Q vL xs){wr2:World}(hb:Below wr.heap.size wr wr2):ChS w pl wr2 Q vL xs:=⟨h.kd.below hb,zab h.own hb⟩
theorem ChS.push{w7:World}{a:Nat}{q:Pt}{o:Bool}{g7 cap7:Nat}(h:KdR w pl wr Q (fun k=>vL.ownBlock=some k) (psL xs++[(a,q)]))(hown:w7.ownsRow w.heap.size 155 2 (.slice (some ⟨g7,0,none⟩) (xs.length+1) cap7) (xs.length+1) (lkL xs++[.pointer (some ⟨a,0,none⟩),.bool o]))(hg:wr.grownBy w7 vL.ownBlock)(hat:vL.ownBlock=some g7\/wr.heap.size<=g7):ChS w pl w7 Q (.slice (some ⟨g7,0,none⟩) (xs.length+1) cap7) (xs++[(a,(q,o))]):=by
 have tc:zan (fun k=>vL.ownBlock=some k) wr w7:=(zan.refl _ wr).grown hg (fun k e=>.inl e);refine⟨?_,?_⟩
 ·have:psL (xs++[(a,(q,o))])=psL xs++[(a,q)]:=by simp[psL]
  rw[this];refine h.turn tc (fun k e=>?_) (fun k e=>?_)
  ·have e:g7=k:=by simpa [Value.ownBlock] using e
   subst e;exact hat
  ·obtain⟨z1,cur,z2⟩:=zaR hown e;exact⟨z1,cur,_,z2,by decide,by decide⟩
 ·have e:lkL (xs++[(a,(q,o))])=lkL xs++[.pointer (some ⟨a,0,none⟩),.bool o]:=by rw[zcG];rfl
  rw[e,zrK];exact hown
theorem ChS.at(h:ChS w pl wr Q vL xs):∀x,x∈xs->PcAt w.heap.size wr pl Q x.1 x.2.1:=fun x hx=>h.kd.fin (x.1,x.2.1) (zrV.2 ⟨x,hx,rfl⟩)
end
variable {w:World}{v:Value}{p:Pt}
attribute [local go_sem ↓] Go.wp_at_zero Go.wp_at_succ
theorem zaF{w':World}(hb:Below w.heap.size w w'):zaJ w w':=fun mg _ e=>(hb.block mg (zrc.1 e).1).trans e
theorem zoP{B go cap:Nat}{xs:List (Nat×Lnk)}(hr:w.ownsRow B 155 2 (.slice (some ⟨go,0,none⟩) xs.length cap) xs.length (lkL xs)){i:Nat}{x:Nat×Lnk}(hx:xs[i]?=some x):w.cell? ⟨go,i*2,none⟩=some (.pointer (some ⟨x.1,0,none⟩))/\w.cell? ⟨go,i*2+1,none⟩=some (.bool x.2.2):=by
 obtain⟨h1,h2⟩:=zjs xs i x.1 x.2.1 x.2.2 hx;have e:∀n,(⟨go,0,none⟩:Addr).add n=⟨go,n,none⟩:=fun n=>by unfold Addr.add;split<;>simp_all
 have c1:=zcR hr (i*2) _ h1;have c2:=zcR hr (i*2+1) _ h2;rw[e] at c1 c2;exact⟨c1,c2⟩
theorem zkp{lo:Nat}{pl:Nat}{Q:Nat->Option Pt}(n:Nat)(pa:Nat->Nat)(pq:Nat->Pt)(h:∀i,i<n->PcAt lo w pl Q (pa i) (pq i)):∃fs:Nat->Value,(∀i,i<n->w.cell? ⟨pa i,2,none⟩=some (fs i))/\(∀i,i<n->fs i=.nilIface\/∃t x,fs i=.iface t x)/\∀i,i<n->fs i=.nilIface->noG (pq i):=by
 obtain⟨fs,hfs⟩:=@Go.Deep.choose_lt Value ⟨.nilIface⟩ n (fun i f=>PcB lo w pl Q (pa i) (pq i) f/\(f=.nilIface->noG (pq i))/\(f=.nilIface\/∃t x,f=.iface t x)) (fun i hi=>(h i hi).blk);refine⟨fs,fun i hi=>?_,fun i hi=>(hfs i hi).2.2,fun i hi=>(hfs i hi).2.1⟩;obtain⟨v,h1,_⟩:=(hfs i hi).1.box;exact(zsm _ _ _ _ _ _ h1:_=_)
theorem zcI{P:Program}(w:World)(cs:Array Value)(ty:TypeId)(v:Value)(h:v.oneCell'=true)(i:Nat)(hi:i<cs.size):Sem.run P (store ⟨w.heap.size,i,none⟩ v) (w.alloc (.cells cs ty))=.ok () (w.alloc (.cells (cs.setIfInBounds i v) ty)):=by
 have hx:(w.alloc (.cells cs ty)).heap[w.heap.size]?=some (.cells cs ty (0,0)):=zsp _ _;rw[run_store P _ _ v _ h,zsm _ _ _ _ _ _ hx,Array.getElem?_eq_getElem hi];simp only[zso _ _ i _ _ hx];simp[World.setCell_alloc_new]
def lnV:Value->Nat
 |.slice _ n _=>n
 |_=>0
structure RsS(w:World)(v:Value)(p:Pt)(b:Bool)(lv rv:Value):Prop where
 tr:zai w v p
 ass:AsS v p b lv rv
 sq:b=true->∃l r,p=.seq l r/\zai w lv l/\zai w rv r
 sh:(b=false/\lv=.nilIface/\rv=.nilIface)\/(b=true/\(∃t x,lv=.iface t x)/\∃t x,rv=.iface t x)
 wt:wPt p<=2000
theorem RsS.ol{b:Bool}{lv rv:Value}(h:RsS w v p b lv rv):lv.oneCell'=true/\rv.oneCell'=true:=by
 rcases h.sh with ⟨_,h1,h2⟩|⟨_,⟨_,_,h1⟩,⟨_,_,h2⟩⟩<;>rw[h1,h2]<;>exact⟨rfl,rfl⟩
theorem zqY(h:zai w v p)(hw:wPt p<=2000):∃b lv rv,RsS w v p b lv rv:=by
 obtain⟨b,lv,rv,h1,h2,h3⟩:=zkX p v h;exact⟨b,lv,rv,⟨h,h1,h2,h3,hw⟩⟩
theorem zld(l r:Pt)(hIH:∀q,mz q<mz (.seq l r)->zce q)(pl:Nat)(lv rv:Value)(w:World)(hl:zai w lv l)(hr:zai w rv r)(hw:wPt (.seq l r)<=2000):
  Calls Tryz.prog 60 #[.pointer (some ⟨pl,0,none⟩),.agg #[lv,rv]] w fun e w'=>FmR w pl (.seq l r) e w':=by
 obtain⟨i0,hi,hz0,hz1,hz2⟩:=info_parts Tryz.infoLink;have hT0:zai w (.iface 116 (.agg #[lv,rv])) (.seq l r):=⟨lv,rv,rfl,hl,hr⟩;have hk0:=zeh (.inl hT0) hw;have hlen:=zid _ _ hT0 hw;obtain⟨t1,x1,rfl⟩:=zaz hl;obtain⟨t2,x2,rfl⟩:=zaz hr;obtain⟨b,lv',rv',hass,hseq,hsh⟩:=zkX r _ hr;obtain⟨W0,hW0⟩:∃W0,w.alloc (.cells #[.iface t1 x1,.iface t2 x2] 116)=W0:=⟨_,rfl⟩;have hb0:Below w.heap.size w W0:=by rw[<-hW0];exact(Below.refl _ _).alloc (zsa _) _
 have x0:W0.heap[w.heap.size]?=some (.cells #[.iface t1 x1,.iface t2 x2] 116 (0,0)):=by rw[<-hW0];exact zsp _ _
 have c0:=(zay x0).1;have hp0:=hIH l (zdO (by simp[szT];omega)) pl _ W0 (zai.keep (zaF hb0) l _ hl) hk0.1;have HIH:=hidF hIH;have Hl:=hidF hl;have Hr:=hidF hr;clear hIH hl hr
 go_enter Tryz.func60,Tryz.ntmps60
 go_wp2_with fail
 refine hp0.mono ?_;intro e1 W1 hR1;obtain⟨a1,Q1,rfl,hbW1,hK1⟩:=(KdR.start w pl (fun _=>False) W0 hb0 (fun _ e=>e.elim)).add hR1;have hb1:=hK1.bel;have x1':W1.heap[w.heap.size]?=_:=(hbW1.block _ (zrc.1 x0).1).trans x0;obtain⟨W2,hW2⟩:∃W2,W1.alloc (.cells #[.pointer (some ⟨a1,0,none⟩),.bool false] 155)=W2:=⟨_,rfl⟩;have hb2:Below W1.heap.size W1 W2:=by rw[<-hW2];exact(Below.refl _ _).alloc (zsa _) _
 have y1:W2.heap[W1.heap.size]?=some (.cells #[.pointer (some ⟨a1,0,none⟩),.bool false] 155 (0,0)):=by rw[<-hW2];exact zsp _ _
 have own2:W2.ownsRow w.heap.size 155 2 (.slice (some ⟨W1.heap.size,0,none⟩) 1 1) 1 (lkL [(a1,(l,false))]):=⟨by simp[lkL],.inr ⟨W1.heap.size,1,_,rfl,hb1.size,y1,zsa _,by unfold maxLen;omega,rfl,by simp[lkL]⟩⟩;have hC2:ChS w pl W2 Q1 (.slice (some ⟨W1.heap.size,0,none⟩) 1 1) [(a1,(l,false))]:=⟨hK1.turn (.of_below hb2) (fun k e=>by
   have e:W1.heap.size=k:=by simpa [Value.ownBlock] using e
   exact .inr (by omega)) (fun k e=>by
   have e:W1.heap.size=k:=by simpa [Value.ownBlock] using e
   subst e;exact⟨hb1.size,_,_,y1,by decide,by decide⟩),own2⟩
 have x2':W2.heap[w.heap.size]?=_:=(hb2.block _ (zrc.1 x1').1).trans x1';have c2:=(zay x2').2;clear hR1 hK1 hp0 x0 x1' y1 own2 hW0 c0;have ol:lv'.oneCell'=true:=by rcases hsh with ⟨_,h,_⟩|⟨_,⟨_,_,h⟩,_⟩<;>rw[h]<;>rfl
 have or':rv'.oneCell'=true:=by rcases hsh with ⟨_,_,h⟩|⟨_,_,⟨_,_,h⟩⟩<;>rw[h]<;>rfl
 have hasr:=hass.1;have st0:=zcI (P:=Tryz.prog) W2 #[.nilIface,.nilIface] 116 lv' ol 0 (by simp);have st1:=zcI (P:=Tryz.prog) W2 #[lv',.nilIface] 116 rv' or' 1 (by simp);simp only[List.setIfInBounds_toArray,List.set_cons_zero,List.set_cons_succ] at st0 st1;obtain⟨W3,hW3⟩:∃W3,W2.alloc (.cells #[lv',rv'] 116)=W3:=⟨_,rfl⟩;have hb3:Below W2.heap.size W2 W3:=by rw[<-hW3];exact(Below.refl _ _).alloc (zsa _) _
 have x3:W3.heap[W2.heap.size]?=some (.cells #[lv',rv'] 116 (0,0)):=by rw[<-hW3];exact zsp _ _
 have HC3:=hidF (hC2.below hb3);have hs2:w.heap.size<=W2.heap.size:=hC2.kd.bel.size;have Hlk:Hid (zba (.seq l r)=(l,false)::zd9 (zbU r)):=rfl;clear hC2 x2';have HR3:=hidF (show RsS w (.iface t2 x2) r b lv' rv' from⟨Hr.out,hass,hseq,hsh,hk0.2⟩);clear hass hseq hsh;go_wp2;clear hasr st0 st1 hW3 hW2 ol or' c2
 go_loopw [5,6,7,8] (fun lv6 rs bx ok wr=>∃(xs:List (Nat×Lnk)) (gL capL:Nat) (Q:Nat->Option Pt) (p':Pt) (t3:TypeId) (y3:Value) (b:Bool) (lv' rv':Value) (bxn:Nat),lv6=.slice (some ⟨gL,0,none⟩) xs.length capL/\rs=.iface t3 y3/\bx=.pointer (some ⟨bxn,0,none⟩)/\ok=.bool b/\Hid (ChS w pl wr Q (.slice (some ⟨gL,0,none⟩) xs.length capL) xs)/\Hid (RsS w (.iface t3 y3) p' b lv' rv')/\Hid (wr.heap[bxn]?=some (.cells #[lv',rv'] 116 (0,0)))/\Hid (xs.map Prod.snd++zd9 (zbU p')=zba (.seq l r))/\mz p'<mz (.seq l r)/\xs.length<=2000)
  (fun lv6 _ _ _ _=>2001-lnV lv6)
 case atStart=>exact⟨[(a1,(l,false))],W1.heap.size,1,Q1,r,t2,x2,b,lv',rv',W2.heap.size,rfl,rfl,rfl,rfl,HC3,HR3,x3,Hlk.out.symm,zdO (by simp[szT];omega),by simp⟩
 case round=>
  clear HC3 HR3 x3 hb3 hb2 hb1 hbW1;obtain⟨xs,gL,capL,Q,p',t3,y3,b,lv',rv',bxn,rfl,rfl,rfl,rfl,HC,HR,HX,HL,hmz,hxl⟩:=hrel;cases b with
  |true=>
   obtain⟨l2,r2,rfl,hl2,hr2⟩:=HR.out.sq rfl;obtain⟨t4,y4,rfl⟩:=zaz hl2;obtain⟨t5,y5,rfl⟩:=zaz hr2;have hk2:=zeh (.inl HR.out.tr) HR.out.wt;have hbr:=HC.out.kd.bel;have z0:=(zay HX.out).1;have hp:=HIH.out l2 (Nat.lt_trans (zdO (by simp[szT];omega)) hmz) pl _ wr (zai.keep (zaF hbr) l2 _ hl2) hk2.1;obtain⟨b2,lv2,rv2,hR2⟩:=zqY hr2 hk2.2;have hlen2:xs.length+2<=2000:=by
    have:=congrArg List.length HL.out;simp[zd9,zbU] at this;have h2:0<(zbU r2).length:=by cases r2<;>simp[zbU]
    omega
   have HR2:=hidF hR2;have hasr:=hR2.ass.1;have ol:=hR2.ol;have hwr:=hbr.size;clear hR2 hl2 hr2
   go_wp2_with fail
   refine hp.mono ?_;intro e4 W4 hR4;obtain⟨a4,Q4,rfl,hb4,hK4⟩:=HC.out.kd.add hR4;have own4:=zab HC.out.own hb4;have X4:W4.heap[bxn]?=_:=(hb4.block _ (zrc.1 HX.out).1).trans HX.out;have HK4:=hidF hK4;have hs4:w.heap.size<=W4.heap.size:=hK4.bel.size;have hX7:∀W7:World,W4.grownBy W7 (some gL)->W7.heap[bxn]?=some (.cells #[.iface t4 y4,.iface t5 y5] 116 (0,0))/\W7.cell? ⟨bxn,0,none⟩=some (.iface t4 y4)/\W7.cell? ⟨bxn,1,none⟩=some (.iface t5 y5)/\Sem.run Tryz.prog (store ⟨W7.heap.size,0,none⟩ lv2) (W7.alloc (.cells #[.iface t4 y4,.iface t5 y5] 116))=.ok () (W7.alloc (.cells #[lv2,.iface t5 y5] 116))/\Sem.run Tryz.prog (store ⟨W7.heap.size,1,none⟩ rv2) (W7.alloc (.cells #[lv2,.iface t5 y5] 116))=.ok () (W7.alloc (.cells #[lv2,rv2] 116)):=fun W7 grow7=>by
    have hne:¬(some bxn:Option Nat)=some gL:=fun e=>by
     injection e with e
     obtain⟨_,cur,z2⟩:=zaR own4 (k:=bxn) (by simp[Value.ownBlock,e]);rw[X4] at z2;exact absurd (zad z2) (by decide)
    have X7:=(grow7.block bxn (zrc.1 X4).1 hne).trans X4;exact⟨X7,(zay X7).1,(zay X7).2,zcI W7 #[.iface t4 y4,.iface t5 y5] 116 lv2 ol.1 0 (by simp),zcI W7 #[lv2,.iface t5 y5] 116 rv2 ol.2 1 (by simp)⟩
   clear hp hR4 hK4 z0
   go_wp2_with (at_builtin;refine zaS rfl (.tmp 28) (.tmp 34) 156 rfl W4 #[.pointer (some ⟨a4,0,none⟩),.bool false] 155 rfl W4.heap.size rfl w.heap.size i0 _ 2 16 Tryz.underlying156 hi hz0 hz1 hz2 rfl (by omega) _ xs.length (lkL xs) rfl own4 rfl rfl (by intro u hu;simp at hu;rcases hu with rfl|rfl<;>rfl) (by omega) (by omega) hs4 ?_;intro g7 cap7 W7 own7 grow7 at7;obtain⟨X7,y0,y1,st0,st1⟩:=hX7 W7 grow7)
   have hC7:ChS w pl W7 Q4 (.slice (some ⟨g7,0,none⟩) (xs.length+1) cap7) (xs++[(a4,(l2,false))]):=ChS.push HK4.out own7 grow7 (at7.imp id (fun e=>by omega));obtain⟨W8,hW8⟩:∃W8,W7.alloc (.cells #[lv2,rv2] 116)=W8:=⟨_,rfl⟩;have hb8:Below W7.heap.size W7 W8:=by rw[<-hW8];exact(Below.refl _ _).alloc (zsa _) _
   have X8:W8.heap[W7.heap.size]?=some (.cells #[lv2,rv2] 116 (0,0)):=by rw[<-hW8];exact zsp _ _
   have HC8:=hidF (hC7.below hb8);have HL8:Hid ((xs++[(a4,(l2,false))]).map Prod.snd++zd9 (zbU r2)=zba (.seq l r)):=by
    show _=_;rw[<-HL.out];simp[zd9,zbU]
   clear hC7 own7 grow7 X7 hX7 st0 st1 hasr ol y0 y1 HC HX HL HR hb8;subst hW8
   go_roundw
   case rel=>exact⟨xs++[(a4,(l2,false))],g7,cap7,Q4,r2,t5,y5,b2,lv2,rv2,W7.heap.size,by simp,rfl,rfl,rfl,by rw[zrK];exact HC8,HR2,X8,HL8,Nat.lt_trans (zdO (by simp[szT];omega)) hmz,by simp;omega⟩
   case measure=>simp[lnV];omega
  |false=>
   have hbr:=HC.out.kd.bel;have hp:=HIH.out p' hmz pl _ wr (zai.keep (zaF hbr) p' _ HR.out.tr) HR.out.wt;have hfl:zbU p'=[p']:=by
    rcases HR.out.ass.2 with h|h
    ·cases h
    ·exact h
   have hlen2:xs.length+1<=2000:=by
    have:=congrArg List.length HL.out;simp[zd9,hfl] at this;omega
   have hwr:=hbr.size
   go_wp2_with fail
   refine hp.mono ?_;intro e4 W4 hR4;obtain⟨a4,Q4,rfl,hb4,hK4⟩:=HC.out.kd.add hR4;have own4:=zab HC.out.own hb4;have HK4:=hidF hK4;have hs4:w.heap.size<=W4.heap.size:=hK4.bel.size;obtain⟨xs7,Hxs7⟩:∃xs7,Hid (xs++[(a4,(p',false))]=xs7):=⟨_,rfl⟩;obtain⟨n7,Hn7⟩:∃n7,Hid (xs.length+1=n7):=⟨_,rfl⟩;have hlx7:xs7.length=n7:=by rw[<-Hxs7.out,<-Hn7.out];simp
   have hn79:n7<=2000:=by have:=Hn7.out;omega
   have HL7:Hid (xs7.map Prod.snd=zba (.seq l r)):=by
    show _=_;rw[<-HL.out,<-Hxs7.out,hfl];simp[zd9]
   have hC7:∀W7 g7 cap7,W7.ownsRow w.heap.size 155 2 (.slice (some ⟨g7,0,none⟩) (xs.length+1) cap7) (xs.length+1) (lkL xs++[.pointer (some ⟨a4,0,none⟩),.bool false])->W4.grownBy W7 (some gL)->(some gL=some g7\/W4.heap.size<=g7)->Hid (ChS w pl W7 Q4 (.slice (some ⟨g7,0,none⟩) n7 cap7) xs7):=fun W7 g7 cap7 h1 h2 h3=>by
    show ChS _ _ _ _ _ _;rw[<-Hn7.out,<-Hxs7.out];exact ChS.push HK4.out h1 h2 h3
   have hct:∀W7 g7 cap7,Hid (ChS w pl W7 Q4 (.slice (some ⟨g7,0,none⟩) n7 cap7) xs7)->Calls Tryz.prog 79 #[.slice (some ⟨g7,0,none⟩) n7 cap7,.func (.func 80) #[] #[]] W7 fun e w'=>∃b:Bool,e=.returned (.bool b)/\Hid (b=false->noG (.seq l r))/\Below W7.heap.size W7 w':=fun W7 g7 cap7 h=>by
    have hat:∀i,i<n7->PcAt w.heap.size W7 pl Q4 (lkA xs7 i) (lkQ xs7 i):=fun i hi=>h.out.at _ (zrW (zeS (xs:=xs7) (i:=i) (by omega)))
    obtain⟨fs,f1,f2,f3⟩:=zkp n7 (lkA xs7) (lkQ xs7) hat;refine(zhS g7 cap7 n7 (lkA xs7) (lkO xs7) fs W7 (fun i hi=>?_) f1 f2 (by omega)).mono ?_
    ·have:=h.out.own;rw[<-hlx7] at this;exact zoP this (zeS (by omega))
    ·rintro e w' ⟨b,rfl,k1,k2,hb⟩;refine⟨b,rfl,fun e=>zh0 _ fun q hq=>?_,hb⟩;have hq2:(q,false)∈xs7.map Prod.snd:=by rw[HL7.out];exact zrV.2 ⟨q,hq,rfl⟩
     obtain⟨x,hx,hx2⟩:=zrV.1 hq2;obtain⟨i,hi,rfl⟩:=List.getElem_of_mem hx;have h3:=f3 i (by omega) (k1 e i (by omega));have h4:=zeS (xs:=xs7) (i:=i) hi;rw[zrD hi] at h4;have h5:=Option.some.inj h4;rw[h5] at hx2;have:lkQ xs7 i=q:=congrArg Prod.fst hx2;rw[<-this];exact h3
   clear hp hR4 hK4
   go_wp2_with (at_builtin;refine zaS rfl (.tmp 39) (.tmp 44) 156 rfl W4 #[.pointer (some ⟨a4,0,none⟩),.bool false] 155 rfl W4.heap.size rfl w.heap.size i0 _ 2 16 Tryz.underlying156 hi hz0 hz1 hz2 rfl (by omega) _ xs.length (lkL xs) rfl own4 rfl rfl (by intro u hu;simp at hu;rcases hu with rfl|rfl<;>rfl) (by omega) (by omega) hs4 ?_;intro g7 cap7 W7 own7 grow7 at7;have HC7:=hC7 W7 g7 cap7 own7 grow7 (at7.imp id (fun e=>by omega));clear own7 grow7 at7)
   rw[Hn7.out];refine(hct W7 g7 cap7 HC7).mono ?_;rintro e8 W8 ⟨b8,rfl,Hno,hb8⟩;have hC8:=HC7.out.below hb8;have hbel:=hC8.kd.bel;clear hct hC7 HC HX HL HR own4 HK4;cases b8 with
   |false=>
    have HF:Hid (FmR w pl (.seq l r) (.returned .nilIface) W8):=⟨Q4,.nilIface,rfl,hbel,hC8.kd.pm,zmK (Hno.out rfl)⟩;clear hC8 Hno;go_wp2;go_ret;exact HF.out
   |true=>
    have HF:Hid (FmR w pl (.seq l r) (.returned (.iface 161 (.agg #[.slice (some ⟨g7,0,none⟩) n7 cap7]))) W8):=by
     refine⟨Q4,_,rfl,hbel,hC8.kd.pm,?_⟩;have h1:=hC8.own;have h2:=hC8.at;rw[<-hlx7] at h1 ⊢;exact zft h1 HL7.out (fun _ _ e=>(by cases e)) (fun _ _ e=>(by cases e)) (fun _ e=>(by cases e)) (fun _ e=>(by cases e)) h2
    clear hC8 Hno;go_wp2;go_ret;exact HF.out
end Go.Proofs.YthdljcdbfmhleaaGreatDoor
