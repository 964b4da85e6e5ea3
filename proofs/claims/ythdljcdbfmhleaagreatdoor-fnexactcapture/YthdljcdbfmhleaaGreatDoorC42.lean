import Derived.Test.YthdljcdbfmhleaaGreatDoorC41
namespace Go.Proofs.YthdljcdbfmhleaaGreatDoor
set_option maxHeartbeats 4000000
set_option maxRecDepth 100000
open Go.RowKit
attribute [local go_sem ↓] Go.wp_at_zero Go.wp_at_succ
section
variable {Q:Nat -> Option Pt}{w wr:World}{pl bf bo bp:Nat}{vO:Value}{xs:List (Nat×Pt)}
theorem zdh{P:Program}{ops:Array Oper}{o:Oper}{a:Act}{K:Act->World->Prop}{Q:Exit->Act->World->Prop}{E:Prop}{W:World}(hgd:o.guard=none)(s x:Operand)(t:TypeId)
  (ho:o.op=.call {callee:=.builtin .append,args:=#[s,x],argTypes:=#[t,t]}) (w:World) (us:Array Value) (e:TypeId) (hW:W=w.alloc (.cells us e)) (H:Nat) (hH:w.heap.size=H)
  (base:Nat) (i:TypeInfo) (z:Value) (sz bytes:Nat) (ht:P.underlying t=some (.slice e)) (hi:P.info? e=some i) (hz:i.zero=some z)
  (hsize:i.size=sz) (hby:i.bytes=bytes) (hzs:z.cells.size=sz) (hsz:0<sz)
  (v:Value) (n:Nat) (xs:List Value) (hs:a.eval s=v) (hown:w.ownsRow base e sz v n xs)
  (hx:a.eval x=.slice (some ⟨H,0,none⟩) 1 1) (hl:us.size=sz) (h1:∀u∈us.toList,u.oneCell'=true) (hn:n<=2000000) (hbytes:bytes<=1000) (hbase:base<=w.heap.size)
  (h:∀g' cap' w',w'.ownsRow base e sz (.slice (some ⟨g',0,none⟩) (n+1) cap') (n+1) (xs++us.toList)->w.grownBy w' v.ownBlock->(v.ownBlock=some g'\/w.heap.size<=g')->K (a.put o.dst (.slice (some ⟨g',0,none⟩) (n+1) cap')) w'):
  if Region.wanted o (yielded ops a.tmps)=true then Oper.wp P o a W K Q else E:=by
 subst hW hH;refine step_append_lies _ hgd s x t ho base e i z sz bytes ht hi hz hsize hby hzs hsz v n xs hs (hown.alloc _) ⟨w.heap.size,0,none⟩ 1 1 us.toList hx (by simp[hl]) ?_ h1 (by omega) (by unfold maxLen;omega) ?_ (by simp;omega) (w.heap.size+1) (by simp) ?_
 ·intro j y hv;have e1:(⟨w.heap.size,0,none⟩:Addr).add j=⟨w.heap.size,j,none⟩:=by unfold Addr.add;split<;>simp_all
  rw[e1,zsm _ _ _ _ _ _ (zsp w _)];rw[<-hv];simp
 ·have:(n+1)*bytes<=2000001*1000:=Nat.mul_le_mul (by omega) hbytes;omega
 ·intro g' cap' w' ho2 hgr hat hlt;refine h g' cap' w' ho2 ⟨hgr.os,hgr.tape,hgr.output,zsb (by simp) hgr.size,fun k hk hne=>?_⟩ ?_
  ·rw[hgr.block k (by simp;omega) hne,Below.heap_alloc _ _ _ hk]
  ·rcases hat with hat|hat
   ·exact .inl hat
   ·exact .inr (by omega)
theorem Tryz.infoPieceP:(Tryz.prog.info? 86).map (fun i=>(i.zero,i.size,i.bytes))=some (some (.pointer none),1,8):=by kernel_rfl
theorem zew(xs:Array Value)(w:World):(callFunc 40 xs).run Tryz.prog w=.ok (.enter 40 xs) w:=by kernel_rfl
theorem zpr:∀(p:Pt) (v:Value),zai w v p->∃b lv rv,(∀w,Sem.run Tryz.prog (Instr.typeAssert v 85 118 true) w=.ok (.tuple #[.agg #[lv,rv],.bool b]) w)/\((b=false/\lv=.nilIface/\rv=.nilIface/\zaW p=[p])\/(b=true/\∃l r,p=.alt l r/\zai w lv l/\zai w rv r))
 |.alt l r,_,⟨lv,rv,rfl,h1,h2⟩=>⟨true,lv,rv,fun w=>by kernel_rfl,.inr ⟨rfl,l,r,rfl,h1,h2⟩⟩
 |.set f,_,⟨mg,rfl,_⟩=>⟨false,.nilIface,.nilIface,fun w=>by kernel_rfl,.inl ⟨rfl,rfl,rfl,rfl⟩⟩
 |.seq l r,_,⟨lv,rv,rfl,_⟩=>⟨false,.nilIface,.nilIface,fun w=>by kernel_rfl,.inl ⟨rfl,rfl,rfl,rfl⟩⟩
 |.rep b mn mx,_,⟨lv,rfl,_⟩=>⟨false,.nilIface,.nilIface,fun w=>by kernel_rfl,.inl ⟨rfl,rfl,rfl,rfl⟩⟩
 |.grp b g,_,⟨lv,rfl,_⟩=>⟨false,.nilIface,.nilIface,fun w=>by kernel_rfl,.inl ⟨rfl,rfl,rfl,rfl⟩⟩
structure AdS(w:World)(pl bf bo bp:Nat)(wr:World)(Q:Nat->Option Pt)(vO:Value)(xs:List (Nat×Pt)):Prop where
 kd:KdR w pl wr Q (fun k=>vO.ownBlock=some k\/k=bo) xs
 own:wr.ownsRow w.heap.size 86 1 vO xs.length (opL xs)
 xf:wr.heap[bf]?=some (.cells #[.func (.func 81) #[] #[.pointer (some ⟨bf,0,none⟩),.pointer (some ⟨bo,0,none⟩),.pointer (some ⟨bp,0,none⟩)]] 162 (0,0))
 xo:wr.heap[bo]?=some (.cells #[vO] 81 (0,0))
 xp:wr.heap[bp]?=some (.cells #[.pointer (some ⟨pl,0,none⟩)] 56 (0,0))
 lo:w.heap.size<=bo
theorem AdS.below(h:AdS w pl bf bo bp wr Q vO xs){wr2:World}(hb:Below wr.heap.size wr wr2):AdS w pl bf bo bp wr2 Q vO xs:=
 ⟨h.kd.below hb,zab h.own hb,(hb.block _ (zrc.1 h.xf).1).trans h.xf,(hb.block _ (zrc.1 h.xo).1).trans h.xo,(hb.block _ (zrc.1 h.xp).1).trans h.xp,h.lo⟩
theorem AdS.push{w7:World}{a:Nat}{q:Pt}{g7 cap7:Nat}(h:KdR w pl wr Q (fun k=>vO.ownBlock=some k\/k=bo) (xs++[(a,q)]))(hown0:wr.ownsRow w.heap.size 86 1 vO xs.length (opL xs))
  (xf:wr.heap[bf]?=some (.cells #[.func (.func 81) #[] #[.pointer (some ⟨bf,0,none⟩),.pointer (some ⟨bo,0,none⟩),.pointer (some ⟨bp,0,none⟩)]] 162 (0,0))) (xo:wr.heap[bo]?=some (.cells #[vO] 81 (0,0))) (xp:wr.heap[bp]?=some (.cells #[.pointer (some ⟨pl,0,none⟩)] 56 (0,0))) (lo:w.heap.size<=bo)
  (hown:w7.ownsRow w.heap.size 86 1 (.slice (some ⟨g7,0,none⟩) (xs.length+1) cap7) (xs.length+1) (opL xs++[.pointer (some ⟨a,0,none⟩)])) (hg:wr.grownBy w7 vO.ownBlock) (hat:vO.ownBlock=some g7\/wr.heap.size<=g7):
  w7.heap[bo]?=some (.cells #[vO] 81 (0,0))/\AdS w pl bf bo bp (w7.setCell ⟨bo,0,none⟩ (.slice (some ⟨g7,0,none⟩) (xs.length+1) cap7)) Q (.slice (some ⟨g7,0,none⟩) (xs.length+1) cap7) (xs++[(a,q)]):=by
 have ty:∀{k:Nat} {cs:Array Value} {t:TypeId},wr.heap[k]?=some (.cells cs t (0,0))->t≠86->¬some k=vO.ownBlock:=fun e1 e2 e3=>by
  obtain⟨_,cur,z⟩:=zaR hown0 e3.symm;rw[e1] at z;exact e2 (zad z)
 have sm:∀{k:Nat} {cs:Array Value} {t:TypeId},wr.heap[k]?=some (.cells cs t (0,0))->t≠86->w7.heap[k]?=some (.cells cs t (0,0)):=fun e1 e2=>(hg.block _ (zrc.1 e1).1 (ty e1 e2)).trans e1
 have xo7:=sm xo (by decide);refine⟨xo7,?_⟩;have ho8:=zsr w7 bo 0 #[vO] _ (.slice (some ⟨g7,0,none⟩) (xs.length+1) cap7) xo7;obtain⟨w8,hw8⟩:∃w8,w7.setCell ⟨bo,0,none⟩ (.slice (some ⟨g7,0,none⟩) (xs.length+1) cap7)=w8:=⟨_,rfl⟩;have g8:w7.grownBy w8 (some bo):=by rw[<-hw8];exact zaK w7 bo 0 _
 rw[hw8] at ho8 ⊢;have xo8:w8.heap[bo]?=some (.cells #[.slice (some ⟨g7,0,none⟩) (xs.length+1) cap7] 81 (0,0)):=by rw[ho8];rfl
 have tc:zan (fun k=>vO.ownBlock=some k\/k=bo) wr w8:=((zan.refl _ wr).grown hg (fun k e=>.inl (.inl e))).grown g8 (fun k e=>.inl (.inr (Option.some.inj e).symm));have ne8:∀{k:Nat} {cs:Array Value} {t:TypeId},w7.heap[k]?=some (.cells cs t (0,0))->t≠81->w8.heap[k]?=some (.cells cs t (0,0)):=fun e1 e2=>(g8.block _ (zrc.1 e1).1 (fun e=>by
  injection e with e
  rw[e,xo7] at e1;exact e2 (zad e1).symm)).trans e1
 have own8:w8.ownsRow w.heap.size 86 1 (.slice (some ⟨g7,0,none⟩) (xs.length+1) cap7) (xs.length+1) (opL xs++[.pointer (some ⟨a,0,none⟩)]):=zaO hown (fun b e=>by
  obtain⟨_,cur,z⟩:=zaR hown e;exact(ne8 z (by decide)).trans z.symm)
 refine⟨h.turn tc (fun k e=>?_) (fun k e=>?_),?_,ne8 (sm xf (by decide)) (by decide),xo8,ne8 (sm xp (by decide)) (by decide),lo⟩
 ·rcases e with e|e
  ·have e:g7=k:=by simpa [Value.ownBlock] using e
   subst e;rcases hat with h1|h1
   ·exact .inl (.inl h1)
   ·exact .inr h1
  ·exact .inl (.inr e)
 ·rcases e with e|e
  ·obtain⟨z1,cur,z2⟩:=zaR own8 e;exact⟨z1,cur,_,z2,by decide,by decide⟩
  ·subst e;exact⟨lo,_,_,xo8,by decide,by decide⟩
 ·have e:opL (xs++[(a,q)])=opL xs++[.pointer (some ⟨a,0,none⟩)]:=by simp[opL]
  rw[e,zrK];exact own8
end
section
variable {w:World}{pl bf bo bp:Nat}
def AddC(w:World)(pl bf bo bp:Nat)(x:Pt):Prop:=∀(wr:World) (Q:Nat->Option Pt) (vO:Value) (xs:List (Nat×Pt)) (v:Value),AdS w pl bf bo bp wr Q vO xs->zai w v x->wPt x<=2000->xs.length+(zaW x).length<=2000->
 Calls Tryz.prog 81 #[v,.pointer (some ⟨bf,0,none⟩),.pointer (some ⟨bo,0,none⟩),.pointer (some ⟨bp,0,none⟩)] wr fun e w'=>∃(Q':Nat->Option Pt) (vO':Value) (ys:List (Nat×Pt)),e=.returned (.tuple #[])/\AdS w pl bf bo bp w' Q' vO' (xs++ys)/\ys.map Prod.snd=zaW x/\zan (fun k=>vO.ownBlock=some k\/k=bo) wr w'/\∀k,vO'.ownBlock=some k->vO.ownBlock=some k\/wr.heap.size<=k
theorem zan.thenT{S S1:Nat->Prop}{A B:World}(h:zan S w A)(k:zan S1 A B)(hs:∀j,j<w.heap.size->S1 j->S j):zan S w B:=
 ⟨k.os.trans h.os,k.tape.trans h.tape,k.output.trans h.output,zsb h.size k.size,fun i hi hn=>(k.same i (zsc hi h.size) (fun e=>hn (hs i hi e))).trans (h.same i hi hn)⟩
theorem zpO(l r:Pt)(hl:AddC w pl bf bo bp l)(hr:AddC w pl bf bo bp r):AddC w pl bf bo bp (.alt l r):=by
 intro wr Q vO xs v hA hT hw hn;have hk:=zeh (.inr hT) hw;obtain⟨lv,rv,rfl,h1,h2⟩:=hT;obtain⟨t1,x1,rfl⟩:=zaz h1;obtain⟨t2,x2,rfl⟩:=zaz h2;have hn':xs.length+((zaW l).length+(zaW r).length)<=2000:=by simpa [zaW] using hn
 obtain⟨W0,hW0⟩:∃W0,wr.alloc (.cells #[.iface t1 x1,.iface t2 x2] 118)=W0:=⟨_,rfl⟩;have hb0:Below wr.heap.size wr W0:=by rw[<-hW0];exact(Below.refl _ _).alloc (zsa _) _
 have x0:W0.heap[wr.heap.size]?=some (.cells #[.iface t1 x1,.iface t2 x2] 118 (0,0)):=by rw[<-hW0];exact zsp _ _
 have hA0:=hA.below hb0;have c0:=(zay x0).1;have hass:∀w,Sem.run Tryz.prog (Instr.typeAssert (.iface 118 (.agg #[.iface t1 x1,.iface t2 x2])) 85 118 true) w=.ok (.tuple #[.agg #[.iface t1 x1,.iface t2 x2],.bool true]) w:=fun w=>by kernel_rfl
 have cf:W0.cell? ⟨bf,0,none⟩=some (.func (.func 81) #[] #[.pointer (some ⟨bf,0,none⟩),.pointer (some ⟨bo,0,none⟩),.pointer (some ⟨bp,0,none⟩)]):=(zsm _ _ _ _ _ _ hA0.xf:_=_);have hc1:=hl W0 Q vO xs _ hA0 h1 hk.1 (by omega);have HA:=hidF hA0;have H2:=hidF h2;have Hr:=hidF hr;clear hA hA0 h1 h2 hl hr
 go_enter Tryz.func81,Tryz.ntmps81
 go_wp2_with fail
 refine hc1.mono ?_;rintro e1 W1 ⟨Q1,vO1,ys1,rfl,hA1,hy1,tc1,ob1⟩;have X1:W1.heap[wr.heap.size]?=_:=(tc1.same wr.heap.size (zrc.1 x0).1 (fun e=>by
  obtain⟨_,cur,ty,z,_⟩:=HA.out.kd.ob _ e;rcases e with e|e
  ·obtain⟨_,cur,z⟩:=zaR HA.out.own e;rw[x0] at z;exact absurd (zad z) (by decide)
  ·have:=HA.out.xo;rw[<-e,x0] at this;exact absurd (zad this) (by decide))).trans x0
 have c1:=(zay X1).2;have cf1:W1.cell? ⟨bf,0,none⟩=some (.func (.func 81) #[] #[.pointer (some ⟨bf,0,none⟩),.pointer (some ⟨bo,0,none⟩),.pointer (some ⟨bp,0,none⟩)]):=(zsm _ _ _ _ _ _ hA1.xf:_=_);have hyl:ys1.length=(zaW l).length:=by rw[<-hy1];simp
 have hc2:=Hr.out W1 Q1 vO1 (xs++ys1) _ hA1 H2.out hk.2 (by simp;omega);have HA1:=hidF hA1;clear hc1 hA1 c0 cf X1 hass
 go_wp2_with fail
 refine hc2.mono ?_;rintro e2 W2 ⟨Q2,vO2,ys2,rfl,hA2,hy2,tc2,ob2⟩;have HF:Hid (AdS w pl bf bo bp W2 Q2 vO2 (xs++(ys1++ys2))/\(ys1++ys2).map Prod.snd=zaW (.alt l r)/\zan (fun k=>vO.ownBlock=some k\/k=bo) wr W2/\∀k,vO2.ownBlock=some k->vO.ownBlock=some k\/wr.heap.size<=k):=by
  have hs0:=hb0.size;have hs1:=tc1.size;refine⟨by rw[<-zrl];exact hA2,by rw[zrO,hy1,hy2];rfl,((zan.of_below hb0).thenT tc1 (fun _ _ e=>e)).thenT tc2 (fun k hk e=>?_),fun k e=>?_⟩
  ·rcases e with e|e
   ·rcases ob1 k e with h|h
    ·exact .inl h
    ·omega
   ·exact .inr e
  ·rcases ob2 k e with h|h
   ·rcases ob1 k h with h|h
    ·exact .inl h
    ·exact .inr (by omega)
   ·exact .inr (by omega)
 clear hc2 hA2 c1 cf1 tc1 tc2 ob1 ob2 HA HA1;go_wp2;exact zsl (v:=.tuple #[]) (results_none rfl _ _ _) rfl ⟨Q2,vO2,ys1++ys2,rfl,HF.out⟩
theorem zg3(x:Pt)(hf:zaW x=[x])(hx:zce x):AddC w pl bf bo bp x:=by
 intro wr Q vO xs v hA hT hw hn;obtain⟨i0,hi,hz0,hz1,hz2⟩:=info_parts Tryz.infoPieceP;obtain⟨b,lv,rv,hass,hb⟩:=zpr x v hT;obtain⟨rfl,rfl,rfl⟩:b=false/\lv=.nilIface/\rv=.nilIface:=by
  rcases hb with ⟨h1,h2,h3,_⟩|⟨_,l,r,rfl,_⟩
  ·exact⟨h1,h2,h3⟩
  ·have h1:=congrArg List.length hf;have h2:=zc2 l;have h3:=zc2 r;simp[zaW] at h1;omega
 clear hb;obtain⟨t1,x1,rfl⟩:=zaz hT;have hn':xs.length+1<=2000:=by rw[hf] at hn;simpa using hn
 obtain⟨W0,hW0⟩:∃W0,wr.alloc (.cells #[.nilIface,.nilIface] 118)=W0:=⟨_,rfl⟩;have hb0:Below wr.heap.size wr W0:=by rw[<-hW0];exact(Below.refl _ _).alloc (zsa _) _
 have hA0:=hA.below (hb0.drew);have hc:=hx pl (.iface t1 x1) W0.drew (zai.keep (zaF hA0.kd.bel) x _ hT) hw;have co:W0.cell? ⟨bo,0,none⟩=some vO:=(zsm _ _ _ _ _ _ hA0.xo:_=_);have cp:W0.cell? ⟨bp,0,none⟩=some (.pointer (some ⟨pl,0,none⟩)):=(zsm _ _ _ _ _ _ hA0.xp:_=_);have Hnx:Hid (∀(e:Ending) (w':World),PcR W0.drew pl x e w'->∃(a:Nat) (Q2:Nat->Option Pt),e=.returned (.pointer (some ⟨a,0,none⟩))/\w'.ownsRow w.heap.size 86 1 vO xs.length (opL xs)/\w.heap.size<=w'.heap.size/\bo<w'.heap.size/\w'.cell? ⟨bo,0,none⟩=some vO/\∀w7 g7 cap7,w7.ownsRow w.heap.size 86 1 (.slice (some ⟨g7,0,none⟩) (xs.length+1) cap7) (xs.length+1) (opL xs++[.pointer (some ⟨a,0,none⟩)])->w'.grownBy w7 vO.ownBlock->(vO.ownBlock=some g7\/w'.heap.size<=g7)->w7.cell? ⟨bo,0,none⟩=some vO/\w7.frozen? ⟨bo,0,none⟩=false/\AdS w pl bf bo bp (w7.setCell ⟨bo,0,none⟩ (.slice (some ⟨g7,0,none⟩) (xs.length+1) cap7)) Q2 (.slice (some ⟨g7,0,none⟩) (xs.length+1) cap7) (xs++[(a,x)])/\zan (fun k=>vO.ownBlock=some k\/k=bo) wr (w7.setCell ⟨bo,0,none⟩ (.slice (some ⟨g7,0,none⟩) (xs.length+1) cap7))/\∀k,(Value.slice (some ⟨g7,0,none⟩) (xs.length+1) cap7).ownBlock=some k->vO.ownBlock=some k\/wr.heap.size<=k):=fun e w' hR=>by
  obtain⟨a,Q2,rfl,hb2,hK2⟩:=hA0.kd.add hR;have hA2:=hA0.below hb2;have hs2:=hb2.size;refine⟨a,Q2,rfl,hA2.own,hK2.bel.size,(zrc.1 hA2.xo).1,(zsm _ _ _ _ _ _ hA2.xo:_=_),fun w7 g7 cap7 h1 h2 h3=>?_⟩;obtain⟨k1,k2⟩:=AdS.push hK2 hA2.own hA2.xf hA2.xo hA2.xp hA2.lo h1 h2 h3;refine⟨(zsm _ _ _ _ _ _ k1:_=_),zso _ _ 0 _ _ k1,k2,?_,fun k e=>?_⟩
  ·have t1:zan (fun k=>vO.ownBlock=some k\/k=bo) W0.drew w':=.of_below hb2;exact(((zan.of_below hb0.drew).thenT t1 (fun _ _ e=>e)).grown h2 (fun k e=>.inl (.inl e))).grown (zaK w7 bo 0 _) (fun k e=>.inl (.inr (Option.some.inj e).symm))
  ·have e:g7=k:=by simpa [Value.ownBlock] using e
   subst e;rcases h3 with h|h
   ·exact .inl h
   ·have:=hb0.size;have h5:W0.drew.heap.size=W0.heap.size:=rfl;exact .inr (by omega)
 have hbo:=(zrc.1 hA0.xo).1;have hcE:Calls Tryz.prog 40 #[.pointer (some ⟨pl,0,none⟩),.iface t1 x1] W0.drew fun e w'=>∃v,e=.returned v/\PcR W0.drew pl x (.returned v) w':=hc.mono fun e w' h=>by
  obtain⟨a,Q2,rfl,h2⟩:=h;exact⟨_,rfl,a,Q2,rfl,h2⟩
 have HW0:=hidF hW0;clear hA hA0 hc hT hW0
 go_enter Tryz.func81,Tryz.ntmps81
 go_upto_region 4 with fail
 rw[HW0.out];clear HW0
 go_region_law ((first|(refine zb9 (by rfl) 40 #[.tmp 22,.tmp 23] #[56,85] (by rfl) #[.pointer (some ⟨pl,0,none⟩),.iface t1 x1] (by simp[Act.eval]) _ (zew _ _) hcE ?_;intro v4 W4 hR4;obtain⟨a4,Q4,hv4,own4,hs4,hbo4,co4,Hn4⟩:=Hnx.out _ W4 hR4;injection hv4 with hv4;subst hv4;have co5:(W4.alloc (.cells #[.pointer (some ⟨a4,0,none⟩)] 86)).cell? ⟨bo,0,none⟩=some vO:=(((Below.refl W4.heap.size W4).alloc (zsa _) _).cell (p:=⟨bo,0,none⟩) hbo4).trans co4;have Hn4:=hidF Hn4;clear hR4)|(refine zdh (by rfl) (.tmp 21) (.tmp 25) 81 (by rfl) W4 #[.pointer (some ⟨a4,0,none⟩)] 86 (by rfl) W4.heap.size (by rfl) w.heap.size i0 _ 1 8 Tryz.underlying81 hi hz0 hz1 hz2 (by rfl) (by omega) vO xs.length (opL xs) (by rfl) own4 (by rfl) (by rfl) (by intro u hu;simp at hu;subst hu;rfl) (by omega) (by omega) hs4 ?_;intro g7 cap7 W7 own7 grow7 at7;obtain⟨co7,fo7,hA7⟩:=Hn4.out W7 g7 cap7 own7 grow7 at7;have HA7:=hidF hA7;clear own7 grow7 at7 hA7)|fail))
 all_goals exact bodyPost_end (v:=.tuple #[]) (results_none rfl _ _ _) rfl ⟨Q4,_,[(a4,x)],rfl,HA7.out.1,by rw[hf];rfl,HA7.out.2⟩
theorem ziX:∀(x:Pt),(∀q,q∈zaW x->zce q)->AddC w pl bf bo bp x
 |.alt l r,h=>zpO l r (ziX l fun q hq=>h q (zrR.2 (.inl hq))) (ziX r fun q hq=>h q (zrR.2 (.inr hq)))
 |.set _,h=>zg3 _ rfl (h _ (zrY.2 rfl))
 |.seq _ _,h=>zg3 _ rfl (h _ (zrY.2 rfl))
 |.rep _ _ _,h=>zg3 _ rfl (h _ (zrY.2 rfl))
 |.grp _ _,h=>zg3 _ rfl (h _ (zrY.2 rfl))
end
section
variable {xs:List (Nat×Pt)}
theorem zkI{w:World}{B go cap:Nat}(hr:w.ownsRow B 86 1 (.slice (some ⟨go,0,none⟩) xs.length cap) xs.length (opL xs)){i:Nat}{x:Nat×Pt}(hx:xs[i]?=some x):w.cell? ⟨go,i,none⟩=some (.pointer (some ⟨x.1,0,none⟩)):=by
 have e:(⟨go,0,none⟩:Addr).add i=⟨go,i,none⟩:=by unfold Addr.add;split<;>simp_all
 have:=zcR hr i (.pointer (some ⟨x.1,0,none⟩)) (by simp[opL,hx]);rw[e] at this;exact this
def opA(xs:List (Nat×Pt))(i:Nat):Nat:=(xs.getD i (0,.set fun _=>false)).1
def opQ(xs:List (Nat×Pt))(i:Nat):Pt:=(xs.getD i (0,.set fun _=>false)).2
theorem zis{i:Nat}(hi:i<xs.length):xs[i]?=some (opA xs i,opQ xs i):=by
 unfold opA opQ;rw[zrw,zrD hi]
 rfl
theorem zi8(l r:Pt)(hIH:∀q,mz q<mz (.alt l r)->zce q)(pl:Nat)(lv rv:Value)(w:World)(hl:zai w lv l)(hr:zai w rv r)(hw:wPt (.alt l r)<=2000):
  Calls Tryz.prog 61 #[.pointer (some ⟨pl,0,none⟩),.agg #[lv,rv]] w fun e w'=>FmR w pl (.alt l r) e w':=by
 have hT0:zai w (.iface 118 (.agg #[lv,rv])) (.alt l r):=⟨lv,rv,rfl,hl,hr⟩;have hlen:=zdZ _ _ hT0 hw;obtain⟨t1,x1,rfl⟩:=zaz hl;obtain⟨t2,x2,rfl⟩:=zaz hr;obtain⟨W4,hW4⟩:∃W4,(((w.alloc (.cells #[.pointer (some ⟨pl,0,none⟩)] 56)).alloc (.cells #[.iface t1 x1,.iface t2 x2] 118)).alloc (.cells #[] 86)).alloc (.cells #[.slice (some ⟨w.heap.size+1+1,0,none⟩) 0 0] 81)=W4:=⟨_,rfl⟩;have hs4:W4.heap.size=w.heap.size+1+1+1+1:=by rw[<-hW4];simp
 have hb4:Below w.heap.size w W4:=by rw[<-hW4];exact((((Below.refl _ _).alloc (zsa _) _).alloc (by simp) _).alloc (by simp;omega) _).alloc (by simp;omega) _
 have q0:W4.heap[w.heap.size]?=some (.cells #[.pointer (some ⟨pl,0,none⟩)] 56 (0,0)):=by rw[<-hW4];exact zah (zah (zah (zsp _ _)))
 have q1:W4.heap[w.heap.size+1]?=some (.cells #[.iface t1 x1,.iface t2 x2] 118 (0,0)):=by rw[<-hW4];exact zah (zah (zcs _ _ _))
 have q2:W4.heap[w.heap.size+1+1]?=some (.cells #[] 86 (0,0)):=by
  rw[<-hW4];refine zah ?_;have:=zsp ((w.alloc (.cells #[.pointer (some ⟨pl,0,none⟩)] 56)).alloc (.cells #[.iface t1 x1,.iface t2 x2] 118)) (.cells #[] 86)
  simpa using this
 have q3:W4.heap[w.heap.size+1+1+1]?=some (.cells #[.slice (some ⟨w.heap.size+1+1,0,none⟩) 0 0] 81 (0,0)):=by
  rw[<-hW4];have:=zsp (((w.alloc (.cells #[.pointer (some ⟨pl,0,none⟩)] 56)).alloc (.cells #[.iface t1 x1,.iface t2 x2] 118)).alloc (.cells #[] 86)) (.cells #[.slice (some ⟨w.heap.size+1+1,0,none⟩) 0 0] 81)
  simpa using this
 have hadd:=ziX (w:=w) (pl:=pl) (bf:=W4.heap.size) (bo:=w.heap.size+1+1+1) (bp:=w.heap.size) (.alt l r) (fun q hq=>hIH q (by
  rcases zrR.1 (show q∈zaW l++zaW r from hq) with h|h
  ·have:=zdp l q h;exact zdO (by simp[szT];omega)
  ·have:=zdp r q h;exact zdO (by simp[szT];omega)))
 have st:=zcI (P:=Tryz.prog) W4 #[.nilFunc] 162 (.func (.func 81) #[] #[.pointer (some ⟨W4.heap.size,0,none⟩),.pointer (some ⟨w.heap.size+1+1+1,0,none⟩),.pointer (some ⟨w.heap.size,0,none⟩)]) rfl 0 (by simp);simp only[List.setIfInBounds_toArray,List.set_cons_zero] at st;obtain⟨W5,hW5⟩:∃W5,W4.alloc (.cells #[.func (.func 81) #[] #[.pointer (some ⟨W4.heap.size,0,none⟩),.pointer (some ⟨w.heap.size+1+1+1,0,none⟩),.pointer (some ⟨w.heap.size,0,none⟩)]] 162)=W5:=⟨_,rfl⟩;have hb5:Below W4.heap.size W4 W5:=by rw[<-hW5];exact(Below.refl _ _).alloc (zsa _) _
 have q4:W5.heap[W4.heap.size]?=some (.cells #[.func (.func 81) #[] #[.pointer (some ⟨W4.heap.size,0,none⟩),.pointer (some ⟨w.heap.size+1+1+1,0,none⟩),.pointer (some ⟨w.heap.size,0,none⟩)]] 162 (0,0)):=by rw[<-hW5];exact zsp _ _
 have z:∀k,k<W4.heap.size->W5.heap[k]?=W4.heap[k]?:=hb5.block;have p0:=(z _ (by omega)).trans q0;have p1:=(z _ (by omega)).trans q1;have p2:=(z _ (by omega)).trans q2;have p3:=(z _ (by omega)).trans q3;have hb05:Below w.heap.size w W5:=zaa hb4 hb4.size hb5;have hA5:AdS w pl W4.heap.size (w.heap.size+1+1+1) w.heap.size W5 (fun _=>none) (.slice (some ⟨w.heap.size+1+1,0,none⟩) 0 0) []:=
  ⟨KdR.start w pl _ W5 hb05 (fun k e=>by
   rcases e with e|e
   ·have e:w.heap.size+1+1=k:=by simpa [Value.ownBlock] using e
    subst e;exact⟨by omega,_,_,p2,by decide,by decide⟩
   ·subst e;exact⟨by omega,_,_,p3,by decide,by decide⟩),⟨rfl,.inr ⟨w.heap.size+1+1,0,#[],rfl,by omega,p2,zsa _,by unfold maxLen;omega,rfl,rfl⟩⟩,q4,p3,p0,by omega⟩
 have hc:=hadd W5 _ _ [] _ hA5 hT0 hw (by simp;omega);have c1:=(zay p1).1;have c2:=(zay p1).2;have cf:W5.cell? ⟨W4.heap.size,0,none⟩=some (.func (.func 81) #[] #[.pointer (some ⟨W4.heap.size,0,none⟩),.pointer (some ⟨w.heap.size+1+1+1,0,none⟩),.pointer (some ⟨w.heap.size,0,none⟩)]):=(zsm _ _ _ _ _ _ q4:_=_);rw[hs4] at st hW5 hc cf;clear hIH hl hr hT0 hadd hA5 q0 q1 q2 q3 q4 p0 p1 p2 p3 z
 go_enter Tryz.func61,Tryz.ntmps61
 go_wp2_with fail
 refine hc.mono ?_;rintro e6 W6 ⟨Q6,vO6,ys,rfl,hA6,hy,-,-⟩;rw[zrZ] at hA6;have hyl:ys.length=(zaW (.alt l r)).length:=by rw[<-hy];simp
 have hpos:=zc2 (.alt l r);obtain⟨n6,hn6⟩:∃n,ys.length=n:=⟨_,rfl⟩;obtain⟨g6,cap6,rfl⟩:∃g cap,vO6=.slice (some ⟨g,0,none⟩) n6 cap:=by
  rcases hA6.own.2 with ⟨_,e2⟩|⟨g,cap,cur,e,_⟩
  ·omega
  ·exact⟨g,cap,by rw[e,hn6]⟩
 have co:W6.cell? ⟨w.heap.size+1+1+1,0,none⟩=some (.slice (some ⟨g6,0,none⟩) n6 cap6):=(zsm _ _ _ _ _ _ hA6.xo:_=_);have hox:=(zrc.1 hA6.xo).1;have hct:Calls Tryz.prog 82 #[.slice (some ⟨g6,0,none⟩) n6 cap6,.func (.func 83) #[] #[]] W6 fun e w'=>∃b:Bool,e=.returned (.bool b)/\Hid (b=false->noG (.alt l r))/\Below W6.heap.size W6 w':=by
  have hat:∀i,i<n6->PcAt w.heap.size W6 pl Q6 (opA ys i) (opQ ys i):=fun i hi=>hA6.kd.fin _ (zrW (zis (xs:=ys) (i:=i) (by omega)))
  obtain⟨fs,f1,f2,f3⟩:=zkp n6 (opA ys) (opQ ys) hat;refine(zhT g6 cap6 n6 (opA ys) fs W6 (fun i hi=>?_) f1 f2 (by omega)).mono ?_
  ·have:=hA6.own;rw[<-hn6] at this;exact zkI this (zis (by omega))
  ·rintro e w' ⟨b,rfl,k1,k2,hb⟩;refine⟨b,rfl,fun e=>zfs _ fun q hq=>?_,hb⟩;rw[<-hy] at hq;obtain⟨x,hx,rfl⟩:=zrV.1 hq;obtain⟨i,hi,rfl⟩:=List.getElem_of_mem hx;have h3:=f3 i (by omega) (k1 e i (by omega));have h4:=zis (xs:=ys) (i:=i) hi;rw[zrD hi] at h4;rw[Option.some.inj h4];exact h3
 have HA6:=hidF hA6;have Hy:=hidF hy;clear hc hA6 hy c1 c2 cf st hW4 hW5 hb4 hb5 hb05
 go_wp2_with fail
 refine hct.mono ?_;rintro e8 W8 ⟨b8,rfl,Hno,hb8⟩;have hA8:=HA6.out.below hb8;have co8:=(hb8.cell (p:=⟨w.heap.size+1+1+1,0,none⟩) hox).trans co;have hbel:=hA8.kd.bel;cases b8 with
 |false=>
  have HF:Hid (FmR w pl (.alt l r) (.returned .nilIface) W8):=⟨Q6,.nilIface,rfl,hbel,hA8.kd.pm,zmK (Hno.out rfl)⟩;clear hA8 Hno hct;go_wp2;go_ret;exact HF.out
 |true=>
  have HF:Hid (FmR w pl (.alt l r) (.returned (.iface 167 (.agg #[.slice (some ⟨g6,0,none⟩) n6 cap6]))) W8):=by
   refine⟨Q6,_,rfl,hbel,hA8.kd.pm,?_⟩;have h1:=hA8.own;have h2:=hA8.kd.fin;rw[<-hn6] at h1 ⊢;exact zlo h1 Hy.out h2
  clear hA8 Hno hct;go_wp2;go_ret;exact HF.out
end
variable {w:World}
def FmB(a lo:Nat)(w:World)(pl:Nat)(Q:Nat->Option Pt)(p:Pt)(f:Value):Prop:=
 (f=.nilIface\/∃t x,f=.iface t x)/\∀(lo1:Nat) (w1:World) (Q1:Nat->Option Pt),lo1<=lo->(∀k,lo<=k->k<w.heap.size->w1.heap[k]?=w.heap[k]?)->zaJ w w1->(∀k q,Q k=some q->Q1 k=some q)->PcB lo1 w1 pl Q1 a p f->PcAt lo1 w1 pl Q1 a p
theorem FmA.to{lo:Nat}{pl:Nat}{Q:Nat->Option Pt}{p:Pt}{f:Value}(h:FmA lo w pl Q p f)(a:Nat):FmB a lo w pl Q p f:=⟨h.1,fun lo1 w1 Q1=>h.2 lo1 w1 Q1 a⟩
def RpR(a lo:Nat)(Q0:Nat->Option Pt)(w:World)(pl:Nat)(p:Pt)(e:Ending)(w':World):Prop:=
 ∃(Q:Nat->Option Pt) (f:Value),e=.returned f/\Below w.heap.size w w'/\PcM lo w' pl Q/\(∀k q,Q0 k=some q->Q k=some q)/\FmB a lo w' pl Q p f
theorem zqk(a:Nat)(b:Pt)(o:Bool)(m:Nat):pr2 (.pointer (some ⟨a,0,none⟩)) (.bool o) m=lkL (List.replicate m (a,(b,o))):=by
 induction m with
 |zero=>rfl
 |succ m ih=>
  rw[List.replicate_succ',zcG,<-ih];show pr2 _ _ (m+1)=pr2 _ _ m++[.pointer (some ⟨a,0,none⟩),.bool o];unfold pr2;rw[show (m+1)*2=m*2+1+1 from by omega,zr3,zr3];simp
theorem zgt(pl:Nat)(bv:Value)(b:Pt)(w:World)(a a' lo:Nat)(Q0:Nat->Option Pt)(hT:zai w bv b)(hp:PcAt lo w pl Q0 a' b)(hm:PcM lo w pl Q0):
  Calls Tryz.prog 62 #[.pointer (some ⟨pl,0,none⟩),.agg #[bv,.int .i64 0,.int .i64 (-1)],.pointer (some ⟨a,0,none⟩),.pointer (some ⟨a',0,none⟩)] w fun e w'=>RpR a lo Q0 w pl (.rep b 0 (-1)) e w':=by
 obtain⟨t1,x1,rfl⟩:=zaz hT;have hb0:Below w.heap.size w (w.alloc (.cells #[.iface t1 x1,.int .i64 0,.int .i64 (-1)] 121)):=(Below.refl _ _).alloc (zsa _) _;have HF:Hid (RpR a lo Q0 w pl (.rep b 0 (-1)) (.returned (.iface 169 (.agg #[.pointer (some ⟨a,0,none⟩),.pointer (some ⟨a',0,none⟩)]))) (w.alloc (.cells #[.iface t1 x1,.int .i64 0,.int .i64 (-1)] 121))):=by
  refine⟨Q0,_,rfl,hb0,hm.keep (zsa _) (fun k _ hk=>hb0.block k hk) (zaF hb0),fun _ _ e=>e,.inr ⟨_,_,rfl⟩,fun lo1 w1 Q1 h1 h2 h3 h4 h5=>?_⟩;exact .rounds a a' b h5 (hp.keep h1 (fun k k1 k2=>(h2 k k1 (zsc k2 hb0.size)).trans (hb0.block k k2)) ((zaF hb0).trans h3) h4)
 clear hT hp hm hb0
 go_enter Tryz.func62,Tryz.ntmps62
 go_wp2;go_ret;exact HF.out
theorem zb3{g:Nat}{a0 a1 a2:Value}{t:TypeId}(h:w.heap[g]?=some (.cells #[a0,a1,a2] t (0,0))):w.cell? ⟨g,0,none⟩=some a0/\w.cell? ⟨g,1,none⟩=some a1/\w.cell? ⟨g,2,none⟩=some a2:=by
 have:∀o,w.cell? ⟨g,o,none⟩=#[a0,a1,a2][o]?:=fun _=>zsm _ _ _ _ _ _ h
 exact⟨this 0,this 1,this 2⟩
def rpX(a':Nat)(b:Pt)(m k:Nat):List (Nat×Lnk):=List.replicate m (a',(b,false))++List.replicate k (a',(b,true))
theorem zqp(a':Nat)(b:Pt)(m k:Nat):(rpX a' b m k).length=m+k:=by simp[rpX]
theorem zph(a':Nat)(b:Pt)(m k:Nat):rpX a' b m (k+1)=rpX a' b m k++[(a',(b,true))]:=by simp[rpX,List.replicate_succ']
theorem znL{a':Nat}{b:Pt}{m k:Nat}{x:Nat×Lnk}(h:x∈rpX a' b m k):x.1=a'/\x.2.1=b:=by
 rcases zrR.1 h with h|h<;>rw[(List.mem_replicate.1 h).2]<;>exact⟨rfl,rfl⟩
theorem zgs(pl:Nat)(bv:Value)(b:Pt)(m:Nat)(mx:Int)(hbd:zaD (m:Int) mx=true)(hne:¬((m:Int)=0/\mx=-1))(w:World)(a a' lo:Nat)(Q0:Nat->Option Pt)(hT:zai w bv b)(hwb:wPt b<=2000)(hp:PcAt lo w pl Q0 a' b)(hm:PcM lo w pl Q0)(hlo:lo<=w.heap.size):
  Calls Tryz.prog 62 #[.pointer (some ⟨pl,0,none⟩),.agg #[bv,.int .i64 (m:Int),.int .i64 mx],.pointer (some ⟨a,0,none⟩),.pointer (some ⟨a',0,none⟩)] w fun e w'=>RpR a lo Q0 w pl (.rep b m mx) e w':=by
 obtain⟨i0,hi,hz0,hz1,hz2⟩:=info_parts Tryz.infoLink;obtain⟨t1,x1,rfl⟩:=zaz hT;have hbb:m<=255/\(mx=-1\/((m:Int)<=mx/\mx<=255)):=by simp[zaD] at hbd;omega
 obtain⟨hm9,hmx⟩:=hbb;obtain⟨d,Hd⟩:∃d,Hid ((mx-(m:Int)).toNat=d):=⟨_,rfl⟩;have hd9:d<=255:=by have:=Hd.out;omega
 have hdl:∀k:Nat,(k:Int)<mx-(m:Int)↔k<d:=fun k=>by have:=Hd.out;omega
 obtain⟨W0,hW0⟩:∃W0,w.alloc (.cells #[.iface t1 x1,.int .i64 (m:Int),.int .i64 mx] 121)=W0:=⟨_,rfl⟩;have hb0:Below w.heap.size w W0:=by rw[<-hW0];exact(Below.refl _ _).alloc (zsa _) _
 have x0:W0.heap[w.heap.size]?=some (.cells #[.iface t1 x1,.int .i64 (m:Int),.int .i64 mx] 121 (0,0)):=by rw[<-hW0];exact zsp _ _
 obtain⟨c0,c1,c2⟩:=zb3 x0;have HT:=hidF hT;have Hp:=hidF hp;have Hm:=hidF hm;have hlx:∀k,(rpX a' b m k).length=m+k:=zqp a' b m;have HW0:=hidF hW0;clear hT hp hm hW0
 go_enter Tryz.func62,Tryz.ntmps62
 go_upto_region 1 with fail
 rw[HW0.out]
 go_cut [18] from 11 to 18 (fun v18 wx=>v18=.bool false/\wx=W0)
 case first=>
  by_cases h0:m=0
  ·subst h0;have h2:(mx == -1)=false:=by simp;omega
   go_wp2
   go_meet
   exact⟨rfl,rfl⟩
  ·have h2:((m:Int)==0)=false:=by simp;omega
   go_wp2
   go_meet
   exact⟨rfl,rfl⟩
 case rest=>
  obtain⟨rfl,rfl⟩:=hcut;obtain⟨W1,hW1⟩:∃W1,wc.alloc (.cells #[.pointer (some ⟨a',0,none⟩),.bool false] 155)=W1:=⟨_,rfl⟩;have hb1:Below wc.heap.size wc W1:=by rw[<-hW1];exact(Below.refl _ _).alloc (zsa _) _
  have y1:W1.heap[wc.heap.size]?=some (.cells #[.pointer (some ⟨a',0,none⟩),.bool false] 155 (0,0)):=by rw[<-hW1];exact zsp _ _
  have hrp:=zht (.pointer (some ⟨a',0,none⟩)) (.bool false) rfl rfl wc.heap.size m W1 (zay y1).1 (zay y1).2 (by omega);have x1':=(hb1.block _ (zrc.1 x0).1).trans x0;obtain⟨e0,e1,e2⟩:=zb3 x1';have hb01:Below w.heap.size w W1:=zaa hb0 hb0.size hb1;clear c0 c1 c2 x0 y1 HW0
  go_wp2_with fail
  refine hrp.mono ?_;rintro e W2 ⟨rfl,own2,hb2⟩;rw[zqk a' b] at own2;have hb02:Below w.heap.size w W2:=zaa hb01 hb01.size hb2;have x2':=(hb2.block _ (zrc.1 x1').1).trans x1';obtain⟨g0,g1,g2⟩:=zb3 x2';have Hx2:=hidF x2';have Hown2:Hid (W2.ownsRow w.heap.size 155 2 (.slice (some ⟨W1.heap.size,0,none⟩) (m+0) m) (m+0) (lkL (rpX a' b m 0))):=by
   show World.ownsRow _ _ _ _ _ _ _;have:rpX a' b m 0=List.replicate m (a',(b,false)):=by simp[rpX]
   rw[this];exact zdy own2 hb01.size
  clear hrp own2 e0 e1 e2 x1' x2' hW1;have hs1:-9223372036854775808<=mx-(m:Int):=by omega
  have hs2:mx-(m:Int)<=9223372036854775807:=by omega
  go_wp2;clear g0 g1 g2
  go_loopw [9,34] (fun lv iv wr=>∃(k gL capL:Nat),lv=.slice (some ⟨gL,0,none⟩) (m+k) capL/\iv=.int .i64 k/\k<=d/\Hid (Below w.heap.size w wr)/\Hid (wr.heap[w.heap.size]?=some (.cells #[.iface t1 x1,.int .i64 (m:Int),.int .i64 mx] 121 (0,0)))/\Hid (wr.ownsRow w.heap.size 155 2 (.slice (some ⟨gL,0,none⟩) (m+k) capL) (m+k) (lkL (rpX a' b m k))))
   (fun _ iv _=>d-(intOf iv).toNat)
  case atStart=>exact⟨0,W1.heap.size,m,rfl,rfl,zsj _,hb02,Hx2,Hown2⟩
  case round=>
   clear Hown2 hb02 hb2 hb1;obtain⟨k,gL,capL,rfl,rfl,hk,HB,HX,HO⟩:=hrel;have hwr:=HB.out.size
   by_cases hlt:k<d
   ·have hdk:decide ((k:Int)<mx-(m:Int))=true:=by simp;exact(hdl k).2 hlt
    have own:=HO.out
    go_wp2_with (at_builtin;refine zaS rfl (.tmp 36) (.tmp 39) 156 rfl wr #[.pointer (some ⟨a',0,none⟩),.bool true] 155 rfl wr.heap.size rfl w.heap.size i0 _ 2 16 Tryz.underlying156 hi hz0 hz1 hz2 rfl (by omega) _ (m+k) (lkL (rpX a' b m k)) rfl own rfl rfl (by intro u hu;simp at hu;rcases hu with rfl|rfl<;>rfl) (by omega) (by omega) hwr ?_;intro g7 cap7 W7 own7 grow7 at7)
    have hgl:=(zcP own).2.1;have HB7:Hid (Below w.heap.size w W7):=HB.out.grown grow7 hwr (by intro k' h;have h:some gL=some k':=h;injection h with h;omega);have HX7:Hid (W7.heap[w.heap.size]?=some (.cells #[.iface t1 x1,.int .i64 (m:Int),.int .i64 mx] 121 (0,0))):=(grow7.block _ (zrc.1 HX.out).1 (fun e=>by
     obtain⟨_,cur,z2⟩:=zaR own (k:=w.heap.size) e.symm;have hX:=HX.out;rw[hX] at z2;exact absurd (zad z2) (by decide))).trans HX.out
    have HO7:Hid (W7.ownsRow w.heap.size 155 2 (.slice (some ⟨g7,0,none⟩) (m+(k+1)) cap7) (m+(k+1)) (lkL (rpX a' b m (k+1)))):=by
     show World.ownsRow _ _ _ _ _ _ _;rw[zph,zcG];exact own7
    clear own own7 grow7 at7 HB HX HO
    go_roundw
    case rel=>exact⟨k+1,g7,cap7,by rw[Nat.add_assoc],by go_num,by omega,HB7,HX7,HO7⟩
    case measure=>simp[intOf];omega
   ·obtain rfl:k=d:=by omega
    have hdk:decide ((k:Int)<mx-(m:Int))=false:=by simp;have:=hdl k;omega
    obtain⟨g0,g1,g2⟩:=zb3 HX.out;have hpw:∀W,Below w.heap.size w W->PcAt lo W pl Q0 a' b:=fun W hb=>Hp.out.keep (zsa _) (fun j _ h2=>hb.block j h2) (zaF hb) (fun _ _ e=>e)
    have hmw:∀W,Below w.heap.size w W->PcM lo W pl Q0:=fun W hb=>Hm.out.keep (zsa _) (fun j _ h2=>hb.block j h2) (zaF hb)
    have Hpw:=hidF hpw;have Hmw:=hidF hmw;clear hpw hmw;rcases hmx with rfl|⟨hmx1,hmx2⟩
    ·
     obtain⟨n7,Hn7⟩:∃n7,Hid (m+k=n7):=⟨_,rfl⟩;have hn79:n7<=2000:=by have:=Hn7.out;omega
     have own:=HO.out;rw[Hn7.out] at own ⊢;obtain⟨W3,hW3⟩:∃W3,wr.alloc (.cells #[.pointer (some ⟨pl,0,none⟩),.iface 121 (.agg #[.iface t1 x1,.int .i64 0,.int .i64 (-1)]),.iface 169 (.agg #[.pointer (some ⟨wr.heap.size,0,none⟩),.pointer (some ⟨a',0,none⟩)]),.pointer none] 114)=W3:=⟨_,rfl⟩;have hb3:Below wr.heap.size wr W3:=by rw[<-hW3];exact(Below.refl _ _).alloc (zsa _) _
     have s3:W3.heap[wr.heap.size]?=some (.cells #[.pointer (some ⟨pl,0,none⟩),.iface 121 (.agg #[.iface t1 x1,.int .i64 0,.int .i64 (-1)]),.iface 169 (.agg #[.pointer (some ⟨wr.heap.size,0,none⟩),.pointer (some ⟨a',0,none⟩)]),.pointer none] 114 (0,0)):=by rw[<-hW3];exact zsp _ _
     have own3:=zab own hb3;have hb03:Below w.heap.size w W3:=zaa HB.out hwr hb3;have hs3:=hb03.size;have HFin:Hid (∀W7 g7 cap7,W7.ownsRow w.heap.size 155 2 (.slice (some ⟨g7,0,none⟩) (n7+1) cap7) (n7+1) (lkL (rpX a' b m k)++[.pointer (some ⟨wr.heap.size,0,none⟩),.bool false])->W3.grownBy W7 (some gL)->RpR a lo Q0 w pl (.rep b m (-1)) (.returned (.iface 161 (.agg #[.slice (some ⟨g7,0,none⟩) (n7+1) cap7]))) W7):=fun W7 g7 cap7 own7 grow7=>by
      have hgl:=(zcP own).2.1;have hb07:Below w.heap.size w W7:=hb03.grown grow7 hs3 (by intro k' h;have h:some gL=some k':=h;injection h with h;omega);have s7:=(grow7.block _ (zrc.1 s3).1 (fun e=>by
       obtain⟨_,cur,z2⟩:=zaR own3 (k:=wr.heap.size) (by simp[Value.ownBlock];injection e with e;exact e.symm);rw[s3] at z2;exact absurd (zad z2) (by decide))).trans s3
      have hT7:zai W7 (.iface t1 x1) b:=zai.keep (zaF hb07) b _ HT.out;have hTs:zai W7 (.iface 121 (.agg #[.iface t1 x1,.int .i64 0,.int .i64 (-1)])) (.rep b 0 (-1)):=⟨_,rfl,hT7,by decide⟩;have hQn:Q0 wr.heap.size=none:=Hm.out.high hwr;have hp7:=Hpw.out W7 hb07;have hq:∀j q,Q0 j=some q->qU Q0 (qOne wr.heap.size (.rep b 0 (-1))) j=some q:=fun j q e=>zjU e
      have hqs:qU Q0 (qOne wr.heap.size (.rep b 0 (-1))) wr.heap.size=some (.rep b 0 (-1)):=zhp hQn (zfW _ _);have hws:wPt (.rep b 0 (-1))<=2000:=by rw[zkZ hwb];exact hwb
      have hPs:PcAt lo W7 pl (qU Q0 (qOne wr.heap.size (.rep b 0 (-1)))) wr.heap.size (.rep b 0 (-1)):=.rounds _ a' b ⟨by omega,hqs,⟨_,s7,hTs⟩,hws⟩ (hp7.keep (zsa _) (fun _ _ _=>rfl) (fun _ _ e=>e) hq);refine⟨qU Q0 (qOne wr.heap.size (.rep b 0 (-1))),_,rfl,hb07,(Hmw.out W7 hb07).union (fun j q e=>?_),hq,?_⟩
      ·obtain⟨rfl,rfl⟩:=zjT e;exact⟨by omega,hws,_,_,s7,hTs⟩
      ·obtain⟨xs,hxs⟩:∃xs,rpX a' b m k++[(wr.heap.size,(.rep b 0 (-1),false))]=xs:=⟨_,rfl⟩;have hxl:xs.length=n7+1:=by rw[<-hxs,<-Hn7.out];simp[hlx]
       have hk0:k=0:=by have:=Hd.out;omega
       have hmap:xs.map Prod.snd=zba (.rep b m (-1)):=by
        rw[<-hxs];subst hk0;show _=repL b (m:Int).toNat (-1);unfold repL;rw[zri,zst rfl,show ((-1:Int)-((m:Nat):Int)).toNat=0 from by omega];simp[rpX]
       have e7:lkL xs=lkL (rpX a' b m k)++[.pointer (some ⟨wr.heap.size,0,none⟩),.bool false]:=by rw[<-hxs,zcG];rfl
       rw[<-e7,<-hxl] at own7;rw[<-hxl];exact(zft (zdy own7 hlo) hmap (fun _ _ e=>(by cases e)) (fun _ _ e=>(by cases e)) (fun b' e=>by injection e with _ e1;exact hne ⟨e1,rfl⟩) (fun _ e=>(by cases e)) (fun x hx=>by
        rw[<-hxs] at hx;rcases zrR.1 hx with hx|hx
        ·obtain⟨z1,z2⟩:=znL hx;rw[z1,z2];exact hp7.keep (zsa _) (fun _ _ _=>rfl) (fun _ _ e=>e) hq
        ·rw[zrY.1 hx];exact hPs)).to a
     clear HB HX HO Hpw Hmw s3 hb3
     go_wp2_with (at_builtin;refine zaS rfl (.tmp 59) (.tmp 62) 156 rfl W3 #[.pointer (some ⟨wr.heap.size,0,none⟩),.bool false] 155 rfl W3.heap.size rfl w.heap.size i0 _ 2 16 Tryz.underlying156 hi hz0 hz1 hz2 rfl (by omega) _ n7 (lkL (rpX a' b m k)) rfl own3 rfl rfl (by intro u hu;simp at hu;rcases hu with rfl|rfl<;>rfl) (by omega) (by omega) hs3 ?_;intro g7 cap7 W7 own7 grow7 at7;have HF:=hidF (HFin.out W7 g7 cap7 own7 grow7);clear own7 grow7 at7)
     go_ret
     exact HF.out
    ·have HF:Hid (RpR a lo Q0 w pl (.rep b m mx) (.returned (.iface 161 (.agg #[.slice (some ⟨gL,0,none⟩) (m+k) capL]))) wr):=by
      refine⟨Q0,_,rfl,HB.out,Hmw.out wr HB.out,fun _ _ e=>e,?_⟩;have hmap:(rpX a' b m k).map Prod.snd=zba (.rep b m mx):=by
       show _=repL b (m:Int).toNat mx;unfold repL;rw[zri,zss (by omega),Hd.out];simp[rpX]
      have own:=HO.out;rw[<-hlx k] at own ⊢;exact(zft (zdy own hlo) hmap (fun _ _ e=>(by cases e)) (fun _ _ e=>(by cases e)) (fun b' e=>by injection e with _ e1 e2;exact hne ⟨e1,e2⟩) (fun _ e=>(by cases e)) (fun x hx=>by
       obtain⟨z1,z2⟩:=znL hx;rw[z1,z2];exact Hpw.out wr HB.out)).to a
     have hd2:(mx == -1)=false:=by simp;omega
     clear HB HX HO Hpw Hmw;go_wp2;go_ret;exact HF.out
end Go.Proofs.YthdljcdbfmhleaaGreatDoor
