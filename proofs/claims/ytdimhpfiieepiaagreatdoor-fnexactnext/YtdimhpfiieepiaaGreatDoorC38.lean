import Derived.Test.YtdimhpfiieepiaaGreatDoorC37
namespace Go.Proofs.YtdimhpfiieepiaaGreatDoor
set_option maxHeartbeats 1000000
set_option maxRecDepth 100000
open Go.RowKit
attribute [local go_sem ↓] Go.wp_at_zero Go.wp_at_succ
section
section
variable {w0:World} {pl:Nat} {Q:Nat->Option Pt} {a:Nat} {p:Pt} {Ow:Nat->Nat->Prop} {w:World} {s:Nat} {X:Nat->Prop} {v:StV} {ra rb:RdV} {O1 O2:Nat->Prop}
theorem PnI.okP(h:PnI w0 pl Q Ow w)(ha:Q a=some p):OkP p:=by
 obtain⟨v,f,k,-,-,h1,-⟩:=h.pc a p ha;exact zdP p v h1
theorem PnI.tk(h:PnI w0 pl Q Ow w)(ha:Q a=some p):(unD p 0).Tk (In p):=zej p (h.okP ha) 0
def BkO(w0:World)(pl:Nat)(Q:Nat->Option Pt)(a:Nat)(p:Pt)(Ow:Nat->Nat->Prop)(w:World)(s:Nat)(X:Nat->Prop)(v:StV)(ra rb:RdV)(O1 O2:Nat->Prop)(ne:Nat)(u:Word)(E:Nat->Prop)(e:Ending)(w':World):Prop:=
 ∃(Ow':Nat->Nat->Prop) (X':Nat->Prop) (high t gs:Nat) (b':RdV) (O:Nat->Prop) (S:Nat->Nat) (pv:Value) (ps:List Nat),e=.returned (.pointer (some ⟨t,0,none⟩))/\StrO w0 pl Q a p Ow' w' s X' v ra b' O1 O/\(∀Ow0 w00,Chg pl a Ow0 w00 Ow w X->Chg pl a Ow0 w00 Ow' w' X')/\(∀k b,Ow' k b->Ow k b\/X' k)/\(∀k,X' k->X k\/O k)/\zoH w O1 O2 s v ra rb ne u (unD p 0) E high t gs w' b' O S pv ps/\E high
theorem zdg(h:StrO w0 pl Q a p Ow w s X v ra rb O1 O2)(ha:ra.m<=40000000)(hb:rb.m<=40000000)(t:ByteArray)(ht:t.size<=4096)(ne ge cap:Nat)(ET:Nat->Nat)(hE:zar w ne ge ET)(hne:ne<=100)(hO:¬X ge)(hx:∃q,q<64*ne/\zai ET q=true)(hq:∀q,q<64*ne->zai ET q=true->q<=t.size):
  Calls Tryz.prog 125 #[.pointer (some ⟨s,0,none⟩),.string t,.slice (some ⟨ge,0,none⟩) ne cap] w fun e w'=>BkO w0 pl Q a p Ow w s X v ra rb O1 O2 ne t.data.toList (fun q=>q<64*ne/\zai ET q=true) e w':=by
 refine(zk8 h.st.st (unD p 0) h.st.rw h.st.em t ht ne ge cap ET hE hne (fun ho=>hO (h.st.x2 ge ho)) hx hq (by omega)).mono ?_;rintro e w' ⟨high,tt,gs,b',O,S,pv,ps,rfl,hh,T⟩;have hmb:=T.mb;have hht:=hq high hh.1 hh.2;have hsq:StrQ w' s p (fun k=>X k\/O k) v ra b' O1 O:=⟨T.st,h.st.rw,h.st.em,h.st.nl,h.st.nwe,fun k h1 h2=>.inl (h.st.lo k h1 h2),fun k h1=>.inl (h.st.x1 k h1),fun k h1=>.inr h1⟩;obtain⟨Ow',h1,h2,h3⟩:=h.step (w':=w') (X':=fun k=>X k\/O k) (T.tc.mono fun k _ hk=>h.st.x2 k hk) T.km hsq (by omega) (by omega) (fun k hk=>hk.elim .inl fun hk=>(T.o2' k hk).elim (fun x=>.inl (h.st.x2 k x)) .inr) (fun k hk=>hk.elim (fun hk=>zvL (h.x0 k hk).2 T.tc.size) fun hk=>(T.st.o2 k hk).2);exact⟨Ow',_,high,tt,gs,b',O,S,pv,ps,rfl,h1,h3,h2,fun k hk=>hk,T,hh⟩
theorem zdk(hi:PnI w0 pl Q Ow w)(hq:Q a=some p){w1 w2:World}{ne:Nat}{u:Word}{E:Nat->Prop}{high t gs:Nat}{b':RdV}{O:Nat->Prop}{S:Nat->Nat}{pv:Value}{ps:List Nat}(T:zoH w1 O1 O2 s v ra rb ne u (unD p 0) E high t gs w2 b' O S pv ps)(hE:∀m,E m->m<=u.length)(m:Nat):zai S m=true↔∃e,E e/\Lg u p m e:=
 (T.ss m).trans (zur (hi.tk hq) hE m)
theorem zgm{Ow':Nat->Nat->Prop}{X':Nat->Prop}{O:Nat->Prop}(h:StrO w0 pl Q a p Ow w s X v ra rb O1 O2)(h1:∀k b,Ow' k b->Ow k b\/X' k)(h2:∀k,X' k->X k\/O k){k:Nat}(hk:w.heap.size<=k)(hO:¬O k):(∀b,¬Ow' k b)/\¬X' k:=by
 have hX:¬X' k:=fun e=>by
  rcases h2 k e with e|e
  ·have:=(h.x0 k e).2;omega
  ·exact hO e
 refine⟨fun b e=>?_,hX⟩;rcases h1 k b e with e|e
 ·have:=(h.inv.ow k b e).2;omega
 ·exact hX e
def FuO(w0:World)(pl:Nat)(Q:Nat->Option Pt)(a:Nat)(p:Pt)(Ow:Nat->Nat->Prop)(w:World)(s:Nat)(X:Nat->Prop)(v:StV)(ra rb:RdV)(O2:Nat->Prop)(u:Word)(E:Nat->Prop)(fr:Nat)(e:Ending)(w':World):Prop:=
 ∃(Ow':Nat->Nat->Prop) (X':Nat->Prop) (a':RdV) (O:Nat->Prop) (end':Nat) (ok:Bool),e=.returned (.tuple #[.int .i64 end',.bool ok])/\StrO w0 pl Q a p Ow' w' s X' v a' rb O O2/\(∀Ow0 w00,Chg pl a Ow0 w00 Ow w X->Chg pl a Ow0 w00 Ow' w' X')/\(∀k b,Ow' k b->Ow k b\/X' k)/\(∀k,X' k->X k\/w.heap.size<=k)/\a'.m<=ra.m+4096/\zam X w w'/\
  ((ok=true/\E end'/\Lg u p fr end'/\∀x,E x->Lg u p fr x->x<=end')\/(ok=false/\end'=fr/\∀x,E x->¬Lg u p fr x))
theorem zt9{u:Word}{M:PA}(h:M.Tk (In p)){fr e:Nat}(he:e<=u.length):LgM u M fr e↔Lg u p fr e:=by
 rcases zvN fr e with hlt|rfl|hlt
 ·rw[zpq h hlt he];exact⟨fun x=>x.elim (fun y=>by omega) (fun y=>y.2),fun x=>.inr ⟨hlt,x⟩⟩
 ·rw[zlz h he];exact⟨fun x=>x.elim (fun y=>y.2) (fun y=>by omega),fun x=>.inl ⟨rfl,x⟩⟩
 ·exact⟨fun x=>x.elim (fun y=>by omega) (fun y=>by omega),fun x=>by have:=x.1;omega⟩
theorem zf2(h:StrO w0 pl Q a p Ow w s X v ra rb O1 O2)(ha:ra.m<=40000000)(hb:rb.m<=40000000)(t:ByteArray)(ht:t.size<=4096)(ne ge cap fr:Nat)(ET:Nat->Nat)(hE:zar w ne ge ET)(hne:ne<=100)(hO:¬X ge)(hx:∃q,q<64*ne/\zai ET q=true)(hq:∀q,q<64*ne->zai ET q=true->q<=t.size)(hfr:fr<=t.size)(hfn:fr<64*ne)(av:Value)
  (hal:∀high,(high<64*ne/\zai ET high=true)->(∀q,q<64*ne->zai ET q=true->q<=high)->zoF O1 w v.nw t.data.toList (unD p 0) (fun q=>q<64*ne/\zai ET q=true) fr high av):
  Calls Tryz.prog 231 #[.pointer (some ⟨s,0,none⟩),.string t,.int .i64 fr,.slice (some ⟨ge,0,none⟩) ne cap,av] w fun e w'=>FuO w0 pl Q a p Ow w s X v ra rb O2 t.data.toList (fun q=>q<64*ne/\zai ET q=true) fr e w':=by
 refine(zlp h.st.st (unD p 0) h.st.rw h.st.em t ht ne ge cap fr ET hE hne (fun ho=>hO (h.st.x1 ge ho)) hx hq hfr hfn (by omega) av hal).mono ?_;rintro e w' ⟨k,now,n,end',ok,a',O,rfl,F,hk,hn,hB⟩;have hul:t.data.toList.length=t.size:=by simp
 have hmb:=F.mb;have hle:=F.le;have hsq:StrQ w' s p (fun k=>X k\/O k) v a' rb O O2:=⟨F.st,h.st.rw,h.st.em,h.st.nl,h.st.nwe,fun k h1 h2=>.inl (h.st.lo k h1 h2),fun k h1=>.inr h1,fun k h1=>.inl (h.st.x2 k h1)⟩;have hx':∀k,(X k\/O k)->X k\/w.heap.size<=k:=fun k hk=>hk.elim .inl fun hk=>(F.o1' k hk).elim (fun x=>.inl (h.st.x1 k x)) .inr
 have tcX:zam X w w':=F.tc.mono fun k _ hk=>h.st.x1 k hk
 obtain⟨Ow',h1,h2,h3⟩:=h.step (w':=w') (X':=fun k=>X k\/O k) tcX F.km hsq (by omega) (by omega) hx' (fun k hk=>hk.elim (fun hk=>zvL (h.x0 k hk).2 F.tc.size) fun hk=>(F.st.o1 k hk).2);refine⟨Ow',_,a',O,end',ok,rfl,h1,h3,h2,hx',by omega,tcX,?_⟩;have hlg:∀x,(x<64*ne/\zai ET x=true)->(LgM t.data.toList (unD p 0) fr x↔Lg t.data.toList p fr x):=fun x hx=>zt9 (h.inv.tk h.q) (by rw[hul];exact hq x hx.1 hx.2)
 rcases hB with ⟨b1,b2,b3,b4,b5⟩|⟨b1,b2,b3⟩
 ·exact .inl ⟨b1,b2,(hlg _ b2).1 b3,fun x hx hL=>b5 x (hn x hx) hx ((hlg x hx).2 hL)⟩
 ·exact .inr ⟨b1,b2,fun x hx hL=>b3 x (hn x hx) hx ((hlg x hx).2 hL)⟩
end
section
variable {w0:World} {pl:Nat} {Q:Nat->Option Pt} {a:Nat} {p:Pt} {Ow:Nat->Nat->Prop}
theorem ziq(w:World)(h:PnI w0 pl Q Ow w)(ha:Q a=some p)(t:ByteArray)(ht:t.size<=4096):
  Calls Tryz.prog 130 #[.pointer (some ⟨a,0,none⟩),.string t] w fun e w'=>∃(Ow':Nat->Nat->Prop) (bb:Bool),e=.returned (.bool bb)/\(bb=true↔Lg t.data.toList p 0 t.size)/\PnT w0 pl Q Ow w Ow' w':=by
 have hst:=zdC a p w h ha;have Hi:Hid _:=h;clear h
 go_enter Tryz.func130,Tryz.ntmps130
 go_wp2_with fail
 refine hst.mono ?_;rintro e w1 ⟨s,Ow1,X,v,ra,rb,O1,O2,rfl,hso,hma,hmb,hch⟩;have hon:=zgs t.size w1 ht;have Hso:Hid _:=hso;have Hch:Hid _:=hch;clear hst hso hch
 go_wp2_with fail
 refine hon.mono ?_;rintro e w2 ⟨U,rfl,hU,hUb,hb2⟩;have hs2:=Hso.out.below (Hso.out.inv.below hb2) hb2;have hc2:Hid _:=Hch.out.below hb2;have hbk:=zdg hs2 (by omega) (by omega) t ht (t.size/64+1) w1.heap.size (t.size/64+1) U hU (by omega) (fun hx=>by have:=(Hso.out.x0 _ hx).2;omega) ⟨t.size,by omega,(hUb _).2 rfl⟩ (fun q _ hb=>by have:=(hUb q).1 hb;omega);have HUb:Hid _:=hUb;have Hs2:Hid _:=hs2;obtain⟨ne,hne⟩:∃ne,t.size/64+1=ne:=⟨_,rfl⟩;have hne9:ne<=100:=by omega
 have hne0:0<ne:=by omega
 have hnt:t.size<64*ne:=by omega
 rw[hne] at hbk ⊢;clear hon hU hUb hs2 hne
 go_wp2_with fail
 refine hbk.mono ?_;rintro e w3 ⟨Ow3,X3,high,tt,gs,b',O,S,pv,ps,rfl,h3,hc3,hox,hxo,T,hh⟩;have hhas:=zi2 ne gs ne S 0 w3 T.sp (by omega) (by omega);obtain⟨-,k1,-,-⟩:=zbg T.box;have HF:Hid (∃(Ow':Nat->Nat->Prop) (bb:Bool),Ending.returned (.bool (zai S 0))=.returned (.bool bb)/\(bb=true↔Lg t.data.toList p 0 t.size)/\PnT w0 pl Q Ow w Ow' w3):=by
  have hul:t.data.toList.length=t.size:=by simp
  refine⟨Ow3,zai S 0,rfl,?_,h3.plT (hc3 _ _ hc2.out)⟩;rw[zdk Hs2.out.inv ha T (fun m hm=>by rw[hul,(HUb.out m).1 hm.2];omega) 0];constructor
  ·rintro ⟨e,h1,h2⟩;rw[(HUb.out e).1 h1.2] at h2;exact h2
  ·intro h1;exact⟨t.size,⟨hnt,(HUb.out _).2 rfl⟩,h1⟩
 clear hbk T h3 hc3 hox hxo
 go_wp2_with fail
 refine hhas.mono ?_;rintro e w4 ⟨rfl,hw4⟩;subst w4;clear hhas;go_wp2;go_ret;exact HF.out
end
end
section
def RchP(u:Word)(p:Pt)(E:Nat->Prop)(fr end':Nat)(ok:Bool):Prop:=(ok=true/\E end'/\Lg u p fr end'/\∀x,E x->Lg u p fr x->x<=end')\/(ok=false/\∀x,E x->¬Lg u p fr x)
section
variable {w0:World} {pl:Nat} {Q:Nat->Option Pt} {a:Nat} {p:Pt} {Ow:Nat->Nat->Prop}
theorem zsc(w:World)(h:PnI w0 pl Q Ow w)(ha:Q a=some p)(t:ByteArray)(ht:t.size<=4096)(ne ge cap fr:Nat)(ET:Nat->Nat)(hE:zar w ne ge ET)(hne:ne<=100)(hge:w0.heap.size<=ge)(hfree:∀b,¬Ow ge b)(hx:∃q,q<64*ne/\zai ET q=true)(hq:∀q,q<64*ne->zai ET q=true->q<=t.size)(hfr:fr<=t.size)(hfn:fr<64*ne)(hcs:(∃e,e<64*ne/\zai ET e=true/\Lg t.data.toList p fr e)\/fr=t.size):
  Calls Tryz.prog 229 #[.pointer (some ⟨a,0,none⟩),.string t,.int .i64 fr,.slice (some ⟨ge,0,none⟩) ne cap] w fun e w'=>∃(Ow':Nat->Nat->Prop) (end':Nat) (ok:Bool),e=.returned (.tuple #[.int .i64 end',.bool ok])/\RchP t.data.toList p (fun q=>q<64*ne/\zai ET q=true) fr end' ok/\PnT w0 pl Q Ow w Ow' w':=by
 have hl:=zgT ne ge cap ET w hE (by omega) (h.bru.keep h.zero);have hg:=zeJ ne ge cap ET w hE (by omega);have Hi:Hid _:=h;have HE:Hid _:=hE
 go_enter Tryz.func229,Tryz.ntmps229
 go_wp2_with fail
 refine hl.mono ?_;rintro e w1 ⟨lv,rfl,hlp,hw1⟩;subst w1;obtain⟨low,rfl,hlo,hlb,hlow⟩:∃low:Nat,lv=low/\low<64*ne/\zai ET low=true/\∀q,q<low->zai ET q=false:=by
  rcases hlp with ⟨-,h1⟩|⟨p,h1⟩
  ·obtain⟨q,h2,h3⟩:=hx;rw[h1 q h2] at h3;cases h3
  ·exact⟨p,h1⟩
 have Hlow:Hid _:=hlow;have Hlb:Hid _:=hlb;clear hl hlp hlow hlb h hE
 go_upto_region 2 with fail
 go_cut [21] from 13 to 21 (fun v21 wx=>∃bb:Bool,v21=.bool bb/\Below w.heap.size w wx/\Hid (bb=true->fr<low/\∀q,q<64*ne->zai ET q=true->q=low))
 case first=>
  by_cases h1:fr<low
  ·have hd:decide ((fr:Int)<(low:Int))=true:=by simp;omega
   go_wp2_with fail
   refine hg.mono ?_;rintro e w1 ⟨hv,rfl,hgp,hb1⟩;obtain⟨high,rfl,hhi,hhb,hhigh⟩:∃high:Nat,hv=high/\high<64*ne/\zai ET high=true/\∀q,high<q->q<64*ne->zai ET q=false:=by
    rcases hgp with ⟨-,h1⟩|⟨p,h1⟩
    ·obtain⟨q,h2,h3⟩:=hx;rw[h1 q h2] at h3;cases h3
    ·exact⟨p,h1⟩
   have Hhigh:Hid _:=hhigh;clear hg hgp hhb hhigh
   by_cases h2:low=high
   ·have hd2:((low:Int)==(high:Int))=true:=by simp;omega
    have H2:Hid _:=h2;clear h2;go_wp2
    go_meet
    refine⟨true,rfl,hb1,fun _=>⟨h1,fun q h3 h4=>?_⟩⟩;rcases zvN q low with e|e|e
    ·have:=Hlow.out q e;rw[h4] at this;cases this
    ·exact e
    ·have:=Hhigh.out q (by have:=H2.out;omega) h3;rw[h4] at this;cases this
   ·have hd2:((low:Int)==(high:Int))=false:=by simp;omega
    go_wp2
    go_meet
    exact⟨false,rfl,hb1,fun e=>by cases e⟩
  ·have hd:decide ((fr:Int)<(low:Int))=false:=by simp;omega
   clear hg;go_wp2
   go_meet
   exact⟨false,rfl,Below.refl _ _,fun e=>by cases e⟩
 case rest=>
  obtain⟨bb,rfl,hbw,Hbb⟩:=hcut;have h1:=Hi.out.below hbw;clear hg;cases bb with
  |true=>
   have HF:Hid (∃(Ow':Nat->Nat->Prop) (end':Nat) (ok:Bool),Ending.returned (.tuple #[.int .i64 (low:Int),.bool true])=.returned (.tuple #[.int .i64 end',.bool ok])/\RchP t.data.toList p (fun q=>q<64*ne/\zai ET q=true) fr end' ok/\PnT w0 pl Q Ow w Ow' wc):=by
    obtain⟨b1,b2⟩:=Hbb.out rfl;refine⟨Ow,low,true,rfl,.inl ⟨rfl,⟨hlo,Hlb.out⟩,?_,fun x hx _=>by have:=b2 x hx.1 hx.2;omega⟩,PnT.of_below Hi.out hbw⟩;rcases hcs with ⟨e,e1,e2,e3⟩|e
    ·rw[b2 e e1 e2] at e3;exact e3
    ·have:=hq low hlo Hlb.out;omega
   clear h1 Hbb;go_wp2
   go_ret2
   exact HF.out
  |false=>
   have hst:=zdC a p wc h1 ha;clear h1 Hbb
   go_wp2_with fail
   refine hst.mono ?_;rintro e w2 ⟨s,Ow2,X,v,ra,rb,O1,O2,rfl,hso,hma,hmb,hch⟩;have hgl:=HE.out.glt;have hbs:=hbw.size;have hX:¬X ge:=fun e=>(hch.xs ge e).elim (hfree a) fun e=>by omega
   have hE2:zar w2 ne ge ET:=by
    have:=((hso.plT hch).fre ge hge (by omega) hfree).1;exact⟨this.trans ((hbw.block ge hgl).trans HE.out.row),HE.out.lt⟩
   have hfu:=zf2 hso (by omega) (by omega) t ht ne ge cap fr ET hE2 hne hX hx hq hfr hfn (.pointer none) (fun _ _ _=>.inl rfl);have Hch:Hid _:=hch;have Hbw:Hid _:=hbw;clear hst hso hch hE2 hbw
   go_wp2_with fail
   refine hfu.mono ?_;rintro e w3 ⟨Ow3,X3,a',O,end',ok,rfl,h3,hc3,-,-,-,-,hR⟩;have HF:Hid (∃(Ow':Nat->Nat->Prop) (end'':Nat) (ok':Bool),Ending.returned (.tuple #[.int .i64 (end':Int),.bool ok])=.returned (.tuple #[.int .i64 end'',.bool ok'])/\RchP t.data.toList p (fun q=>q<64*ne/\zai ET q=true) fr end'' ok'/\PnT w0 pl Q Ow w Ow' w3):=by
    refine⟨Ow3,end',ok,rfl,?_,(PnT.of_below Hi.out Hbw.out).trans (h3.plT (hc3 _ _ Hch.out))⟩;rcases hR with h|⟨h1,-,h2⟩
    ·exact .inl h
    ·exact .inr ⟨h1,h2⟩
   clear hfu h3 hc3 hR;go_wp2
   go_ret2
   exact HF.out
end
end
section
abbrev Pld:=Nat×Pt×Nat
def pdL:List Pld->List Value
 |[]=>[]
 |(a,(_,e))::ys=>.pointer (some ⟨a,0,none⟩) :: .int .i64 (e:Int)::pdL ys
theorem zfP:∀(xs ys:List Pld),pdL (xs++ys)=pdL xs++pdL ys
 |[],_=>rfl
 |(_,_,_)::xs,ys=>by simp[pdL,zfP xs ys]
theorem zp9:∀(ys:List Pld) (i a:Nat) (q:Pt) (e:Nat),ys[i]?=some (a,q,e)->(pdL ys)[i*2]?=some (.pointer (some ⟨a,0,none⟩))/\(pdL ys)[i*2+1]?=some (.int .i64 (e:Int))
 |(a0,q0,e0)::ys,0,a,q,e,h=>by simp at h;obtain⟨rfl,-,rfl⟩:=h;exact⟨rfl,rfl⟩
 |(a0,q0,e0)::ys,i+1,a,q,e,h=>by
  obtain⟨h1,h2⟩:=zp9 ys i a q e (by simpa using h);rw[show (i+1)*2=i*2+1+1 from by omega];exact⟨h1,h2⟩
def lyL(ys:List Pld):Laid:=ys.map fun y=>y.2
def LayA(w0:World)(pl:Nat)(Q:Nat->Option Pt)(Ow:Nat->Nat->Prop)(w:World)(lo:Nat)(u:Word)(n:Nat)(p:Pt)(e:Ending)(w':World):Prop:=
 ∃(Ow':Nat->Nat->Prop) (ys:List Pld) (v:Value),e=.returned v/\PnT w0 pl Q Ow w Ow' w'/\w'.ownsRow w.heap.size 247 2 v ys.length (pdL ys)/\(∀k,v.ownBlock=some k->∀b,¬Ow' k b)/\LayC u 0 n p (lyL ys)/\∀y,y∈ys->PcAt lo w0 pl Q y.1 y.2.1
theorem zuk(w:World)(B a:Nat)(q:Pt)(e:Nat)(hB:B<=w.heap.size):(w.alloc (.cells #[.pointer (some ⟨a,0,none⟩),.int .i64 (e:Int)] 247)).ownsRow B 247 2 (.slice (some ⟨w.heap.size,0,none⟩) 1 1) 1 (pdL [(a,q,e)]):=
 ⟨by simp[pdL],.inr ⟨w.heap.size,1,_,rfl,hB,zvZ _ _,zvJ _,by unfold maxLen;omega,rfl,by simp[pdL]⟩⟩
section
variable {w0:World} {pl:Nat} {Q:Nat->Option Pt} {Ow:Nat->Nat->Prop}
theorem zmL{w w1:World}{Ow1:Nat->Nat->Prop}(lo:Nat){u:Word}{n:Nat}{p q:Pt}{a:Nat}(hT:PnT w0 pl Q Ow w Ow1 w1)(hl:LayC u 0 n p [(q,n)])(hp:PcAt lo w0 pl Q a q)(H:Nat)(hH:w1.heap.size=H):LayA w0 pl Q Ow w lo u n p (.returned (.slice (some ⟨H,0,none⟩) 1 1)) (w1.alloc (.cells #[.pointer (some ⟨a,0,none⟩),.int .i64 (n:Int)] 247)):=by
 subst hH;refine⟨Ow1,[(a,q,n)],_,rfl,hT.below ((Below.refl _ _).alloc (zvJ _) _),zuk w1 _ a q n hT.size,fun k e b ho=>?_,hl,fun y hy=>?_⟩
 ·have e:w1.heap.size=k:=by simpa [Value.ownBlock] using e
  have:=(hT.inv.ow k b ho).2;omega
 ·rw[zvv.1 hy];exact hp
theorem zlr(w:World)(h:PnI w0 pl Q Ow w)(lo a':Nat)(b:Pt)(g:Int)(hp:PcAt lo w0 pl Q a' b)(t:ByteArray):
  Calls Tryz.prog 220 #[.agg #[.int .i64 g,.pointer (some ⟨a',0,none⟩)],.string t] w fun e w'=>LayA w0 pl Q Ow w lo t.data.toList t.size (.grp b g) e w':=by
 have hb0:Below w.heap.size w (w.alloc (.cells #[.int .i64 g,.pointer (some ⟨a',0,none⟩)] 242)):=(Below.refl _ _).alloc (zvJ _) _;have HF:=hidF (zmL lo (u:=t.data.toList) (n:=t.size) (p:=.grp b g) (PnT.of_below h hb0) (show LayC _ _ _ _ _ from rfl) hp (w.heap.size+1) (by simp));clear h hp hb0
 go_enter Tryz.func220,Tryz.ntmps220
 go_wp2;go_ret;exact HF.out
theorem zp2{lo go cap:Nat}{xs:List (Nat×Pt)}(hr:w0.ownsRow lo 198 1 (.slice (some ⟨go,0,none⟩) xs.length cap) xs.length (opL xs)){w:World}(h:PnI w0 pl Q Ow w){i:Nat}{x:Nat×Pt}(hx:xs[i]?=some x):w.cell? ⟨go,i,none⟩=some (.pointer (some ⟨x.1,0,none⟩)):=by
 have hi:=(zvc.1 hx).1;obtain⟨g,c,cur,h1,h2,h3⟩:=zbz hr (by omega);injection h1 with h1 _ _
 injection h1 with h1
 injection h1 with h1 _ _
 subst h1;rw[zvW _ _ _ _ _ _ (h.typ h2 (by decide) (by decide)),h3 i hi];simp[opL,hx]
theorem zdJ{w:World}{lo g n cap sz:Nat}{e:TypeId}{xs:List Value}(h:w.ownsRow lo e sz (.slice (some ⟨g,0,none⟩) n cap) n xs):n<=cap/\lo<=g/\g<w.heap.size/\∃cur,w.heap[g]?=some (.cells cur e (0,0)):=by
 rcases h.2 with ⟨h0,_⟩|⟨g',cap',cur,hv,h1,h2,h3,_⟩
 ·cases h0
 ·cases hv
  exact⟨h3,h1,(zuH.1 h2).1,cur,h2⟩
theorem zjK(w:World)(h:PnI w0 pl Q Ow w)(lo go cap:Nat)(l r:Pt)(xs:List (Nat×Pt))(hr:w0.ownsRow lo 198 1 (.slice (some ⟨go,0,none⟩) xs.length cap) xs.length (opL xs))(hf:xs.map Prod.snd=zbf (.alt l r))(hp:∀x,x∈xs->PcAt lo w0 pl Q x.1 x.2)(hQ:∀x,x∈xs->Q x.1=some x.2)(t:ByteArray)(ht:t.size<=4096)(hL:Lg t.data.toList (.alt l r) 0 t.size)(hn9:xs.length<=100000)(h0:0<xs.length):
  Calls Tryz.prog 233 #[.agg #[.slice (some ⟨go,0,none⟩) xs.length cap],.string t] w fun e w'=>LayA w0 pl Q Ow w lo t.data.toList t.size (.alt l r) e w':=by
 obtain⟨n,Hn⟩:∃n,Hid (xs.length=n):=⟨_,rfl⟩;obtain⟨hcap,-,-,-⟩:=zdJ hr;have Hr:=hidF hr;have Hf:=hidF hf;have Hp:=hidF hp;have HQ:=hidF hQ;have HL:=hidF hL;have hb0:Below w.heap.size w (w.alloc (.cells #[.slice (some ⟨go,0,none⟩) xs.length cap] 311)):=(Below.refl _ _).alloc (zvJ _) _;have x0:(w.alloc (.cells #[.slice (some ⟨go,0,none⟩) xs.length cap] 311)).heap[w.heap.size]?=some (.cells #[.slice (some ⟨go,0,none⟩) xs.length cap] 311 (0,0)):=zvZ _ _;have HT0:Hid _:=PnT.of_below h hb0;have hws:=h.size;have Hget:Hid (∀i,i<n->∃x,xs[i]?=some x/\x∈xs):=fun i hi=>by
  have hi':i<xs.length:=by have:=Hn.out;omega
  exact⟨_,zva hi',zvg _⟩
 have Hfl:Hid (∀(i:Nat) (x:Nat×Pt),xs[i]?=some x->(zbf (.alt l r))[i]?=some x.2):=fun i x hx=>by rw[<-Hf.out];simp[hx]
 have hfr:∀b,¬Ow w.heap.size b:=fun b ho=>by have:=(h.ow _ b ho).2;omega
 rw[Hn.out] at hcap x0 hb0 HT0 hn9 h0 ⊢;have Hlast:Hid (∀W Ow1 (i:Nat) (x:Nat×Pt),PnT w0 pl Q Ow w Ow1 W->xs[i]?=some x->(∀(j:Nat) (y:Nat×Pt),j<i->xs[j]?=some y->¬Lg t.data.toList y.2 0 t.size)->(Lg t.data.toList x.2 0 t.size\/i+1=n)->LayA w0 pl Q Ow w lo t.data.toList t.size (.alt l r) (.returned (.slice (some ⟨W.heap.size,0,none⟩) 1 1)) (W.alloc (.cells #[.pointer (some ⟨x.1,0,none⟩),.int .i64 (t.size:Int)] 247))):=by
  intro W Ow1 i x hT hx hno hor;have hno':∀(j:Nat) (q:Pt),j<i->(zbf (.alt l r))[j]?=some q->¬Lg t.data.toList q 0 t.size:=fun j q hj hq=>by
   rw[<-Hf.out,zvd] at hq;cases hy:xs[j]? with
   |none=>rw[hy] at hq;cases hq
   |some y=>rw[hy] at hq;cases hq;exact hno j y hj hy
  have hxl:Lg t.data.toList x.2 0 t.size:=by
   rcases hor with h1|h1
   ·exact h1
   ·obtain⟨q,hq,hql⟩:=(ze1 _).1 HL.out;obtain⟨j,hj,e⟩:=List.getElem_of_mem hq;have hjl:(zbf (.alt l r)).length=n:=by rw[<-Hf.out,zvj];exact Hn.out
    by_cases e2:j<i
    ·exact absurd hql (hno' j q e2 (by rw[zva hj,e]))
    ·have e3:j=i:=by omega
     subst e3;have:=Hfl.out j x hx;rw[zva hj,e] at this;rw[<-Option.some.inj this];exact hql
  exact zmL lo (p:=.alt l r) hT ⟨i,x.2,Hfl.out i x hx,hno',hxl,rfl⟩ (Hp.out x (zvt hx)) _ rfl
 obtain⟨m,Hm⟩:∃m,Hid (m+1=n):=⟨n-1,by show _=_;omega⟩;have hmi:(n:Int)-1=(m:Int):=by have:=Hm.out;omega
 have hm0:(0:Int)<=(m:Int):=by omega
 have hm1:(m:Int)<=(cap:Int):=by have:=Hm.out;omega
 have hm2:(m:Int)<(n:Int):=by have:=Hm.out;omega
 have hm9:m<=100000:=by have:=Hm.out;omega
 clear h hr hf hp hQ hL hn9 h0 hb0
 go_enter Tryz.func233,Tryz.ntmps233
 obtain⟨W0,hW0⟩:∃W0,w.alloc (.cells #[.slice (some ⟨go,0,none⟩) n cap] 311)=W0:=⟨_,rfl⟩;rw[hW0] at x0 HT0;have c00:W0.cell? ⟨w.heap.size,0,none⟩=some (.slice (some ⟨go,0,none⟩) n cap):=(zvW _ _ _ _ _ _ x0:_=_);go_wp2;clear hW0 c00
 go_loopw [17] (fun i wr=>∃(k:Nat) (Ow1:Nat->Nat->Prop),k<=m/\i=.int .i64 k/\Hid (PnT w0 pl Q Ow w Ow1 wr)/\Hid (∀(j:Nat) (y:Nat×Pt),j<k->xs[j]?=some y->¬Lg t.data.toList y.2 0 t.size)/\wr.heap[w.heap.size]?=some (.cells #[.slice (some ⟨go,0,none⟩) n cap] 311 (0,0))/\∀b,¬Ow1 w.heap.size b) (fun i _=>m-(intOf i).toNat)
 case atStart=>exact⟨0,Ow,zvT _,rfl,HT0,fun j _ hj=>absurd hj (zvQ _),x0,hfr⟩
 case round=>
  clear HT0 x0 hfr;obtain⟨k,Ow1,hk,rfl,HT,HN,xr,hfr1⟩:=hrel;have c0:wr.cell? ⟨w.heap.size,0,none⟩=some (.slice (some ⟨go,0,none⟩) n cap):=(zvW _ _ _ _ _ _ xr:_=_)
  by_cases hlt:k<m
  ·obtain⟨x,hx,hxm⟩:=Hget.out k (by have:=Hm.out;omega);have c1:=zp2 Hr.out HT.out.inv hx;have hma:=ziq wr HT.out.inv (HQ.out x hxm) t ht;have hd:decide ((k:Int)<(m:Int))=true:=by simp;omega
   have hk0:(0:Int)<=(k:Int):=by omega
   have hk1:(k:Int)<(m:Int):=by omega
   have Hx:Hid _:=hx;have Hxr:Hid _:=xr;have Hfr1:Hid _:=hfr1;have hwl:w.heap.size<wr.heap.size:=(zuH.1 xr).1;clear hxm hx xr hfr1
   go_wp2_with fail
   refine hma.mono ?_;rintro e w1 ⟨Ow2,bb,rfl,hbb,hT2⟩;have Hbb:Hid _:=hbb;have HT2:Hid _:=HT.out.trans hT2;have hf2:=hT2.fre w.heap.size hws hwl Hfr1.out;have Hf2:Hid _:=hf2;clear hma hbb hT2 hf2 c0 c1;cases bb with
   |true=>
    have HF:=hidF <| Hlast.out w1 Ow2 k x HT2.out Hx.out HN.out (.inl (Hbb.out.1 rfl))
    clear HT HT2 HN Hlast;go_wp2;go_ret;exact HF.out
   |false=>
    go_wp2
    go_roundw
    case rel=>exact⟨k+1,Ow2,by omega,by go_num,HT2,fun j y hj hy=>by
     by_cases e:j=k
     ·subst e;rw[Hx.out] at hy;cases hy;exact fun hl=>by have:=Hbb.out.2 hl;cases this
     ·exact HN.out j y (by omega) hy,Hf2.out.1.trans Hxr.out,Hf2.out.2⟩
    case measure=>simp[intOf];omega
  ·obtain rfl:m=k:=by omega
   obtain⟨x,hx,hxm⟩:=Hget.out m (by have:=Hm.out;omega);have c1:=zp2 Hr.out HT.out.inv hx;have hd:decide ((m:Int)<(m:Int))=false:=by simp
   have HF:=hidF <| Hlast.out wr Ow1 m x HT.out hx HN.out (.inr Hm.out)
   clear HT HN Hlast hx hxm xr hfr1;go_wp2;go_ret;exact HF.out
end
end
theorem znj{b:Pt}(h:wPt b<=2000):wPt (.rep b 0 (-1))=wPt b:=by
 show capW (wPt b*zaV 0 (-1))=wPt b;rw[show zaV 0 (-1)=1 from rfl,Int.mul_one];unfold capW;rw[zv3 (by omega)]
theorem zaO{w:World}{g:Nat}{a0 a1:Value}{t:TypeId}(h:w.heap[g]?=some (.cells #[a0,a1] t (0,0))):w.cell? ⟨g,0,none⟩=some a0/\w.cell? ⟨g,1,none⟩=some a1:=by
 have:∀o,w.cell? ⟨g,o,none⟩=#[a0,a1][o]?:=fun _=>zvW _ _ _ _ _ _ h
 exact⟨this 0,this 1⟩
theorem zaD{w:World}{B n k sz:Nat}{e:TypeId}{v:Value}{xs:List Value}(h:w.ownsRow B e sz v n xs)(hk:v.ownBlock=some k):B<=k/\∃cur,w.heap[k]?=some (.cells cur e (0,0)):=by
 rcases h.2 with ⟨rfl,_⟩|⟨g,cap,cur,rfl,hg,hh,_⟩
 ·simp[Value.ownBlock] at hk
 ·simp[Value.ownBlock] at hk;subst hk;exact⟨hg,cur,hh⟩
def szT:Pt->Nat
 |.set _=>1
 |.seq l r=>szT l+szT r+1
 |.alt l r=>szT l+szT r+1
 |.rep b _ _=>szT b+1
 |.grp b _=>szT b+1
theorem zuo(b:Pt):Pt.rep b 0 (-1)≠b:=fun e=>by
 have:=congrArg szT e;simp[szT] at this
section
variable {w0:World} {pl:Nat} {Q:Nat->Option Pt} {Ow:Nat->Nat->Prop} {w w':World} {F:Nat->Prop}
theorem PnI.free(h:PnI w0 pl Q Ow w)(tc:zam F w w')(km:zaT w w')(hF:∀k,F k->w0.heap.size<=k/\∀b,¬Ow k b):PnI w0 pl Q Ow w':=by
 have hsz:=h.size;have hs':=tc.size;have ho:∀k,k<w0.heap.size->w'.heap[k]?=w.heap[k]?:=fun k hk=>tc.same k (by omega) (fun e=>by have:=(hF k e).1;omega)
 refine⟨tc.os.trans h.os,tc.tape.trans h.tape,tc.output.trans h.output,by omega,fun k h1 h2 h3=>(ho k h1).trans (h.old k h1 h2 h3),h.q0,h.p0,h.bru,?_,fun b q hq=>?_,fun k b hk=>?_,h.dj⟩
 ·obtain⟨x0,x1,x2,r0,room,h1,h2,h3⟩:=h.plan;exact⟨_,_,_,_,_,h1,(ho pl h.pl0).trans h2,h3⟩
 ·obtain⟨v1,f1,k1,q1,q2,q3,q4,q5⟩:=h.pc b q hq;exact⟨v1,f1,k1,q1,(ho b (h.alt hq)).trans q2,q3,q4,q5.keep (fun k hk=>tc.same k (h.ow k b hk).2 (fun e=>(hF k e).2 b hk)) km (ho 0 h.pos) hs'⟩
 ·have:=h.ow k b hk;omega
theorem StrO.free{a:Nat}{p:Pt}{s:Nat}{X:Nat->Prop}{v:StV}{ra rb:RdV}{O1 O2:Nat->Prop}(h:StrO w0 pl Q a p Ow w s X v ra rb O1 O2)(tc:zam F w w')(km:zaT w w')(hF:∀k,F k->w0.heap.size<=k/\(∀b,¬Ow k b)/\¬X k):StrO w0 pl Q a p Ow w' s X v ra rb O1 O2:=by
 have hal:=h.inv.alt h.q;have hsz:=h.inv.size;have hs':=tc.size;have ho:∀k,k<w0.heap.size->w'.heap[k]?=w.heap[k]?:=fun k hk=>tc.same k (by omega) (fun e=>by have:=(hF k e).1;omega)
 refine⟨h.inv.free tc km (fun k e=>⟨(hF k e).1,(hF k e).2.1⟩),h.q,h.st.keep (fun k hk=>tc.same k (h.x0 k hk).2 (fun e=>(hF k e).2.2 hk)) km (ho 0 h.inv.pos) hs',fun k hk=>⟨(h.x0 k hk).1,zvL (h.x0 k hk).2 hs'⟩,?_⟩;rcases h.x1 with ⟨h1,h2⟩|h1
 ·exact .inl ⟨h1,(World.cell?_of_block (ho a hal)).trans h2⟩
 ·exact .inr h1
theorem PnT.free{Ow0:Nat->Nat->Prop}{w00:World}(h:PnT w0 pl Q Ow0 w00 Ow w)(tc:zam F w w')(km:zaT w w')(hF:∀k,F k->w0.heap.size<=k/\(∀b,¬Ow k b)/\w00.heap.size<=k):PnT w0 pl Q Ow0 w00 Ow w':=
 ⟨h.inv.free tc km (fun k e=>⟨(hF k e).1,(hF k e).2.1⟩),zvK h.size tc.size,fun k h1 h2 h3=>⟨(tc.same k (by have:=h.size;omega) (fun e=>by have:=(hF k e).2.2;omega)).trans (h.fre k h1 h2 h3).1,(h.fre k h1 h2 h3).2⟩⟩
end
structure RnS(w0:World)(pl:Nat)(Q:Nat->Option Pt)(a':Nat)(b:Pt)(Ow0:Nat->Nat->Prop)(w w4:World)(X4 Pr:Nat->Prop)(s:Nat)(v:StV)(rb:RdV)(O2:Nat->Prop)(Ow:Nat->Nat->Prop)(W:World)(X:Nat->Prop)(ra:RdV)(O:Nat->Prop):Prop where
 so:StrO w0 pl Q a' b Ow W s X v ra rb O O2
 pt:PnT w0 pl Q Ow0 w Ow W
 xs:∀k,X k->X4 k\/w4.heap.size<=k
 sm:∀k,Pr k->W.heap[k]?=w4.heap[k]?
 sz:w4.heap.size<=W.heap.size
section
variable {w0:World} {pl:Nat} {Q:Nat->Option Pt} {a':Nat} {b:Pt} {Ow0:Nat->Nat->Prop} {w w4:World} {X4 Pr:Nat->Prop} {s:Nat} {v:StV} {rb:RdV} {O2:Nat->Prop} {Ow:Nat->Nat->Prop} {W:World} {X:Nat->Prop} {ra:RdV} {O:Nat->Prop}
theorem RnS.row(h:RnS w0 pl Q a' b Ow0 w w4 X4 Pr s v rb O2 Ow W X ra O)(hP:∀k,Pr k->k<w4.heap.size){W':World}{o:Option Nat}(hg:W.grownBy W' o)(hw0:w0.heap.size<=w.heap.size)(ho:∀k,o=some k->w.heap.size<=k/\(∀c,¬Ow k c)/\¬X k/\¬Pr k/\∃cur,W.heap[k]?=some (.cells cur 247 (0,0))):RnS w0 pl Q a' b Ow0 w w4 X4 Pr s v rb O2 Ow W' X ra O:=by
 have tc:zam (fun k=>o=some k) W W':=(zam.refl _ W).grown hg (fun k e=>.inl e);have km:zaT W W':=fun mg f e=>(tc.same mg (zuH.1 e).1 (fun e2=>by
  obtain⟨_,_,_,_,cur,h5⟩:=ho mg e2;rw[h5] at e;exact absurd (zad e) (by decide))).trans e
 refine⟨h.so.free tc km (fun k e=>?_),h.pt.free tc km (fun k e=>?_),h.xs,fun k hk=>(tc.same k (by have:=hP k hk;have:=h.sz;omega) (fun e=>(ho k e).2.2.2.1 hk)).trans (h.sm k hk),zvK h.sz tc.size⟩
 ·obtain⟨h1,h2,h3,_⟩:=ho k e;exact⟨by omega,h2,h3⟩
 ·obtain⟨h1,h2,_⟩:=ho k e;exact⟨by omega,h2,h1⟩
theorem RnS.step(h:RnS w0 pl Q a' b Ow0 w w4 X4 Pr s v rb O2 Ow W X ra O)(hP:∀k,Pr k->k<w4.heap.size/\¬X4 k)(hX4:∀k,w0.heap.size<=k->k<w.heap.size->(∀c,¬Ow0 k c)->¬X4 k)(hw4:w.heap.size<=w4.heap.size){Ow':Nat->Nat->Prop}{W':World}{X':Nat->Prop}{ra':RdV}{O':Nat->Prop}(so:StrO w0 pl Q a' b Ow' W' s X' v ra' rb O' O2)(hox:∀k c,Ow' k c->Ow k c\/X' k)(hxx:∀k,X' k->X k\/W.heap.size<=k)(tc:zam X W W'):RnS w0 pl Q a' b Ow0 w w4 X4 Pr s v rb O2 Ow' W' X' ra' O':=by
 have hsz:=h.sz;have hx:∀k,k<w4.heap.size->¬X4 k->¬X k:=fun k h1 h2 h3=>(h.xs k h3).elim h2 fun e=>by omega
 have hx':∀k,k<w4.heap.size->¬X4 k->¬X' k:=fun k h1 h2 h3=>(hxx k h3).elim (hx k h1 h2) fun e=>by omega
 refine⟨so,⟨so.inv,zvK h.pt.size tc.size,fun k h1 h2 h3=>?_⟩,fun k hk=>(hxx k hk).elim (h.xs k) fun e=>.inr (by omega),fun k hk=>(tc.same k (by have:=(hP k hk).1;omega) (hx k (hP k hk).1 (hP k hk).2)).trans (h.sm k hk),zvK h.sz tc.size⟩;obtain⟨f1,f2⟩:=h.pt.fre k h1 h2 h3;have hn:=hX4 k h1 h2 h3;refine⟨(tc.same k (by have:=h.pt.size;omega) (hx k (by omega) hn)).trans f1,fun c hc=>?_⟩;rcases hox k c hc with e|e
 ·exact f2 c e
 ·exact hx' k (by omega) hn e
end
end Go.Proofs.YtdimhpfiieepiaaGreatDoor
