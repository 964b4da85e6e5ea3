import Derived.Test.YtdimhpfiieepiaaGreatDoorC28
namespace Go.Proofs.YtdimhpfiieepiaaGreatDoor
open Proofs.Tryz
open Option renaming some->za,none->zb
open Go renaming World->zc,Value->zi,Calls->zj,TypeId->zk
open Value renaming slice->zd,int->zf,pointer->zg
open Obj renaming cells->zh
set_option maxHeartbeats 1000000
set_option maxRecDepth 100000
open Go.RowKit
attribute [local go_sem ↓] wp_at_zero wp_at_succ
section
variable {w0:zc} {pl:Nat} {Q:Nat->Option Pt} {a:Nat} {p:Pt} {Ow:Nat->Nat->Prop} {w:zc} {s:Nat} {X:Nat->Prop} {v:eE} {ra rb:cz} {O1 O2:Nat->Prop}
theorem cF.MK(h:cF w0 pl Q Ow w)(ha:Q a=za p):oT p:=by
 obtain⟨v,f,k,-,-,h1,-⟩:=h.pc a p ha;exact Gg p v h1
theorem cF.tk(h:cF w0 pl Q Ow w)(ha:Q a=za p):(cj p 0).Tk (In p):=yt p (h.MK ha) 0
def YZ(w0:zc)(pl:Nat)(Q:Nat->Option Pt)(a:Nat)(p:Pt)(Ow:Nat->Nat->Prop)(w:zc)(s:Nat)(X:Nat->Prop)(v:eE)(ra rb:cz)(O1 O2:Nat->Prop)(ne:Nat)(u:aJ)(E:Nat->Prop)(e:Ending)(w':zc):Prop:=
 ∃(aF:Nat->Nat->Prop) (X':Nat->Prop) (high t gs:Nat) (b':cz) (O:Nat->Prop) (S:Nat->Nat) (pv:zi) (ps:List Nat),e=.returned (zg (za ⟨t,0,zb⟩))/\lS w0 pl Q a p aF w' s X' v ra b' O1 O/\(∀iC lh,nI pl a iC lh Ow w X->nI pl a iC lh aF w' X')/\(∀k b,aF k b->Ow k b\/X' k)/\(∀k,X' k->X k\/O k)/\NL w O1 O2 s v ra rb ne u (cj p 0) E high t gs w' b' O S pv ps/\E high
theorem Qs(h:lS w0 pl Q a p Ow w s X v ra rb O1 O2)(ha:ra.m<=40000000)(hb:rb.m<=40000000)(t:ByteArray)(ht:t.size<=4096)(ne ge cap:Nat)(ET:Nat->Nat)(hE:aH w ne ge ET)(hne:ne<=100)(hO:¬X ge)(hx:∃q,q<64*ne/\au ET q=true)(hq:∀q,q<64*ne->au ET q=true->q<=t.size):
  zj prog 125 #[zg (za ⟨s,0,zb⟩),.string t,zd (za ⟨ge,0,zb⟩) ne cap] w λe w'=>YZ w0 pl Q a p Ow w s X v ra rb O1 O2 ne t.data.toList (λq=>q<64*ne/\au ET q=true) e w':=by
 refine(zkO h.st.st (cj p 0) h.st.rw h.st.em t ht ne ge cap ET hE hne (λho=>hO (h.st.x2 ge ho)) hx hq (by omega)).mono ?_;rintro e w' ⟨high,tt,gs,b',O,S,pv,ps,rfl,hh,T⟩;have pX:=T.mb;have hht:=hq high hh.1 hh.2;have mY:um w' s p (λk=>X k\/O k) v ra b' O1 O:=⟨T.st,h.st.rw,h.st.em,h.st.nl,h.st.I5,λk h1 h2=>.inl (h.st.lo k h1 h2),λk h1=>.inl (h.st.x1 k h1),λk h1=>.inr h1⟩;obtain⟨aF,h1,h2,h3⟩:=h.step (w':=w') (X':=λk=>X k\/O k) (T.tc.mono λk _ hk=>h.st.x2 k hk) T.km mY (by omega) (by omega) (λk hk=>hk.elim .inl λhk=>(T.zI k hk).elim (λx=>.inl (h.st.x2 k x)) .inr) (λk hk=>hk.elim (λhk=>bA (h.x0 k hk).2 T.tc.size) λhk=>(T.st.o2 k hk).2);exact⟨aF,_,high,tt,gs,b',O,S,pv,ps,rfl,h1,h3,h2,λk hk=>hk,T,hh⟩
theorem Qw(hi:cF w0 pl Q Ow w)(hq:Q a=za p){w1 w2:zc}{ne:Nat}{u:aJ}{E:Nat->Prop}{high t gs:Nat}{b':cz}{O:Nat->Prop}{S:Nat->Nat}{pv:zi}{ps:List Nat}(T:NL w1 O1 O2 s v ra rb ne u (cj p 0) E high t gs w2 b' O S pv ps)(hE:∀m,E m->m<=u.length)(m:Nat):au S m=true↔∃e,E e/\Lg u p m e:=
 (T.ss m).trans (zub (hi.tk hq) hE m)
theorem QI{aF:Nat->Nat->Prop}{X':Nat->Prop}{O:Nat->Prop}(h:lS w0 pl Q a p Ow w s X v ra rb O1 O2)(h1:∀k b,aF k b->Ow k b\/X' k)(h2:∀k,X' k->X k\/O k){k:Nat}(hk:w.heap.size<=k)(hO:¬O k):(∀b,¬aF k b)/\¬X' k:=by
 have hX:¬X' k:=λe=>by
  rcases h2 k e with e|e
  ·have:=(h.x0 k e).2;omega
  ·exact hO e
 refine⟨λb e=>?_,hX⟩;rcases h1 k b e with e|e
 ·have:=(h.inv.ow k b e).2;omega
 ·exact hX e
def FuO(w0:zc)(pl:Nat)(Q:Nat->Option Pt)(a:Nat)(p:Pt)(Ow:Nat->Nat->Prop)(w:zc)(s:Nat)(X:Nat->Prop)(v:eE)(ra rb:cz)(O2:Nat->Prop)(u:aJ)(E:Nat->Prop)(fr:Nat)(e:Ending)(w':zc):Prop:=
 ∃(aF:Nat->Nat->Prop) (X':Nat->Prop) (a':cz) (O:Nat->Prop) (cI:Nat) (ok:Bool),e=.returned (.tuple #[zf .i64 cI,.bool ok])/\lS w0 pl Q a p aF w' s X' v a' rb O O2/\(∀iC lh,nI pl a iC lh Ow w X->nI pl a iC lh aF w' X')/\(∀k b,aF k b->Ow k b\/X' k)/\(∀k,X' k->X k\/w.heap.size<=k)/\a'.m<=ra.m+4096/\ap X w w'/\
  ((ok=true/\E cI/\Lg u p fr cI/\∀x,E x->Lg u p fr x->x<=cI)\/(ok=false/\cI=fr/\∀x,E x->¬Lg u p fr x))
theorem ztS{u:aJ}{M:PA}(h:M.Tk (In p)){fr e:Nat}(he:e<=u.length):rE u M fr e↔Lg u p fr e:=by
 rcases Ca fr e with hlt|rfl|hlt
 ·rw[YJ h hlt he];exact⟨λx=>x.elim (λy=>by omega) (λy=>y.2),λx=>.inr ⟨hlt,x⟩⟩
 ·rw[YD h he];exact⟨λx=>x.elim (λy=>y.2) (λy=>by omega),λx=>.inl ⟨rfl,x⟩⟩
 ·exact⟨λx=>x.elim (λy=>by omega) (λy=>by omega),λx=>by have:=x.1;omega⟩
theorem zfR(h:lS w0 pl Q a p Ow w s X v ra rb O1 O2)(ha:ra.m<=40000000)(hb:rb.m<=40000000)(t:ByteArray)(ht:t.size<=4096)(ne ge cap fr:Nat)(ET:Nat->Nat)(hE:aH w ne ge ET)(hne:ne<=100)(hO:¬X ge)(hx:∃q,q<64*ne/\au ET q=true)(hq:∀q,q<64*ne->au ET q=true->q<=t.size)(fC:fr<=t.size)(vV:fr<64*ne)(av:zi)
  (pS:∀high,(high<64*ne/\au ET high=true)->(∀q,q<64*ne->au ET q=true->q<=high)->YL O1 w v.nw t.data.toList (cj p 0) (λq=>q<64*ne/\au ET q=true) fr high av):
  zj prog 231 #[zg (za ⟨s,0,zb⟩),.string t,zf .i64 fr,zd (za ⟨ge,0,zb⟩) ne cap,av] w λe w'=>FuO w0 pl Q a p Ow w s X v ra rb O2 t.data.toList (λq=>q<64*ne/\au ET q=true) fr e w':=by
 refine(zk7 h.st.st (cj p 0) h.st.rw h.st.em t ht ne ge cap fr ET hE hne (λho=>hO (h.st.x1 ge ho)) hx hq fC vV (by omega) av pS).mono ?_;rintro e w' ⟨k,now,n,cI,ok,a',O,rfl,F,hk,hn,hB⟩;have tN:t.data.toList.length=t.size:=by simp
 have pX:=F.mb;have hle:=F.le;have mY:um w' s p (λk=>X k\/O k) v a' rb O O2:=⟨F.st,h.st.rw,h.st.em,h.st.nl,h.st.I5,λk h1 h2=>.inl (h.st.lo k h1 h2),λk h1=>.inr h1,λk h1=>.inl (h.st.x2 k h1)⟩;have tP:∀k,(X k\/O k)->X k\/w.heap.size<=k:=λk hk=>hk.elim .inl λhk=>(F.Qc k hk).elim (λx=>.inl (h.st.x1 k x)) .inr
 have tcX:ap X w w':=F.tc.mono λk _ hk=>h.st.x1 k hk
 obtain⟨aF,h1,h2,h3⟩:=h.step (w':=w') (X':=λk=>X k\/O k) tcX F.km mY (by omega) (by omega) tP (λk hk=>hk.elim (λhk=>bA (h.x0 k hk).2 F.tc.size) λhk=>(F.st.o1 k hk).2);refine⟨aF,_,a',O,cI,ok,rfl,h1,h3,h2,tP,by omega,tcX,?_⟩;have LO:∀x,(x<64*ne/\au ET x=true)->(rE t.data.toList (cj p 0) fr x↔Lg t.data.toList p fr x):=λx hx=>ztS (h.inv.tk h.q) (by rw[tN];exact hq x hx.1 hx.2)
 rcases hB with ⟨b1,b2,b3,b4,b5⟩|⟨b1,b2,b3⟩
 ·exact .inl ⟨b1,b2,(LO _ b2).1 b3,λx hx hL=>b5 x (hn x hx) hx ((LO x hx).2 hL)⟩
 ·exact .inr ⟨b1,b2,λx hx hL=>b3 x (hn x hx) hx ((LO x hx).2 hL)⟩
end
section
variable {w0:zc} {pl:Nat} {Q:Nat->Option Pt} {a:Nat} {p:Pt} {Ow:Nat->Nat->Prop}
theorem zhT(w:zc)(h:cF w0 pl Q Ow w)(ha:Q a=za p)(t:ByteArray)(ht:t.size<=4096):
  zj prog 130 #[zg (za ⟨a,0,zb⟩),.string t] w λe w'=>∃(aF:Nat->Nat->Prop) (bb:Bool),e=.returned (.bool bb)/\(bb=true↔Lg t.data.toList p 0 t.size)/\cY w0 pl Q Ow w aF w':=by
 have hst:=Jp a p w h ha;have Hi:Hid _:=h;clear h
 go_enter func130,ntmps130
 go_wp2_with fail
 refine hst.mono ?_;rintro e w1 ⟨s,dX,X,v,ra,rb,O1,O2,rfl,mX,tG,pX,hch⟩;have rU:=QR t.size w1 ht;have uj:Hid _:=mX;have yO:Hid _:=hch;clear hst mX hch
 go_wp2_with fail
 refine rU.mono ?_;rintro e w2 ⟨U,rfl,hU,gX,ae⟩;have cV:=uj.out.below (uj.out.inv.below ae) ae;have eW:Hid _:=yO.out.below ae;have jk:=Qs cV (by omega) (by omega) t ht (t.size/64+1) w1.heap.size (t.size/64+1) U hU (by omega) (λhx=>by have:=(uj.out.x0 _ hx).2;omega) ⟨t.size,by omega,(gX _).2 rfl⟩ (λq _ hb=>by have:=(gX q).1 hb;omega);have ru:Hid _:=gX;have yQ:Hid _:=cV;obtain⟨ne,hne⟩:∃ne,t.size/64+1=ne:=⟨_,rfl⟩;have Fe:ne<=100:=by omega
 have zz1:0<ne:=by omega
 have lG:t.size<64*ne:=by omega
 rw[hne]at jk ⊢;clear rU hU gX cV hne
 go_wp2_with fail
 refine jk.mono ?_;rintro e w3 ⟨jC,X3,high,tt,gs,b',O,S,pv,ps,rfl,h3,nU,pk,BA,T,hh⟩;have vY:=QY ne gs ne S 0 w3 T.sp (by omega) (by omega);obtain⟨-,k1,-,-⟩:=qm T.box;have HF:Hid (∃(aF:Nat->Nat->Prop) (bb:Bool),Ending.returned (.bool (au S 0))=.returned (.bool bb)/\(bb=true↔Lg t.data.toList p 0 t.size)/\cY w0 pl Q Ow w aF w3):=by
  have tN:t.data.toList.length=t.size:=by simp
  refine⟨jC,au S 0,rfl,?_,h3.zL (nU _ _ eW.out)⟩;rw[Qw yQ.out.inv ha T (λm hm=>by rw[tN,(ru.out m).1 hm.2];omega) 0];constructor
  ·rintro ⟨e,h1,h2⟩;rw[(ru.out e).1 h1.2]at h2;exact h2
  ·intro h1;exact⟨t.size,⟨lG,(ru.out _).2 rfl⟩,h1⟩
 clear jk T h3 nU pk BA
 go_wp2_with fail
 refine vY.mono ?_;rintro e w4 ⟨rfl,Bz⟩;subst w4;clear vY;go_wp2;go_ret;exact HF.out
end
def OB(u:aJ)(p:Pt)(E:Nat->Prop)(fr cI:Nat)(ok:Bool):Prop:=(ok=true/\E cI/\Lg u p fr cI/\∀x,E x->Lg u p fr x->x<=cI)\/(ok=false/\∀x,E x->¬Lg u p fr x)
section
variable {w0:zc} {pl:Nat} {Q:Nat->Option Pt} {a:Nat} {p:Pt} {Ow:Nat->Nat->Prop}
theorem zrW(w:zc)(h:cF w0 pl Q Ow w)(ha:Q a=za p)(t:ByteArray)(ht:t.size<=4096)(ne ge cap fr:Nat)(ET:Nat->Nat)(hE:aH w ne ge ET)(hne:ne<=100)(fY:w0.heap.size<=ge)(rQ:∀b,¬Ow ge b)(hx:∃q,q<64*ne/\au ET q=true)(hq:∀q,q<64*ne->au ET q=true->q<=t.size)(fC:fr<=t.size)(vV:fr<64*ne)(hcs:(∃e,e<64*ne/\au ET e=true/\Lg t.data.toList p fr e)\/fr=t.size):
  zj prog 229 #[zg (za ⟨a,0,zb⟩),.string t,zf .i64 fr,zd (za ⟨ge,0,zb⟩) ne cap] w λe w'=>∃(aF:Nat->Nat->Prop) (cI:Nat) (ok:Bool),e=.returned (.tuple #[zf .i64 cI,.bool ok])/\OB t.data.toList p (λq=>q<64*ne/\au ET q=true) fr cI ok/\cY w0 pl Q Ow w aF w':=by
 have hl:=XE ne ge cap ET w hE (by omega) (h.dv.keep h.zero);have hg:=WV ne ge cap ET w hE (by omega);have Hi:Hid _:=h;have HE:Hid _:=hE
 go_enter func229,ntmps229
 go_wp2_with fail
 refine hl.mono ?_;rintro e w1 ⟨lv,rfl,LS,mh⟩;subst w1;obtain⟨low,rfl,jZ,uO,pi⟩:∃low:Nat,lv=low/\low<64*ne/\au ET low=true/\∀q,q<low->au ET q=false:=by
  rcases LS with ⟨-,h1⟩|⟨p,h1⟩
  ·obtain⟨q,h2,h3⟩:=hx;rw[h1 q h2]at h3;cases h3
  ·exact⟨p,h1⟩
 have Of:Hid _:=pi;have ZR:Hid _:=uO;clear hl LS pi uO h hE
 go_upto_region 2 with fail
 go_cut [21] from 13 to 21 (λv21 wx=>∃bb:Bool,v21=.bool bb/\Below w.heap.size w wx/\Hid (bb=true->fr<low/\∀q,q<64*ne->au ET q=true->q=low))
 case first=>
  by_cases h1:fr<low
  ·have hd:decide ((fr:Int)<(low:Int))=true:=by simp;omega
   go_wp2_with fail
   refine hg.mono ?_;rintro e w1 ⟨hv,rfl,qK,ag⟩;obtain⟨high,rfl,zu,Bl,xG⟩:∃high:Nat,hv=high/\high<64*ne/\au ET high=true/\∀q,high<q->q<64*ne->au ET q=false:=by
    rcases qK with ⟨-,h1⟩|⟨p,h1⟩
    ·obtain⟨q,h2,h3⟩:=hx;rw[h1 q h2]at h3;cases h3
    ·exact⟨p,h1⟩
   have Kf:Hid _:=xG;clear hg qK Bl xG
   by_cases h2:low=high
   ·have pU:((low:Int)==(high:Int))=true:=by simp;omega
    have H2:Hid _:=h2;clear h2;go_wp2
    go_meet
    refine⟨true,rfl,ag,λ_=>⟨h1,λq h3 h4=>?_⟩⟩;rcases Ca q low with e|e|e
    ·have:=Of.out q e;rw[h4]at this;cases this
    ·exact e
    ·have:=Kf.out q (by have:=H2.out;omega) h3;rw[h4]at this;cases this
   ·have pU:((low:Int)==(high:Int))=false:=by simp;omega
    go_wp2
    go_meet
    exact⟨false,rfl,ag,λe=>by cases e⟩
  ·have hd:decide ((fr:Int)<(low:Int))=false:=by simp;omega
   clear hg;go_wp2
   go_meet
   exact⟨false,rfl,Below.refl _ _,λe=>by cases e⟩
 case rest=>
  obtain⟨bb,rfl,fO,yM⟩:=hcut;have h1:=Hi.out.below fO;clear hg;cases bb with
  |true=>
   have HF:Hid (∃(aF:Nat->Nat->Prop) (cI:Nat) (ok:Bool),Ending.returned (.tuple #[zf .i64 (low:Int),.bool true])=.returned (.tuple #[zf .i64 cI,.bool ok])/\OB t.data.toList p (λq=>q<64*ne/\au ET q=true) fr cI ok/\cY w0 pl Q Ow w aF wc):=by
    obtain⟨b1,b2⟩:=yM.out rfl;refine⟨Ow,low,true,rfl,.inl ⟨rfl,⟨jZ,ZR.out⟩,?_,λx hx _=>by have:=b2 x hx.1 hx.2;omega⟩,cY.bR Hi.out fO⟩;rcases hcs with ⟨e,e1,e2,e3⟩|e
    ·rw[b2 e e1 e2]at e3;exact e3
    ·have:=hq low jZ ZR.out;omega
   clear h1 yM;go_wp2
   go_ret2
   exact HF.out
  |false=>
   have hst:=Jp a p wc h1 ha;clear h1 yM
   go_wp2_with fail
   refine hst.mono ?_;rintro e w2 ⟨s,nM,X,v,ra,rb,O1,O2,rfl,mX,tG,pX,hch⟩;have fD:=HE.out.cB;have iU:=fO.size;have hX:¬X ge:=λe=>(hch.xs ge e).elim (rQ a) λe=>by omega
   have ze:aH w2 ne ge ET:=by
    have:=((mX.zL hch).eG ge fY (by omega) rQ).1;exact⟨this.trans ((fO.block ge fD).trans HE.out.row),HE.out.lt⟩
   have Lz:=zfR mX (by omega) (by omega) t ht ne ge cap fr ET ze hne hX hx hq fC vV (zg zb) (λ_ _ _=>.inl rfl);have yO:Hid _:=hch;have Ej:Hid _:=fO;clear hst mX hch ze fO
   go_wp2_with fail
   refine Lz.mono ?_;rintro e w3 ⟨jC,X3,a',O,cI,ok,rfl,h3,nU,-,-,-,-,hR⟩;have HF:Hid (∃(aF:Nat->Nat->Prop) (zwg:Nat) (ok':Bool),Ending.returned (.tuple #[zf .i64 (cI:Int),.bool ok])=.returned (.tuple #[zf .i64 zwg,.bool ok'])/\OB t.data.toList p (λq=>q<64*ne/\au ET q=true) fr zwg ok'/\cY w0 pl Q Ow w aF w3):=by
    refine⟨jC,cI,ok,rfl,?_,(cY.bR Hi.out Ej.out).trans (h3.zL (nU _ _ yO.out))⟩;rcases hR with h|⟨h1,-,h2⟩
    ·exact .inl h
    ·exact .inr ⟨h1,h2⟩
   clear Lz h3 nU hR;go_wp2
   go_ret2
   exact HF.out
end
abbrev ul:=Nat×Pt×Nat
def mw:List ul->List zi
 |[]=>[]
 |(a,(_,e))::ys=>zg (za ⟨a,0,zb⟩) :: zf .i64 (e:Int)::mw ys
theorem Xk:∀(xs ys:List ul),mw (xs++ys)=mw xs++mw ys
 |[],_=>rfl
 |(_,_,_)::xs,ys=>by simp[mw,Xk xs ys]
theorem zpM:∀(ys:List ul) (i a:Nat) (q:Pt) (e:Nat),ys[i]?=za (a,q,e)->(mw ys)[i*2]?=za (zg (za ⟨a,0,zb⟩))/\(mw ys)[i*2+1]?=za (zf .i64 (e:Int))
 |(a0,q0,e0)::ys,0,a,q,e,h=>by simp at h;obtain⟨rfl,-,rfl⟩:=h;exact⟨rfl,rfl⟩
 |(a0,q0,e0)::ys,i+1,a,q,e,h=>by
  obtain⟨h1,h2⟩:=zpM ys i a q e (by simpa using h);rw[show (i+1)*2=i*2+1+1 from by omega];exact⟨h1,h2⟩
def oe(ys:List ul):Laid:=ys.map λy=>y.2
def te(w0:zc)(pl:Nat)(Q:Nat->Option Pt)(Ow:Nat->Nat->Prop)(w:zc)(lo:Nat)(u:aJ)(n:Nat)(p:Pt)(e:Ending)(w':zc):Prop:=
 ∃(aF:Nat->Nat->Prop) (ys:List ul) (v:zi),e=.returned v/\cY w0 pl Q Ow w aF w'/\w'.ownsRow w.heap.size 247 2 v ys.length (mw ys)/\(∀k,v.ownBlock=za k->∀b,¬aF k b)/\yR u 0 n p (oe ys)/\∀y,y∈ys->dU lo w0 pl Q y.1 y.2.1
theorem zt4(w:zc)(B a:Nat)(q:Pt)(e:Nat)(hB:B<=w.heap.size):(w.alloc (zh #[zg (za ⟨a,0,zb⟩),zf .i64 (e:Int)] 247)).ownsRow B 247 2 (zd (za ⟨w.heap.size,0,zb⟩) 1 1) 1 (mw [(a,q,e)]):=
 ⟨by simp[mw],.inr ⟨w.heap.size,1,_,rfl,hB,aI _ _,aj _,by unfold maxLen;omega,rfl,by simp[mw]⟩⟩
section
variable {w0:zc} {pl:Nat} {Q:Nat->Option Pt} {Ow:Nat->Nat->Prop}
theorem zmm{w w1:zc}{dX:Nat->Nat->Prop}(lo:Nat){u:aJ}{n:Nat}{p q:Pt}{a:Nat}(hT:cY w0 pl Q Ow w dX w1)(hl:yR u 0 n p [(q,n)])(hp:dU lo w0 pl Q a q)(H:Nat)(hH:w1.heap.size=H):te w0 pl Q Ow w lo u n p (.returned (zd (za ⟨H,0,zb⟩) 1 1)) (w1.alloc (zh #[zg (za ⟨a,0,zb⟩),zf .i64 (n:Int)] 247)):=by
 subst hH;refine⟨dX,[(a,q,n)],_,rfl,hT.below (aw),zt4 w1 _ a q n hT.size,λk e b ho=>?_,hl,λy hy=>?_⟩
 ·have e:w1.heap.size=k:=by simpa [Value.ownBlock]using e
  have:=(hT.inv.ow k b ho).2;omega
 ·rw[eK.1 hy];exact hp
theorem zk9(w:zc)(h:cF w0 pl Q Ow w)(lo a':Nat)(b:Pt)(g:Int)(hp:dU lo w0 pl Q a' b)(t:ByteArray):
  zj prog 220 #[.agg #[zf .i64 g,zg (za ⟨a',0,zb⟩)],.string t] w λe w'=>te w0 pl Q Ow w lo t.data.toList t.size (.aT b g) e w':=by
 have af:Below w.heap.size w (w.alloc (zh #[zf .i64 g,zg (za ⟨a',0,zb⟩)] 242)):=aw;have HF:=aA (zmm lo (u:=t.data.toList) (n:=t.size) (p:=.aT b g) (cY.bR h af) (show yR _ _ _ _ _ from rfl) hp (w.heap.size+1) (by simp));clear h hp af
 go_enter func220,ntmps220
 go_wp2;go_ret;exact HF.out
theorem zpF{lo go cap:Nat}{xs:List (Nat×Pt)}(hr:w0.ownsRow lo 198 1 (zd (za ⟨go,0,zb⟩) xs.length cap) xs.length (iY xs)){w:zc}(h:cF w0 pl Q Ow w){i:Nat}{x:Nat×Pt}(hx:xs[i]?=za x):w.cell? ⟨go,i,zb⟩=za (zg (za ⟨x.1,0,zb⟩)):=by
 have hi:=(zY.1 hx).1;obtain⟨g,c,ax,h1,h2,h3⟩:=yl hr (by omega);injection h1 with h1 _ _
 injection h1 with h1
 injection h1 with h1 _ _
 subst h1;rw[aM _ _ _ _ _ _ (h.dO h2 (by decide) (by decide)),h3 i hi];simp[iY,hx]
theorem Gd{w:zc}{lo g n cap sz:Nat}{e:zk}{xs:List zi}(h:w.ownsRow lo e sz (zd (za ⟨g,0,zb⟩) n cap) n xs):n<=cap/\lo<=g/\g<w.heap.size/\∃ax,w.heap[g]?=za (zh ax e (0,0)):=by
 rcases h.2 with ⟨h0,_⟩|⟨g',cap',ax,hv,h1,h2,h3,_⟩
 ·cases h0
 ·cases hv
  exact⟨h3,h1,(ah.1 h2).1,ax,h2⟩
theorem zjr(w:zc)(h:cF w0 pl Q Ow w)(lo go cap:Nat)(l r:Pt)(xs:List (Nat×Pt))(hr:w0.ownsRow lo 198 1 (zd (za ⟨go,0,zb⟩) xs.length cap) xs.length (iY xs))(hf:xs.map Prod.snd=dA (.aN l r))(hp:∀x,x∈xs->dU lo w0 pl Q x.1 x.2)(hQ:∀x,x∈xs->Q x.1=za x.2)(t:ByteArray)(ht:t.size<=4096)(hL:Lg t.data.toList (.aN l r) 0 t.size)(qa:xs.length<=100000)(h0:0<xs.length):
  zj prog 233 #[.agg #[zd (za ⟨go,0,zb⟩) xs.length cap],.string t] w λe w'=>te w0 pl Q Ow w lo t.data.toList t.size (.aN l r) e w':=by
 obtain⟨n,Hn⟩:∃n,Hid (xs.length=n):=⟨_,rfl⟩;obtain⟨rO,-,-,-⟩:=Gd hr;have Hr:=aA hr;have Hf:=aA hf;have Hp:=aA hp;have HQ:=aA hQ;have HL:=aA hL;have af:Below w.heap.size w (w.alloc (zh #[zd (za ⟨go,0,zb⟩) xs.length cap] 311)):=aw;have x0:(w.alloc (zh #[zd (za ⟨go,0,zb⟩) xs.length cap] 311)).heap[w.heap.size]?=za (zh #[zd (za ⟨go,0,zb⟩) xs.length cap] 311 (0,0)):=aI _ _;have nJ:Hid _:=cY.bR h af;have wz:=h.size;have GS:Hid (∀i,i<n->∃x,xs[i]?=za x/\x∈xs):=λi hi=>by
  have dY:i<xs.length:=by have:=Hn.out;omega
  exact⟨_,dh dY,kg _⟩
 have ZF:Hid (∀(i:Nat) (x:Nat×Pt),xs[i]?=za x->(dA (.aN l r))[i]?=za x.2):=λi x hx=>by rw[<-Hf.out];simp[hx]
 have fC:∀b,¬Ow w.heap.size b:=λb ho=>by have:=(h.ow _ b ho).2;omega
 rw[Hn.out]at rO x0 af nJ qa h0 ⊢;have Od:Hid (∀W dX (i:Nat) (x:Nat×Pt),cY w0 pl Q Ow w dX W->xs[i]?=za x->(∀(j:Nat) (y:Nat×Pt),j<i->xs[j]?=za y->¬Lg t.data.toList y.2 0 t.size)->(Lg t.data.toList x.2 0 t.size\/i+1=n)->te w0 pl Q Ow w lo t.data.toList t.size (.aN l r) (.returned (zd (za ⟨W.heap.size,0,zb⟩) 1 1)) (W.alloc (zh #[zg (za ⟨x.1,0,zb⟩),zf .i64 (t.size:Int)] 247))):=by
  intro W dX i x hT hx hno hor;have zxh:∀(j:Nat) (q:Pt),j<i->(dA (.aN l r))[j]?=za q->¬Lg t.data.toList q 0 t.size:=λj q hj hq=>by
   rw[<-Hf.out,yA]at hq;cases hy:xs[j]? with
   |none=>rw[hy]at hq;cases hq
   |some y=>rw[hy]at hq;cases hq;exact hno j y hj hy
  have Mq:Lg t.data.toList x.2 0 t.size:=by
   rcases hor with h1|h1
   ·exact h1
   ·obtain⟨q,hq,IU⟩:=(Np _).1 HL.out;obtain⟨j,hj,e⟩:=DW hq;have IE:(dA (.aN l r)).length=n:=by rw[<-Hf.out,rf];exact Hn.out
    by_cases e2:j<i
    ·exact absurd IU (zxh j q e2 (by rw[dh hj,e]))
    ·have e3:j=i:=by omega
     subst e3;have:=ZF.out j x hx;rw[dh hj,e]at this;rw[<-Option.some.inj this];exact IU
  exact zmm lo (p:=.aN l r) hT ⟨i,x.2,ZF.out i x hx,zxh,Mq,rfl⟩ (Hp.out x (B8 hx)) _ rfl
 obtain⟨m,Hm⟩:∃m,Hid (m+1=n):=⟨n-1,by show _=_;omega⟩;have hmi:(n:Int)-1=(m:Int):=by have:=Hm.out;omega
 have eQ:(0:Int)<=(m:Int):=by omega
 have dw:(m:Int)<=(cap:Int):=by have:=Hm.out;omega
 have dG:(m:Int)<(n:Int):=by have:=Hm.out;omega
 have hm9:m<=100000:=by have:=Hm.out;omega
 clear h hr hf hp hQ hL qa h0 af
 go_enter func233,ntmps233
 obtain⟨W0,ai⟩:∃W0,w.alloc (zh #[zd (za ⟨go,0,zb⟩) n cap] 311)=W0:=⟨_,rfl⟩;rw[ai]at x0 nJ;have Th:W0.cell? ⟨w.heap.size,0,zb⟩=za (zd (za ⟨go,0,zb⟩) n cap):=(aM _ _ _ _ _ _ x0:_=_);go_wp2;clear ai Th
 go_loopw [17] (λi wr=>∃(k:Nat) (dX:Nat->Nat->Prop),k<=m/\i=zf .i64 k/\Hid (cY w0 pl Q Ow w dX wr)/\Hid (∀(j:Nat) (y:Nat×Pt),j<k->xs[j]?=za y->¬Lg t.data.toList y.2 0 t.size)/\wr.heap[w.heap.size]?=za (zh #[zd (za ⟨go,0,zb⟩) n cap] 311 (0,0))/\∀b,¬dX w.heap.size b) (λi _=>m-(intOf i).toNat)
 case atStart=>exact⟨0,Ow,aR _,rfl,nJ,λj _ hj=>absurd hj (cR _),x0,fC⟩
 case round=>
  clear nJ x0 fC;obtain⟨k,dX,hk,rfl,HT,HN,xr,Uo⟩:=hrel;have c0:wr.cell? ⟨w.heap.size,0,zb⟩=za (zd (za ⟨go,0,zb⟩) n cap):=(aM _ _ _ _ _ _ xr:_=_)
  by_cases hlt:k<m
  ·obtain⟨x,hx,kD⟩:=GS.out k (by have:=Hm.out;omega);have c1:=zpF Hr.out HT.out.inv hx;have tG:=zhT wr HT.out.inv (HQ.out x kD) t ht;have hd:decide ((k:Int)<(m:Int))=true:=by simp;omega
   have gZ:(0:Int)<=(k:Int):=by omega
   have db:(k:Int)<(m:Int):=by omega
   have Hx:Hid _:=hx;have Hxr:Hid _:=xr;have zyo:Hid _:=Uo;have I1:w.heap.size<wr.heap.size:=(ah.1 xr).1;clear kD hx xr Uo
   go_wp2_with fail
   refine tG.mono ?_;rintro e w1 ⟨nM,bb,rfl,cN,lV⟩;have yM:Hid _:=cN;have mI:Hid _:=HT.out.trans lV;have zp:=lV.eG w.heap.size wz I1 zyo.out;have ZE:Hid _:=zp;clear tG cN lV zp c0 c1;cases bb with
   |true=>
    have HF:=aA <| Od.out w1 nM k x mI.out Hx.out HN.out (.inl (yM.out.1 rfl))
    clear HT mI HN Od;go_wp2;go_ret;exact HF.out
   |false=>
    go_wp2
    go_roundw
    case rel=>exact⟨k+1,nM,by omega,by go_num,mI,λj y hj hy=>by
     by_cases e:j=k
     ·subst e;rw[Hx.out]at hy;cases hy;exact λhl=>by have:=yM.out.2 hl;cases this
     ·exact HN.out j y (by omega) hy,ZE.out.1.trans Hxr.out,ZE.out.2⟩
    case measure=>simp[intOf];omega
  ·obtain rfl:m=k:=by omega
   obtain⟨x,hx,kD⟩:=GS.out m (by have:=Hm.out;omega);have c1:=zpF Hr.out HT.out.inv hx;have hd:decide ((m:Int)<(m:Int))=false:=by simp
   have HF:=aA <| Od.out wr dX m x HT.out hx HN.out (.inr Hm.out)
   clear HT HN Od hx kD xr Uo;go_wp2;go_ret;exact HF.out
end
theorem zmS{b:Pt}(h:aE b<=2000):aE (.az b 0 (-1))=aE b:=by
 show cM (aE b*ed 0 (-1))=aE b;rw[show ed 0 (-1)=1 from rfl,Int.mul_one];unfold cM;rw[aC (by omega)]
theorem jr{w:zc}{g:Nat}{a0 a1:zi}{t:zk}(h:w.heap[g]?=za (zh #[a0,a1] t (0,0))):w.cell? ⟨g,0,zb⟩=za a0/\w.cell? ⟨g,1,zb⟩=za a1:=by
 have:∀o,w.cell? ⟨g,o,zb⟩=#[a0,a1][o]?:=λ_=>aM _ _ _ _ _ _ h
 exact⟨this 0,this 1⟩
theorem dy{w:zc}{B n k sz:Nat}{e:zk}{v:zi}{xs:List zi}(h:w.ownsRow B e sz v n xs)(hk:v.ownBlock=za k):B<=k/\∃ax,w.heap[k]?=za (zh ax e (0,0)):=by
 rcases h.2 with ⟨rfl,_⟩|⟨g,cap,ax,rfl,hg,hh,_⟩
 ·simp[Value.ownBlock]at hk
 ·simp[Value.ownBlock]at hk;subst hk;exact⟨hg,ax,hh⟩
def fI:Pt->Nat
 |.set _=>1
 |.seq l r=>fI l+fI r+1
 |.aN l r=>fI l+fI r+1
 |.az b _ _=>fI b+1
 |.aT b _=>fI b+1
theorem zt8(b:Pt):Pt.az b 0 (-1)≠b:=λe=>by
 have:=congrArg fI e;simp[fI]at this
section
variable {w0:zc} {pl:Nat} {Q:Nat->Option Pt} {Ow:Nat->Nat->Prop} {w w':zc} {F:Nat->Prop}
theorem cF.free(h:cF w0 pl Q Ow w)(tc:ap F w w')(km:bJ w w')(hF:∀k,F k->w0.heap.size<=k/\∀b,¬Ow k b):cF w0 pl Q Ow w':=by
 have hsz:=h.size;have mW:=tc.size;have ho:∀k,k<w0.heap.size->w'.heap[k]?=w.heap[k]?:=λk hk=>tc.same k (by omega) (λe=>by have:=(hF k e).1;omega)
 refine⟨tc.os.trans h.os,tc.tape.trans h.tape,tc.output.trans h.output,by omega,λk h1 h2 h3=>(ho k h1).trans (h.old k h1 h2 h3),h.q0,h.p0,h.dv,?_,λb q hq=>?_,λk b hk=>?_,h.dj⟩
 ·obtain⟨x0,x1,x2,r0,room,h1,h2,h3⟩:=h.vf;exact⟨_,_,_,_,_,h1,(ho pl h.zK).trans h2,h3⟩
 ·obtain⟨v1,f1,k1,q1,q2,q3,q4,q5⟩:=h.pc b q hq;exact⟨v1,f1,k1,q1,(ho b (h.aN hq)).trans q2,q3,q4,q5.keep (λk hk=>tc.same k (h.ow k b hk).2 (λe=>(hF k e).2 b hk)) km (ho 0 h.pos) mW⟩
 ·have:=h.ow k b hk;omega
theorem lS.free{a:Nat}{p:Pt}{s:Nat}{X:Nat->Prop}{v:eE}{ra rb:cz}{O1 O2:Nat->Prop}(h:lS w0 pl Q a p Ow w s X v ra rb O1 O2)(tc:ap F w w')(km:bJ w w')(hF:∀k,F k->w0.heap.size<=k/\(∀b,¬Ow k b)/\¬X k):lS w0 pl Q a p Ow w' s X v ra rb O1 O2:=by
 have pS:=h.inv.aN h.q;have hsz:=h.inv.size;have mW:=tc.size;have ho:∀k,k<w0.heap.size->w'.heap[k]?=w.heap[k]?:=λk hk=>tc.same k (by omega) (λe=>by have:=(hF k e).1;omega)
 refine⟨h.inv.free tc km (λk e=>⟨(hF k e).1,(hF k e).2.1⟩),h.q,h.st.keep (λk hk=>tc.same k (h.x0 k hk).2 (λe=>(hF k e).2.2 hk)) km (ho 0 h.inv.pos) mW,λk hk=>⟨(h.x0 k hk).1,bA (h.x0 k hk).2 mW⟩,?_⟩;rcases h.x1 with ⟨h1,h2⟩|h1
 ·exact .inl ⟨h1,(World.cell?_of_block (ho a pS)).trans h2⟩
 ·exact .inr h1
theorem cY.free{iC:Nat->Nat->Prop}{lh:zc}(h:cY w0 pl Q iC lh Ow w)(tc:ap F w w')(km:bJ w w')(hF:∀k,F k->w0.heap.size<=k/\(∀b,¬Ow k b)/\lh.heap.size<=k):cY w0 pl Q iC lh Ow w':=
 ⟨h.inv.free tc km (λk e=>⟨(hF k e).1,(hF k e).2.1⟩),aW h.size tc.size,λk h1 h2 h3=>⟨(tc.same k (by have:=h.size;omega) (λe=>by have:=(hF k e).2.2;omega)).trans (h.eG k h1 h2 h3).1,(h.eG k h1 h2 h3).2⟩,h.km.trans km⟩
end
theorem ztP{pl a:Nat}{Ow aF:Nat->Nat->Prop}{w w':zc}{X X':Nat->Prop}(h:∀iC lh,nI pl a iC lh Ow w X->nI pl a iC lh aF w' X'):bJ w w':=
 (h (λk b=>Ow k b\/(b=a/\X k)) w ⟨ap.refl _ _,λ_ _ e=>e,λ_ _ hb=>⟨.inl,λx=>x.elim id λy=>absurd y.1 hb⟩,λ_ hk=>.inl (.inl hk),λ_ hk=>.inl (.inr ⟨rfl,hk⟩)⟩).km
structure Cu(w0:zc)(pl:Nat)(Q:Nat->Option Pt)(a':Nat)(b:Pt)(iC:Nat->Nat->Prop)(w w4:zc)(X4 Pr:Nat->Prop)(s:Nat)(v:eE)(rb:cz)(O2:Nat->Prop)(Ow:Nat->Nat->Prop)(W:zc)(X:Nat->Prop)(ra:cz)(O:Nat->Prop):Prop where
 so:lS w0 pl Q a' b Ow W s X v ra rb O O2
 pt:cY w0 pl Q iC w Ow W
 xs:∀k,X k->X4 k\/w4.heap.size<=k
 sm:∀k,Pr k->W.heap[k]?=w4.heap[k]?
 sz:w4.heap.size<=W.heap.size
section
variable {w0:zc} {pl:Nat} {Q:Nat->Option Pt} {a':Nat} {b:Pt} {iC:Nat->Nat->Prop} {w w4:zc} {X4 Pr:Nat->Prop} {s:Nat} {v:eE} {rb:cz} {O2:Nat->Prop} {Ow:Nat->Nat->Prop} {W:zc} {X:Nat->Prop} {ra:cz} {O:Nat->Prop}
theorem Cu.row(h:Cu w0 pl Q a' b iC w w4 X4 Pr s v rb O2 Ow W X ra O)(hP:∀k,Pr k->k<w4.heap.size){W':zc}{o:Option Nat}(hg:W.grownBy W' o)(wy:w0.heap.size<=w.heap.size)(ho:∀k,o=za k->w.heap.size<=k/\(∀c,¬Ow k c)/\¬X k/\¬Pr k/\∃ax,W.heap[k]?=za (zh ax 247 (0,0))):Cu w0 pl Q a' b iC w w4 X4 Pr s v rb O2 Ow W' X ra O:=by
 have tc:ap (λk=>o=za k) W W':=(ap.refl _ W).grown hg (λk e=>.inl e);have km:bJ W W':=λmg f e=>(tc.same mg (ah.1 e).1 (λe2=>by
  obtain⟨_,_,_,_,ax,h5⟩:=ho mg e2;rw[h5]at e;exact absurd (bL e) (by decide))).trans e
 refine⟨h.so.free tc km (λk e=>?_),h.pt.free tc km (λk e=>?_),h.xs,λk hk=>(tc.same k (by have:=hP k hk;have:=h.sz;omega) (λe=>(ho k e).2.2.2.1 hk)).trans (h.sm k hk),aW h.sz tc.size⟩
 ·obtain⟨h1,h2,h3,_⟩:=ho k e;exact⟨by omega,h2,h3⟩
 ·obtain⟨h1,h2,_⟩:=ho k e;exact⟨by omega,h2,h1⟩
theorem Cu.step(h:Cu w0 pl Q a' b iC w w4 X4 Pr s v rb O2 Ow W X ra O)(hP:∀k,Pr k->k<w4.heap.size/\¬X4 k)(Pd:∀k,w0.heap.size<=k->k<w.heap.size->(∀c,¬iC k c)->¬X4 k)(Bz:w.heap.size<=w4.heap.size){aF:Nat->Nat->Prop}{W':zc}{X':Nat->Prop}{wH:cz}{O':Nat->Prop}(so:lS w0 pl Q a' b aF W' s X' v wH rb O' O2)(pk:∀k c,aF k c->Ow k c\/X' k)(zE:∀k,X' k->X k\/W.heap.size<=k)(tc:ap X W W')(km:bJ W W'):Cu w0 pl Q a' b iC w w4 X4 Pr s v rb O2 aF W' X' wH O':=by
 have hsz:=h.sz;have hx:∀k,k<w4.heap.size->¬X4 k->¬X k:=λk h1 h2 h3=>(h.xs k h3).elim h2 λe=>by omega
 have tP:∀k,k<w4.heap.size->¬X4 k->¬X' k:=λk h1 h2 h3=>(zE k h3).elim (hx k h1 h2) λe=>by omega
 refine⟨so,⟨so.inv,aW h.pt.size tc.size,λk h1 h2 h3=>?_,h.pt.km.trans km⟩,λk hk=>(zE k hk).elim (h.xs k) λe=>.inr (by omega),λk hk=>(tc.same k (by have:=(hP k hk).1;omega) (hx k (hP k hk).1 (hP k hk).2)).trans (h.sm k hk),aW h.sz tc.size⟩;obtain⟨f1,f2⟩:=h.pt.eG k h1 h2 h3;have hn:=Pd k h1 h2 h3;refine⟨(tc.same k (by have:=h.pt.size;omega) (hx k (by omega) hn)).trans f1,λc hc=>?_⟩;rcases pk k c hc with e|e
 ·exact f2 c e
 ·exact tP k (by omega) hn e
end
end Go.Proofs.YtdimhpfiieepiaaGreatDoor
