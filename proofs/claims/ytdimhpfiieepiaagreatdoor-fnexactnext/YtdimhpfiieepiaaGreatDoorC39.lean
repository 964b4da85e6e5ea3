import Derived.Test.YtdimhpfiieepiaaGreatDoorC38
namespace Go.Proofs.YtdimhpfiieepiaaGreatDoor
open Proofs.Tryz
open Option renaming some->za,none->zb
open Go renaming World->zc,Value->zj,Calls->zk,TypeId->zl
open Value renaming slice->zd,int->ze,pointer->zf
open Obj renaming cells->aa
set_option maxHeartbeats 1000000
set_option maxRecDepth 100000
open Go.RowKit
attribute [local go_sem ↓] wp_at_zero wp_at_succ
section
section
variable {w0:zc} {pl:Nat} {Q:Nat->Option Pt} {a:Nat} {p:Pt} {Ow:Nat->Nat->Prop} {w:zc} {s:Nat} {X:Nat->Prop} {v:ey} {ra rb:cd} {O1 O2:Nat->Prop}
theorem cE.Li(h:cE w0 pl Q Ow w)(ha:Q a=za p):oO p:=by
 obtain⟨v,f,k,-,-,h1,-⟩:=h.pc a p ha;exact Fg p v h1
theorem cE.tk(h:cE w0 pl Q Ow w)(ha:Q a=za p):(bY p 0).Tk (In p):=xR p (h.Li ha) 0
def Xm(w0:zc)(pl:Nat)(Q:Nat->Option Pt)(a:Nat)(p:Pt)(Ow:Nat->Nat->Prop)(w:zc)(s:Nat)(X:Nat->Prop)(v:ey)(ra rb:cd)(O1 O2:Nat->Prop)(ne:Nat)(u:aJ)(E:Nat->Prop)(e:Ending)(w':zc):Prop:=
 ∃(aI:Nat->Nat->Prop) (X':Nat->Prop) (high t gs:Nat) (b':cd) (O:Nat->Prop) (S:Nat->Nat) (pv:zj) (ps:List Nat),e=.returned (zf (za ⟨t,0,zb⟩))/\lS w0 pl Q a p aI w' s X' v ra b' O1 O/\(∀jo nj,pB pl a jo nj Ow w X->pB pl a jo nj aI w' X')/\(∀k b,aI k b->Ow k b\/X' k)/\(∀k,X' k->X k\/O k)/\Mq w O1 O2 s v ra rb ne u (bY p 0) E high t gs w' b' O S pv ps/\E high
theorem O0(h:lS w0 pl Q a p Ow w s X v ra rb O1 O2)(ha:ra.m<=40000000)(hb:rb.m<=40000000)(t:ByteArray)(ht:t.size<=4096)(ne ge cap:Nat)(ET:Nat->Nat)(hE:aH w ne ge ET)(hne:ne<=100)(hO:¬X ge)(hx:∃q,q<64*ne/\ax ET q=true)(hq:∀q,q<64*ne->ax ET q=true->q<=t.size):
  zk prog 125 #[zf (za ⟨s,0,zb⟩),.string t,zd (za ⟨ge,0,zb⟩) ne cap] w λe w'=>Xm w0 pl Q a p Ow w s X v ra rb O1 O2 ne t.data.toList (λq=>q<64*ne/\ax ET q=true) e w':=by
 refine(zkQ h.st.st (bY p 0) h.st.rw h.st.em t ht ne ge cap ET hE hne (λho=>hO (h.st.x2 ge ho)) hx hq (by omega)).mono ?_;rintro e w' ⟨high,tt,gs,b',O,S,pv,ps,rfl,hh,T⟩;have pM:=T.mb;have hht:=hq high hh.1 hh.2;have mZ:ue w' s p (λk=>X k\/O k) v ra b' O1 O:=⟨T.st,h.st.rw,h.st.em,h.st.nl,h.st.G7,λk h1 h2=>.inl (h.st.lo k h1 h2),λk h1=>.inl (h.st.x1 k h1),λk h1=>.inr h1⟩;obtain⟨aI,h1,h2,h3⟩:=h.step (w':=w') (X':=λk=>X k\/O k) (T.tc.mono λk _ hk=>h.st.x2 k hk) T.km mZ (by omega) (by omega) (λk hk=>hk.elim .inl λhk=>(T.zg k hk).elim (λx=>.inl (h.st.x2 k x)) .inr) (λk hk=>hk.elim (λhk=>bA (h.x0 k hk).2 T.tc.size) λhk=>(T.st.o2 k hk).2);exact⟨aI,_,high,tt,gs,b',O,S,pv,ps,rfl,h1,h3,h2,λk hk=>hk,T,hh⟩
theorem O6(hi:cE w0 pl Q Ow w)(hq:Q a=za p){w1 w2:zc}{ne:Nat}{u:aJ}{E:Nat->Prop}{high t gs:Nat}{b':cd}{O:Nat->Prop}{S:Nat->Nat}{pv:zj}{ps:List Nat}(T:Mq w1 O1 O2 s v ra rb ne u (bY p 0) E high t gs w2 b' O S pv ps)(hE:∀m,E m->m<=u.length)(m:Nat):ax S m=true↔∃e,E e/\Lg u p m e:=
 (T.ss m).trans (ztM (hi.tk hq) hE m)
theorem Pm{aI:Nat->Nat->Prop}{X':Nat->Prop}{O:Nat->Prop}(h:lS w0 pl Q a p Ow w s X v ra rb O1 O2)(h1:∀k b,aI k b->Ow k b\/X' k)(h2:∀k,X' k->X k\/O k){k:Nat}(hk:w.heap.size<=k)(hO:¬O k):(∀b,¬aI k b)/\¬X' k:=by
 have hX:¬X' k:=λe=>by
  rcases h2 k e with e|e
  ·have:=(h.x0 k e).2;omega
  ·exact hO e
 refine⟨λb e=>?_,hX⟩;rcases h1 k b e with e|e
 ·have:=(h.inv.ow k b e).2;omega
 ·exact hX e
def FuO(w0:zc)(pl:Nat)(Q:Nat->Option Pt)(a:Nat)(p:Pt)(Ow:Nat->Nat->Prop)(w:zc)(s:Nat)(X:Nat->Prop)(v:ey)(ra rb:cd)(O2:Nat->Prop)(u:aJ)(E:Nat->Prop)(fr:Nat)(e:Ending)(w':zc):Prop:=
 ∃(aI:Nat->Nat->Prop) (X':Nat->Prop) (a':cd) (O:Nat->Prop) (cG:Nat) (ok:Bool),e=.returned (.tuple #[ze .i64 cG,.bool ok])/\lS w0 pl Q a p aI w' s X' v a' rb O O2/\(∀jo nj,pB pl a jo nj Ow w X->pB pl a jo nj aI w' X')/\(∀k b,aI k b->Ow k b\/X' k)/\(∀k,X' k->X k\/w.heap.size<=k)/\a'.m<=ra.m+4096/\aE X w w'/\
  ((ok=true/\E cG/\Lg u p fr cG/\∀x,E x->Lg u p fr x->x<=cG)\/(ok=false/\cG=fr/\∀x,E x->¬Lg u p fr x))
theorem ztu{u:aJ}{M:PA}(h:M.Tk (In p)){fr e:Nat}(he:e<=u.length):rp u M fr e↔Lg u p fr e:=by
 rcases Bn fr e with hlt|rfl|hlt
 ·rw[WW h hlt he];exact⟨λx=>x.elim (λy=>by omega) (λy=>y.2),λx=>.inr ⟨hlt,x⟩⟩
 ·rw[WK h he];exact⟨λx=>x.elim (λy=>y.2) (λy=>by omega),λx=>.inl ⟨rfl,x⟩⟩
 ·exact⟨λx=>x.elim (λy=>by omega) (λy=>by omega),λx=>by have:=x.1;omega⟩
theorem zfZ(h:lS w0 pl Q a p Ow w s X v ra rb O1 O2)(ha:ra.m<=40000000)(hb:rb.m<=40000000)(t:ByteArray)(ht:t.size<=4096)(ne ge cap fr:Nat)(ET:Nat->Nat)(hE:aH w ne ge ET)(hne:ne<=100)(hO:¬X ge)(hx:∃q,q<64*ne/\ax ET q=true)(hq:∀q,q<64*ne->ax ET q=true->q<=t.size)(eT:fr<=t.size)(vJ:fr<64*ne)(av:zj)
  (qp:∀high,(high<64*ne/\ax ET high=true)->(∀q,q<64*ne->ax ET q=true->q<=high)->WV O1 w v.nw t.data.toList (bY p 0) (λq=>q<64*ne/\ax ET q=true) fr high av):
  zk prog 231 #[zf (za ⟨s,0,zb⟩),.string t,ze .i64 fr,zd (za ⟨ge,0,zb⟩) ne cap,av] w λe w'=>FuO w0 pl Q a p Ow w s X v ra rb O2 t.data.toList (λq=>q<64*ne/\ax ET q=true) fr e w':=by
 refine(zk7 h.st.st (bY p 0) h.st.rw h.st.em t ht ne ge cap fr ET hE hne (λho=>hO (h.st.x1 ge ho)) hx hq eT vJ (by omega) av qp).mono ?_;rintro e w' ⟨k,now,n,cG,ok,a',O,rfl,F,hk,hn,hB⟩;have vV:t.data.toList.length=t.size:=by simp
 have pM:=F.mb;have hle:=F.le;have mZ:ue w' s p (λk=>X k\/O k) v a' rb O O2:=⟨F.st,h.st.rw,h.st.em,h.st.nl,h.st.G7,λk h1 h2=>.inl (h.st.lo k h1 h2),λk h1=>.inr h1,λk h1=>.inl (h.st.x2 k h1)⟩;have tz:∀k,(X k\/O k)->X k\/w.heap.size<=k:=λk hk=>hk.elim .inl λhk=>(F.OJ k hk).elim (λx=>.inl (h.st.x1 k x)) .inr
 have tcX:aE X w w':=F.tc.mono λk _ hk=>h.st.x1 k hk
 obtain⟨aI,h1,h2,h3⟩:=h.step (w':=w') (X':=λk=>X k\/O k) tcX F.km mZ (by omega) (by omega) tz (λk hk=>hk.elim (λhk=>bA (h.x0 k hk).2 F.tc.size) λhk=>(F.st.o1 k hk).2);refine⟨aI,_,a',O,cG,ok,rfl,h1,h3,h2,tz,by omega,tcX,?_⟩;have Kl:∀x,(x<64*ne/\ax ET x=true)->(rp t.data.toList (bY p 0) fr x↔Lg t.data.toList p fr x):=λx hx=>ztu (h.inv.tk h.q) (by rw[vV];exact hq x hx.1 hx.2)
 rcases hB with ⟨b1,b2,b3,b4,b5⟩|⟨b1,b2,b3⟩
 ·exact .inl ⟨b1,b2,(Kl _ b2).1 b3,λx hx hL=>b5 x (hn x hx) hx ((Kl x hx).2 hL)⟩
 ·exact .inr ⟨b1,b2,λx hx hL=>b3 x (hn x hx) hx ((Kl x hx).2 hL)⟩
end
section
variable {w0:zc} {pl:Nat} {Q:Nat->Option Pt} {a:Nat} {p:Pt} {Ow:Nat->Nat->Prop}
theorem zh2(w:zc)(h:cE w0 pl Q Ow w)(ha:Q a=za p)(t:ByteArray)(ht:t.size<=4096):
  zk prog 130 #[zf (za ⟨a,0,zb⟩),.string t] w λe w'=>∃(aI:Nat->Nat->Prop) (bb:Bool),e=.returned (.bool bb)/\(bb=true↔Lg t.data.toList p 0 t.size)/\da w0 pl Q Ow w aI w':=by
 have hst:=Ik a p w h ha;have Hi:Hid _:=h;clear h
 go_enter func130,ntmps130
 go_wp2_with fail
 refine hst.mono ?_;rintro e w1 ⟨s,dQ,X,v,ra,rb,O1,O2,rfl,mY,xq,pM,hch⟩;have vR:=Pu t.size w1 ht;have ub:Hid _:=mY;have yt:Hid _:=hch;clear hst mY hch
 go_wp2_with fail
 refine vR.mono ?_;rintro e w2 ⟨U,rfl,hU,gT,af⟩;have cZ:=ub.out.below (ub.out.inv.below af) af;have dx:Hid _:=yt.out.below af;have jM:=O0 cZ (by omega) (by omega) t ht (t.size/64+1) w1.heap.size (t.size/64+1) U hU (by omega) (λhx=>by have:=(ub.out.x0 _ hx).2;omega) ⟨t.size,by omega,(gT _).2 rfl⟩ (λq _ hb=>by have:=(gT q).1 hb;omega);have qZ:Hid _:=gT;have yw:Hid _:=cZ;obtain⟨ne,hne⟩:∃ne,t.size/64+1=ne:=⟨_,rfl⟩;have Em:ne<=100:=by omega
 have zyD:0<ne:=by omega
 have mU:t.size<64*ne:=by omega
 rw[hne]at jM ⊢;clear vR hU gT cZ hne
 go_wp2_with fail
 refine jM.mono ?_;rintro e w3 ⟨jG,X3,high,tt,gs,b',O,S,pv,ps,rfl,h3,nQ,uH,AW,T,hh⟩;have vM:=PD ne gs ne S 0 w3 T.sp (by omega) (by omega);obtain⟨-,k1,-,-⟩:=qb T.box;have HF:Hid (∃(aI:Nat->Nat->Prop) (bb:Bool),Ending.returned (.bool (ax S 0))=.returned (.bool bb)/\(bb=true↔Lg t.data.toList p 0 t.size)/\da w0 pl Q Ow w aI w3):=by
  have vV:t.data.toList.length=t.size:=by simp
  refine⟨jG,ax S 0,rfl,?_,h3.zh (nQ _ _ dx.out)⟩;rw[O6 yw.out.inv ha T (λm hm=>by rw[vV,(qZ.out m).1 hm.2];omega) 0];constructor
  ·rintro ⟨e,h1,h2⟩;rw[(qZ.out e).1 h1.2]at h2;exact h2
  ·intro h1;exact⟨t.size,⟨mU,(qZ.out _).2 rfl⟩,h1⟩
 clear jM T h3 nQ uH AW
 go_wp2_with fail
 refine vM.mono ?_;rintro e w4 ⟨rfl,AV⟩;subst w4;clear vM;go_wp2;go_ret;exact HF.out
end
end
section
def Nf(u:aJ)(p:Pt)(E:Nat->Prop)(fr cG:Nat)(ok:Bool):Prop:=(ok=true/\E cG/\Lg u p fr cG/\∀x,E x->Lg u p fr x->x<=cG)\/(ok=false/\∀x,E x->¬Lg u p fr x)
section
variable {w0:zc} {pl:Nat} {Q:Nat->Option Pt} {a:Nat} {p:Pt} {Ow:Nat->Nat->Prop}
theorem zrF(w:zc)(h:cE w0 pl Q Ow w)(ha:Q a=za p)(t:ByteArray)(ht:t.size<=4096)(ne ge cap fr:Nat)(ET:Nat->Nat)(hE:aH w ne ge ET)(hne:ne<=100)(gV:w0.heap.size<=ge)(rM:∀b,¬Ow ge b)(hx:∃q,q<64*ne/\ax ET q=true)(hq:∀q,q<64*ne->ax ET q=true->q<=t.size)(eT:fr<=t.size)(vJ:fr<64*ne)(hcs:(∃e,e<64*ne/\ax ET e=true/\Lg t.data.toList p fr e)\/fr=t.size):
  zk prog 229 #[zf (za ⟨a,0,zb⟩),.string t,ze .i64 fr,zd (za ⟨ge,0,zb⟩) ne cap] w λe w'=>∃(aI:Nat->Nat->Prop) (cG:Nat) (ok:Bool),e=.returned (.tuple #[ze .i64 cG,.bool ok])/\Nf t.data.toList p (λq=>q<64*ne/\ax ET q=true) fr cG ok/\da w0 pl Q Ow w aI w':=by
 have hl:=VQ ne ge cap ET w hE (by omega) (h.dR.keep h.zero);have hg:=Vh ne ge cap ET w hE (by omega);have Hi:Hid _:=h;have HE:Hid _:=hE
 go_enter func229,ntmps229
 go_wp2_with fail
 refine hl.mono ?_;rintro e w1 ⟨lv,rfl,Ko,lG⟩;subst w1;obtain⟨low,rfl,uE,uD,oX⟩:∃low:Nat,lv=low/\low<64*ne/\ax ET low=true/\∀q,q<low->ax ET q=false:=by
  rcases Ko with ⟨-,h1⟩|⟨p,h1⟩
  ·obtain⟨q,h2,h3⟩:=hx;rw[h1 q h2]at h3;cases h3
  ·exact⟨p,h1⟩
 have MR:Hid _:=oX;have Yu:Hid _:=uD;clear hl Ko oX uD h hE
 go_upto_region 2 with fail
 go_cut [21] from 13 to 21 (λv21 wx=>∃bb:Bool,v21=.bool bb/\Below w.heap.size w wx/\Hid (bb=true->fr<low/\∀q,q<64*ne->ax ET q=true->q=low))
 case first=>
  by_cases h1:fr<low
  ·have hd:decide ((fr:Int)<(low:Int))=true:=by simp;omega
   go_wp2_with fail
   refine hg.mono ?_;rintro e w1 ⟨hv,rfl,qw,ak⟩;obtain⟨high,rfl,yS,AE,xk⟩:∃high:Nat,hv=high/\high<64*ne/\ax ET high=true/\∀q,high<q->q<64*ne->ax ET q=false:=by
    rcases qw with ⟨-,h1⟩|⟨p,h1⟩
    ·obtain⟨q,h2,h3⟩:=hx;rw[h1 q h2]at h3;cases h3
    ·exact⟨p,h1⟩
   have I9:Hid _:=xk;clear hg qw AE xk
   by_cases h2:low=high
   ·have lz:((low:Int)==(high:Int))=true:=by simp;omega
    have H2:Hid _:=h2;clear h2;go_wp2
    go_meet
    refine⟨true,rfl,ak,λ_=>⟨h1,λq h3 h4=>?_⟩⟩;rcases Bn q low with e|e|e
    ·have:=MR.out q e;rw[h4]at this;cases this
    ·exact e
    ·have:=I9.out q (by have:=H2.out;omega) h3;rw[h4]at this;cases this
   ·have lz:((low:Int)==(high:Int))=false:=by simp;omega
    go_wp2
    go_meet
    exact⟨false,rfl,ak,λe=>by cases e⟩
  ·have hd:decide ((fr:Int)<(low:Int))=false:=by simp;omega
   clear hg;go_wp2
   go_meet
   exact⟨false,rfl,Below.refl _ _,λe=>by cases e⟩
 case rest=>
  obtain⟨bb,rfl,ed,yp⟩:=hcut;have h1:=Hi.out.below ed;clear hg;cases bb with
  |true=>
   have HF:Hid (∃(aI:Nat->Nat->Prop) (cG:Nat) (ok:Bool),Ending.returned (.tuple #[ze .i64 (low:Int),.bool true])=.returned (.tuple #[ze .i64 cG,.bool ok])/\Nf t.data.toList p (λq=>q<64*ne/\ax ET q=true) fr cG ok/\da w0 pl Q Ow w aI wc):=by
    obtain⟨b1,b2⟩:=yp.out rfl;refine⟨Ow,low,true,rfl,.inl ⟨rfl,⟨uE,Yu.out⟩,?_,λx hx _=>by have:=b2 x hx.1 hx.2;omega⟩,da.cH Hi.out ed⟩;rcases hcs with ⟨e,e1,e2,e3⟩|e
    ·rw[b2 e e1 e2]at e3;exact e3
    ·have:=hq low uE Yu.out;omega
   clear h1 yp;go_wp2
   go_ret2
   exact HF.out
  |false=>
   have hst:=Ik a p wc h1 ha;clear h1 yp
   go_wp2_with fail
   refine hst.mono ?_;rintro e w2 ⟨s,pC,X,v,ra,rb,O1,O2,rfl,mY,xq,pM,hch⟩;have fC:=HE.out.cj;have iY:=ed.size;have hX:¬X ge:=λe=>(hch.xs ge e).elim (rM a) λe=>by omega
   have yI:aH w2 ne ge ET:=by
    have:=((mY.zh hch).eG ge gV (by omega) rM).1;exact⟨this.trans ((ed.block ge fC).trans HE.out.row),HE.out.lt⟩
   have J8:=zfZ mY (by omega) (by omega) t ht ne ge cap fr ET yI hne hX hx hq eT vJ (zf zb) (λ_ _ _=>.inl rfl);have yt:Hid _:=hch;have Hbw:Hid _:=ed;clear hst mY hch yI ed
   go_wp2_with fail
   refine J8.mono ?_;rintro e w3 ⟨jG,X3,a',O,cG,ok,rfl,h3,nQ,-,-,-,-,hR⟩;have HF:Hid (∃(aI:Nat->Nat->Prop) (Zu:Nat) (ok':Bool),Ending.returned (.tuple #[ze .i64 (cG:Int),.bool ok])=.returned (.tuple #[ze .i64 Zu,.bool ok'])/\Nf t.data.toList p (λq=>q<64*ne/\ax ET q=true) fr Zu ok'/\da w0 pl Q Ow w aI w3):=by
    refine⟨jG,cG,ok,rfl,?_,(da.cH Hi.out Hbw.out).trans (h3.zh (nQ _ _ yt.out))⟩;rcases hR with h|⟨h1,-,h2⟩
    ·exact .inl h
    ·exact .inr ⟨h1,h2⟩
   clear J8 h3 nQ hR;go_wp2
   go_ret2
   exact HF.out
end
end
section
abbrev ud:=Nat×Pt×Nat
def my:List ud->List zj
 |[]=>[]
 |(a,(_,e))::ys=>zf (za ⟨a,0,zb⟩) :: ze .i64 (e:Int)::my ys
theorem Vy:∀(xs ys:List ud),my (xs++ys)=my xs++my ys
 |[],_=>rfl
 |(_,_,_)::xs,ys=>by simp[my,Vy xs ys]
theorem zpE:∀(ys:List ud) (i a:Nat) (q:Pt) (e:Nat),ys[i]?=za (a,q,e)->(my ys)[i*2]?=za (zf (za ⟨a,0,zb⟩))/\(my ys)[i*2+1]?=za (ze .i64 (e:Int))
 |(a0,q0,e0)::ys,0,a,q,e,h=>by simp at h;obtain⟨rfl,-,rfl⟩:=h;exact⟨rfl,rfl⟩
 |(a0,q0,e0)::ys,i+1,a,q,e,h=>by
  obtain⟨h1,h2⟩:=zpE ys i a q e (by simpa using h);rw[show (i+1)*2=i*2+1+1 from by omega];exact⟨h1,h2⟩
def oa(ys:List ud):Laid:=ys.map λy=>y.2
def sL(w0:zc)(pl:Nat)(Q:Nat->Option Pt)(Ow:Nat->Nat->Prop)(w:zc)(lo:Nat)(u:aJ)(n:Nat)(p:Pt)(e:Ending)(w':zc):Prop:=
 ∃(aI:Nat->Nat->Prop) (ys:List ud) (v:zj),e=.returned v/\da w0 pl Q Ow w aI w'/\w'.ownsRow w.heap.size 247 2 v ys.length (my ys)/\(∀k,v.ownBlock=za k->∀b,¬aI k b)/\yy u 0 n p (oa ys)/\∀y,y∈ys->dI lo w0 pl Q y.1 y.2.1
theorem ztF(w:zc)(B a:Nat)(q:Pt)(e:Nat)(hB:B<=w.heap.size):(w.alloc (aa #[zf (za ⟨a,0,zb⟩),ze .i64 (e:Int)] 247)).ownsRow B 247 2 (zd (za ⟨w.heap.size,0,zb⟩) 1 1) 1 (my [(a,q,e)]):=
 ⟨by simp[my],.inr ⟨w.heap.size,1,_,rfl,hB,aL _ _,ai _,by unfold maxLen;omega,rfl,by simp[my]⟩⟩
section
variable {w0:zc} {pl:Nat} {Q:Nat->Option Pt} {Ow:Nat->Nat->Prop}
theorem zmg{w w1:zc}{dQ:Nat->Nat->Prop}(lo:Nat){u:aJ}{n:Nat}{p q:Pt}{a:Nat}(hT:da w0 pl Q Ow w dQ w1)(hl:yy u 0 n p [(q,n)])(hp:dI lo w0 pl Q a q)(H:Nat)(hH:w1.heap.size=H):sL w0 pl Q Ow w lo u n p (.returned (zd (za ⟨H,0,zb⟩) 1 1)) (w1.alloc (aa #[zf (za ⟨a,0,zb⟩),ze .i64 (n:Int)] 247)):=by
 subst hH;refine⟨dQ,[(a,q,n)],_,rfl,hT.below (au),ztF w1 _ a q n hT.size,λk e b ho=>?_,hl,λy hy=>?_⟩
 ·have e:w1.heap.size=k:=by simpa [Value.ownBlock]using e
  have:=(hT.inv.ow k b ho).2;omega
 ·rw[eM.1 hy];exact hp
theorem zk9(w:zc)(h:cE w0 pl Q Ow w)(lo a':Nat)(b:Pt)(g:Int)(hp:dI lo w0 pl Q a' b)(t:ByteArray):
  zk prog 220 #[.agg #[ze .i64 g,zf (za ⟨a',0,zb⟩)],.string t] w λe w'=>sL w0 pl Q Ow w lo t.data.toList t.size (.aT b g) e w':=by
 have ae:Below w.heap.size w (w.alloc (aa #[ze .i64 g,zf (za ⟨a',0,zb⟩)] 242)):=au;have HF:=aC (zmg lo (u:=t.data.toList) (n:=t.size) (p:=.aT b g) (da.cH h ae) (show yy _ _ _ _ _ from rfl) hp (w.heap.size+1) (by simp));clear h hp ae
 go_enter func220,ntmps220
 go_wp2;go_ret;exact HF.out
theorem zpw{lo go cap:Nat}{xs:List (Nat×Pt)}(hr:w0.ownsRow lo 198 1 (zd (za ⟨go,0,zb⟩) xs.length cap) xs.length (je xs)){w:zc}(h:cE w0 pl Q Ow w){i:Nat}{x:Nat×Pt}(hx:xs[i]?=za x):w.cell? ⟨go,i,zb⟩=za (zf (za ⟨x.1,0,zb⟩)):=by
 have hi:=(vp.1 hx).1;obtain⟨g,c,aA,h1,h2,h3⟩:=xN hr (by omega);injection h1 with h1 _ _
 injection h1 with h1
 injection h1 with h1 _ _
 subst h1;rw[aO _ _ _ _ _ _ (h.eV h2 (by decide) (by decide)),h3 i hi];simp[je,hx]
theorem Fc{w:zc}{lo g n cap sz:Nat}{e:zl}{xs:List zj}(h:w.ownsRow lo e sz (zd (za ⟨g,0,zb⟩) n cap) n xs):n<=cap/\lo<=g/\g<w.heap.size/\∃aA,w.heap[g]?=za (aa aA e (0,0)):=by
 rcases h.2 with ⟨h0,_⟩|⟨g',cap',aA,hv,h1,h2,h3,_⟩
 ·cases h0
 ·cases hv
  exact⟨h3,h1,(ap.1 h2).1,aA,h2⟩
theorem zjr(w:zc)(h:cE w0 pl Q Ow w)(lo go cap:Nat)(l r:Pt)(xs:List (Nat×Pt))(hr:w0.ownsRow lo 198 1 (zd (za ⟨go,0,zb⟩) xs.length cap) xs.length (je xs))(hf:xs.map Prod.snd=dw (.aQ l r))(hp:∀x,x∈xs->dI lo w0 pl Q x.1 x.2)(hQ:∀x,x∈xs->Q x.1=za x.2)(t:ByteArray)(ht:t.size<=4096)(hL:Lg t.data.toList (.aQ l r) 0 t.size)(pN:xs.length<=100000)(h0:0<xs.length):
  zk prog 233 #[.agg #[zd (za ⟨go,0,zb⟩) xs.length cap],.string t] w λe w'=>sL w0 pl Q Ow w lo t.data.toList t.size (.aQ l r) e w':=by
 obtain⟨n,Hn⟩:∃n,Hid (xs.length=n):=⟨_,rfl⟩;obtain⟨rJ,-,-,-⟩:=Fc hr;have Hr:=aC hr;have Hf:=aC hf;have Hp:=aC hp;have HQ:=aC hQ;have HL:=aC hL;have ae:Below w.heap.size w (w.alloc (aa #[zd (za ⟨go,0,zb⟩) xs.length cap] 311)):=au;have x0:(w.alloc (aa #[zd (za ⟨go,0,zb⟩) xs.length cap] 311)).heap[w.heap.size]?=za (aa #[zd (za ⟨go,0,zb⟩) xs.length cap] 311 (0,0)):=aL _ _;have nG:Hid _:=da.cH h ae;have tx:=h.size;have FV:Hid (∀i,i<n->∃x,xs[i]?=za x/\x∈xs):=λi hi=>by
  have fh:i<xs.length:=by have:=Hn.out;omega
  exact⟨_,eY fh,oz _⟩
 have Yk:Hid (∀(i:Nat) (x:Nat×Pt),xs[i]?=za x->(dw (.aQ l r))[i]?=za x.2):=λi x hx=>by rw[<-Hf.out];simp[hx]
 have eT:∀b,¬Ow w.heap.size b:=λb ho=>by have:=(h.ow _ b ho).2;omega
 rw[Hn.out]at rJ x0 ae nG pN h0 ⊢;have MP:Hid (∀W dQ (i:Nat) (x:Nat×Pt),da w0 pl Q Ow w dQ W->xs[i]?=za x->(∀(j:Nat) (y:Nat×Pt),j<i->xs[j]?=za y->¬Lg t.data.toList y.2 0 t.size)->(Lg t.data.toList x.2 0 t.size\/i+1=n)->sL w0 pl Q Ow w lo t.data.toList t.size (.aQ l r) (.returned (zd (za ⟨W.heap.size,0,zb⟩) 1 1)) (W.alloc (aa #[zf (za ⟨x.1,0,zb⟩),ze .i64 (t.size:Int)] 247))):=by
  intro W dQ i x hT hx hno hor;have zv9:∀(j:Nat) (q:Pt),j<i->(dw (.aQ l r))[j]?=za q->¬Lg t.data.toList q 0 t.size:=λj q hj hq=>by
   rw[<-Hf.out,Bv]at hq;cases hy:xs[j]? with
   |none=>rw[hy]at hq;cases hq
   |some y=>rw[hy]at hq;cases hq;exact hno j y hj hy
  have KS:Lg t.data.toList x.2 0 t.size:=by
   rcases hor with h1|h1
   ·exact h1
   ·obtain⟨q,hq,Er⟩:=(LV _).1 HL.out;obtain⟨j,hj,e⟩:=List.getElem_of_mem hq;have GM:(dw (.aQ l r)).length=n:=by rw[<-Hf.out,tU];exact Hn.out
    by_cases e2:j<i
    ·exact absurd Er (zv9 j q e2 (by rw[eY hj,e]))
    ·have e3:j=i:=by omega
     subst e3;have:=Yk.out j x hx;rw[eY hj,e]at this;rw[<-Option.some.inj this];exact Er
  exact zmg lo (p:=.aQ l r) hT ⟨i,x.2,Yk.out i x hx,zv9,KS,rfl⟩ (Hp.out x (Bq hx)) _ rfl
 obtain⟨m,Hm⟩:∃m,Hid (m+1=n):=⟨n-1,by show _=_;omega⟩;have hmi:(n:Int)-1=(m:Int):=by have:=Hm.out;omega
 have fk:(0:Int)<=(m:Int):=by omega
 have cO:(m:Int)<=(cap:Int):=by have:=Hm.out;omega
 have cD:(m:Int)<(n:Int):=by have:=Hm.out;omega
 have hm9:m<=100000:=by have:=Hm.out;omega
 clear h hr hf hp hQ hL pN h0 ae
 go_enter func233,ntmps233
 obtain⟨W0,ah⟩:∃W0,w.alloc (aa #[zd (za ⟨go,0,zb⟩) n cap] 311)=W0:=⟨_,rfl⟩;rw[ah]at x0 nG;have Rs:W0.cell? ⟨w.heap.size,0,zb⟩=za (zd (za ⟨go,0,zb⟩) n cap):=(aO _ _ _ _ _ _ x0:_=_);go_wp2;clear ah Rs
 go_loopw [17] (λi wr=>∃(k:Nat) (dQ:Nat->Nat->Prop),k<=m/\i=ze .i64 k/\Hid (da w0 pl Q Ow w dQ wr)/\Hid (∀(j:Nat) (y:Nat×Pt),j<k->xs[j]?=za y->¬Lg t.data.toList y.2 0 t.size)/\wr.heap[w.heap.size]?=za (aa #[zd (za ⟨go,0,zb⟩) n cap] 311 (0,0))/\∀b,¬dQ w.heap.size b) (λi _=>m-(intOf i).toNat)
 case atStart=>exact⟨0,Ow,aZ _,rfl,nG,λj _ hj=>absurd hj (dk _),x0,eT⟩
 case round=>
  clear nG x0 eT;obtain⟨k,dQ,hk,rfl,HT,HN,xr,SG⟩:=hrel;have c0:wr.cell? ⟨w.heap.size,0,zb⟩=za (zd (za ⟨go,0,zb⟩) n cap):=(aO _ _ _ _ _ _ xr:_=_)
  by_cases hlt:k<m
  ·obtain⟨x,hx,kA⟩:=FV.out k (by have:=Hm.out;omega);have c1:=zpw Hr.out HT.out.inv hx;have xq:=zh2 wr HT.out.inv (HQ.out x kA) t ht;have hd:decide ((k:Int)<(m:Int))=true:=by simp;omega
   have il:(0:Int)<=(k:Int):=by omega
   have cM:(k:Int)<(m:Int):=by omega
   have Hx:Hid _:=hx;have Hxr:Hid _:=xr;have zw7:Hid _:=SG;have hwl:w.heap.size<wr.heap.size:=(ap.1 xr).1;clear kA hx xr SG
   go_wp2_with fail
   refine xq.mono ?_;rintro e w1 ⟨pC,bb,rfl,cX,nP⟩;have yp:Hid _:=cX;have sH:Hid _:=HT.out.trans nP;have yQ:=nP.eG w.heap.size tx hwl zw7.out;have Yj:Hid _:=yQ;clear xq cX nP yQ c0 c1;cases bb with
   |true=>
    have HF:=aC <| MP.out w1 pC k x sH.out Hx.out HN.out (.inl (yp.out.1 rfl))
    clear HT sH HN MP;go_wp2;go_ret;exact HF.out
   |false=>
    go_wp2
    go_roundw
    case rel=>exact⟨k+1,pC,by omega,by go_num,sH,λj y hj hy=>by
     by_cases e:j=k
     ·subst e;rw[Hx.out]at hy;cases hy;exact λhl=>by have:=yp.out.2 hl;cases this
     ·exact HN.out j y (by omega) hy,Yj.out.1.trans Hxr.out,Yj.out.2⟩
    case measure=>simp[intOf];omega
  ·obtain rfl:m=k:=by omega
   obtain⟨x,hx,kA⟩:=FV.out m (by have:=Hm.out;omega);have c1:=zpw Hr.out HT.out.inv hx;have hd:decide ((m:Int)<(m:Int))=false:=by simp
   have HF:=aC <| MP.out wr dQ m x HT.out hx HN.out (.inr Hm.out)
   clear HT HN MP hx kA xr SG;go_wp2;go_ret;exact HF.out
end
end
theorem zmN{b:Pt}(h:aF b<=2000):aF (.aw b 0 (-1))=aF b:=by
 show cJ (aF b*dV 0 (-1))=aF b;rw[show dV 0 (-1)=1 from rfl,Int.mul_one];unfold cJ;rw[aD (by omega)]
theorem jA{w:zc}{g:Nat}{a0 a1:zj}{t:zl}(h:w.heap[g]?=za (aa #[a0,a1] t (0,0))):w.cell? ⟨g,0,zb⟩=za a0/\w.cell? ⟨g,1,zb⟩=za a1:=by
 have:∀o,w.cell? ⟨g,o,zb⟩=#[a0,a1][o]?:=λ_=>aO _ _ _ _ _ _ h
 exact⟨this 0,this 1⟩
theorem iD{w:zc}{B n k sz:Nat}{e:zl}{v:zj}{xs:List zj}(h:w.ownsRow B e sz v n xs)(hk:v.ownBlock=za k):B<=k/\∃aA,w.heap[k]?=za (aa aA e (0,0)):=by
 rcases h.2 with ⟨rfl,_⟩|⟨g,cap,aA,rfl,hg,hh,_⟩
 ·simp[Value.ownBlock]at hk
 ·simp[Value.ownBlock]at hk;subst hk;exact⟨hg,aA,hh⟩
def fz:Pt->Nat
 |.set _=>1
 |.seq l r=>fz l+fz r+1
 |.aQ l r=>fz l+fz r+1
 |.aw b _ _=>fz b+1
 |.aT b _=>fz b+1
theorem ztJ(b:Pt):Pt.aw b 0 (-1)≠b:=λe=>by
 have:=congrArg fz e;simp[fz]at this
section
variable {w0:zc} {pl:Nat} {Q:Nat->Option Pt} {Ow:Nat->Nat->Prop} {w w':zc} {F:Nat->Prop}
theorem cE.free(h:cE w0 pl Q Ow w)(tc:aE F w w')(km:bR w w')(hF:∀k,F k->w0.heap.size<=k/\∀b,¬Ow k b):cE w0 pl Q Ow w':=by
 have hsz:=h.size;have mX:=tc.size;have ho:∀k,k<w0.heap.size->w'.heap[k]?=w.heap[k]?:=λk hk=>tc.same k (by omega) (λe=>by have:=(hF k e).1;omega)
 refine⟨tc.os.trans h.os,tc.tape.trans h.tape,tc.output.trans h.output,by omega,λk h1 h2 h3=>(ho k h1).trans (h.old k h1 h2 h3),h.q0,h.p0,h.dR,?_,λb q hq=>?_,λk b hk=>?_,h.dj⟩
 ·obtain⟨x0,x1,x2,r0,room,h1,h2,h3⟩:=h.wi;exact⟨_,_,_,_,_,h1,(ho pl h.AZ).trans h2,h3⟩
 ·obtain⟨v1,f1,k1,q1,q2,q3,q4,q5⟩:=h.pc b q hq;exact⟨v1,f1,k1,q1,(ho b (h.aQ hq)).trans q2,q3,q4,q5.keep (λk hk=>tc.same k (h.ow k b hk).2 (λe=>(hF k e).2 b hk)) km (ho 0 h.pos) mX⟩
 ·have:=h.ow k b hk;omega
theorem lS.free{a:Nat}{p:Pt}{s:Nat}{X:Nat->Prop}{v:ey}{ra rb:cd}{O1 O2:Nat->Prop}(h:lS w0 pl Q a p Ow w s X v ra rb O1 O2)(tc:aE F w w')(km:bR w w')(hF:∀k,F k->w0.heap.size<=k/\(∀b,¬Ow k b)/\¬X k):lS w0 pl Q a p Ow w' s X v ra rb O1 O2:=by
 have qp:=h.inv.aQ h.q;have hsz:=h.inv.size;have mX:=tc.size;have ho:∀k,k<w0.heap.size->w'.heap[k]?=w.heap[k]?:=λk hk=>tc.same k (by omega) (λe=>by have:=(hF k e).1;omega)
 refine⟨h.inv.free tc km (λk e=>⟨(hF k e).1,(hF k e).2.1⟩),h.q,h.st.keep (λk hk=>tc.same k (h.x0 k hk).2 (λe=>(hF k e).2.2 hk)) km (ho 0 h.inv.pos) mX,λk hk=>⟨(h.x0 k hk).1,bA (h.x0 k hk).2 mX⟩,?_⟩;rcases h.x1 with ⟨h1,h2⟩|h1
 ·exact .inl ⟨h1,(World.cell?_of_block (ho a qp)).trans h2⟩
 ·exact .inr h1
theorem da.free{jo:Nat->Nat->Prop}{nj:zc}(h:da w0 pl Q jo nj Ow w)(tc:aE F w w')(km:bR w w')(hF:∀k,F k->w0.heap.size<=k/\(∀b,¬Ow k b)/\nj.heap.size<=k):da w0 pl Q jo nj Ow w':=
 ⟨h.inv.free tc km (λk e=>⟨(hF k e).1,(hF k e).2.1⟩),aU h.size tc.size,λk h1 h2 h3=>⟨(tc.same k (by have:=h.size;omega) (λe=>by have:=(hF k e).2.2;omega)).trans (h.eG k h1 h2 h3).1,(h.eG k h1 h2 h3).2⟩⟩
end
structure BM(w0:zc)(pl:Nat)(Q:Nat->Option Pt)(a':Nat)(b:Pt)(jo:Nat->Nat->Prop)(w w4:zc)(X4 Pr:Nat->Prop)(s:Nat)(v:ey)(rb:cd)(O2:Nat->Prop)(Ow:Nat->Nat->Prop)(W:zc)(X:Nat->Prop)(ra:cd)(O:Nat->Prop):Prop where
 so:lS w0 pl Q a' b Ow W s X v ra rb O O2
 pt:da w0 pl Q jo w Ow W
 xs:∀k,X k->X4 k\/w4.heap.size<=k
 sm:∀k,Pr k->W.heap[k]?=w4.heap[k]?
 sz:w4.heap.size<=W.heap.size
section
variable {w0:zc} {pl:Nat} {Q:Nat->Option Pt} {a':Nat} {b:Pt} {jo:Nat->Nat->Prop} {w w4:zc} {X4 Pr:Nat->Prop} {s:Nat} {v:ey} {rb:cd} {O2:Nat->Prop} {Ow:Nat->Nat->Prop} {W:zc} {X:Nat->Prop} {ra:cd} {O:Nat->Prop}
theorem BM.row(h:BM w0 pl Q a' b jo w w4 X4 Pr s v rb O2 Ow W X ra O)(hP:∀k,Pr k->k<w4.heap.size){W':zc}{o:Option Nat}(hg:W.grownBy W' o)(vW:w0.heap.size<=w.heap.size)(ho:∀k,o=za k->w.heap.size<=k/\(∀c,¬Ow k c)/\¬X k/\¬Pr k/\∃aA,W.heap[k]?=za (aa aA 247 (0,0))):BM w0 pl Q a' b jo w w4 X4 Pr s v rb O2 Ow W' X ra O:=by
 have tc:aE (λk=>o=za k) W W':=(aE.refl _ W).grown hg (λk e=>.inl e);have km:bR W W':=λmg f e=>(tc.same mg (ap.1 e).1 (λe2=>by
  obtain⟨_,_,_,_,aA,h5⟩:=ho mg e2;rw[h5]at e;exact absurd (bP e) (by decide))).trans e
 refine⟨h.so.free tc km (λk e=>?_),h.pt.free tc km (λk e=>?_),h.xs,λk hk=>(tc.same k (by have:=hP k hk;have:=h.sz;omega) (λe=>(ho k e).2.2.2.1 hk)).trans (h.sm k hk),aU h.sz tc.size⟩
 ·obtain⟨h1,h2,h3,_⟩:=ho k e;exact⟨by omega,h2,h3⟩
 ·obtain⟨h1,h2,_⟩:=ho k e;exact⟨by omega,h2,h1⟩
theorem BM.step(h:BM w0 pl Q a' b jo w w4 X4 Pr s v rb O2 Ow W X ra O)(hP:∀k,Pr k->k<w4.heap.size/\¬X4 k)(NK:∀k,w0.heap.size<=k->k<w.heap.size->(∀c,¬jo k c)->¬X4 k)(AV:w.heap.size<=w4.heap.size){aI:Nat->Nat->Prop}{W':zc}{X':Nat->Prop}{wj:cd}{O':Nat->Prop}(so:lS w0 pl Q a' b aI W' s X' v wj rb O' O2)(uH:∀k c,aI k c->Ow k c\/X' k)(yZ:∀k,X' k->X k\/W.heap.size<=k)(tc:aE X W W'):BM w0 pl Q a' b jo w w4 X4 Pr s v rb O2 aI W' X' wj O':=by
 have hsz:=h.sz;have hx:∀k,k<w4.heap.size->¬X4 k->¬X k:=λk h1 h2 h3=>(h.xs k h3).elim h2 λe=>by omega
 have tz:∀k,k<w4.heap.size->¬X4 k->¬X' k:=λk h1 h2 h3=>(yZ k h3).elim (hx k h1 h2) λe=>by omega
 refine⟨so,⟨so.inv,aU h.pt.size tc.size,λk h1 h2 h3=>?_⟩,λk hk=>(yZ k hk).elim (h.xs k) λe=>.inr (by omega),λk hk=>(tc.same k (by have:=(hP k hk).1;omega) (hx k (hP k hk).1 (hP k hk).2)).trans (h.sm k hk),aU h.sz tc.size⟩;obtain⟨f1,f2⟩:=h.pt.eG k h1 h2 h3;have hn:=NK k h1 h2 h3;refine⟨(tc.same k (by have:=h.pt.size;omega) (hx k (by omega) hn)).trans f1,λc hc=>?_⟩;rcases uH k c hc with e|e
 ·exact f2 c e
 ·exact tz k (by omega) hn e
end
end Go.Proofs.YtdimhpfiieepiaaGreatDoor
