import Derived.Test.YtdimhpfiieepiaaGreatDoorC15
namespace Go.Proofs.YtdimhpfiieepiaaGreatDoor
open Proofs.Tryz
open Option renaming some->za,none->zb
open Value renaming slice->zc,agg->zg,pointer->zi
open Go renaming Value->zd,World->zf,TypeId->zh,Calls->zj
open Obj renaming cells->ze
set_option maxHeartbeats 4000000
set_option maxRecDepth 100000
open Go.RowKit
section
attribute [local go_sem ↓] wp_at_zero wp_at_succ
section
variable {w:zf}{xs:List zd}{st:List Int}{ts:List Pt}{lo:Nat}
def sA(bs:List aV):List Pt:=bs.map λb=>a8 b.nodes (b.nodes.length-1)
theorem zhG(bs:List aV):(sA bs).length=bs.length:=by simp[sA]
theorem sk.keep{w':zf}(h:sk w xs st ts)(hk:bJ w w'):sk w' xs st ts:=
 ⟨h.1,λj hj=>by obtain⟨t,x,h1,h2⟩:=h.2.1 j hj;exact⟨t,x,h1,h2.keep hk⟩,h.2.2⟩
theorem zof{bs:List aV}{k:Nat}(h:sk w xs st ((sA bs).take k))(hk:k<bs.length)(hst:st.length=k){t:zh}{x:zd}{wt:Int}
  (hp:mJ w (.iface t x) (a8 (bs.getD k .zero).nodes ((bs.getD k .zero).nodes.length-1)) wt):sk w (xs++[.iface t x]) (st++[wt]) ((sA bs).take (k+1)):=by
 have hb:=zhG bs;have hx:=h.1;refine⟨by simp[hx],λj hj=>?_,by simp;omega⟩;simp only[nG,qu,oJ]at hj
 by_cases e:j=k
 ·subst e;refine⟨t,x,?_,?_⟩
  ·rw[sJ (by omega),hx,hst,Aa];rfl
  ·have e1:(st++[wt]).getD j 0=wt:=by rw[bP,sJ (by omega),hst,Aa];rfl
   have e2:((sA bs).take (j+1)).getD j ju=a8 (bs.getD j .zero).nodes ((bs.getD j .zero).nodes.length-1):=by
    rw[bP,B3,aC (by omega)];simp[sA,hk]
   rw[e1,e2];exact hp
 ·obtain⟨t',x',h1,h2⟩:=h.2.1 j (by omega);refine⟨t',x',by rw[pH (by omega)];exact h1,?_⟩;have e1:(st++[wt]).getD j 0=st.getD j 0:=by rw[bP,pH (by omega),bP]
  have e2:((sA bs).take (k+1)).getD j ju=((sA bs).take k).getD j ju:=by
   rw[bP,bP,B3,B3,aC (by omega),aC (by omega)]
  rw[e1,e2];exact h2
def DU:Pt->Nat
 |.set _=>1
 |.seq l r=>DU l+DU r+1
 |.aN l r=>DU l+DU r+1
 |.az b _ _=>DU b+1
 |.aT b _=>DU b+1
theorem FX:∀(p:Pt) (v:zd),aU w v p->gu (DU p) v (aE p)
 |.set _,_,⟨_,h,_⟩=>.inl ⟨_,h,rfl⟩
 |.seq l r,_,⟨lv,rv,h,h1,h2⟩=>.inr (.inl ⟨lv,rv,_,_,h,gu.mono _ _ _ _ (Nat.le_add_right _ _) (FX l lv h1),gu.mono _ _ _ _ (Nat.le_add_left _ _) (FX r rv h2),rfl⟩)
 |.aN l r,_,⟨lv,rv,h,h1,h2⟩=>.inr (.inr (.inl ⟨lv,rv,_,_,h,gu.mono _ _ _ _ (Nat.le_add_right _ _) (FX l lv h1),gu.mono _ _ _ _ (Nat.le_add_left _ _) (FX r rv h2),rfl⟩))
 |.az b mn mx,_,⟨lv,h,h1,h2⟩=>.inr (.inr (.inr (.inl ⟨lv,_,mn,mx,h,FX b lv h1,h2,rfl⟩)))
 |.aT b g,_,⟨lv,h,h1⟩=>.inr (.inr (.inr (.inr ⟨lv,g,h,FX b lv h1⟩)))
theorem sk.parts(h:sk w xs st ts):∃N,JR N xs st:=by
 have key:∀m,m<=st.length->∃N,∀j,j<m->∃t x,xs[j]?=za (.iface t x)/\gu N (.iface t x) (st.getD j 0):=by
  intro m
  induction m with
  |zero=>intro _;exact⟨0,λj hj=>absurd hj (cR _)⟩
  |succ m ih=>
   intro hm;obtain⟨N,hN⟩:=ih (by omega);obtain⟨t,x,hx,p,hp,hw,_⟩:=h.2.1 m (by omega);refine⟨N+DU p,λj hj=>?_⟩
   by_cases e:j=m
   ·subst e;exact⟨t,x,hx,by rw[<-hw];exact gu.mono _ _ _ _ (Nat.le_add_left _ _) (FX p _ hp)⟩
   ·obtain⟨t',x',h1,h2⟩:=hN j (by omega);exact⟨t',x',h1,gu.mono _ _ _ _ (Nat.le_add_right _ _) h2⟩
 obtain⟨N,hN⟩:=key st.length (aj _);exact⟨N,h.1,hN⟩
theorem zf4(v:zd)(bs:List aV)(w:zf)(hs:eh lo w v bs)(hsm:Small bs):
  zj prog 120 #[v] w λe w'=>Below w.heap.size w w'/\((jq bs=zb/\e=.returned (.tuple #[zc zb 0 0,.bool false]))\/
   ∃(st:List Int) (xs:List zd) (g sc:Nat),jq bs=za st/\st.length=bs.length/\e=.returned (.tuple #[zc (za ⟨g,0,zb⟩) st.length sc,.bool true])/\w'.ownsRow w.heap.size 184 1 (zc (za ⟨g,0,zb⟩) st.length sc) st.length xs/\sk w' xs st (sA bs)):=by
 obtain⟨ao,cap,rfl,hm,hc⟩:=hs;have hn:=hsm.1;obtain⟨i0,hi,bI,aO,aQ⟩:=info_parts Tryz.zxT
 go_enter func120,ntmps120
 go_wp2_with (refine wpList_make_own _ rfl _ _ 155 rfl w.heap.size 184 i0 _ 1 underlying155 hi bI aO _ _ _ bs.length rfl rfl rfl (by rw[aQ];omega) (by unfold maxLen;omega) (aj _) ?_;intro w1 aB ez)
 have fO:Below w.heap.size w w1:=(Below.refl _ _).grown ez (aj _) (by intro k h;cases h);clear ez
 go_loopw [4,14] (λs i wr=>∃(k:Nat) (st:List Int) (g sc:Nat) (xs:List zd),k<=bs.length/\st.length=k/\i=.int .i64 k/\s=zc (za ⟨g,0,zb⟩) st.length sc/\Below w.heap.size w wr/\wr.ownsRow w.heap.size 184 1 (zc (za ⟨g,0,zb⟩) st.length sc) st.length xs/\sk wr xs st ((sA bs).take k)/\Hid (jq bs=(jq (bs.drop k)).map (st ++ ·)))
  (λ_ i _=>bs.length-(intOf i).toNat)
 case atStart=>exact⟨0,[],_,_,[],aR _,rfl,rfl,rfl,fO,aB,⟨rfl,λj hj=>absurd hj (cR _),rfl⟩,by show _=_;simp⟩
 case round=>
  obtain⟨k,st,g,sc,xs,hk,Vq,rfl,rfl,hb,aB,j8,HS⟩:=hrel;obtain⟨Iv,fD,hdc,qH⟩:=qn aB;have HK:Hid (st.length=k):=Vq
  by_cases hlt:k<bs.length
  ·obtain⟨b,o,nv,bd,rfl,Hn,aZ,c0,c1,c2,ir⟩:=hc.elem hb hlt;have hz:=hb.size;have uQ:bd.nodes.length<=1048576:=by have:=(hsm.2 k hlt).1;rw[Hn.out]at this;exact this
   obtain⟨dM,mo,rfl,mQ,kW⟩:=ir;have bQ:Below w.heap.size w (wr.alloc (ze #[.bool bd.aX,.bool bd.bm,.slice dM bd.nodes.length mo] 115)):=hb.alloc hz _;have IM:dZ lo (wr.alloc (ze #[.bool bd.aX,.bool bd.bm,.slice dM bd.nodes.length mo] 115)) (.slice dM bd.nodes.length mo) bd.nodes:=dZ.below ⟨_,_,rfl,mQ,kW⟩ (aw);generalize hdd:st.length=d at *;have ZB:Hid _:=hdd;clear hdd;subst Vq
   go_wp2_with fail
   refine(zrr _ _ _ IM uQ).mono ?_;rintro e w2 ⟨ae,⟨hf,rfl⟩|⟨wt,t,x,hf,rfl,hp⟩⟩
   ·have Hf:Hid _:=hf;clear hf;go_wp2
    go_ret2
    refine⟨aq bQ bQ.size ae,.inl ⟨?_,rfl⟩⟩;rw[HS.out,zjQ bs _ hlt bd Hn.out Hf.out]
    rfl
   ·have Hf:Hid _:=hf;clear hf;have j7:=dQ (aB.alloc (ze #[.bool bd.aX,.bool bd.bm,.slice dM bd.nodes.length mo] 115)) ae;have rN:=aq bQ bQ.size ae
    go_wp2_with (refine wL w2 rfl (.tmp 26) (.tmp 28) 155 rfl w.heap.size 184 i0 _ 16 underlying155 hi bI aO aQ rfl g sc d xs _ rfl j7 rfl rfl (by omega) (by omega) rN.size ?_;intro g' cap' w5 qb vX dF)
    go_roundw
    case rel=>
     have hl:(st++[wt]).length=d+1:=by have:=ZB.out;simp;omega
     have hK:bJ wr w2:=bJ.of (aq (aw) (by simp) ae);obtain⟨ax,C8⟩:=Q8 j7;have hG:bJ w2 w5:=bJ.grown vX C8 (by decide);have wm:sk w5 (xs++[.iface t x]) (st++[wt]) ((sA bs).take (d+1)):=by
      refine zof (j8.keep (hK.trans hG)) hlt (by have:=ZB.out;omega) ?_;rw[Hn.out];exact hp.keep hG
     exact⟨d+1,st++[wt],g',cap',xs++[.iface t x],by omega,hl,by go_num,by rw[hl],rN.grown vX rN.size (by intro q hq;cases hq;exact Iv),by rw[hl];exact qb,wm,zjS HS.out (zjR bs _ hlt bd Hn.out wt Hf.out)⟩
    case measure=>simp[intOf];omega
  ·have bK:bs.drop k=[]:=sI (by omega);have zxg:st.length=bs.length:=by omega
   have Kl:Hid _:=zxg;clear Vq zxg;go_wp2
   go_ret2
   refine⟨hb,.inr ⟨st,xs,g,sc,?_,Kl.out,rfl,aB,by rw[wZ (by rw[zhG];omega)]at j8;exact j8⟩⟩;rw[HS.out,bK];simp[jq]
def zul(w:zf)(G:Int)(bs:List aV)(e:Ending)(w':zf):Prop:=
 Below w.heap.size w w'/\((qo G bs=false/\∃pv,e=.returned (.tuple #[pv,.bool false]))\/(qo G bs=true/\∃(st:List Int) (xs:List zd) (B g sc:Nat),jq bs=za st/\st.length=bs.length/\iH st<=2000/\e=.returned (.tuple #[zc (za ⟨g,0,zb⟩) st.length sc,.bool true])/\w'.ownsRow B 184 1 (zc (za ⟨g,0,zb⟩) st.length sc) st.length xs/\sk w' xs st (sA bs)))
theorem zjT(G:Int)(v:zd)(bs:List aV)(w:zf)(hs:eh lo w v bs)(hsm:Small bs):
  zj prog 96 #[zg #[v,.int .i64 G]] w λe w'=>zul w G bs e w':=by
 have hn:=hsm.1;have dD:=hs;obtain⟨ao,cap,rfl,hm,hc⟩:=hs;have af:Below w.heap.size w (w.alloc (ze #[.slice ao bs.length cap,.int .i64 G] 69)):=aw;have Ap:∀{b:Bool},qo G bs=b->Hid (qo G bs=b):=λh=>h
 by_cases h1:(bs.length:Int)<1
 ·have H:=Ap (b:=false) (by simp[qo];omega);clear Ap
  go_enter func96,ntmps96
  go_wp2
  go_ret2
  exact⟨af,.inl ⟨H.out,_,rfl⟩⟩
 by_cases h2:2000<(bs.length:Int)
 ·have H:=Ap (b:=false) (by simp[qo];omega);clear Ap
  go_enter func96,ntmps96
  go_wp2
  go_ret2
  exact⟨af,.inl ⟨H.out,_,rfl⟩⟩
 by_cases h3:G<0
 ·have H:=Ap (b:=false) (by simp[qo];omega);clear Ap
  go_enter func96,ntmps96
  go_wp2
  go_ret2
  exact⟨af,.inl ⟨H.out,_,rfl⟩⟩
 by_cases h4:500<G
 ·have H:=Ap (b:=false) (by simp[qo];omega);clear Ap
  go_enter func96,ntmps96
  go_wp2
  go_ret2
  exact⟨af,.inl ⟨H.out,_,rfl⟩⟩
 have HA:Hid (qo G bs=(decide (iz bs<=5000)&&pD G [] (fT bs)&&match jq bs with
  |none=>false
  |some st=>decide (iH st<=2000))):=by
  show _=_;unfold qo;have e1:decide (1<=bs.length/\bs.length<=2000)=true:=by simp;omega
  have e2:decide (0<=G/\G<=500)=true:=by simp;omega
  rw[e1,e2];simp only[kh];cases jq bs<;>rfl
 clear Ap;have kW:=Qu hsm bs.length (aj _);rw[wY]at kW
 go_enter func96,ntmps96
 go_wp2_with fail
 refine(zir _ bs _ (dD.below af) hsm).mono ?_;rintro e w1 ⟨rfl,ag⟩;have k0:w1.cell? ⟨w.heap.size,0,zb⟩=za (.slice ao bs.length cap):=(ag.cell (by simp)).trans (by simp);have k1:w1.cell? ⟨w.heap.size,1,zb⟩=za (.int .i64 G):=(ag.cell (by simp)).trans (by simp);have aO:w.heap.size<w1.heap.size:=bA (by simp) ag.size;have Bf:=aq af af.size ag
 by_cases h5:5000<(iz bs:Int)
 ·have H:Hid (qo G bs=false):=by
   show _=_;rw[HA.out];have:decide (iz bs<=5000)=false:=by simp;omega
   rw[this];simp
  clear HA;go_wp2
  go_ret2
  exact⟨Bf,.inl ⟨H.out,_,rfl⟩⟩
 go_wp2_with fail
 refine(zla G _ bs _ (dD.below Bf) hsm (by omega) (by omega)).mono ?_;rintro e w2 ⟨rfl,ae⟩;have m0:w2.cell? ⟨w.heap.size,0,zb⟩=za (.slice ao bs.length cap):=(ae.cell (by exact aO)).trans k0;have rN:=aq Bf Bf.size ae;have aQ:w.heap.size<w2.heap.size:=bA aO ae.size;have e5:decide (iz bs<=5000)=true:=by simp;omega
 rw[e5,kh]at HA;clear e5 k0 k1 ag ae
 by_cases h6:pD G [] (fT bs)=false
 ·have H:Hid (qo G bs=false):=by show _=_;rw[HA.out,h6];simp
  clear HA;go_wp2
  go_ret2
  exact⟨rN,.inl ⟨H.out,_,rfl⟩⟩
 have h6':pD G [] (fT bs)=true:=by simpa using h6
 clear h6;rw[h6',kh]at HA
 go_wp2_with fail
 refine(zf4 _ bs _ (dD.below rN) hsm).mono ?_;rintro e w3 ⟨aG,⟨hf,rfl⟩|⟨st,xs,g,sc,hf,hl,rfl,aB,zxG⟩⟩
 ·have H:Hid (qo G bs=false):=by show _=_;rw[HA.out,hf]
  clear HA hf;go_wp2
  go_ret2
  exact⟨aq rN rN.size aG,.inl ⟨H.out,_,rfl⟩⟩
 ·have H:Hid (qo G bs=decide (iH st<=2000)):=by show _=_;rw[HA.out,hf]
  have hst:st.length<=2000000:=by omega
  obtain⟨N,j8⟩:=zxG.parts;have Hf:Hid _:=hf;have Hl:Hid _:=hl;clear HA hf hl;have qF:=aq rN rN.size aG;have wv:=Nr j8 st.length (aj _);rw[wY]at wv
  by_cases h7:2000<iH st
  ·go_wp2_with fail
   refine(WS st xs _ aB j8 hst).mono ?_;rintro e w4 ⟨rfl,bE⟩;go_wp2
   go_ret2
   exact⟨aq qF qF.size bE,.inl ⟨by rw[H.out];simp;omega,_,rfl⟩⟩
  ·go_wp2_with fail
   refine(WS st xs _ aB j8 hst).mono ?_;rintro e w4 ⟨rfl,bE⟩;go_wp2
   go_ret2
   exact⟨aq qF qF.size bE,.inr ⟨by rw[H.out];simp;omega,st,xs,_,g,sc,Hf.out,Hl.out,by omega,rfl,dQ aB bE,zxG.keep (bJ.of bE)⟩⟩
end
end
section
variable {b c:Bool}{g nw n bt ga gl ha hl:Nat}{w W:zf}{T fr A L A' L':Nat -> Nat}{sv fv:zd}{F:Nat -> Nat -> Nat}
theorem bL{a b:Array zd}{t u:zh}{f g:Nat×Nat}(h:za (Obj.cells a t f)=za (Obj.cells b u g)):t=u:=by
 injection h with h
 injection h
theorem zsv{k:Nat}(hB:fS w)(h:aH w nw k T):k≠0:=by
 rintro rfl;have h1:=hB 0 (by omega);rw[aM _ _ _ _ _ _ h.row]at h1
 by_cases hn:0<nw
 ·rw[QN _ _ hn]at h1;cases h1
 ·rw[DZ (by simp[kQ];omega)]at h1;cases h1
theorem ql(hB:fS w):0<w.heap.size:=block_lt_of_cell (hB 0 (by omega))
structure nP(w:zf)(n nw bt:Nat)(sv fv:zd)(fr:Nat->Nat)(F:Nat->Nat->Nat):Prop where
 box:vt w bt nw sv fv
 fv:0<n->∃(gf cf:Nat) (ax:Array zd),fv=zc (za ⟨gf,0,zb⟩) n cf/\w.heap[gf]?=za (ze ax 193 (0,0))/\∀p,p<n->ax[p]?=za (zc (za ⟨fr p,0,zb⟩) nw nw)
 fol:GF w n nw fr F
 kE:n<=64*nw
 ic:nw<=1000
 dv:fS w
theorem nP.turn{S:Nat->Prop}{F':Nat->Nat->Nat}(h:nP w n nw bt sv fv fr F)(t:ap S w W)(hS:∀k,k<w.heap.size->S k->∃m T,aH w m k T)(hf:GF W n nw fr F'):nP W n nw bt sv fv fr F':=by
 have IF:∀(k:Nat) (o:Obj),w.heap[k]?=za o->(∀m T,¬aH w m k T)->W.heap[k]?=za o:=λk o hk hn=>by
  have hlt:=(ah.1 hk).1;refine(t.same k hlt (λhs=>?_)).trans hk;obtain⟨m,T,hp⟩:=hS k hlt hs;exact hn m T hp
 refine⟨?_,λhn=>?_,hf,h.kE,h.ic,?_⟩
 ·exact IF _ _ h.box (λm T hp=>by have:=hp.row;rw[h.box]at this;exact absurd (bL this) (by decide))
 ·obtain⟨gf,cf,ax,h1,h2,h3⟩:=h.fv hn;exact⟨gf,cf,ax,h1,IF _ _ h2 (λm T hp=>by have:=hp.row;rw[h2]at this;exact absurd (bL this) (by decide)),h3⟩
 ·refine h.dv.keep (t.same 0 (ql h.dv) (λhs=>?_));obtain⟨m,T,hp⟩:=hS 0 (ql h.dv) hs;exact zsv h.dv hp rfl
theorem zmo(n nw bt g1 c1 g2 c2:Nat)(sv fv:zd)(fr:Nat->Nat)(F:Nat->Nat->Nat)(T1 T2:Nat->Nat)(w:zf)(h:nP w n nw bt sv fv fr F)(h1:aH w nw g1 T1)(h2:aH w nw g2 T2)
  (uK:∀p,p<n->fr p≠g1) (pU:∀p,p<n->fr p≠g2) (hm:∀p,p<64*nw->au T1 p=true->p<n):
  zj prog 202 #[zi (za ⟨bt,0,zb⟩),zc (za ⟨g1,0,zb⟩) nw c1,zc (za ⟨g2,0,zb⟩) nw c2] w λe w'=>e=.returned (.tuple #[])/\nP w' n nw bt sv fv fr (λp=>if au T1 p=true then eU (F p) T2 else F p)/\ap (λk=>∃p,p<n/\k=fr p) w w':=by
 refine(ztc n nw bt g1 c1 g2 c2 sv fv fr F T1 T2 w h.box (λhn=>?_) h.fol h1 h2 uK pU (λp hp=>zsv h.dv (h.fol.rows p hp)) (λp hp e=>?_) hm h.kE h.ic h.dv (ql h.dv)).mono λe w' hw=>⟨hw.1,h.turn hw.2.2 (λk _ ⟨p,hp,e⟩=>⟨nw,F p,e ▸ h.fol.rows p hp⟩) hw.2.1,hw.2.2⟩
 ·obtain⟨gf,cf,ax,k1,k2,k3⟩:=h.fv hn;refine⟨gf,cf,k1,(ah.1 k2).1,λp hp=>by rw[aM _ _ _ _ _ _ k2];exact k3 p hp,λp hp e=>?_⟩;have:=(h.fol.rows p hp).row;rw[e,k2]at this;exact absurd (bL this) (by decide)
 ·have:=(h.fol.rows p hp).row;rw[e,h.box]at this;exact absurd (bL this) (by decide)
def YU(w:zf)(n nw bt:Nat)(sv fv:zd)(fr:Nat->Nat)(F:Nat->Nat->Nat)(ga hl:Nat)(b:Bool)(A L:Nat->Nat)(e:Ending)(w':zf):Prop:=
 e=.returned (zg #[.bool b,zc (za ⟨ga,0,zb⟩) nw nw,zc (za ⟨hl,0,zb⟩) nw nw])/\mH w' nw ga hl A L/\nP w' n nw bt sv fv fr F/\ap (λk=>k=ga\/k=hl\/∃p,p<n/\k=fr p) w w'
theorem nP.join(h:nP w n nw bt sv fv fr F)(hg:w.grownBy W (za g))(hp:aH w nw g T)(hd:∀p,p<n->fr p≠g):nP W n nw bt sv fv fr F:=
 h.turn ((ap.refl (λk=>k=g) w).grown hg (λk e=>by cases e;exact .inl rfl)) (λk _ e=>⟨nw,T,e ▸ hp⟩) ⟨λp tI=>(h.fol.rows p tI).grown hg (by simpa using hd p tI),h.fol.inj⟩
theorem nP.below(h:nP w n nw bt sv fv fr F)(hb:Below w.heap.size w W):nP W n nw bt sv fv fr F:=
 h.turn (ap.bR (S:=λ_=>False) hb) (λ_ _ e=>e.elim) ⟨λp hp=>(h.fol.rows p hp).below hb,h.fol.inj⟩
theorem nP.put{b o:Nat}{v:zd}{cs:Array zd}{t:zh}(h:nP w n nw bt sv fv fr F)(hb:w.heap[b]?=za (ze cs t (0,0)))(h1:t≠268)(h2:t≠193)(h3:t≠236)(h4:b≠0):nP (w.setCell ⟨b,o,zb⟩ v) n nw bt sv fv fr F:=by
 have hk:∀(k:Nat) (a:Array zd) (u:zh),w.heap[k]?=za (ze a u (0,0))->t≠u->(w.setCell ⟨b,o,zb⟩ v).heap[k]?=za (ze a u (0,0)):=λk a u hk hne=>
  ((iZ w b o v).block k (ah.1 hk).1 (λe=>by cases e;rw[hb]at hk;exact hne (bL hk))).trans hk
 refine⟨hk _ _ _ h.box h1,λhn=>?_,⟨λp hp=>⟨hk _ _ _ (h.fol.rows p hp).row h3,(h.fol.rows p hp).lt⟩,h.fol.inj⟩,h.kE,h.ic,h.dv.keep ((iZ w b o v).block 0 (ql h.dv) (λe=>h4 (by cases e;rfl)))⟩;obtain⟨gf,cf,ax,k1,k2,k3⟩:=h.fv hn;exact⟨gf,cf,ax,k1,hk _ _ _ k2 h2,k3⟩
structure Ep(w W:zf)(n nw bt ga gl ha hl:Nat)(b c:Bool)(sv fv:zd)(fr:Nat->Nat)(F:Nat->Nat->Nat)(A L A' L':Nat->Nat):Prop where
 r4:W.heap[w.heap.size]?=za (ze #[.bool b,zc (za ⟨ga,0,zb⟩) nw nw,zc (za ⟨gl,0,zb⟩) nw nw] 226 (0,0))
 r5:W.heap[w.heap.size+1]?=za (ze #[.bool c,zc (za ⟨ha,0,zb⟩) nw nw,zc (za ⟨hl,0,zb⟩) nw nw] 226 (0,0))
 r6:W.heap[w.heap.size+1+1]?=za (ze #[.bool false,zc zb 0 0,zc zb 0 0] 226 (0,0))
 fa:aH W nw ga A
 la:aH W nw gl L
 fb:aH W nw ha A'
 lb:aH W nw hl L'
 tk:nP W n nw bt sv fv fr F
 t:ap (λk=>k=ga\/k=hl\/∃p,p<n/\k=fr p) w W
theorem Ep.join{W2:zf}{A2 L2:Nat->Nat}(h:Ep w W n nw bt ga gl ha hl b c sv fv fr F A L A' L')(hg:W.grownBy W2 (za g))(ia:ga<w.heap.size)(eZ:hl<w.heap.size)(eO:g=ga\/g=hl)
  (ngl:g≠gl) (nha:g≠ha) (fC:∀p,p<n->fr p≠g) (ha2:aH W2 nw ga A2) (zzS:aH W2 nw hl L2):Ep w W2 n nw bt ga gl ha hl b c sv fv fr F A2 L A' L2:=by
 have hk:∀(k:Nat) (o:Obj),W.heap[k]?=za o->k≠g->W2.heap[k]?=za o:=λk o hk hne=>(hg.block k (ah.1 hk).1 (by simpa using hne)).trans hk
 have qK:∃T,aH W nw g T:=by rcases eO with e|e<;>subst e;exact⟨_,h.fa⟩;exact⟨_,h.lb⟩
 obtain⟨T,hT⟩:=qK;exact⟨hk _ _ h.r4 (by omega),hk _ _ h.r5 (by omega),hk _ _ h.r6 (by omega),ha2,h.la.grown hg (by simpa using ngl.symm),h.fb.grown hg (by simpa using nha.symm),zzS,h.tk.join hg hT fC,h.t.grown hg (λk e=>by cases e;rcases eO with e|e;exact .inl (.inl e);exact .inl (.inr (.inl e)))⟩
theorem Ep.done{v:Bool}(h:Ep w W n nw bt ga gl ha hl b c sv fv fr F A L A' L')(ia:ga<w.heap.size)(eZ:hl<w.heap.size)(hne:ga≠hl)(v0 v1 v2:zd):
  YU w n nw bt sv fv fr F ga hl v A L' (.returned (zg #[.bool v,zc (za ⟨ga,0,zb⟩) nw nw,zc (za ⟨hl,0,zb⟩) nw nw])) (((W.setCell ⟨w.heap.size+1+1,0,zb⟩ v0).setCell ⟨w.heap.size+1+1,1,zb⟩ v1).setCell ⟨w.heap.size+1+1,2,zb⟩ v2):=by
 have hs:∀(X:zf) (o:Nat) (u:zd) (cs:Array zd),X.heap[w.heap.size+1+1]?=za (ze cs 226 (0,0))->∃fN,(X.setCell ⟨w.heap.size+1+1,o,zb⟩ u).heap[w.heap.size+1+1]?=za (ze fN 226 (0,0)):=λX o u cs hx=>⟨_,dE X _ o _ _ u hx⟩
 obtain⟨c1,k1⟩:=hs W 0 v0 _ h.r6;obtain⟨c2,k2⟩:=hs _ 1 v1 _ k1;have t0:=h.tk.put (o:=0) (v:=v0) h.r6 (by decide) (by decide) (by decide) (by omega);have t1:=t0.put (o:=1) (v:=v1) k1 (by decide) (by decide) (by decide) (by omega);have t2:=t1.put (o:=2) (v:=v2) k2 (by decide) (by decide) (by decide) (by omega);exact⟨rfl,⟨((h.fa.put (by omega)).put (by omega)).put (by omega),((h.lb.put (by omega)).put (by omega)).put (by omega),hne⟩,t2,
  ((h.t.grown (iZ _ _ _ _) (λg e=>.inr (by cases e;omega))).grown (iZ _ _ _ _) (λg e=>.inr (by cases e;omega))).grown (iZ _ _ _ _) (λg e=>.inr (by cases e;omega))⟩
theorem zlM(n nw bt ga gl ha hl:Nat)(b c:Bool)(sv fv:zd)(fr:Nat->Nat)(F:Nat->Nat->Nat)(A L A' L':Nat->Nat)(w:zf)(h:nP w n nw bt sv fv fr F)(h1:mH w nw ga gl A L)(h2:mH w nw ha hl A' L')
  (d1:ga≠ha) (d2:ga≠hl) (d4:gl≠hl) (e1:∀p,p<n->fr p≠ga) (e2:∀p,p<n->fr p≠gl) (e3:∀p,p<n->fr p≠ha) (e4:∀p,p<n->fr p≠hl) (hm:∀p,p<64*nw->au L p=true->p<n):
  zj prog 187 #[zi (za ⟨bt,0,zb⟩),zg #[.bool b,zc (za ⟨ga,0,zb⟩) nw nw,zc (za ⟨gl,0,zb⟩) nw nw],zg #[.bool c,zc (za ⟨ha,0,zb⟩) nw nw,zc (za ⟨hl,0,zb⟩) nw nw]] w λe w'=>
   YU w n nw bt sv fv fr (λp=>if au L p=true then eU (F p) A' else F p) ga hl (b&&c) (if b=true then eU A A' else A) (if c=true then eU L' L else L') e w':=by
 obtain⟨F2,hF2⟩:∃F2,(λp=>if au L p=true then eU (F p) A' else F p)=F2:=⟨_,rfl⟩;rw[hF2];have bY:=h.ic;obtain⟨W0,ai⟩:∃W0,((w.alloc (ze #[.bool b,zc (za ⟨ga,0,zb⟩) nw nw,zc (za ⟨gl,0,zb⟩) nw nw] 226)).alloc (ze #[.bool c,zc (za ⟨ha,0,zb⟩) nw nw,zc (za ⟨hl,0,zb⟩) nw nw] 226)).alloc (ze #[.bool false,zc zb 0 0,zc zb 0 0] 226)=W0:=⟨_,rfl⟩;have af:Below w.heap.size w W0:=by rw[<-ai];exact((aw).alloc (by simp) _).alloc (by simp;omega) _
 have x4:W0.heap[w.heap.size]?=za (ze #[.bool b,zc (za ⟨ga,0,zb⟩) nw nw,zc (za ⟨gl,0,zb⟩) nw nw] 226 (0,0)):=by rw[<-ai];exact cX (cX (aI _ _))
 have x5:W0.heap[w.heap.size+1]?=za (ze #[.bool c,zc (za ⟨ha,0,zb⟩) nw nw,zc (za ⟨hl,0,zb⟩) nw nw] 226 (0,0)):=by
  rw[<-ai];refine cX ?_;have:=aI (w.alloc (ze #[.bool b,zc (za ⟨ga,0,zb⟩) nw nw,zc (za ⟨gl,0,zb⟩) nw nw] 226)) (ze #[.bool c,zc (za ⟨ha,0,zb⟩) nw nw,zc (za ⟨hl,0,zb⟩) nw nw] 226)
  simpa using this
 have x6:W0.heap[w.heap.size+1+1]?=za (ze #[.bool false,zc zb 0 0,zc zb 0 0] 226 (0,0)):=by
  rw[<-ai];have:=aI ((w.alloc (ze #[.bool b,zc (za ⟨ga,0,zb⟩) nw nw,zc (za ⟨gl,0,zb⟩) nw nw] 226)).alloc (ze #[.bool c,zc (za ⟨ha,0,zb⟩) nw nw,zc (za ⟨hl,0,zb⟩) nw nw] 226)) (ze #[.bool false,zc zb 0 0,zc zb 0 0] 226)
  simpa using this
 have l1:=h1.fi.cB;have l2:=h1.la.cB;have l3:=h2.fi.cB;have l4:=h2.la.cB;have mO:∀p,p<n->fr p<w.heap.size:=λp hp=>(h.fol.rows p hp).cB
 have hsz:W0.heap.size=w.heap.size+1+1+1:=by rw[<-ai];simp
 have Vi:=ql h.dv;have y:=h.below af;have y1:=h1.below af;have y2:=h2.below af;have qL:=zmo n nw bt gl nw ha nw sv fv fr F L A' W0 y y1.la y2.fi e2 e3 hm;rw[hF2]at qL;clear hF2;have T0:ap (λk=>k=ga\/k=hl\/∃p,p<n/\k=fr p) w W0:=ap.bR af;clear af;obtain⟨a0,a1,a2,-,-,-⟩:=ci x4;obtain⟨b0,b1,b2,-,-,-⟩:=ci x5
 go_enter func187,ntmps187
 go_wp2_with fail
 clear a0 a1 a2 b0 b1 b2 ai;refine qL.mono ?_;rintro e w1 ⟨rfl,q,t1⟩;have hn:∀k,w.heap.size<=k->¬∃p,p<n/\k=fr p:=λk hk ⟨p,hp,e⟩=>by have:=mO p hp;omega
 have u4:=(t1.same (w.heap.size) (by omega) (hn _ (by omega))).trans x4;have u5:=(t1.same (w.heap.size+1) (by omega) (hn _ (by omega))).trans x5;have u6:=(t1.same (w.heap.size+1+1) (by omega) (hn _ (by omega))).trans x6;have z1:=y1.fi.kJ t1 (λ⟨p,hp,e⟩=>e1 p hp e.symm);have z2:=y1.la.kJ t1 (λ⟨p,hp,e⟩=>e2 p hp e.symm);have z3:=y2.fi.kJ t1 (λ⟨p,hp,e⟩=>e3 p hp e.symm);have z4:=y2.la.kJ t1 (λ⟨p,hp,e⟩=>e4 p hp e.symm);have T1:=T0.trans (t1.mono (λk _ hk=>.inr (.inr hk)));have s1:=t1.size;have LB:=h1.ne;have hha:=h2.ne;clear qL x4 x5 x6 y y1 y2 T0 t1 h h1 h2;have hS:Ep w w1 n nw bt ga gl ha hl b c sv fv fr F2 A L A' L':=⟨u4,u5,u6,z1,z2,z3,z4,q,T1⟩;clear u4 u5 u6 z1 z2 z3 z4 q T1;have jW:∀(W:zf) (A2 L2:Nat->Nat),Ep w W n nw bt ga gl ha hl b c sv fv fr F2 A2 L A' L2->∃c0 c1 c2,W.cell? ⟨w.heap.size,0,zb⟩=za (.bool b)/\W.cell? ⟨w.heap.size,1,zb⟩=za (zc (za ⟨ga,0,zb⟩) nw nw)/\W.cell? ⟨w.heap.size+1,0,zb⟩=za (.bool c)/\W.cell? ⟨w.heap.size+1,2,zb⟩=za (zc (za ⟨hl,0,zb⟩) nw nw)/\W.cell? ⟨w.heap.size,2,zb⟩=za (zc (za ⟨gl,0,zb⟩) nw nw)/\W.cell? ⟨w.heap.size+1,1,zb⟩=za (zc (za ⟨ha,0,zb⟩) nw nw)/\W.cell? ⟨w.heap.size+1+1,0,zb⟩=za c0/\W.cell? ⟨w.heap.size+1+1,1,zb⟩=za c1/\W.cell? ⟨w.heap.size+1+1,2,zb⟩=za c2/\W.frozen? ⟨w.heap.size+1+1,0,zb⟩=false/\W.frozen? ⟨w.heap.size+1+1,1,zb⟩=false/\W.frozen? ⟨w.heap.size+1+1,2,zb⟩=false:=λW A2 L2 hq=>by
  obtain⟨a0,a1,a2,-,-,-⟩:=ci hq.r4;obtain⟨b0,b1,b2,-,-,-⟩:=ci hq.r5;obtain⟨k0,k1,k2,f0,f1,f2⟩:=ci hq.r6;exact⟨_,_,_,a0,a1,b0,b2,a2,b1,k0,k1,k2,f0,f1,f2⟩
 cases b<;>cases c
 ·obtain⟨p0,p1,p2,a0,a1,b0,b2,a2,b1,k0,k1,k2,f0,f1,f2⟩:=jW _ _ _ hS;go_wp2;refine bh (v:=zg #[.bool false,zc (za ⟨ga,0,zb⟩) nw nw,zc (za ⟨hl,0,zb⟩) nw nw]) (by simp[results,results187,go_sem,k0,k1,k2]) rfl ?_;exact hS.done l1 l4 d2 _ _ _
 ·obtain⟨p0,p1,p2,a0,a1,b0,b2,a2,b1,k0,k1,k2,f0,f1,f2⟩:=jW _ _ _ hS;have hj:=zS nw hl gl nw nw L' L w1 hS.lb hS.la d4.symm bY
  go_wp2_with fail
  refine hj.mono ?_;rintro e w2 ⟨rfl,iW,bU⟩;have nR:=hS.join (A2:=A) bU l1 l4 (.inr rfl) d4.symm hha.symm e4 (hS.fa.grown bU (by simpa using d2)) iW;clear a0 a1 b0 b2 a2 b1 k0 k1 k2 f0 f1 f2;obtain⟨p0,p1,p2,a0,a1,b0,b2,a2,b1,k0,k1,k2,f0,f1,f2⟩:=jW _ _ _ nR;go_wp2;refine bh (v:=zg #[.bool false,zc (za ⟨ga,0,zb⟩) nw nw,zc (za ⟨hl,0,zb⟩) nw nw]) (by simp[results,results187,go_sem,k0,k1,k2]) rfl ?_;exact nR.done l1 l4 d2 _ _ _
 ·obtain⟨p0,p1,p2,a0,a1,b0,b2,a2,b1,k0,k1,k2,f0,f1,f2⟩:=jW _ _ _ hS;have hj:=zS nw ga ha nw nw A A' w1 hS.fa hS.fb d1 bY
  go_wp2_with fail
  refine hj.mono ?_;rintro e w2 ⟨rfl,iW,bU⟩;have nR:=hS.join (L2:=L') bU l1 l4 (.inl rfl) LB d1 e1 iW (hS.lb.grown bU (by simpa using d2.symm));clear a0 a1 b0 b2 a2 b1 k0 k1 k2 f0 f1 f2;obtain⟨p0,p1,p2,a0,a1,b0,b2,a2,b1,k0,k1,k2,f0,f1,f2⟩:=jW _ _ _ nR;go_wp2;refine bh (v:=zg #[.bool false,zc (za ⟨ga,0,zb⟩) nw nw,zc (za ⟨hl,0,zb⟩) nw nw]) (by simp[results,results187,go_sem,k0,k1,k2]) rfl ?_;exact nR.done l1 l4 d2 _ _ _
 ·obtain⟨p0,p1,p2,a0,a1,b0,b2,a2,b1,k0,k1,k2,f0,f1,f2⟩:=jW _ _ _ hS;have hj:=zS nw ga ha nw nw A A' w1 hS.fa hS.fb d1 bY
  go_wp2_with fail
  refine hj.mono ?_;rintro e w2 ⟨rfl,iW,bU⟩;have nR:=hS.join (L2:=L') bU l1 l4 (.inl rfl) LB d1 e1 iW (hS.lb.grown bU (by simpa using d2.symm));clear a0 a1 b0 b2 a2 b1 k0 k1 k2 f0 f1 f2;obtain⟨p0,p1,p2,a0,a1,b0,b2,a2,b1,k0,k1,k2,f0,f1,f2⟩:=jW _ _ _ nR;have zw:=zS nw hl gl nw nw L' L w2 nR.lb nR.la d4.symm bY
  go_wp2_with fail
  refine zw.mono ?_;rintro e w3 ⟨rfl,Bt,lF⟩;have hS3:=nR.join (A2:=eU A A') lF l1 l4 (.inr rfl) d4.symm hha.symm e4 (nR.fa.grown lF (by simpa using d2)) Bt;clear a0 a1 b0 b2 a2 b1 k0 k1 k2 f0 f1 f2;obtain⟨p0,p1,p2,a0,a1,b0,b2,a2,b1,k0,k1,k2,f0,f1,f2⟩:=jW _ _ _ hS3;go_wp2;refine bh (v:=zg #[.bool true,zc (za ⟨ga,0,zb⟩) nw nw,zc (za ⟨hl,0,zb⟩) nw nw]) (by simp[results,results187,go_sem,k0,k1,k2]) rfl ?_;exact hS3.done l1 l4 d2 _ _ _
end
section
variable {mk fr:Nat -> Nat}{n nw base B bt:Nat}{w W:zf}{v sv fv:zd}{xs:List zd}{f:Nat -> Nat -> Bool}{F:Nat -> Nat -> Nat}
def xT(mk:Nat->Nat)(n:Nat):List zd:=(List.range n).map λp=>zi (za ⟨mk p,0,zb⟩)
def gO(fr:Nat->Nat)(nw n:Nat):List zd:=(List.range n).map λp=>zc (za ⟨fr p,0,zb⟩) nw nw
theorem zpW(mk:Nat->Nat)(n:Nat):xT mk (n+1)=xT mk n++[zi (za ⟨mk n,0,zb⟩)]:=by simp[xT,List.range_succ]
theorem zqh(fr:Nat->Nat)(nw n:Nat):gO fr nw (n+1)=gO fr nw n++[zc (za ⟨fr n,0,zb⟩) nw nw]:=by simp[gO,List.range_succ]
theorem znY{mk':Nat->Nat}(h:∀p,p<n->mk p=mk' p):xT mk n=xT mk' n:=BV λp hp=>by rw[h p (by simpa using hp)]
theorem zn3{fr':Nat->Nat}(h:∀p,p<n->fr p=fr' p):gO fr nw n=gO fr' nw n:=BV λp hp=>by rw[h p (by simpa using hp)]
theorem li{e:zh}{sz:Nat}(h:w.ownsRow base e sz v n xs)(hk:∀(k:Nat) (cs:Array zd),w.heap[k]?=za (ze cs e (0,0))->W.heap[k]?=za (ze cs e (0,0))):W.ownsRow base e sz v n xs:=by
 refine⟨h.1,?_⟩;rcases h.2 with h0|⟨g,cap,ax,hv,hg,hh,r⟩
 ·exact .inl h0
 ·exact .inr ⟨g,cap,ax,hv,hg,hk g ax hh,r⟩
theorem yl{e:zh}(h:w.ownsRow base e 1 v n xs)(hn:0<n):∃(g cap:Nat) (ax:Array zd),v=zc (za ⟨g,0,zb⟩) n cap/\w.heap[g]?=za (ze ax e (0,0))/\∀p,p<n->ax[p]?=xs[p]?:=by
 rcases h.2 with ⟨_,h0⟩|⟨g,cap,ax,hv,hg,hh,kW,_,hsz,ht⟩
 ·omega
 ·refine⟨g,cap,ax,hv,hh,λp hp=>?_⟩;rw[<-ht,B3,aC (by omega),Array.getElem?_toList]
structure ji(B:Nat)(w:zf)(n nw bt:Nat)(sv fv:zd)(mk:Nat->Nat)(f:Nat->Nat->Bool)(fr:Nat->Nat)(F:Nat->Nat->Nat):Prop where
 box:vt w bt nw sv fv
 so:w.ownsRow B 295 1 sv n (xT mk n)
 fo:w.ownsRow B 193 1 fv n (gO fr nw n)
 fol:GF w n nw fr F
 qf:∀p,p<n->w.heap[mk p]?=za (ze (dz (f p)) 293 (0,0))
 kE:n<=64*nw
 ic:nw<=1000
 dv:fS w
 bb:B<=bt
 b0:0<B
theorem ji.l(h:ji B w n nw bt sv fv mk f fr F):nP w n nw bt sv fv fr F:=
 ⟨h.box,λhn=>by
  obtain⟨g,cap,ax,h1,h2,h3⟩:=yl h.fo hn;exact⟨g,cap,ax,h1,h2,λp hp=>by rw[h3 p hp];simp[gO,hp]⟩,h.fol,h.kE,h.ic,h.dv⟩
theorem ji.zAF(h:ji B w n nw bt sv fv mk f fr F)(hn:0<n):∃gs cs:Nat,sv=zc (za ⟨gs,0,zb⟩) n cs/\gs<w.heap.size/\∀p,p<n->w.cell? ⟨gs,p,zb⟩=za (zi (za ⟨mk p,0,zb⟩)):=by
 obtain⟨g,cap,ax,h1,h2,h3⟩:=yl h.so hn;exact⟨g,cap,h1,(ah.1 h2).1,λp hp=>by rw[aM _ _ _ _ _ _ h2,h3 p hp];simp[xT,hp]⟩
theorem ji.turn{S:Nat->Prop}{F':Nat->Nat->Nat}(h:ji B w n nw bt sv fv mk f fr F)(t:ap S w W)(hS:∀k,k<w.heap.size->S k->∃m T,aH w m k T)(hf:GF W n nw fr F'):ji B W n nw bt sv fv mk f fr F':=by
 have hk:∀(k:Nat) (cs:Array zd) (u:zh),w.heap[k]?=za (ze cs u (0,0))->u≠236->W.heap[k]?=za (ze cs u (0,0)):=λk cs u hk hu=>by
  have hlt:=(ah.1 hk).1;refine(t.same k hlt (λhs=>?_)).trans hk;obtain⟨m,T,hp⟩:=hS k hlt hs;have:=hp.row;rw[hk]at this;exact hu (bL this)
 have q:=h.l.turn t hS hf;exact⟨q.box,li h.so λk cs e=>hk k cs _ e (by decide),li h.fo λk cs e=>hk k cs _ e (by decide),hf,λp hp=>hk _ _ _ (h.qf p hp) (by decide),h.kE,h.ic,q.dv,h.bb,h.b0⟩
theorem ji.below(h:ji B w n nw bt sv fv mk f fr F)(hb:Below w.heap.size w W):ji B W n nw bt sv fv mk f fr F:=
 h.turn (ap.bR (S:=λ_=>False) hb) (λ_ _ e=>e.elim) ⟨λp hp=>(h.fol.rows p hp).below hb,h.fol.inj⟩
theorem zfK{P:Program}{ops:Array Oper}{rest:List Oper}{o:Oper}{a:Act}{Q:Exit->Act->zf->Prop}(w:zf)(H:Nat)(hH:w.heap.size=H)(lZ:o.guard=zb)(s x:Operand)(t:zh)
  (ho:o.op=.call {callee:=.builtin .append,args:=#[s,x],argTypes:=#[t,t]})
  (base:Nat) (e:zh) (i:TypeInfo) (z:zd) (bytes:Nat) (ht:P.underlying t=za (.slice e)) (hi:P.info? e=za i) (hz:i.zero=za z)
  (xN:i.size=1) (uI:i.bytes=bytes) (tQ:z.cells.size=1)
  (v:zd) (n:Nat) (xs:List zd) (u:zd) (hs:a.eval s=v) (aB:w.ownsRow base e 1 v n xs)
  (hx:a.eval x=zc (za ⟨H,0,zb⟩) 1 1) (h1:u.oneCell'=true) (hn:n<=2000000) (xD:bytes<=64) (Io:base<=w.heap.size)
  (h:∀g' cap' w',w'.ownsRow base e 1 (zc (za ⟨g',0,zb⟩) (n+1) cap') (n+1) (xs++[u])->w.grownBy w' v.ownBlock->(v.ownBlock=za g'\/H<g')->wpList P ops Q rest (a.put o.dst (zc (za ⟨g',0,zb⟩) (n+1) cap')) w'):
  wpList P ops Q (o::rest) a (w.alloc (ze #[u] e)):=by
 subst hH;refine wpList_append_lies _ lZ s x t ho base e i z 1 bytes ht hi hz xN uI tQ (by omega) v n xs hs (li aB λk cs e=>cX e) ⟨w.heap.size,0,zb⟩ 1 1 [u] hx rfl ?_ ?_ (by omega) (by unfold maxLen;omega) ?_ (by simp;omega) (w.heap.size+1) (by simp) ?_
 ·intro j v hv
  match j,hv with
  |0,hv=>simp at hv;subst hv;simp[Addr.add]
 ·intro v hv;simp at hv;subst hv;exact h1
 ·have:(n+1)*bytes<=2000001*64:=Nat.mul_le_mul (by omega) xD;omega
 ·intro g' cap' w' wj cJ dF hlt;refine h g' cap' w' wj ⟨cJ.os,cJ.tape,cJ.output,aW (by simp) cJ.size,λk hk hne=>?_⟩ ?_
  ·rw[cJ.block k (by simp;omega) hne,Below.heap_alloc _ _ _ hk]
  ·rcases dF with dF|dF
   ·exact .inl dF
   ·exact .inr (by omega)
end
end Go.Proofs.YtdimhpfiieepiaaGreatDoor
