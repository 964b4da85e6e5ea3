import Derived.Test.YthddplbodacjgaaGreatDoorC42
namespace Go.Proofs.YthddplbodacjgaaGreatDoor
set_option maxHeartbeats 2000000
set_option maxRecDepth 100000
open Go.RowKit
section
variable {w:World}{xs:List Value}{st:List Int}{ts:List Pt}{lo:Nat}
attribute [local go_sem ↓] Go.wp_at_zero Go.wp_at_succ
def zda(bs:List zai):List Pt:=bs.map fun b=>tOf b.nodes (b.nodes.length-1)
theorem zhM(bs:List zai):(zda bs).length=bs.length:=by simp[zda]
theorem zca.keep{w':World}(h:zca w xs st ts)(hk:zdv w w'):zca w' xs st ts:=
 ⟨h.1,fun j hj=>by obtain⟨t,x,h1,h2⟩:=h.2.1 j hj;exact⟨t,x,h1,h2.keep hk⟩,h.2.2⟩
theorem znN{bs:List zai}{k:Nat}(h:zca w xs st ((zda bs).take k))(hk:k<bs.length)(hst:st.length=k){t:TypeId}{x:Value}{wt:Int}
  (hp:IsTr w (.iface t x) (tOf (bs.getD k .zero).nodes ((bs.getD k .zero).nodes.length-1)) wt):zca w (xs++[.iface t x]) (st++[wt]) ((zda bs).take (k+1)):=by
 have hb:=zhM bs;have hx:=h.1;refine⟨by simp[hx],fun j hj=>?_,by simp;omega⟩;simp only[zt1,zt2,zt4] at hj
 by_cases e:j=k
 ·subst e;refine⟨t,x,?_,?_⟩
  ·rw[ztR (by omega),hx,hst,Nat.sub_self];rfl
  ·have e1:(st++[wt]).getD j 0=wt:=by rw[ztO,ztR (by omega),hst,Nat.sub_self];rfl
   have e2:((zda bs).take (j+1)).getD j zbP=tOf (bs.getD j .zero).nodes ((bs.getD j .zero).nodes.length-1):=by
    rw[ztO,ztY,zuV (by omega)];simp[zda,hk]
   rw[e1,e2];exact hp
 ·obtain⟨t',x',h1,h2⟩:=h.2.1 j (by omega);refine⟨t',x',by rw[ztQ (by omega)];exact h1,?_⟩;have e1:(st++[wt]).getD j 0=st.getD j 0:=by rw[ztO,ztQ (by omega),ztO]
  have e2:((zda bs).take (k+1)).getD j zbP=((zda bs).take k).getD j zbP:=by
   rw[ztO,ztO,ztY,ztY,zuV (by omega),zuV (by omega)]
  rw[e1,e2];exact h2
def zfM:Pt->Nat
 |.set _=>1
 |.seq l r=>zfM l+zfM r+1
 |.alt l r=>zfM l+zfM r+1
 |.rep b _ _=>zfM b+1
 |.grp b _=>zfM b+1
theorem zdi:∀(p:Pt) (v:Value),zaT w v p->zbk (zfM p) v (wPt p)
 |.set _,_,⟨_,h,_⟩=>.inl ⟨_,h,rfl⟩
 |.seq l r,_,⟨lv,rv,h,h1,h2⟩=>.inr (.inl ⟨lv,rv,_,_,h,zbk.mono _ _ _ _ (Nat.le_add_right _ _) (zdi l lv h1),zbk.mono _ _ _ _ (Nat.le_add_left _ _) (zdi r rv h2),rfl⟩)
 |.alt l r,_,⟨lv,rv,h,h1,h2⟩=>.inr (.inr (.inl ⟨lv,rv,_,_,h,zbk.mono _ _ _ _ (Nat.le_add_right _ _) (zdi l lv h1),zbk.mono _ _ _ _ (Nat.le_add_left _ _) (zdi r rv h2),rfl⟩))
 |.rep b mn mx,_,⟨lv,h,h1,h2⟩=>.inr (.inr (.inr (.inl ⟨lv,_,mn,mx,h,zdi b lv h1,h2,rfl⟩)))
 |.grp b g,_,⟨lv,h,h1⟩=>.inr (.inr (.inr (.inr ⟨lv,g,h,zdi b lv h1⟩)))
theorem zca.parts(h:zca w xs st ts):∃N,znU N xs st:=by
 have key:∀m,m<=st.length->∃N,∀j,j<m->∃t x,xs[j]?=some (.iface t x)/\zbk N (.iface t x) (st.getD j 0):=by
  intro m
  induction m with
  |zero=>intro _;exact⟨0,fun j hj=>absurd hj (zuI _)⟩
  |succ m ih=>
   intro hm;obtain⟨N,hN⟩:=ih (by omega);obtain⟨t,x,hx,p,hp,hw,_⟩:=h.2.1 m (by omega);refine⟨N+zfM p,fun j hj=>?_⟩
   by_cases e:j=m
   ·subst e;exact⟨t,x,hx,by rw[<-hw];exact zbk.mono _ _ _ _ (Nat.le_add_left _ _) (zdi p _ hp)⟩
   ·obtain⟨t',x',h1,h2⟩:=hN j (by omega);exact⟨t',x',h1,zbk.mono _ _ _ _ (Nat.le_add_right _ _) h2⟩
 obtain⟨N,hN⟩:=key st.length (zuz _);exact⟨N,h.1,hN⟩
theorem zf2(v:Value)(bs:List zai)(w:World)(hs:zax lo w v bs)(hsm:Small bs):
  Calls Tryz.prog 77 #[v] w fun e w'=>Below w.heap.size w w'/\((zbh bs=none/\e=.returned (.tuple #[.slice none 0 0,.bool false]))\/
   ∃(st:List Int) (xs:List Value) (g sc:Nat),zbh bs=some st/\st.length=bs.length/\e=.returned (.tuple #[.slice (some ⟨g,0,none⟩) st.length sc,.bool true])/\w'.ownsRow w.heap.size 118 1 (.slice (some ⟨g,0,none⟩) st.length sc) st.length xs/\zca w' xs st (zda bs)):=by
 obtain⟨ao,cap,rfl,hm,hc⟩:=hs;have hn:=hsm.1;obtain⟨i0,hi,hz0,hz1,hz2⟩:=info_parts Tryz.infoPart
 go_enter Tryz.func77,Tryz.ntmps77
 go_wp2_with (refine wpList_make_own _ rfl _ _ 96 rfl w.heap.size 118 i0 _ 1 Tryz.underlying96 hi hz0 hz1 _ _ _ bs.length rfl rfl rfl (by rw[hz2];omega) (by unfold maxLen;omega) (zuz _) ?_;intro w1 hown hgrow)
 have hbw:Below w.heap.size w w1:=(Below.refl _ _).grown hgrow (zuz _) (by intro k h;cases h);clear hgrow
 go_loopw [4,14] (fun s i wr=>∃(k:Nat) (st:List Int) (g sc:Nat) (xs:List Value),k<=bs.length/\st.length=k/\i=.int .i64 k/\s=.slice (some ⟨g,0,none⟩) st.length sc/\Below w.heap.size w wr/\wr.ownsRow w.heap.size 118 1 (.slice (some ⟨g,0,none⟩) st.length sc) st.length xs/\zca wr xs st ((zda bs).take k)/\Hid (zbh bs=(zbh (bs.drop k)).map (st ++ ·)))
  (fun _ i _=>bs.length-(intOf i).toNat)
 case atStart=>exact⟨0,[],_,_,[],zuL _,rfl,rfl,rfl,hbw,hown,⟨rfl,fun j hj=>absurd hj (zuI _),rfl⟩,by show _=_;simp⟩
 case round=>
  obtain⟨k,st,g,sc,xs,hk,hstk,rfl,rfl,hb,hown,hparts,HS⟩:=hrel;obtain⟨hgB,hgl,hdc,hcm⟩:=zaV hown;have HK:Hid (st.length=k):=hstk
  by_cases hlt:k<bs.length
  ·obtain⟨b,o,nv,bd,rfl,Hn,hbl,c0,c1,c2,hnv⟩:=hc.elem hb hlt;have hz:=hb.size;have hnl:bd.nodes.length<=1048576:=by have:=(hsm.2 k hlt).1;rw[Hn.out] at this;exact this
   obtain⟨nao,ncp,rfl,hnm,hnc⟩:=hnv;have hba:Below w.heap.size w (wr.alloc (.cells #[.bool bd.bol,.bool bd.eol,.slice nao bd.nodes.length ncp] 76)):=hb.alloc hz _;have hnva:zaP lo (wr.alloc (.cells #[.bool bd.bol,.bool bd.eol,.slice nao bd.nodes.length ncp] 76)) (.slice nao bd.nodes.length ncp) bd.nodes:=zaP.below ⟨_,_,rfl,hnm,hnc⟩ ((Below.refl _ _).alloc (zuz _) _);generalize hdd:st.length=d at *;have Hdd:Hid _:=hdd;clear hdd;subst hstk
   go_wp2_with fail
   refine(zqV _ _ _ hnva hnl).mono ?_;rintro e w2 ⟨hb2,⟨hf,rfl⟩|⟨wt,t,x,hf,rfl,hp⟩⟩
   ·have Hf:Hid _:=hf;clear hf;go_wp2
    go_ret2
    refine⟨zaa hba hba.size hb2,.inl ⟨?_,rfl⟩⟩;rw[HS.out,zjE bs _ hlt bd Hn.out Hf.out]
    rfl
   ·have Hf:Hid _:=hf;clear hf;have hown2:=zad (hown.alloc (.cells #[.bool bd.bol,.bool bd.eol,.slice nao bd.nodes.length ncp] 76)) hb2;have hbb2:=zaa hba hba.size hb2
    go_wp2_with (refine zaC w2 rfl (.tmp 26) (.tmp 28) 96 rfl w.heap.size 118 i0 _ 16 Tryz.underlying96 hi hz0 hz1 hz2 rfl g sc d xs _ rfl hown2 rfl rfl (by omega) (by omega) hbb2.size ?_;intro g' cap' w5 hown5 hgrow5 hat)
    go_roundw
    case rel=>
     have hl:(st++[wt]).length=d+1:=by have:=Hdd.out;simp;omega
     have hK:zdv wr w2:=zdv.of (zaa ((Below.refl _ _).alloc (zuz _) _) (by simp) hb2);obtain⟨cur,hcur⟩:=zdf hown2;have hG:zdv w2 w5:=zdv.grown hgrow5 hcur (by decide);have hps:zca w5 (xs++[.iface t x]) (st++[wt]) ((zda bs).take (d+1)):=by
      refine znN (hparts.keep (hK.trans hG)) hlt (by have:=Hdd.out;omega) ?_;rw[Hn.out];exact hp.keep hG
     exact⟨d+1,st++[wt],g',cap',xs++[.iface t x],by omega,hl,by go_num,by rw[hl],hbb2.grown hgrow5 hbb2.size (by intro q hq;cases hq;exact hgB),by rw[hl];exact hown5,hps,zjG HS.out (zjF bs _ hlt bd Hn.out wt Hf.out)⟩
    case measure=>simp[intOf];omega
  ·have hkk:bs.drop k=[]:=ztH (by omega);have hnl2:st.length=bs.length:=by omega
   have Hnl:Hid _:=hnl2;clear hstk hnl2;go_wp2
   go_ret2
   refine⟨hb,.inr ⟨st,xs,g,sc,?_,Hnl.out,rfl,hown,by rw[zur (by rw[zhM];omega)] at hparts;exact hparts⟩⟩;rw[HS.out,hkk];simp[zbh]
def zth(w:World)(G:Int)(bs:List zai)(e:Ending)(w':World):Prop:=
 Below w.heap.size w w'/\((zek G bs=false/\∃pv,e=.returned (.tuple #[pv,.bool false]))\/(zek G bs=true/\∃(st:List Int) (xs:List Value) (B g sc:Nat),zbh bs=some st/\st.length=bs.length/\zbq st<=2000/\e=.returned (.tuple #[.slice (some ⟨g,0,none⟩) st.length sc,.bool true])/\w'.ownsRow B 118 1 (.slice (some ⟨g,0,none⟩) st.length sc) st.length xs/\zca w' xs st (zda bs)))
theorem zjH(G:Int)(v:Value)(bs:List zai)(w:World)(hs:zax lo w v bs)(hsm:Small bs):
  Calls Tryz.prog 47 #[.agg #[v,.int .i64 G]] w fun e w'=>zth w G bs e w':=by
 have hn:=hsm.1;have hs0:=hs;obtain⟨ao,cap,rfl,hm,hc⟩:=hs;have hb0:Below w.heap.size w (w.alloc (.cells #[.slice ao bs.length cap,.int .i64 G] 57)):=(Below.refl _ _).alloc (zuz _) _;have Hfalse:∀{b:Bool},zek G bs=b->Hid (zek G bs=b):=fun h=>h
 by_cases h1:(bs.length:Int)<1
 ·have H:=Hfalse (b:=false) (by simp[zek];omega);clear Hfalse
  go_enter Tryz.func47,Tryz.ntmps47
  go_wp2
  go_ret2
  exact⟨hb0,.inl ⟨H.out,_,rfl⟩⟩
 by_cases h2:2000<(bs.length:Int)
 ·have H:=Hfalse (b:=false) (by simp[zek];omega);clear Hfalse
  go_enter Tryz.func47,Tryz.ntmps47
  go_wp2
  go_ret2
  exact⟨hb0,.inl ⟨H.out,_,rfl⟩⟩
 by_cases h3:G<0
 ·have H:=Hfalse (b:=false) (by simp[zek];omega);clear Hfalse
  go_enter Tryz.func47,Tryz.ntmps47
  go_wp2
  go_ret2
  exact⟨hb0,.inl ⟨H.out,_,rfl⟩⟩
 by_cases h4:500<G
 ·have H:=Hfalse (b:=false) (by simp[zek];omega);clear Hfalse
  go_enter Tryz.func47,Tryz.ntmps47
  go_wp2
  go_ret2
  exact⟨hb0,.inl ⟨H.out,_,rfl⟩⟩
 have HA:Hid (zek G bs=(decide (zaJ bs<=5000)&&zcz G [] (zbv bs)&&match zbh bs with
  |none=>false
  |some st=>decide (zbq st<=2000))):=by
  show _=_;unfold zek;have e1:decide (1<=bs.length/\bs.length<=2000)=true:=by simp;omega
  have e2:decide (0<=G/\G<=500)=true:=by simp;omega
  rw[e1,e2];simp only[zty];cases zbh bs<;>rfl
 clear Hfalse;have hnc:=zdr hsm bs.length (zuz _);rw[zuq] at hnc
 go_enter Tryz.func47,Tryz.ntmps47
 go_wp2_with fail
 refine(zir _ bs _ (hs0.below hb0) hsm).mono ?_;rintro e w1 ⟨rfl,hb1⟩;have k0:w1.cell? ⟨w.heap.size,0,none⟩=some (.slice ao bs.length cap):=(hb1.cell (by simp)).trans (by simp);have k1:w1.cell? ⟨w.heap.size,1,none⟩=some (.int .i64 G):=(hb1.cell (by simp)).trans (by simp);have hz1:w.heap.size<w1.heap.size:=zuB (by simp) hb1.size;have hbb1:=zaa hb0 hb0.size hb1
 by_cases h5:5000<(zaJ bs:Int)
 ·have H:Hid (zek G bs=false):=by
   show _=_;rw[HA.out];have:decide (zaJ bs<=5000)=false:=by simp;omega
   rw[this];simp
  clear HA;go_wp2
  go_ret2
  exact⟨hbb1,.inl ⟨H.out,_,rfl⟩⟩
 go_wp2_with fail
 refine(zkW G _ bs _ (hs0.below hbb1) hsm (by omega) (by omega)).mono ?_;rintro e w2 ⟨rfl,hb2⟩;have m0:w2.cell? ⟨w.heap.size,0,none⟩=some (.slice ao bs.length cap):=(hb2.cell (by exact hz1)).trans k0;have hbb2:=zaa hbb1 hbb1.size hb2;have hz2:w.heap.size<w2.heap.size:=zuB hz1 hb2.size;have e5:decide (zaJ bs<=5000)=true:=by simp;omega
 rw[e5,zty] at HA;clear e5 k0 k1 hb1 hb2
 by_cases h6:zcz G [] (zbv bs)=false
 ·have H:Hid (zek G bs=false):=by show _=_;rw[HA.out,h6];simp
  clear HA;go_wp2
  go_ret2
  exact⟨hbb2,.inl ⟨H.out,_,rfl⟩⟩
 have h6':zcz G [] (zbv bs)=true:=by simpa using h6
 clear h6;rw[h6',zty] at HA
 go_wp2_with fail
 refine(zf2 _ bs _ (hs0.below hbb2) hsm).mono ?_;rintro e w3 ⟨hb3,⟨hf,rfl⟩|⟨st,xs,g,sc,hf,hl,rfl,hown,htrees⟩⟩
 ·have H:Hid (zek G bs=false):=by show _=_;rw[HA.out,hf]
  clear HA hf;go_wp2
  go_ret2
  exact⟨zaa hbb2 hbb2.size hb3,.inl ⟨H.out,_,rfl⟩⟩
 ·have H:Hid (zek G bs=decide (zbq st<=2000)):=by show _=_;rw[HA.out,hf]
  have hst:st.length<=2000000:=by omega
  obtain⟨N,hparts⟩:=htrees.parts;have Hf:Hid _:=hf;have Hl:Hid _:=hl;clear HA hf hl;have hbb3:=zaa hbb2 hbb2.size hb3;have hsb:=zeu hparts st.length (zuz _);rw[zuq] at hsb
  by_cases h7:2000<zbq st
  ·go_wp2_with fail
   refine(zdA st xs _ hown hparts hst).mono ?_;rintro e w4 ⟨rfl,hb4⟩;go_wp2
   go_ret2
   exact⟨zaa hbb3 hbb3.size hb4,.inl ⟨by rw[H.out];simp;omega,_,rfl⟩⟩
  ·go_wp2_with fail
   refine(zdA st xs _ hown hparts hst).mono ?_;rintro e w4 ⟨rfl,hb4⟩;go_wp2
   go_ret2
   exact⟨zaa hbb3 hbb3.size hb4,.inr ⟨by rw[H.out];simp;omega,st,xs,_,g,sc,Hf.out,Hl.out,by omega,rfl,zad hown hb4,htrees.keep (zdv.of hb4)⟩⟩
end
theorem zg2:∀(l:List Int),l.Nodup->∀x,l.count x<=1
 |[],_,x=>by simp
 |a::l,h,x=>by
  obtain⟨h1,h2⟩:=zul.1 h;have ih:=zg2 l h2 x;rw[List.count_cons]
  by_cases e:a=x
  ·subst e;rw[List.count_eq_zero_of_not_mem h1];simp
  ·have:(a==x)=false:=zuM.2 e;rw[this];simp;exact ih
theorem zgw:∀(l:List Int),(∀x,x∈l->l.count x<=1)->l.Nodup
 |[],_=>List.nodup_nil
 |a::l,h=>by
  refine zul.2 ⟨fun hm=>?_,zgw l fun x hx=>?_⟩
  ·have h1:=h a (List.mem_cons_self ..);rw[List.count_cons_self] at h1;have:=List.count_pos_iff.2 hm;omega
  ·have h1:=h x (zue _ hx);have:=List.count_le_count_cons (a:=x) (b:=a) (l:=l);omega
theorem zhT(G:Int):∀(gs done:List Int),zcz G done gs=true↔(∀x,x∈gs->1<=x/\x<=G)/\(∀x,x∈gs->x∉done)/\gs.Nodup/\((done.length:Int)+gs.length=G)
 |[],done=>by simp[zcz]
 |g::gs,done=>by
  unfold zcz
  by_cases hc:g<1\/G<g\/g∈done
  ·rw[zuV hc];constructor
   ·intro h;cases h
   ·rintro ⟨h1,h2,_,_⟩;have a1:=h1 g (List.mem_cons_self ..);have a2:=h2 g (List.mem_cons_self ..);rcases hc with h|h|h
    ·omega
    ·omega
    ·exact absurd h a2
  ·rw[zuU hc,zhT G gs (g::done)];constructor
   ·rintro ⟨h1,h2,h3,h4⟩;refine⟨fun x hx=>?_,fun x hx=>?_,?_,?_⟩
    ·rcases zud.1 hx with rfl|hx
     ·omega
     ·exact h1 x hx
    ·rcases zud.1 hx with rfl|hx
     ·exact fun h=>hc (.inr (.inr h))
     ·exact fun h=>h2 x hx (zue _ h)
    ·exact zul.2 ⟨fun hm=>h2 g hm (List.mem_cons_self ..),h3⟩
    ·simp at h4 ⊢;omega
   ·rintro ⟨h1,h2,h3,h4⟩;obtain⟨h5,h6⟩:=zul.1 h3;refine⟨fun x hx=>h1 x (zue _ hx),fun x hx hm=>?_,h6,?_⟩
    ·rcases zud.1 hm with rfl|hm
     ·exact h5 hx
     ·exact h2 x (zue _ hx) hm
    ·simp at h4 ⊢;omega
def cntO(gs:List Int):Nat->Nat
 |0=>0
 |n+1=>cntO gs n+gs.count ((n:Int)+1)
def inR(n:Nat)(x:Int):Bool:=decide (1<=x/\x<=n)
theorem zgy(n:Nat):∀gs:List Int,(gs.filter (inR (n+1))).length=(gs.filter (inR n)).length+gs.count ((n:Int)+1)
 |[]=>rfl
 |g::gs=>by
  have ih:=zgy n gs;rw[List.filter_cons,List.filter_cons,List.count_cons]
  by_cases e:g=(n:Int)+1
  ·have h1:inR (n+1) g=true:=by simp[inR];omega
   have h2:inR n g=false:=by simp[inR];omega
   have h3:(g==(n:Int)+1)=true:=beq_iff_eq.2 e;rw[h1,h2,h3];simp;omega
  ·have h3:(g==(n:Int)+1)=false:=zuM.2 e;have h1:inR (n+1) g=inR n g:=by simp only[inR];rw[decide_eq_decide];omega
   rw[h1,h3]
   by_cases h2:inR n g=true
   ·rw[zuV h2,zuV h2];simp;omega
   ·rw[zuU h2,zuU h2];simp;omega
theorem zoc(gs:List Int):∀n,cntO gs n=(gs.filter (inR n)).length
 |0=>by
  have:gs.filter (inR 0)=[]:=List.filter_eq_nil_iff.2 fun x _=>by simp[inR];omega
  rw[this];rfl
 |n+1=>by rw[cntO,zoc gs n,zgy]
theorem zrz(gs:List Int)(h:∀x,gs.count x<=1):∀n,cntO gs n<=n
 |0=>zuz _
 |n+1=>by have:=zrz gs h n;have:=h ((n:Int)+1);rw[cntO];omega
theorem zob(gs:List Int)(h:∀x,gs.count x<=1):∀n,cntO gs n=n->∀i,i<n->gs.count ((i:Int)+1)=1
 |0,_,i,hi=>absurd hi (zuI _)
 |n+1,he,i,hi=>by
  have h1:=zrz gs h n;have h2:=h ((n:Int)+1);rw[cntO] at he
  by_cases e:i=n
  ·subst e;omega
  ·exact zob gs h n (by omega) i (by omega)
theorem zl2(gs:List Int):∀n:Nat,(∀i:Nat,i<n->gs.count ((i:Int)+1)=1)->cntO gs n=n
 |0,_=>rfl
 |n+1,h=>by rw[cntO,zl2 gs n fun i hi=>h i (by omega),h n (by omega)]
theorem zkX(G:Int)(hG:0<=G)(gs:List Int):zcz G [] gs=(((gs.length:Int)==G)&&zhB G gs):=by
 obtain⟨n,rfl⟩:=Int.eq_ofNat_of_zero_le hG;have key:zcz (n:Int) [] gs=true↔(gs.length=n/\∀i,i<n->gs.count ((i:Int)+1)=1):=by
  rw[zhT];constructor
  ·rintro ⟨h1,_,h3,h4⟩;have hl:gs.length=n:=by simp at h4;omega
   refine⟨hl,?_⟩;have hc:=zg2 gs h3;refine zob gs hc n ?_;rw[zoc,List.filter_eq_self.2 fun x hx=>by have:=h1 x hx;simp[inR];omega];exact hl
  ·rintro ⟨hl,h1⟩;have he:=zl2 gs n h1;rw[zoc] at he;have hf:gs.filter (inR n)=gs:=List.Sublist.eq_of_length_le List.filter_sublist (by omega);have hr:∀x,x∈gs->1<=x/\x<=(n:Int):=by
    intro x hx;have:=List.filter_eq_self.1 hf x hx
    simpa [inR] using this
   refine⟨hr,fun _ _ h=>by simp at h,zgw gs fun x hx=>?_,by simp;omega⟩;have hx1:=hr x hx;have:=h1 (x-1).toNat (by omega);rw[show (((x-1).toNat:Nat):Int)+1=x by omega] at this;omega
 have key2:(((gs.length:Int)==(n:Int))&&zhB (n:Int) gs)=true↔(gs.length=n/\∀i,i<n->gs.count ((i:Int)+1)=1):=by
  rw[ztt,beq_iff_eq];unfold zhB;rw[ztC];constructor
  ·rintro ⟨h1,h2⟩;exact⟨by omega,fun i hi=>by simpa using h2 i (by simpa using hi)⟩
  ·rintro ⟨h1,h2⟩;exact⟨by omega,fun i hi=>by simpa using h2 i (by simpa using hi)⟩
 cases ha:zcz (n:Int) [] gs<;>cases hb:(((gs.length:Int)==(n:Int))&&zhB (n:Int) gs)
 ·rfl
 ·rw[key.2 (key2.1 hb)] at ha;cases ha
 ·rw[key2.2 (key.1 ha)] at hb;cases hb
 ·rfl
theorem zfA:∀bs:List zai,allB bs=true->zbh bs=some (bs.map zhF)
 |[],_=>rfl
 |b::bs,h=>by
  unfold allB at h;rw[List.all_cons,ztt] at h;obtain⟨h1,h2⟩:=h;rw[ztt] at h1;have ih:=zfA bs h2;have hl:=(ziE b.nodes h1.1 (zd0 h1.1) h1.2).2;unfold zbh;rw[hl,ih]
  rfl
theorem zfz:∀bs:List zai,allB bs=false->zbh bs=none
 |[],h=>by simp[allB] at h
 |b::bs,h=>by
  unfold zbh
  by_cases hb:(zcM b.nodes&&b.nodes.all zaK)=true
  ·have h2:allB bs=false:=by
    unfold allB at h ⊢;rw[List.all_cons,hb,zty] at h;exact h
   rw[zfz bs h2];cases ze3 b.nodes<;>rfl
  ·rw[zqU b.nodes (by
    cases hk:zcM b.nodes
    ·exact .inl rfl
    ·right
     cases ha:b.nodes.all zaK
     ·rfl
     ·rw[hk,ha] at hb;exact absurd rfl hb)]
theorem ziv:∀(st:List Int) (s:Int),0<=s->s<=2001->(∀x,x∈st->0<=x)->st.foldl (fun s a=>capW (s+a)) s=capW (s+st.sum)
 |[],s,h0,h1,_=>by simp[zeN h1]
 |a::st,s,h0,h1,h=>by
  have ha:=h a (List.mem_cons_self ..);have hc:=zgt (show 0<=s+a by omega);rw[List.foldl_cons,ziv st (capW (s+a)) hc.1 hc.2 fun x hx=>h x (zue _ hx),zup];have hs:0<=st.sum:=by
   have:∀l:List Int,(∀x,x∈l->0<=x)->0<=l.sum:=by
    intro l
    induction l with
    |nil=>intro _;simp
    |cons b l ih=>intro hl;have:=ih fun x hx=>hl x (zue _ hx);have:=hl b (List.mem_cons_self ..);rw[zup];omega
   exact this st fun x hx=>h x (zue _ hx)
  unfold capW;split<;>split<;>split<;>omega
theorem zha:∀bs:List zai,zcd bs=(bs.map zhF).sum
 |[]=>rfl
 |b::bs=>by rw[zcd,zha bs];simp
theorem zko(bs:List zai)(h:allB bs=true):decide (zbq (bs.map zhF)<=2000)=decide (zcd bs<=2000):=by
 unfold zbq;rw[ziv _ 0 (by omega) (by omega) (by
  intro x hx;obtain⟨b,hb,rfl⟩:=zug.1 hx;have:=ztC.1 h b hb;rw[ztt] at this;have:=zgl this.1 (zd0 this.1) this.2;omega),<-zha,Int.zero_add,decide_eq_decide]
 unfold capW;split<;>omega
theorem zpu(G:Int)(bs:List zai):zek G bs=zee G bs:=by
 unfold zek zee
 by_cases hG:0<=G/\G<=500
 ·rw[zkX G hG.1];cases ha:allB bs
  ·rw[zfz bs ha];simp
  ·rw[zfA bs ha];simp only[zko bs ha,Bool.and_true];cases decide (1<=bs.length/\bs.length<=2000)<;>cases decide (0<=G/\G<=500)<;>cases decide (zaJ bs<=5000)<;>cases ((zbv bs).length:Int)==G<;>simp
 ·have:decide (0<=G/\G<=500)=false:=by simpa using hG
  rw[this];simp
section
variable {bs:List zai}{w W:World}{vs:List Value}{rs:List za0}
attribute [local go_sem ↓] Go.wp_at_zero Go.wp_at_succ
theorem zk3{st:List Int}(hl:zbh bs=some st)(hle:zbq st<=2000):zbq st=zcd bs:=by
 cases ha:allB bs
 ·rw[zfz bs ha] at hl;cases hl
 ·rw[zfA bs ha] at hl;cases hl;unfold zbq at hle ⊢;rw[ziv _ 0 (by omega) (by omega) (by
   intro x hx;obtain⟨b,hb,rfl⟩:=zug.1 hx;have:=ztC.1 ha b hb;rw[ztt] at this;have:=zgl this.1 (zd0 this.1) this.2;omega),<-zha,Int.zero_add] at hle ⊢
  unfold capW at hle ⊢;split
  ·rfl
  ·rw[zuU (by assumption)] at hle;omega
def zhJ(w:World)(v:Value)(bs:List zai):Prop:=∃(g sc:Nat) (st:List Int) (xs:List Value),v=.slice (some ⟨g,0,none⟩) bs.length sc/\g<w.heap.size/\st.length=bs.length/\zbq st=zcd bs/\zbq st<=2000/\(∀j,j<bs.length->w.cell? ⟨g,j,none⟩=xs[j]?)/\zca w xs st (zda bs)
theorem zhJ.keep{v:Value}(h:zhJ w v bs)(hs:w.heap.size<=W.heap.size)(hk:∀(k:Nat) (cs:Array Value) (t:TypeId),w.heap[k]?=some (.cells cs t (0,0))->t=118\/t=213->W.heap[k]?=some (.cells cs t (0,0)))(hp:∀g sc,v=.slice (some ⟨g,0,none⟩) bs.length sc->∃cs,w.heap[g]?=some (.cells cs 118 (0,0))):zhJ W v bs:=by
 obtain⟨g,sc,st,xs,e,h1,h2,h3,h4,h5,h6⟩:=h;obtain⟨cs,hc⟩:=hp g sc e;have hW:=hk _ _ _ hc (.inl rfl);refine⟨g,sc,st,xs,e,by omega,h2,h3,h4,fun j hj=>?_,h6.keep fun mg f hm=>hk _ _ _ hm (.inr rfl)⟩;rw[zuO _ _ _ _ _ _ hW,<-zuO _ _ _ _ _ _ hc];exact h5 j hj
structure zdm(w:World)(vs:List Value)(rs:List za0):Prop where
 len:vs.length=rs.length
 at_:∀i,i<rs.length->∃(g sc:Nat) (cs:Array Value),vs[i]?=some (.slice (some ⟨g,0,none⟩) (rs.getD i .zero).branches.length sc)/\w.heap[g]?=some (.cells cs 118 (0,0))/\zhJ w (.slice (some ⟨g,0,none⟩) (rs.getD i .zero).branches.length sc) (rs.getD i .zero).branches
theorem zdm.keep(h:zdm w vs rs)(hs:w.heap.size<=W.heap.size)(hk:∀(k:Nat) (cs:Array Value) (t:TypeId),w.heap[k]?=some (.cells cs t (0,0))->t=118\/t=213->W.heap[k]?=some (.cells cs t (0,0))):zdm W vs rs:=
 ⟨h.len,fun i hi=>by
  obtain⟨g,sc,cs,h1,h2,h3⟩:=h.at_ i hi;exact⟨g,sc,cs,h1,hk _ _ _ h2 (.inl rfl),h3.keep hs hk (fun g' sc' e=>by cases e;exact⟨cs,h2⟩)⟩⟩
theorem zdm.below(h:zdm w vs rs)(hb:Below w.heap.size w W):zdm W vs rs:=
 h.keep hb.size fun k _ _ e _=>(hb.block k (ztp.1 e).1).trans e
theorem zdm.snoc{k g sc:Nat}{cs:Array Value}(h:zdm w vs (rs.take k))(hk:k<rs.length)(hc:w.heap[g]?=some (.cells cs 118 (0,0)))(hp:zhJ w (.slice (some ⟨g,0,none⟩) (rs.getD k .zero).branches.length sc) (rs.getD k .zero).branches):zdm w (vs++[.slice (some ⟨g,0,none⟩) (rs.getD k .zero).branches.length sc]) (rs.take (k+1)):=by
 have hl:=h.len;rw[zt8,zuE (by omega)] at hl;refine⟨by simp[hl];omega,fun i hi=>?_⟩;rw[zt8,zuE (by omega)] at hi;have e:∀m,i<m->(rs.take m).getD i .zero=rs.getD i .zero:=fun m hm=>by simp[List.getD,hm]
 rw[e (k+1) hi]
 by_cases hik:i=k
 ·subst hik;exact⟨g,sc,cs,by rw[ztR (by omega),hl];simp,hc,hp⟩
 ·obtain⟨g',sc',cs',h1,h2,h3⟩:=h.at_ i (by rw[zt8,zuE (by omega)];omega);rw[e k (by omega)] at h1 h3;exact⟨g',sc',cs',by rw[ztQ (by omega)];exact h1,h2,h3⟩
def ztg(w:World)(rs:List za0)(e:Ending)(W:World):Prop:=
 Below w.heap.size w W/\((zb5 rs=false/\∃a b,e=.returned (.tuple #[a,b,.bool false]))\/(zb5 rs=true/\∃(g cap:Nat) (vs:List Value),e=.returned (.tuple #[.slice (some ⟨g,0,none⟩) rs.length cap,.int .i64 (wSum rs),.bool true])/\W.ownsRow w.heap.size 96 1 (.slice (some ⟨g,0,none⟩) rs.length cap) rs.length vs/\zdm W vs rs))
theorem Tryz.infoParts:(Tryz.prog.info? 96).map (fun i=>(i.zero,i.size,i.bytes))=some (some (.slice none 0 0),1,24):=by kernel_rfl
theorem zk2{lo:Nat}(v:Value)(rs:List za0)(w:World)(hs:zaW lo w v rs)(hsm:zdB rs):
  Calls Tryz.prog 23 #[v] w fun e W=>ztg w rs e W:=by
 obtain⟨ao,cap,rfl,hm,hc⟩:=hs;have hl:=hsm.1;obtain⟨i0,hi,hz0,hz1,hz2⟩:=info_parts Tryz.infoParts
 by_cases hbig:rs.length<=100
 ·have hb1:¬(100:Int)<(rs.length:Int):=by omega
  have HC:=hdn hc;have HSM:=hdn hsm;clear hc hsm hl
  go_enter Tryz.func23,Tryz.ntmps23
  go_wp2_with fail
  go_loopw [5,6,17] (fun s sv i wr=>∃(k g cap:Nat) (vs:List Value),k<=rs.length/\i=.int .i64 k/\s=.slice (some ⟨g,0,none⟩) k cap/\sv=.int .i64 (wSum (rs.take k))/\Below w.heap.size w wr/\wr.ownsRow w.heap.size 96 1 (.slice (some ⟨g,0,none⟩) k cap) k vs/\zdm wr vs (rs.take k)/\Hid ((rs.take k).all okR=true)/\0<=wSum (rs.take k)/\wSum (rs.take k)<=2000*k) (fun _ _ i _=>rs.length-(intOf i).toNat)
  case atStart=>exact⟨0,w.heap.size,0,[],zuL _,rfl,rfl,by simp[wSum],(Below.refl _ _).alloc (zuz _) _,zcI w _ _ _ (zuz _) rfl,⟨rfl,fun i hi=>absurd hi (zuI _)⟩,rfl,by simp[wSum],by simp[wSum]⟩
  case round=>
   obtain⟨k,g,cap2,vs,hk,rfl,rfl,rfl,hb,hown,hP,hall,hw0,hw1⟩:=hrel
   by_cases hlt:k<rs.length
   ·obtain⟨b,o,bv,rd,rfl,Hrd,hbl,c0,c1,hbs⟩:=HC.out.elem hb hlt;have hwt:=zfm rs k hlt;rw[Hrd.out] at hwt;have hsmk:=HSM.out.2 k hlt;rw[Hrd.out] at hsmk;obtain⟨bo,bc,rfl,hbm,hbc⟩:=hbs;have hi0:(0:Int)<=(k:Int):=by omega
    have hi1:(k:Int)<(rs.length:Int):=by omega
    have hB0:zax lo w (.slice bo rd.branches.length bc) rd.branches:=⟨bo,bc,rfl,hbm,hbc⟩;obtain⟨W2,hW2⟩:∃W2,wr.alloc (.cells #[.slice bo rd.branches.length bc,.int .i64 rd.groups] 57)=W2:=⟨_,rfl⟩;have b2:Below wr.heap.size wr W2:=by rw[<-hW2];exact(Below.refl _ _).alloc (zuz _) _
    have x2:W2.heap[wr.heap.size]?=some (.cells #[.slice bo rd.branches.length bc,.int .i64 rd.groups] 57 (0,0)):=by rw[<-hW2];exact zuR _ _
    have bl2:=zaa hb hb.size b2;have cr:=zjH rd.groups (.slice bo rd.branches.length bc) rd.branches W2 (hB0.below bl2) hsmk;obtain⟨q0,q1⟩:=zal x2;have hall2:(rs.take (k+1)).all okR=okR rd:=by
     rw[List.take_add_one,List.all_append,hall.out,ztT hlt,<-Hrd.out];simp[List.getD,hlt]
    have hno:okR rd=false->zb5 rs=false:=fun h=>by
     have:rs.all okR=false:=by
      rw[Bool.eq_false_iff];intro h2;have h3:=ztC.1 h2 rd (by rw[<-Hrd.out];simp[List.getD,hlt]);rw[h] at h3;cases h3
     unfold zb5;rw[this];simp
    have hok2:okR rd=zek rd.groups rd.branches:=(zpu _ _).symm;have HOK:=hdn hok2;have HNO:=hdn hno;have HAL:=hdn hall2;have HW2:=hdn hW2;have HWT:=hdn hwt;have HBL:=hdn bl2;have HB2:=hdn b2;have HOW:=hdn hown;have HP:=hdn hP;have HRB:=hdn (zh4 (r:=rd));clear hbc hB0 hW2 x2 hwt bl2 b2 hb hall hall2 hno hok2 hsmk hbm hown hP
    go_upto_region 8 with fail
    rw[HW2.out];clear HW2 c0 c1
    go_wp2_with fail
    refine cr.mono ?_;rintro e W3 ⟨b3,⟨hi,pv,rfl⟩|⟨hi,st,xs,B0,g3,sc3,hst,hstl,hsum,rfl,hown3,htr⟩⟩
    ·have Hi:=hdn hi;clear hi cr;go_wp2;exact zuN (v:=.tuple #[.slice none 0 0,.int .i64 0,.bool false]) (by simp[results,Tryz.results23,go_sem]) rfl ⟨zaa HBL.out HBL.out.size b3,.inl ⟨HNO.out (by rw[HOK.out];exact Hi.out),_,_,rfl⟩⟩
    ·have Hi:=hdn hi;have Hst:=hdn hst;have Hstl:=hdn hstl;have bl3:=zaa HBL.out HBL.out.size b3;have hwr3:Below wr.heap.size wr W3:=HB2.out.trans (b3.mono HB2.out.size);have own3:=zad HOW.out hwr3;have HP3:=hdn (HP.out.below hwr3);have HWE:=hdn (zk3 hst hsum);have Hsum:=hdn hsum;have HTR:=hdn htr;have HO3:=hdn hown3;obtain⟨N,hparts⟩:=htr.parts;have HPN:=hdn hparts;have hsl:st.length<=2000000:=by have:=(HSM.out.2 k hlt).1;rw[Hrd.out] at this;omega
     clear hi hst hstl hsum hown3 htr hparts cr q0 q1
     go_wp2_with (at_builtin;refine zaC W3 rfl (.tmp 28) (.tmp 30) 59 rfl w.heap.size 96 i0 _ 24 Tryz.underlying59 hi hz0 hz1 hz2 rfl g cap2 k vs _ rfl own3 rfl rfl (by omega) (by omega) bl3.size ?_;intro g' cap' w5 hown5 hgrow5 hat)
     obtain⟨cur3,hcur3⟩:=zdf own3;have hkeep:∀(b:Nat) (cs:Array Value) (t:TypeId),W3.heap[b]?=some (.cells cs t (0,0))->t≠96->w5.heap[b]?=some (.cells cs t (0,0)):=fun b cs t e ht=>(hgrow5.block b (ztp.1 e).1 (fun e2=>by cases e2;rw[hcur3] at e;injection e with e;injection e with e1 e2;exact ht e2.symm)).trans e
     have hO5:=zas HO3.out (W:=w5) fun b cs e=>hkeep b cs _ e (by decide)
     have hwa:=zdA st xs w5 hO5 HPN.out hsl;obtain⟨sc,Hsc⟩:∃sc:Int,Hid (zbq st=sc):=⟨_,rfl⟩;rw[Hsc.out] at hwa;have hs0:0<=sc:=by have:=(zeu HPN.out st.length (zuz _)).1;rw[zuq] at this;rw[<-Hsc.out];exact this
     have hs1:sc<=2000:=by rw[<-Hsc.out];exact Hsum.out
     have HO5:=hdn hO5;have HG5:=hdn hgrow5;have HW5:=hdn hown5;have HKE:=hdn hkeep;have hk100:(k:Int)<=100:=by omega
     have hgB:=(zaV own3).1;obtain⟨ws,Hws⟩:∃ws:Int,Hid (wSum (rs.take k)=ws):=⟨_,rfl⟩;rw[Hws.out] at hw0 hw1 ⊢;clear hO5 hgrow5 hown5 hkeep own3 hat
     go_wp2_with fail
     refine hwa.mono ?_;rintro e w6 ⟨rfl,b6⟩;clear hwa;go_wp2
     go_roundw
     case rel=>
      have b35:Below w.heap.size w w5:=bl3.grown HG5.out bl3.size (fun q e=>by cases e;exact hgB);have hwsum:wSum (rs.take (k+1))=ws+sc:=by rw[HWT.out,Hws.out,<-HWE.out,Hsc.out]
      obtain⟨cur,hcur⟩:=zdf HO5.out;have hlen:(rs.getD k .zero).branches.length=st.length:=by rw[Hrd.out];exact Hstl.out.symm
      have hT5:=HTR.out.keep (w':=w5) (fun mg f hm=>HKE.out _ _ _ hm (by decide));have hpa:zhJ w5 (.slice (some ⟨g3,0,none⟩) (rs.getD k .zero).branches.length sc3) (rs.getD k .zero).branches:=by
       rw[Hrd.out];refine⟨g3,sc3,st,xs,rfl,zae hcur,Hstl.out,HWE.out,Hsum.out,fun j hj=>?_,hT5⟩;have hj2:j<st.length:=by rw[Hstl.out];exact hj
       exact HO5.out.cellAt j (by omega)
      have hPL:zdm w5 (vs++[.slice (some ⟨g3,0,none⟩) (rs.getD k .zero).branches.length sc3]) (rs.take (k+1)):=(HP3.out.keep HG5.out.size fun b cs t e ht=>HKE.out b cs t e (by rcases ht with rfl|rfl<;>decide)).snoc hlt hcur hpa;rw[hlen] at hPL;refine⟨k+1,g',cap',vs++[.slice (some ⟨g3,0,none⟩) st.length sc3],by omega,by go_num,rfl,by rw[hwsum],zaa b35 b35.size b6,zad HW5.out b6,hPL.below b6,?_,by omega,by omega⟩;show _=true;rw[HAL.out,HOK.out];exact Hi.out
     case measure=>simp[intOf];omega
   ·have hkk:k=rs.length:=by omega
    have hPk:zdm wr vs rs:=by rw[hkk,zuq] at hP;exact hP
    have hak:rs.all okR=true:=by have:=hall.out;rw[hkk,zuq] at this;exact this
    have hwk:wSum (rs.take k)=wSum rs:=by rw[hkk,zuq]
    rw[hwk] at hw0 hw1 ⊢;have HLB:Hid (zb5 rs=decide (wSum rs<=4000)):=by
     show _=_;unfold zb5;rw[hak,decide_eq_true hbig];simp
    have hok:wr.ownsRow w.heap.size 96 1 (.slice (some ⟨g,0,none⟩) rs.length cap2) rs.length vs:=by rw[<-hkk];exact hown
    have HP:=hdn hPk;have HO:=hdn hok;have HKK:=hdn hkk;clear hPk hok hP hown hall hak hwk hkk
    by_cases h4:wSum rs<=4000
    ·go_wp2;refine zuN (v:=.tuple #[.slice (some ⟨g,0,none⟩) k cap2,.int .i64 (wSum rs),.bool true]) (by simp[results,Tryz.results23,go_sem]) rfl ⟨hb,.inr ⟨by rw[HLB.out];exact decide_eq_true h4,g,cap2,vs,by rw[HKK.out],HO.out,HP.out⟩⟩
    ·go_wp2;refine zuN (v:=.tuple #[.slice (some ⟨g,0,none⟩) k cap2,.int .i64 (wSum rs),.bool false]) (by simp[results,Tryz.results23,go_sem]) rfl ⟨hb,.inl ⟨by rw[HLB.out];exact decide_eq_false (by omega),_,_,rfl⟩⟩
 ·have hb1:(100:Int)<(rs.length:Int):=by omega
  have HL:=hdn (show zb5 rs=false by unfold zb5;simp;omega);clear hc hsm hl
  go_enter Tryz.func23,Tryz.ntmps23
  go_wp2;exact zuN (v:=.tuple #[.slice none 0 0,.int .i64 0,.bool false]) (by simp[results,Tryz.results23,go_sem]) rfl ⟨Below.refl _ _,.inl ⟨HL.out,_,_,rfl⟩⟩
end
variable {n:Nat}
attribute [local go_sem ↓] Go.wp_at_zero Go.wp_at_succ
theorem zh5{w:World}{B:Nat}{e:TypeId}{g cap:Nat}{xs:List Value}(h:w.ownsRow B e 1 (.slice (some ⟨g,0,none⟩) n cap) n xs):B<=g/\∃cs,w.heap[g]?=some (.cells cs e (0,0))/\∀i,i<n->cs[i]?=xs[i]?:=by
 rcases h.2 with ⟨h,_⟩|⟨g',cap',cr,h,hg,hrow,_,_,hsz,htk⟩
 ·cases h
 ·cases h
  refine⟨hg,cr,hrow,fun i hi=>?_⟩;rw[<-htk];rw[ztY,zuV (by omega)];simp
theorem zpe(w0:World)(bol eol:Bool)(ao:Option Addr)(c:Nat)(ns:List zau)(w:World)(hs:zaP 0 w0 (.slice ao ns.length c) ns)(hb0:Below w0.heap.size w0 w)(hn:ns.length<=1048576)(hk:zcM ns=true):
  Calls Tryz.prog 36 #[.agg #[.bool bol,.bool eol,.slice ao ns.length c],.string ⟨#[]⟩] w fun r w'=>Below w.heap.size w w'/\∃gl cl gr cr,r=.returned (.agg #[.slice ao ns.length c,.slice (some ⟨gl,0,none⟩) ns.length cl,.slice (some ⟨gr,0,none⟩) ns.length cr,.string ⟨#[]⟩])/\BrW w0 w' ns (.slice ao ns.length c) gl gr:=by
 obtain⟨W0,hW0⟩:∃W0,(w.alloc (.cells #[.bool bol,.bool eol,.slice ao ns.length c] 76)).alloc (.cells #[.slice none 0 0,.slice none 0 0,.slice none 0 0,.string ⟨#[]⟩] 79)=W0:=⟨_,rfl⟩;have hb:Below w.heap.size w W0:=by rw[<-hW0];exact((Below.refl _ _).alloc (zuz _) _).alloc (by simp) _
 have k0:W0.heap[w.heap.size]?=some (.cells #[.bool bol,.bool eol,.slice ao ns.length c] 76 (0,0)):=by rw[<-hW0];exact zao (zuR _ _)
 have k1:W0.heap[w.heap.size+1]?=some (.cells #[.slice none 0 0,.slice none 0 0,.slice none 0 0,.string ⟨#[]⟩] 79 (0,0)):=by rw[<-hW0];exact zmj _ _ _
 have q2:W0.cell? ⟨w.heap.size,2,none⟩=some (.slice ao ns.length c):=(zuO _ _ _ _ _ _ k0:W0.cell? ⟨w.heap.size,2,none⟩=_);have ck:=zk0 _ ns W0 (hs.below (zaa hb0 hb0.size hb)) hn;have HW0:=hdn hW0;have HB:=hdn hb;have HK0:=hdn k0;have HK1:=hdn k1;have HS:=hdn hs;clear hW0 hb k0 k1 hs hb0
 go_enter Tryz.func36,Tryz.ntmps36
 go_upto_region 1 with fail
 rw[HW0.out];clear HW0
 go_wp2_with fail
 refine ck.mono ?_;rintro e w1 ⟨hb1,h|⟨-,gl,cl,gr,cr,rfl,ol,or_,-⟩⟩
 ·rw[hk] at h;cases h.1
 have p0:=(hb1.block _ (zae HK0.out)).trans HK0.out;have p1:=(hb1.block _ (zae HK1.out)).trans HK1.out;have q2:w1.cell? ⟨w.heap.size,2,none⟩=some (.slice ao ns.length c):=(zuO _ _ _ _ _ _ p0:w1.cell? ⟨w.heap.size,2,none⟩=_);obtain⟨d0,d1,d2,d3⟩:=zam p1;obtain⟨f0,f1,f2,f3⟩:=zor p1;obtain⟨hgl,cs,hl1,hl2⟩:=zh5 ol;obtain⟨hgr,cs',hr1,hr2⟩:=zh5 or_;have hw0:=zae HK1.out;have hkeep:∀(g:Nat) (o:Obj),w1.heap[g]?=some o->W0.heap.size<=g->((((w1.setCell ⟨w.heap.size+1,0,none⟩ (.slice ao ns.length c)).setCell ⟨w.heap.size+1,1,none⟩ (.slice (some ⟨gl,0,none⟩) ns.length cl)).setCell ⟨w.heap.size+1,2,none⟩ (.slice (some ⟨gr,0,none⟩) ns.length cr)).setCell ⟨w.heap.size+1,3,none⟩ (.string ⟨#[]⟩)).heap[g]?=some o:=fun g o e hg=>by
  have hne:g≠w.heap.size+1:=by omega
  rw[Below.heap_setCell _ _ _ _ hne,Below.heap_setCell _ _ _ _ hne,Below.heap_setCell _ _ _ _ hne,Below.heap_setCell _ _ _ _ hne];exact e
 have HL1:=hdn (hkeep _ _ hl1 hgl);have HR1:=hdn (hkeep _ _ hr1 hgr);have HL2:=hdn hl2;have HR2:=hdn hr2;have bl1:=zaa HB.out HB.out.size hb1;have hbb:Below w.heap.size w ((((w1.setCell ⟨w.heap.size+1,0,none⟩ (.slice ao ns.length c)).setCell ⟨w.heap.size+1,1,none⟩ (.slice (some ⟨gl,0,none⟩) ns.length cl)).setCell ⟨w.heap.size+1,2,none⟩ (.slice (some ⟨gr,0,none⟩) ns.length cr)).setCell ⟨w.heap.size+1,3,none⟩ (.string ⟨#[]⟩)):=by
  iterate 4 refine Below.setCell ?_ (by simp) _
  exact bl1
 have HBB:=hdn hbb;clear hkeep hl1 hr1 hl2 hr2 bl1 hbb ol or_ p0 p1 ck hb1;go_wp2;refine zuN (v:=.agg #[.slice ao ns.length c,.slice (some ⟨gl,0,none⟩) ns.length cl,.slice (some ⟨gr,0,none⟩) ns.length cr,.string ⟨#[]⟩]) (by simp[results,Tryz.results36,go_sem,d0,d1,d2,d3]) rfl ⟨HBB.out,gl,cl,gr,cr,rfl,HS.out,⟨cs,HL1.out,fun i hi=>?_⟩,cs',HR1.out,fun i hi=>?_⟩
 ·rw[HL2.out i hi];simp[rowL,hi]
 ·rw[HR2.out i hi];simp[rowR,hi]
def zd6(b:zai):Pt:=tOf b.nodes (b.nodes.length-1)
def zec(i:Nat)(bs:List zai):List BrG:=bs.map fun b=>⟨i,b.bol,b.eol,unf (zd6 b)⟩
def bsR(i:Nat):List za0->List BrG
 |[]=>[]
 |r::rs=>zec i r.branches++bsR (i+1) rs
def cntB:List zai->Nat
 |[]=>0
 |b::bs=>cnt (zd6 b)+cntB bs
def cntR:List za0->Nat
 |[]=>0
 |r::rs=>cntB r.branches+cntR rs
theorem zqp(rs:List za0)(r:za0):∀i,bsR i (rs++[r])=bsR i rs++zec (i+rs.length) r.branches:=by
 induction rs with
 |nil=>intro i;simp[bsR]
 |cons x rs ih=>intro i;simp only[ztF,bsR,ih,ztD,zt2];rw[show i+1+rs.length=i+(rs.length+1) by omega]
theorem zlZ(rs:List za0){k:Nat}(hk:k<rs.length):bsR 0 (rs.take (k+1))=bsR 0 (rs.take k)++zec k (rs.getD k .zero).branches:=by
 rw[List.take_add_one,ztT hk,Option.toList_some,zqp,zt8,zuE (by omega),zuK];simp[List.getD,hk]
theorem zhL(i:Nat)(bs:List zai){j:Nat}(hj:j<bs.length):(zec i bs).take (j+1)=(zec i bs).take j++[⟨i,(bs.getD j .zero).bol,(bs.getD j .zero).eol,unf (zd6 (bs.getD j .zero))⟩]:=by
 unfold zec;rw[List.take_add_one];simp[List.getD,hj]
theorem zjh:∀(bs:List zai) {j:Nat},j<bs.length->cntB (bs.take (j+1))=cntB (bs.take j)+cnt (zd6 (bs.getD j .zero))
 |[],j,h=>absurd h (zuI _)
 |b::bs,0,_=>by simp[cntB]
 |b::bs,j+1,h=>by
  have:=zjh bs (j:=j) (by simpa using h);simp only[zus,cntB,this,List.getD_cons_succ];omega
theorem zji:∀(rs:List za0) {k:Nat},k<rs.length->cntR (rs.take (k+1))=cntR (rs.take k)+cntB (rs.getD k .zero).branches
 |[],j,h=>absurd h (zuI _)
 |b::bs,0,_=>by simp[cntR]
 |b::bs,j+1,h=>by
  have:=zji bs (k:=j) (by simpa using h);simp only[zus,cntR,this,List.getD_cons_succ];omega
theorem zn8:∀(bs:List zai) (j:Nat),cntB (bs.take j)<=cntB bs
 |[],j=>by simp[cntB]
 |b::bs,0=>by simp[cntB]
 |b::bs,j+1=>by have:=zn8 bs j;simp only[zus,cntB];omega
theorem zoa:∀(rs:List za0) (k:Nat),cntR (rs.take k)<=cntR rs
 |[],j=>by simp[cntR]
 |b::bs,0=>by simp[cntR]
 |b::bs,j+1=>by have:=zoa bs j;simp only[zus,cntR];omega
structure LwM(w0:World)(Ns:List NdX)(X:Xs):Prop where
 tr:∀(k:Nat) (x:BxD×GT),X[k]?=some x->AtN w0 Ns x.2 x.1.top
 lab:zjb X Ns.length
 al:AllN Ns X
theorem LwM.nil(w0:World):LwM w0 [] []:=⟨fun k x h=>by simp at h,⟨fun k k' x x' i i' h=>by simp at h,fun k x i h=>by simp at h⟩,fun i x h=>by simp at h⟩
theorem LwM.snoc{w0:World}{Ns Ms:List NdX}{X:Xs}{M:GA}{T:GT}(h:LwM w0 Ns X)(t:WtT w0 Ns Ms M n T)(b:BxD)(hb:b.top=Ns.length+Ms.length-1):LwM w0 (Ns++Ms) (X++[(b,T)]):=by
 have get:∀(k:Nat) (x:BxD×GT),(X++[(b,T)])[k]?=some x->(k<X.length/\X[k]?=some x)\/(k=X.length/\x=(b,T)):=fun k x hx=>by
  rcases zuC k X.length with q|q
  ·rw[ztQ q] at hx;exact .inl ⟨q,hx⟩
  ·rw[ztR q] at hx;have:k-X.length<1:=by
    have:=(ztV.1 hx).1
    simpa using this
   have e:k=X.length:=by omega
   subst e;simp at hx;exact .inr ⟨rfl,hx.symm⟩
 refine⟨fun k x hx=>?_,⟨fun k k' x x' i i' hx hx' hi hi' he=>?_,fun k x i hx hi=>?_⟩,fun i x hx=>?_⟩
 ·rcases get k x hx with ⟨_,h1⟩|⟨_,rfl⟩
  ·exact(h.tr k x h1).more Ms
  ·show AtN w0 (Ns++Ms) T b.top;rw[hb];exact t.at_
 ·rcases get k x hx with ⟨_,h1⟩|⟨rfl,rfl⟩<;>rcases get k' x' hx' with ⟨_,h1'⟩|⟨rfl,rfl⟩
  ·exact h.lab.inj k k' x x' i i' h1 h1' hi hi' he
  ·have:=h.lab.lt k x i h1 hi;have:=(t.lb.rng i' hi').1;have he:x.2.at i=T.at i':=he;omega
  ·have:=h.lab.lt k' x' i' h1' hi';have:=(t.lb.rng i hi).1;have he:T.at i=x'.2.at i':=he;omega
  ·exact⟨rfl,t.lb.inj i i' hi hi' he⟩
 ·rw[zt1];rcases get k x hx with ⟨_,h1⟩|⟨rfl,rfl⟩
  ·have:=h.lab.lt k x i h1 hi;omega
  ·exact(t.lb.rng i hi).2
 ·rcases zuC i Ns.length with q|q
  ·rw[ztQ q] at hx;rcases h.al i x hx with ⟨e,k,y,j,h1,h2,h3⟩|e
   ·exact .inl ⟨e,k,y,j,by rw[ztQ (ztV.1 h1).1];exact h1,h2,h3⟩
   ·exact .inr e
  ·have hl:=(ztV.1 hx).1;rw[zt1] at hl;rcases t.lb.all i x q hl hx with ⟨e,j,h2,h3⟩|e
   ·exact .inl ⟨e,X.length,(b,T),j,by simp,h2,h3⟩
   ·exact .inr e
end Go.Proofs.YthddplbodacjgaaGreatDoor
