import Derived.Test.YthdljcdbfmhleaaGreatDoorC43
import Derived.Test.YthdljcdbfmhleaaGreatDoorC46
namespace Go.Proofs.YthdljcdbfmhleaaGreatDoor
set_option maxHeartbeats 4000000
set_option maxRecDepth 100000
open Go.RowKit
attribute [local go_sem ↓] Go.wp_at_zero Go.wp_at_succ
section
variable {w:World}{xs:List Value}{st:List Int}{ts:List Pt}{lo:Nat}
def zcp(bs:List zaf):List Pt:=bs.map fun b=>tOf b.nodes (b.nodes.length-1)
theorem zgy(bs:List zaf):(zcp bs).length=bs.length:=by simp[zcp]
theorem zbH.keep{w':World}(h:zbH w xs st ts)(hk:zaJ w w'):zbH w' xs st ts:=
 ⟨h.1,fun j hj=>by obtain⟨t,x,h1,h2⟩:=h.2.1 j hj;exact⟨t,x,h1,h2.keep hk⟩,h.2.2⟩
theorem zl3{bs:List zaf}{k:Nat}(h:zbH w xs st ((zcp bs).take k))(hk:k<bs.length)(hst:st.length=k){t:TypeId}{x:Value}{wt:Int}
  (hp:IsTr w (.iface t x) (tOf (bs.getD k .zero).nodes ((bs.getD k .zero).nodes.length-1)) wt):zbH w (xs++[.iface t x]) (st++[wt]) ((zcp bs).take (k+1)):=by
 have hb:=zgy bs;have hx:=h.1;refine⟨by simp[hx],fun j hj=>?_,by simp;omega⟩;simp only[zrK,zrL,zrN] at hj
 by_cases e:j=k
 ·subst e;refine⟨t,x,?_,?_⟩
  ·rw[zrz (by omega),hx,hst,zsh];rfl
  ·have e1:(st++[wt]).getD j 0=wt:=by rw[zrw,zrz (by omega),hst,zsh];rfl
   have e2:((zcp bs).take (j+1)).getD j zbh=tOf (bs.getD j .zero).nodes ((bs.getD j .zero).nodes.length-1):=by
    rw[zrw,zrI,zst (by omega)];simp[zcp,hk]
   rw[e1,e2];exact hp
 ·obtain⟨t',x',h1,h2⟩:=h.2.1 j (by omega);refine⟨t',x',by rw[zry (by omega)];exact h1,?_⟩;have e1:(st++[wt]).getD j 0=st.getD j 0:=by rw[zrw,zry (by omega),zrw]
  have e2:((zcp bs).take (k+1)).getD j zbh=((zcp bs).take k).getD j zbh:=by
   rw[zrw,zrw,zrI,zrI,zst (by omega),zst (by omega)]
  rw[e1,e2];exact h2
def zeL:Pt->Nat
 |.set _=>1
 |.seq l r=>zeL l+zeL r+1
 |.alt l r=>zeL l+zeL r+1
 |.rep b _ _=>zeL b+1
 |.grp b _=>zeL b+1
theorem zcl:∀(p:Pt) (v:Value),zai w v p->zaV (zeL p) v (wPt p)
 |.set _,_,⟨_,h,_⟩=>.inl ⟨_,h,rfl⟩
 |.seq l r,_,⟨lv,rv,h,h1,h2⟩=>.inr (.inl ⟨lv,rv,_,_,h,zaV.mono _ _ _ _ (Nat.le_add_right _ _) (zcl l lv h1),zaV.mono _ _ _ _ (Nat.le_add_left _ _) (zcl r rv h2),rfl⟩)
 |.alt l r,_,⟨lv,rv,h,h1,h2⟩=>.inr (.inr (.inl ⟨lv,rv,_,_,h,zaV.mono _ _ _ _ (Nat.le_add_right _ _) (zcl l lv h1),zaV.mono _ _ _ _ (Nat.le_add_left _ _) (zcl r rv h2),rfl⟩))
 |.rep b mn mx,_,⟨lv,h,h1,h2⟩=>.inr (.inr (.inr (.inl ⟨lv,_,mn,mx,h,zcl b lv h1,h2,rfl⟩)))
 |.grp b g,_,⟨lv,h,h1⟩=>.inr (.inr (.inr (.inr ⟨lv,g,h,zcl b lv h1⟩)))
theorem zbH.parts(h:zbH w xs st ts):∃N,ziV N xs st:=by
 have key:∀m,m<=st.length->∃N,∀j,j<m->∃t x,xs[j]?=some (.iface t x)/\zaV N (.iface t x) (st.getD j 0):=by
  intro m
  induction m with
  |zero=>intro _;exact⟨0,fun j hj=>absurd hj (zsg _)⟩
  |succ m ih=>
   intro hm;obtain⟨N,hN⟩:=ih (by omega);obtain⟨t,x,hx,p,hp,hw,_⟩:=h.2.1 m (by omega);refine⟨N+zeL p,fun j hj=>?_⟩
   by_cases e:j=m
   ·subst e;exact⟨t,x,hx,by rw[<-hw];exact zaV.mono _ _ _ _ (Nat.le_add_left _ _) (zcl p _ hp)⟩
   ·obtain⟨t',x',h1,h2⟩:=hN j (by omega);exact⟨t',x',h1,zaV.mono _ _ _ _ (Nat.le_add_right _ _) h2⟩
 obtain⟨N,hN⟩:=key st.length (zsa _);exact⟨N,h.1,hN⟩
theorem ze3(v:Value)(bs:List zaf)(w:World)(hs:zaj lo w v bs)(hsm:Small bs):
  Calls Tryz.prog 38 #[v] w fun e w'=>Below w.heap.size w w'/\((zaX bs=none/\e=.returned (.tuple #[.slice none 0 0,.bool false]))\/
   ∃(st:List Int) (xs:List Value) (g sc:Nat),zaX bs=some st/\st.length=bs.length/\e=.returned (.tuple #[.slice (some ⟨g,0,none⟩) st.length sc,.bool true])/\w'.ownsRow w.heap.size 85 1 (.slice (some ⟨g,0,none⟩) st.length sc) st.length xs/\zbH w' xs st (zcp bs)):=by
 obtain⟨ao,cap,rfl,hm,hc⟩:=hs;have hn:=hsm.1;obtain⟨i0,hi,hz0,hz1,hz2⟩:=info_parts Tryz.infoPart
 go_enter Tryz.func38,Tryz.ntmps38
 go_wp2_with (refine wpList_make_own _ rfl _ _ 53 rfl w.heap.size 85 i0 _ 1 Tryz.underlying53 hi hz0 hz1 _ _ _ bs.length rfl rfl rfl (by rw[hz2];omega) (by unfold maxLen;omega) (zsa _) ?_;intro w1 hown hgrow)
 have hbw:Below w.heap.size w w1:=(Below.refl _ _).grown hgrow (zsa _) (by intro k h;cases h);clear hgrow
 go_loopw [4,14] (fun s i wr=>∃(k:Nat) (st:List Int) (g sc:Nat) (xs:List Value),k<=bs.length/\st.length=k/\i=.int .i64 k/\s=.slice (some ⟨g,0,none⟩) st.length sc/\Below w.heap.size w wr/\wr.ownsRow w.heap.size 85 1 (.slice (some ⟨g,0,none⟩) st.length sc) st.length xs/\zbH wr xs st ((zcp bs).take k)/\Hid (zaX bs=(zaX (bs.drop k)).map (st ++ ·)))
  (fun _ i _=>bs.length-(intOf i).toNat)
 case atStart=>exact⟨0,[],_,_,[],zsj _,rfl,rfl,rfl,hbw,hown,⟨rfl,fun j hj=>absurd hj (zsg _),rfl⟩,by show _=_;simp⟩
 case round=>
  obtain⟨k,st,g,sc,xs,hk,hstk,rfl,rfl,hb,hown,hparts,HS⟩:=hrel;obtain⟨hgB,hgl,hdc,hcm⟩:=zbb hown;have HK:Hid (st.length=k):=hstk
  by_cases hlt:k<bs.length
  ·obtain⟨b,o,nv,bd,rfl,Hn,hbl,c0,c1,c2,hnv⟩:=hc.elem hb hlt;have hz:=hb.size;have hnl:bd.nodes.length<=1048576:=by have:=(hsm.2 k hlt).1;rw[Hn.out] at this;exact this
   obtain⟨nao,ncp,rfl,hnm,hnc⟩:=hnv;have hba:Below w.heap.size w (wr.alloc (.cells #[.bool bd.bol,.bool bd.eol,.slice nao bd.nodes.length ncp] 41)):=hb.alloc hz _;have hnva:zas lo (wr.alloc (.cells #[.bool bd.bol,.bool bd.eol,.slice nao bd.nodes.length ncp] 41)) (.slice nao bd.nodes.length ncp) bd.nodes:=zas.below ⟨_,_,rfl,hnm,hnc⟩ ((Below.refl _ _).alloc (zsa _) _);generalize hdd:st.length=d at *;have Hdd:Hid _:=hdd;clear hdd;subst hstk
   go_wp2_with fail
   refine(zoO _ _ _ hnva hnl).mono ?_;rintro e w2 ⟨hb2,⟨hf,rfl⟩|⟨wt,t,x,hf,rfl,hp⟩⟩
   ·have Hf:Hid _:=hf;clear hf;go_wp2
    go_ret2
    refine⟨zaa hba hba.size hb2,.inl ⟨?_,rfl⟩⟩;rw[HS.out,zh9 bs _ hlt bd Hn.out Hf.out]
    rfl
   ·have Hf:Hid _:=hf;clear hf;have hown2:=zab (hown.alloc (.cells #[.bool bd.bol,.bool bd.eol,.slice nao bd.nodes.length ncp] 41)) hb2;have hbb2:=zaa hba hba.size hb2
    go_wp2_with (refine zaq w2 rfl (.tmp 26) (.tmp 28) 53 rfl w.heap.size 85 i0 _ 16 Tryz.underlying53 hi hz0 hz1 hz2 rfl g sc d xs _ rfl hown2 rfl rfl (by omega) (by omega) hbb2.size ?_;intro g' cap' w5 hown5 hgrow5 hat)
    go_roundw
    case rel=>
     have hl:(st++[wt]).length=d+1:=by have:=Hdd.out;simp;omega
     have hK:zaJ wr w2:=zaJ.of (zaa ((Below.refl _ _).alloc (zsa _) _) (by simp) hb2);obtain⟨cur,hcur⟩:=zno hown2;have hG:zaJ w2 w5:=zaJ.grown hgrow5 hcur (by decide);have hps:zbH w5 (xs++[.iface t x]) (st++[wt]) ((zcp bs).take (d+1)):=by
      refine zl3 (hparts.keep (hK.trans hG)) hlt (by have:=Hdd.out;omega) ?_;rw[Hn.out];exact hp.keep hG
     exact⟨d+1,st++[wt],g',cap',xs++[.iface t x],by omega,hl,by go_num,by rw[hl],hbb2.grown hgrow5 hbb2.size (by intro q hq;cases hq;exact hgB),by rw[hl];exact hown5,hps,zib HS.out (zia bs _ hlt bd Hn.out wt Hf.out)⟩
    case measure=>simp[intOf];omega
  ·have hkk:bs.drop k=[]:=zrq (by omega);have hnl2:st.length=bs.length:=by omega
   have Hnl:Hid _:=hnl2;clear hstk hnl2;go_wp2
   go_ret2
   refine⟨hb,.inr ⟨st,xs,g,sc,?_,Hnl.out,rfl,hown,by rw[zr5 (by rw[zgy];omega)] at hparts;exact hparts⟩⟩;rw[HS.out,hkk];simp[zaX]
def zq7(w:World)(G:Int)(bs:List zaf)(e:Ending)(w':World):Prop:=
 Below w.heap.size w w'/\((zc5 G bs=false/\∃pv,e=.returned (.tuple #[pv,.bool false]))\/(zc5 G bs=true/\∃(st:List Int) (xs:List Value) (B g sc:Nat),zaX bs=some st/\st.length=bs.length/\zbd st<=2000/\e=.returned (.tuple #[.slice (some ⟨g,0,none⟩) st.length sc,.bool true])/\w'.ownsRow B 85 1 (.slice (some ⟨g,0,none⟩) st.length sc) st.length xs/\zbH w' xs st (zcp bs)))
theorem zic(G:Int)(v:Value)(bs:List zaf)(w:World)(hs:zaj lo w v bs)(hsm:Small bs):
  Calls Tryz.prog 21 #[.agg #[v,.int .i64 G]] w fun e w'=>zq7 w G bs e w':=by
 have hn:=hsm.1;have hs0:=hs;obtain⟨ao,cap,rfl,hm,hc⟩:=hs;have hb0:Below w.heap.size w (w.alloc (.cells #[.slice ao bs.length cap,.int .i64 G] 30)):=(Below.refl _ _).alloc (zsa _) _;have Hfalse:∀{b:Bool},zc5 G bs=b->Hid (zc5 G bs=b):=fun h=>h
 by_cases h1:(bs.length:Int)<1
 ·have H:=Hfalse (b:=false) (by simp[zc5];omega);clear Hfalse
  go_enter Tryz.func21,Tryz.ntmps21
  go_wp2
  go_ret2
  exact⟨hb0,.inl ⟨H.out,_,rfl⟩⟩
 by_cases h2:2000<(bs.length:Int)
 ·have H:=Hfalse (b:=false) (by simp[zc5];omega);clear Hfalse
  go_enter Tryz.func21,Tryz.ntmps21
  go_wp2
  go_ret2
  exact⟨hb0,.inl ⟨H.out,_,rfl⟩⟩
 by_cases h3:G<0
 ·have H:=Hfalse (b:=false) (by simp[zc5];omega);clear Hfalse
  go_enter Tryz.func21,Tryz.ntmps21
  go_wp2
  go_ret2
  exact⟨hb0,.inl ⟨H.out,_,rfl⟩⟩
 by_cases h4:500<G
 ·have H:=Hfalse (b:=false) (by simp[zc5];omega);clear Hfalse
  go_enter Tryz.func21,Tryz.ntmps21
  go_wp2
  go_ret2
  exact⟨hb0,.inl ⟨H.out,_,rfl⟩⟩
 have HA:Hid (zc5 G bs=(decide (zaB bs<=5000)&&zbN G [] (zaT bs)&&match zaX bs with
  |none=>false
  |some st=>decide (zbd st<=2000))):=by
  show _=_;unfold zc5;have e1:decide (1<=bs.length/\bs.length<=2000)=true:=by simp;omega
  have e2:decide (0<=G/\G<=500)=true:=by simp;omega
  rw[e1,e2];simp only[zrh];cases zaX bs<;>rfl
 clear Hfalse;have hnc:=zcr hsm bs.length (zsa _);rw[List.take_length] at hnc
 go_enter Tryz.func21,Tryz.ntmps21
 go_wp2_with fail
 refine(zg7 _ bs _ (hs0.below hb0) hsm).mono ?_;rintro e w1 ⟨rfl,hb1⟩;have k0:w1.cell? ⟨w.heap.size,0,none⟩=some (.slice ao bs.length cap):=(hb1.cell (by simp)).trans (by simp);have k1:w1.cell? ⟨w.heap.size,1,none⟩=some (.int .i64 G):=(hb1.cell (by simp)).trans (by simp);have hz1:w.heap.size<w1.heap.size:=zsc (by simp) hb1.size;have hbb1:=zaa hb0 hb0.size hb1
 by_cases h5:5000<(zaB bs:Int)
 ·have H:Hid (zc5 G bs=false):=by
   show _=_;rw[HA.out];have:decide (zaB bs<=5000)=false:=by simp;omega
   rw[this];simp
  clear HA;go_wp2
  go_ret2
  exact⟨hbb1,.inl ⟨H.out,_,rfl⟩⟩
 go_wp2_with fail
 refine(zjl G _ bs _ (hs0.below hbb1) hsm (by omega) (by omega)).mono ?_;rintro e w2 ⟨rfl,hb2⟩;have m0:w2.cell? ⟨w.heap.size,0,none⟩=some (.slice ao bs.length cap):=(hb2.cell (by exact hz1)).trans k0;have hbb2:=zaa hbb1 hbb1.size hb2;have hz2:w.heap.size<w2.heap.size:=zsc hz1 hb2.size;have e5:decide (zaB bs<=5000)=true:=by simp;omega
 rw[e5,zrh] at HA;clear e5 k0 k1 hb1 hb2
 by_cases h6:zbN G [] (zaT bs)=false
 ·have H:Hid (zc5 G bs=false):=by show _=_;rw[HA.out,h6];simp
  clear HA;go_wp2
  go_ret2
  exact⟨hbb2,.inl ⟨H.out,_,rfl⟩⟩
 have h6':zbN G [] (zaT bs)=true:=by simpa using h6
 clear h6;rw[h6',zrh] at HA
 go_wp2_with fail
 refine(ze3 _ bs _ (hs0.below hbb2) hsm).mono ?_;rintro e w3 ⟨hb3,⟨hf,rfl⟩|⟨st,xs,g,sc,hf,hl,rfl,hown,htrees⟩⟩
 ·have H:Hid (zc5 G bs=false):=by show _=_;rw[HA.out,hf]
  clear HA hf;go_wp2
  go_ret2
  exact⟨zaa hbb2 hbb2.size hb3,.inl ⟨H.out,_,rfl⟩⟩
 ·have H:Hid (zc5 G bs=decide (zbd st<=2000)):=by show _=_;rw[HA.out,hf]
  have hst:st.length<=2000000:=by omega
  obtain⟨N,hparts⟩:=htrees.parts;have Hf:Hid _:=hf;have Hl:Hid _:=hl;clear HA hf hl;have hbb3:=zaa hbb2 hbb2.size hb3;have hsb:=zee hparts st.length (zsa _);rw[List.take_length] at hsb
  by_cases h7:2000<zbd st
  ·go_wp2_with fail
   refine(zdD st xs _ hown hparts hst).mono ?_;rintro e w4 ⟨rfl,hb4⟩;go_wp2
   go_ret2
   exact⟨zaa hbb3 hbb3.size hb4,.inl ⟨by rw[H.out];simp;omega,_,rfl⟩⟩
  ·go_wp2_with fail
   refine(zdD st xs _ hown hparts hst).mono ?_;rintro e w4 ⟨rfl,hb4⟩;go_wp2
   go_ret2
   exact⟨zaa hbb3 hbb3.size hb4,.inr ⟨by rw[H.out];simp;omega,st,xs,_,g,sc,Hf.out,Hl.out,by omega,rfl,zab hown hb4,htrees.keep (zaJ.of hb4)⟩⟩
end
def zlY(t:ByteArray)(a e:Int):Bool:=decide (t.size<=4096/\0<=a/\a<=e/\e<=t.size)
theorem zhf(t:ByteArray)(a e:Int)(w:World):
  Calls Tryz.prog 20 #[.string t,.int .i64 a,.int .i64 e] w fun r w'=>r=.returned (.bool (zlY t a e))/\w'=w:=by
 have Hp:Hid (zlY t a e=decide (t.size<=4096/\0<=a/\a<=e/\e<=t.size)):=rfl
 by_cases h1:(t.size:Int)<=4096
 ·by_cases h2:0<=a
  ·by_cases h3:a<=e
   ·by_cases h4:e<=(t.size:Int)
    all_goals
     go_enter Tryz.func20,Tryz.ntmps20
     go_wp2;go_ret;exact⟨zam (by rw[Hp.out];first|exact(decide_eq_true (by omega)).symm|exact(decide_eq_false (by omega)).symm|(rw[decide_eq_decide];omega)),rfl⟩
   ·go_enter Tryz.func20,Tryz.ntmps20
    go_wp2;go_ret;exact⟨zam (by rw[Hp.out];first|exact(decide_eq_false (by omega)).symm|(rw[decide_eq_decide];omega)),rfl⟩
  ·go_enter Tryz.func20,Tryz.ntmps20
   go_wp2;go_ret;exact⟨zam (by rw[Hp.out];first|exact(decide_eq_false (by omega)).symm|(rw[decide_eq_decide];omega)),rfl⟩
 ·go_enter Tryz.func20,Tryz.ntmps20
  go_wp2;go_ret;exact⟨zam (by rw[Hp.out];first|exact(decide_eq_false (by omega)).symm|(rw[decide_eq_decide];omega)),rfl⟩
theorem zjx(bol eol:Bool)(ao:Option Addr)(k c:Nat)(a:Nat)(w:World):
  Calls Tryz.prog 41 #[.agg #[.bool bol,.bool eol,.slice ao k c],.int .i64 a] w fun r w'=>r=.returned (.bool (a==0 || !bol))/\Below w.heap.size w w':=by
 have hb:Below w.heap.size w (w.alloc (.cells #[.bool bol,.bool eol,.slice ao k c] 41)):=(Below.refl _ _).alloc (zsa _) _;have h0:((a:Int)==0)=(a==0):=by
  by_cases h:a=0
  ·subst h;rfl
  ·have:((a:Int)==0)=false:=by simp;omega
   rw[this];simp;omega
 cases hz:(a==0)<;>cases bol
 all_goals
  rw[hz] at h0
  go_enter Tryz.func41,Tryz.ntmps41
  go_wp2;go_ret;exact⟨rfl,hb⟩
theorem zna(bol eol cl:Bool)(ao:Option Addr)(k c:Nat)(t:ByteArray)(e:Nat)(w:World):
  Calls Tryz.prog 42 #[.agg #[.bool bol,.bool eol,.slice ao k c],.string t,.int .i64 e,.bool cl] w fun r w'=>r=.returned (.bool ((cl&&e==t.size) || !eol))/\Below w.heap.size w w':=by
 have hb:Below w.heap.size w (w.alloc (.cells #[.bool bol,.bool eol,.slice ao k c] 41)):=(Below.refl _ _).alloc (zsa _) _;have h1:((e:Int)==(t.size:Int))=(e==t.size):=by
  by_cases h:e=t.size
  ·subst h;simp
  ·have:((e:Int)==(t.size:Int))=false:=by simp;omega
   rw[this];simp;omega
 cases he:(e==t.size)<;>cases eol<;>cases cl
 all_goals
  rw[he] at h1
  go_enter Tryz.func42,Tryz.ntmps42
  go_wp2;go_ret;exact⟨rfl,hb⟩
theorem zlS(bol eol cl:Bool)(n a e:Nat):zdd bol eol n a e cl=((a==0 || !bol)&&((cl&&e==n) || !eol)):=by
 unfold zdd;cases (a==0)<;>cases bol<;>cases (e==n)<;>cases eol<;>cases cl<;>rfl
theorem zqS(n:Nat)(a b:Int):pr2 (.int .i64 a) (.int .i64 b) n=pv (List.replicate n (a,b)):=by
 induction n with
 |zero=>rfl
 |succ n ih=>
  rw[List.replicate_succ',znB,<-ih];unfold pr2;rw[show (n+1)*2=n*2+1+1 from by omega,zr3,zr3];simp
theorem zlA(pl G:Nat)(x1 x2 x3:Value)(w:World)(hx:w.heap[pl]?=some (.cells #[.int .i64 (G:Int),x1,x2,x3] 83 (0,0)))(hG:G<=500):
  Calls Tryz.prog 44 #[.pointer (some ⟨pl,0,none⟩)] w fun e w'=>∃g,e=.returned (.slice (some ⟨g,0,none⟩) (G+1) (G+1))/\w.heap.size<=g/\w'.ownsRow w.heap.size 50 2 (.slice (some ⟨g,0,none⟩) (G+1) (G+1)) (G+1) (pv (List.replicate (G+1) (-1,-1)))/\Below w.heap.size w w':=by
 obtain⟨W1,hW1⟩:∃W1,w.alloc (.cells #[.int .i64 (-1),.int .i64 (-1)] 50)=W1:=⟨_,rfl⟩;have hb1:Below w.heap.size w W1:=by rw[<-hW1];exact(Below.refl _ _).alloc (zsa _) _
 have y1:W1.heap[w.heap.size]?=some (.cells #[.int .i64 (-1),.int .i64 (-1)] 50 (0,0)):=by rw[<-hW1];exact zsp _ _
 have hc:=zhu (.int .i64 (-1)) (.int .i64 (-1)) rfl rfl w.heap.size (G+1) W1 (zay y1).1 (zay y1).2 (by omega);have c0:W1.cell? ⟨pl,0,none⟩=some (.int .i64 (G:Int)):=(hb1.cell (p:=⟨pl,0,none⟩) (zrc.1 hx).1).trans (zsm _ _ _ _ _ _ hx:w.cell? ⟨pl,0,none⟩=_);rw[zqS] at hc;obtain⟨m,Hm⟩:∃m,Hid (G+1=m):=⟨_,rfl⟩;have hGi:(G:Int)+1=(m:Int):=by have:=Hm.out;omega
 rw[Hm.out] at hc ⊢;clear hx y1
 go_enter Tryz.func44,Tryz.ntmps44
 go_wp2_with fail
 refine hc.mono ?_;rintro e W2 ⟨rfl,own2,hb2⟩;have HO:=hidF own2;clear hc own2 c0;go_wp2;go_ret;exact⟨W1.heap.size,rfl,hb1.size,zdy HO.out hb1.size,zaa hb1 hb1.size hb2⟩
section
variable {w wr:World}{pl:Nat}{x0 x1 vP:Value}{Q:Nat -> Option Pt}{ps:List (Nat×Pt)}
structure NpS(w:World)(pl:Nat)(x0 x1:Value)(wr:World)(Q:Nat->Option Pt)(vP:Value)(ps:List (Nat×Pt)):Prop where
 kd:KdR w pl wr Q (fun k=>vP.ownBlock=some k\/k=pl) ps
 own:wr.ownsRow w.heap.size 86 1 vP ps.length (opL ps)
 xp:wr.heap[pl]?=some (.cells #[x0,x1,vP,.int .i64 1048576] 83 (0,0))
 lo:w.heap.size<=pl
theorem NpS.below(h:NpS w pl x0 x1 wr Q vP ps){wr2:World}(hb:Below wr.heap.size wr wr2):NpS w pl x0 x1 wr2 Q vP ps:=
 ⟨h.kd.below hb,zab h.own hb,(hb.block _ (zrc.1 h.xp).1).trans h.xp,h.lo⟩
theorem NpS.push{w7:World}{a:Nat}{q:Pt}{g7 cap7:Nat}(h:KdR w pl wr Q (fun k=>vP.ownBlock=some k\/k=pl) (ps++[(a,q)]))(hown0:wr.ownsRow w.heap.size 86 1 vP ps.length (opL ps))(xp:wr.heap[pl]?=some (.cells #[x0,x1,vP,.int .i64 1048576] 83 (0,0)))(lo:w.heap.size<=pl)
  (hown:w7.ownsRow w.heap.size 86 1 (.slice (some ⟨g7,0,none⟩) (ps.length+1) cap7) (ps.length+1) (opL ps++[.pointer (some ⟨a,0,none⟩)])) (hg:wr.grownBy w7 vP.ownBlock) (hat:vP.ownBlock=some g7\/wr.heap.size<=g7):
  w7.heap[pl]?=some (.cells #[x0,x1,vP,.int .i64 1048576] 83 (0,0))/\NpS w pl x0 x1 (w7.setCell ⟨pl,2,none⟩ (.slice (some ⟨g7,0,none⟩) (ps.length+1) cap7)) Q (.slice (some ⟨g7,0,none⟩) (ps.length+1) cap7) (ps++[(a,q)]):=by
 have ty:∀{k:Nat} {cs:Array Value} {t:TypeId},wr.heap[k]?=some (.cells cs t (0,0))->t≠86->¬some k=vP.ownBlock:=fun e1 e2 e3=>by
  obtain⟨_,cur,z⟩:=zaR hown0 e3.symm;rw[e1] at z;exact e2 (zad z)
 have xp7:=(hg.block _ (zrc.1 xp).1 (ty xp (by decide))).trans xp;refine⟨xp7,?_⟩;have ho8:=zsr w7 pl 2 _ _ (.slice (some ⟨g7,0,none⟩) (ps.length+1) cap7) xp7;obtain⟨w8,hw8⟩:∃w8,w7.setCell ⟨pl,2,none⟩ (.slice (some ⟨g7,0,none⟩) (ps.length+1) cap7)=w8:=⟨_,rfl⟩;have g8:w7.grownBy w8 (some pl):=by rw[<-hw8];exact zaK w7 pl 2 _
 rw[hw8] at ho8 ⊢;have xp8:w8.heap[pl]?=some (.cells #[x0,x1,.slice (some ⟨g7,0,none⟩) (ps.length+1) cap7,.int .i64 1048576] 83 (0,0)):=by rw[ho8];rfl
 have tc:zan (fun k=>vP.ownBlock=some k\/k=pl) wr w8:=((zan.refl _ wr).grown hg (fun k e=>.inl (.inl e))).grown g8 (fun k e=>.inl (.inr (Option.some.inj e).symm));have ne8:∀{k:Nat} {cs:Array Value} {t:TypeId},w7.heap[k]?=some (.cells cs t (0,0))->t≠83->w8.heap[k]?=some (.cells cs t (0,0)):=fun e1 e2=>(g8.block _ (zrc.1 e1).1 (fun e=>by
  injection e with e
  rw[e,xp7] at e1;exact e2 (zad e1).symm)).trans e1
 have own8:w8.ownsRow w.heap.size 86 1 (.slice (some ⟨g7,0,none⟩) (ps.length+1) cap7) (ps.length+1) (opL ps++[.pointer (some ⟨a,0,none⟩)]):=zaO hown (fun b e=>by
  obtain⟨_,cur,z⟩:=zaR hown e;exact(ne8 z (by decide)).trans z.symm)
 refine⟨h.turn tc (fun k e=>?_) (fun k e=>?_),?_,xp8,lo⟩
 ·rcases e with e|e
  ·have e:g7=k:=by simpa [Value.ownBlock] using e
   subst e;rcases hat with h1|h1
   ·exact .inl (.inl h1)
   ·exact .inr h1
  ·exact .inl (.inr e)
 ·rcases e with e|e
  ·obtain⟨z1,cur,z2⟩:=zaR own8 e;exact⟨z1,cur,_,z2,by decide,by decide⟩
  ·subst e;exact⟨lo,_,_,xp8,by decide,by decide⟩
 ·have e:opL (ps++[(a,q)])=opL ps++[.pointer (some ⟨a,0,none⟩)]:=by simp[opL]
  rw[e,zrK];exact own8
def NpA(w:World)(x0 x1:Value)(n:Nat)(pq:Nat->Pt)(e:Ending)(w':World):Prop:=
 ∃(pl:Nat) (Q:Nat->Option Pt) (vP:Value) (ps:List (Nat×Pt)),e=.returned (.pointer (some ⟨pl,0,none⟩))/\NpS w pl x0 x1 w' Q vP ps/\ps.length=n/\∀k,k<n->opQ ps k=pq k
theorem zlz(G:Int)(ao:Option Addr)(bn bc g sc n:Nat)(tt:Nat->TypeId)(xx:Nat->Value)(pq:Nat->Pt)(w:World)(hr:∀k,k<n->w.cell? ⟨g,k,none⟩=some (.iface (tt k) (xx k)))(hT:∀k,k<n->zai w (.iface (tt k) (xx k)) (pq k))(hw:∀k,k<n->wPt (pq k)<=2000)(hn:n<=100000):
  Calls Tryz.prog 22 #[.agg #[.slice ao bn bc,.int .i64 G],.slice (some ⟨g,0,none⟩) n sc] w fun e w'=>NpA w (.int .i64 G) (.slice ao bn bc) n pq e w':=by
 obtain⟨i0,hi,hz0,hz1,hz2⟩:=info_parts Tryz.infoPieceP;obtain⟨W0,hW0⟩:∃W0,(w.alloc (.cells #[.slice ao bn bc,.int .i64 G] 30)).alloc (.cells #[.int .i64 G,.slice ao bn bc,.slice none 0 0,.int .i64 1048576] 83)=W0:=⟨_,rfl⟩;have hb0:Below w.heap.size w W0:=by rw[<-hW0];exact((Below.refl _ _).alloc (zsa _) _).alloc (by simp) _
 have x0:W0.heap[w.heap.size+1]?=some (.cells #[.int .i64 G,.slice ao bn bc,.slice none 0 0,.int .i64 1048576] 83 (0,0)):=by rw[<-hW0];exact zcs _ _ _
 have HN0:Hid (NpS w (w.heap.size+1) (.int .i64 G) (.slice ao bn bc) W0 (fun _=>none) (.slice none 0 0) []):=⟨KdR.start w _ _ W0 hb0 (fun k e=>by
   rcases e with e|e
   ·simp[Value.ownBlock] at e
   ·subst e;exact⟨by omega,_,_,x0,by decide,by decide⟩),⟨rfl,.inl ⟨rfl,rfl⟩⟩,x0,by omega⟩
 have Hr:=hidF hr;have HT:=hidF hT;have Hw:=hidF hw;have hp:=fun k=>zoZ (pq k)
 clear hr hT hw x0 hb0
 go_enter Tryz.func22,Tryz.ntmps22
 go_wp2;clear hW0
 go_loopw [16] (fun iv wr=>∃(k:Nat) (Q:Nat->Option Pt) (vP:Value) (ps:List (Nat×Pt)),iv=.int .i64 k/\k<=n/\ps.length=k/\Hid (NpS w (w.heap.size+1) (.int .i64 G) (.slice ao bn bc) wr Q vP ps)/\Hid (∀j,j<k->opQ ps j=pq j))
  (fun iv _=>n-(intOf iv).toNat)
 case atStart=>exact⟨0,_,_,[],rfl,zsj _,rfl,HN0,fun j hj=>absurd hj (zsg _)⟩
 case round=>
  clear HN0;obtain⟨k,Q,vP,ps,rfl,hkn,hpk,HN,HQ⟩:=hrel
  by_cases hlt:k<n
  ·have hk0:(0:Int)<=(k:Int):=by omega
   have hk1:(k:Int)<(n:Int):=by omega
   have hbel:=HN.out.kd.bel;have cg:wr.cell? ⟨g,k,none⟩=some (.iface (tt k) (xx k)):=(hbel.cell (p:=⟨g,k,none⟩) (block_lt_of_cell (Hr.out k hlt))).trans (Hr.out k hlt);have hA0:=HN.out.below ((Below.refl wr.heap.size wr).drew);have hc:=hp k (w.heap.size+1) (.iface (tt k) (xx k)) wr.drew (zai.keep (zaF hA0.kd.bel) _ _ (HT.out k hlt)) (Hw.out k hlt);have cp:wr.cell? ⟨w.heap.size+1,2,none⟩=some vP:=(za3 HN.out.xp).1;have hpl:=(zrc.1 HN.out.xp).1;have Hnx:Hid (∀(e:Ending) (w':World),PcR wr.drew (w.heap.size+1) (pq k) e w'->∃(a:Nat) (Q2:Nat->Option Pt),e=.returned (.pointer (some ⟨a,0,none⟩))/\w'.ownsRow w.heap.size 86 1 vP ps.length (opL ps)/\w.heap.size<=w'.heap.size/\w.heap.size+1<w'.heap.size/\w'.cell? ⟨w.heap.size+1,2,none⟩=some vP/\∀w7 g7 cap7,w7.ownsRow w.heap.size 86 1 (.slice (some ⟨g7,0,none⟩) (ps.length+1) cap7) (ps.length+1) (opL ps++[.pointer (some ⟨a,0,none⟩)])->w'.grownBy w7 vP.ownBlock->(vP.ownBlock=some g7\/w'.heap.size<=g7)->w7.cell? ⟨w.heap.size+1,2,none⟩=some vP/\w7.frozen? ⟨w.heap.size+1,2,none⟩=false/\NpS w (w.heap.size+1) (.int .i64 G) (.slice ao bn bc) (w7.setCell ⟨w.heap.size+1,2,none⟩ (.slice (some ⟨g7,0,none⟩) (ps.length+1) cap7)) Q2 (.slice (some ⟨g7,0,none⟩) (ps.length+1) cap7) (ps++[(a,pq k)])):=fun e w' hR=>by
    obtain⟨a,Q2,rfl,hb2,hK2⟩:=hA0.kd.add hR;have hA2:=hA0.below hb2;refine⟨a,Q2,rfl,hA2.own,hK2.bel.size,(zrc.1 hA2.xp).1,(za3 hA2.xp).1,fun w7 g7 cap7 h1 h2 h3=>?_⟩;obtain⟨k1,k2⟩:=NpS.push hK2 hA2.own hA2.xp hA2.lo h1 h2 h3;exact⟨(za3 k1).1,(za3 k1).2,k2⟩
   have hcE:Calls Tryz.prog 40 #[.pointer (some ⟨w.heap.size+1,0,none⟩),.iface (tt k) (xx k)] wr.drew fun e w'=>∃v,e=.returned v/\PcR wr.drew (w.heap.size+1) (pq k) (.returned v) w':=hc.mono fun e w' h=>by
    obtain⟨a,Q2,rfl,h2⟩:=h;exact⟨_,rfl,a,Q2,rfl,h2⟩
   have hps:ps.length<=100000:=by omega
   have Hget:Hid (∀a,∀j,j<k+1->opQ (ps++[(a,pq k)]) j=pq j):=fun a j hj=>by
    by_cases e:j=k
    ·subst e;unfold opQ;rw[zrw,zrz (by omega),hpk,zsh]
     rfl
    ·have:=HQ.out j (by omega);unfold opQ at this ⊢;rw[zrw,zry (by omega),<-zrw];exact this
   have Hpk:=hidF hpk;clear hA0 hc hp hpk
   go_upto_region 5 with fail
   refine wp_mono (Q:=zfj _) ?_ zcc
   go_region_law ((first|(refine zb9 (by rfl) 40 #[.tmp 25,.tmp 26] #[56,85] (by rfl) #[.pointer (some ⟨w.heap.size+1,0,none⟩),.iface (tt k) (xx k)] (by first|(simp[Act.eval];done)|simp[Act.eval,Act.put]) _ (zew _ _) hcE ?_;intro v4 W4 hR4;obtain⟨a4,Q4,hv4,own4,hs4,hbo4,co4,Hn4⟩:=Hnx.out _ W4 hR4;injection hv4 with hv4;subst hv4;have co5:(W4.alloc (.cells #[.pointer (some ⟨a4,0,none⟩)] 86)).cell? ⟨w.heap.size+1,2,none⟩=some vP:=(((Below.refl W4.heap.size W4).alloc (zsa _) _).cell (p:=⟨w.heap.size+1,2,none⟩) hbo4).trans co4;have Hn4:=hidF Hn4;clear hR4)|(refine zdh (by rfl) (.tmp 24) (.tmp 28) 81 (by rfl) W4 #[.pointer (some ⟨a4,0,none⟩)] 86 (by rfl) W4.heap.size (by rfl) w.heap.size i0 _ 1 8 Tryz.underlying81 hi hz0 hz1 hz2 (by rfl) (by omega) vP ps.length (opL ps) (by rfl) own4 (by rfl) (by rfl) (by intro u hu;simp at hu;subst hu;rfl) (by omega) (by omega) hs4 ?_;intro g7 cap7 W7 own7 grow7 at7;obtain⟨co7,fo7,hA7⟩:=Hn4.out W7 g7 cap7 own7 grow7 at7;have HA7:=hidF hA7;clear own7 grow7 at7 hA7)|fail))
   all_goals
    rw[za5];clear hcE own4 co4 co5 co7 fo7 Hn4 Hnx cg cp;go_wp2
    go_roundw
    case rel=>exact⟨k+1,Q4,_,ps++[(a4,pq k)],by go_num,by omega,by simp[Hpk.out],HA7,Hget.out a4⟩
    case measure=>simp[intOf];omega
  ·obtain rfl:k=n:=by omega
   have HF:Hid (NpA w (.int .i64 G) (.slice ao bn bc) k pq (.returned (.pointer (some ⟨w.heap.size+1,0,none⟩))) wr):=⟨_,Q,vP,ps,rfl,HN.out,hpk,HQ.out⟩;clear HN HQ;go_wp2;go_ret;exact HF.out
end
variable {w w0:World}{pl:Nat}{x0 x1 vP:Value}{Q:Nat -> Option Pt}{ps:List (Nat×Pt)}
theorem zjd(xs:Array Value)(w:World):(callFunc 45 xs).run Tryz.prog w=.ok (.enter 45 xs) w:=by kernel_rfl
theorem zlj(xs:Array Value)(w:World):(callFunc 68 xs).run Tryz.prog w=.ok (.enter 68 xs) w:=by kernel_rfl
def plFn(bs bt bp:Nat):Value:=.func (.func 68) #[] #[.pointer (some ⟨bs,0,none⟩),.pointer (some ⟨bt,0,none⟩),.pointer (some ⟨bp,0,none⟩)]
theorem znx(t:ByteArray)(gs m cap:Nat)(w:World):
  Calls Tryz.prog 45 #[.string t,.slice (some ⟨gs,0,none⟩) m cap] w fun e w'=>∃bs bt bp,e=.returned (plFn bs bt bp)/\Below w.heap.size w w'/\w.heap.size<=bs/\w.heap.size<=bt/\w.heap.size<=bp/\w'.heap[bs]?=some (.cells #[.slice (some ⟨gs,0,none⟩) m cap] 26 (0,0))/\w'.heap[bt]?=some (.cells #[.string t] 9 (0,0))/\w'.heap[bp]?=some (.cells #[plFn bs bt bp] 92 (0,0)):=by
 obtain⟨W2,hW2⟩:∃W2,(w.alloc (.cells #[.string t] 9)).alloc (.cells #[.slice (some ⟨gs,0,none⟩) m cap] 26)=W2:=⟨_,rfl⟩;have hs2:W2.heap.size=w.heap.size+1+1:=by rw[<-hW2];simp
 have hb2:Below w.heap.size w W2:=by rw[<-hW2];exact((Below.refl _ _).alloc (zsa _) _).alloc (by simp) _
 have q0:W2.heap[w.heap.size]?=some (.cells #[.string t] 9 (0,0)):=by rw[<-hW2];exact zah (zsp _ _)
 have q1:W2.heap[w.heap.size+1]?=some (.cells #[.slice (some ⟨gs,0,none⟩) m cap] 26 (0,0)):=by rw[<-hW2];exact zcs _ _ _
 have st:=zcI (P:=Tryz.prog) W2 #[.nilFunc] 92 (.func (.func 68) #[] #[.pointer (some ⟨w.heap.size+1,0,none⟩),.pointer (some ⟨w.heap.size,0,none⟩),.pointer (some ⟨w.heap.size+1+1,0,none⟩)]) rfl 0 (by simp);simp only[List.setIfInBounds_toArray,List.set_cons_zero] at st;obtain⟨W3,hW3⟩:∃W3,W2.alloc (.cells #[.func (.func 68) #[] #[.pointer (some ⟨w.heap.size+1,0,none⟩),.pointer (some ⟨w.heap.size,0,none⟩),.pointer (some ⟨w.heap.size+1+1,0,none⟩)]] 92)=W3:=⟨_,rfl⟩;have hb3:Below W2.heap.size W2 W3:=by rw[<-hW3];exact(Below.refl _ _).alloc (zsa _) _
 have q2:W3.heap[W2.heap.size]?=some (.cells #[plFn (w.heap.size+1) w.heap.size (w.heap.size+1+1)] 92 (0,0)):=by rw[<-hW3];exact zsp _ _
 have c2:W3.cell? ⟨W2.heap.size,0,none⟩=some (.func (.func 68) #[] #[.pointer (some ⟨w.heap.size+1,0,none⟩),.pointer (some ⟨w.heap.size,0,none⟩),.pointer (some ⟨w.heap.size+1+1,0,none⟩)]):=(zsm _ _ _ _ _ _ q2:_=_);have p0:=(hb3.block _ (zrc.1 q0).1).trans q0;have p1:=(hb3.block _ (zrc.1 q1).1).trans q1;rw[hs2] at st c2 q2;have HF:=hidF (show ∃bs bt bp,Ending.returned (plFn (w.heap.size+1) w.heap.size (w.heap.size+1+1))=.returned (plFn bs bt bp)/\Below w.heap.size w W3/\w.heap.size<=bs/\w.heap.size<=bt/\w.heap.size<=bp/\W3.heap[bs]?=some (.cells #[.slice (some ⟨gs,0,none⟩) m cap] 26 (0,0))/\W3.heap[bt]?=some (.cells #[.string t] 9 (0,0))/\W3.heap[bp]?=some (.cells #[plFn bs bt bp] 92 (0,0)) from⟨_,_,_,rfl,zaa hb2 hb2.size hb3,by omega,by omega,by omega,p1,p0,q2⟩);clear q0 q1 q2 p0 p1 hb2 hb3
 go_enter Tryz.func45,Tryz.ntmps45
 go_wp2;go_ret;exact HF.out
theorem NpS.start(h:NpS w pl x0 x1 w0 Q vP ps)(hB:zaY w):PnI w0 pl Q (fun _ _=>False) w0:=by
 have hpos:=zbm hB;refine⟨rfl,rfl,rfl,zsa _,fun _ _ _ _=>rfl,?_,?_,hB.keep (h.kd.bel.block 0 hpos),⟨x0,x1,vP,1048576,1048576,h.xp,h.xp,zsa _⟩,fun a p ha=>?_,fun k a e=>e.elim,fun k a b e=>e.elim⟩
 ·exact h.kd.pm.below0 hpos
 ·intro e;have:=h.lo;omega
 ·obtain⟨h1,h2,v,f,h3,h4⟩:=h.kd.pm a p ha;exact⟨v,f,.pointer none,h3,h3,h4,h2,.inl rfl⟩
theorem NpS.cells(h:NpS w pl x0 x1 w0 Q vP ps){Ow:Nat->Nat->Prop}{W:World}(hI:PnI w0 pl Q Ow W):(∃room:Nat,W.heap[pl]?=some (.cells #[x0,x1,vP,.int .i64 room] 83 (0,0)))/\W.ownsRow w.heap.size 86 1 vP ps.length (opL ps):=by
 obtain⟨y0,y1,y2,r0,room,h1,h2,_⟩:=hI.plan;have e:=h.xp;rw[h1] at e;injection e with e
 injection e with e
 simp at e;obtain⟨rfl,rfl,rfl,-⟩:=e;exact⟨⟨room,h2⟩,zaO h.own fun b hb=>by
  obtain⟨_,cur,z⟩:=zaR h.own hb;exact(hI.typ z (by decide) (by decide)).trans z.symm⟩
theorem NpS.bel(h:NpS w pl x0 x1 w0 Q vP ps){Ow:Nat->Nat->Prop}{W:World}(hI:PnI w0 pl Q Ow W):Below w.heap.size w W:=by
 have hb:=h.kd.bel;refine⟨hI.os.trans hb.os,hI.tape.trans hb.tape,hI.output.trans hb.output,zsb hb.size hI.size,fun k hk=>(hI.old k (zsc hk hb.size) (h.kd.pm.below0 hk) (fun e=>by have:=h.lo;omega)).trans (hb.block k hk)⟩
end Go.Proofs.YthdljcdbfmhleaaGreatDoor
