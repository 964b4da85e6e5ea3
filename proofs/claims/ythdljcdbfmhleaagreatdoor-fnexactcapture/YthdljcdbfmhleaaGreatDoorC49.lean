import Derived.Test.YthdljcdbfmhleaaGreatDoorC48
import Derived.WalkMore
import Derived.Deep.RegionHeld3
import Derived.Deep.DrawnRows
namespace Go.Proofs.YthdljcdbfmhleaaGreatDoor
set_option maxHeartbeats 4000000
set_option maxRecDepth 100000
section
variable {N:Nat}{xs:List Value}{st:List Int}
open Go.RowKit
attribute [local go_sem ↓] Go.wp_at_zero Go.wp_at_succ
theorem zhD(h:ziV N xs st)(k:Nat)(hk:k<st.length)(hle:zbd (st.take (k+1))<=2000):zbd (st.take (k+1))=zbd (st.take k)+st.getD k 0/\1<=st.getD k 0/\0<=zbd (st.take k):=by
 rw[zdU st k hk] at hle ⊢;obtain⟨t,x,_,hp⟩:=h.2 k hk;have h1:=zaV.facts N _ _ hp;have h2:=zee h k (by omega);unfold capW at hle ⊢;split
 ·exact⟨rfl,h1.2.1,h2.1⟩
 ·rw[zss (by assumption)] at hle;omega
theorem zj5(h:ziV N xs st)(hle:zbd st<=2000):∀m k,k+m=st.length->zbd (st.take k)<=zbd st
 |0,k,e=>by rw[zr5 (by omega)];exact Int.le_refl _
 |m+1,k,e=>by
  have h1:=zj5 h hle m (k+1) (by omega);have h2:=zhD h k (by omega) (by omega);omega
theorem znR(h:ziV N xs st)(hle:zbd st<=2000):∀k,k<=st.length->(k:Int)<=zbd (st.take k)
 |0,_=>by simp[zbd]
 |k+1,hk=>by
  have h0:=zj5 h hle (st.length-(k+1)) (k+1) (by omega);have h1:=zhD h k (by omega) (by omega);have h2:=znR h hle k (by omega);omega
theorem zqt(h:ziV N xs st)(hle:zbd st<=2000)(k:Nat)(hk:k<st.length):st.getD k 0<=2000:=by
 have h0:=zj5 h hle (st.length-(k+1)) (k+1) (by omega);have h1:=zhD h k hk (by omega);omega
theorem zgp{lo:Nat}(G:Int)(v:Value)(bs:List zaf)(t:ByteArray)(a e:Int)(cl:Bool)(w:World)(hs:zaj lo w v bs)(hsm:Small bs)(hBr:zaY w):
  Calls Tryz.prog 7 #[.agg #[v,.int .i64 G],.string t,.int .i64 a,.int .i64 e,.bool cl] w fun x w'=>∃r,CapR G bs t a e cl r/\CapA w r x w':=by
 have hs0:=hs;have hpos:=zbm hBr;obtain⟨ao,cap,rfl,hm,hc⟩:=hs;obtain⟨W0,hW0⟩:∃W0,w.alloc (.cells #[.slice ao bs.length cap,.int .i64 G] 30)=W0:=⟨_,rfl⟩;have hb0:Below w.heap.size w W0:=by rw[<-hW0];exact(Below.refl _ _).alloc (zsa _) _
 have x0:W0.heap[w.heap.size]?=some (.cells #[.slice ao bs.length cap,.int .i64 G] 30 (0,0)):=by rw[<-hW0];exact zsp _ _
 obtain⟨a0,a1⟩:=zay x0;have hsp:=zhf t a e W0;have hlift:=zic G _ bs W0 (hs0.below hb0) hsm;have Hno:Hid ((zc5 G bs&&zlY t a e)=false->CapR G bs t a e cl []):=fun h=>by
  refine .inl ⟨fun hp=>?_,rfl⟩;have h1:=hp.1;unfold zdS at h1;rw[<-zf4] at h1;unfold zlY at h;rw[h1] at h;cases h
 have Hemp:Hid (∀W:World,Below w.heap.size w W->CapR G bs t a e cl []->∃r,CapR G bs t a e cl r/\CapA w r (.returned (.slice (some ⟨W.heap.size,0,none⟩) 0 0)) (W.alloc (.cells #[] 50))):=fun W hb h=>⟨[],h,_,rfl,zbD W _ 2 w.heap.size W.heap.size hb.size rfl,hb.alloc hb.size _⟩
 cases hq:zlY t a e
 ·rw[hq] at hsp;have HF:=hidF (Hemp.out W0 hb0 (Hno.out (by rw[hq,Bool.and_false])));clear hlift
  go_enter Tryz.func7,Tryz.ntmps7
  go_wp2_with (go_at_call 20;refine hsp.mono ?_;rintro r w1 ⟨rfl,hw1⟩;subst w1)
  go_ret
  exact HF.out
 have hq0:=hq;unfold zlY at hq0;simp only[zsn] at hq0;obtain⟨ht,ha0,hae,het⟩:=hq0;obtain⟨a',rfl⟩:∃a':Nat,a=a':=⟨a.toNat,by omega⟩;obtain⟨e',rfl⟩:∃e':Nat,e=e':=⟨e.toNat,by omega⟩;rw[hq] at hsp
 go_enter Tryz.func7,Tryz.ntmps7
 go_wp2_with (go_at_call 20;refine hsp.mono ?_;rintro r w1 ⟨rfl,hw1⟩;subst w1)
 refine hlift.mono ?_;rintro r W1 ⟨hb1,⟨hi,pv,rfl⟩|⟨hi,st,xs,B0,g,sc,hst,hstl,hsum,rfl,hown,htr⟩⟩
 ·have HF:=hidF (Hemp.out W1 (zaa hb0 hb0.size hb1) (Hno.out (by rw[hi,Bool.false_and])));clear hi hlift Hemp Hno;go_wp2;go_ret;exact HF.out
 have hspan:zdS G bs t a' e'=true:=by
  unfold zdS;rw[<-zf4,hi];exact hq
 have hspec:zb5 G bs=true:=by rw[<-zf4];exact hi
 obtain⟨N,hparts⟩:=htr.parts;have hsl:=znR hparts hsum st.length (zsa _);rw[List.take_length] at hsl;have hb01:=zaa hb0 hb0.size hb1;have x1:=(hb1.block _ (zrc.1 x0).1).trans x0;obtain⟨c0,c1⟩:=zay x1;obtain⟨F,hF⟩:=@Go.Deep.choose_lt (TypeId×Value×Pt) ⟨(0,.nilIface,.set fun _=>false)⟩ bs.length (fun j q=>xs[j]?=some (.iface q.1 q.2.1)/\zai W1 (.iface q.1 q.2.1) q.2.2/\wPt q.2.2<=2000/\Eqv q.2.2 (tOf (bs.getD j .zero).nodes ((bs.getD j .zero).nodes.length-1))) (fun j hj=>by
  obtain⟨t1,y1,h1,p,h2,h3,h4⟩:=htr.2.1 j (by omega);have h5:(zcp bs).getD j zbh=tOf (bs.getD j .zero).nodes ((bs.getD j .zero).nodes.length-1):=by simp[zcp,hj]
  rw[h5] at h4;exact⟨(t1,y1,p),h1,h2,by rw[h3];exact zqt hparts hsum j (by omega),h4⟩)
 have hcell:∀k,k<bs.length->W1.cell? ⟨g,k,none⟩=some (.iface (F k).1 (F k).2.1):=fun k hk=>by
  have e1:(⟨g,0,none⟩:Addr).add k=⟨g,k,none⟩:=by unfold Addr.add;split<;>simp_all
  have:=zcR hown k _ (hF k hk).1;rw[e1] at this;exact this
 obtain⟨n,rfl⟩:∃n:Nat,G=n:=⟨G.toNat,by
  have:=hspec;unfold zb5 at this;simp only[zrf,zsn] at this;omega⟩
 have hG5:n<=500:=by
  have:=hspec;unfold zb5 at this;simp only[zrf,zsn] at this;omega
 have hnp:=zlz (n:Int) ao bs.length cap g sc bs.length (fun k=>(F k).1) (fun k=>(F k).2.1) (fun k=>(F k).2.2) W1 hcell (fun k hk=>(hF k hk).2.1) (fun k hk=>(hF k hk).2.2.1) (by omega);have hgr:∀k,k<bs.length->∀l,Pl t.data.toList (tOf (bs.getD k .zero).nodes ((bs.getD k .zero).nodes.length-1)) a' e' l->∀x∈l,1<=x.1/\x.1<((n+1:Nat):Int):=fun k hk l hl x hx=>by
  obtain⟨s1,s2⟩:=zkT hspan hk;obtain⟨p1,p2⟩:=zfz _ s1;have htk:=(zkb (bs.getD k .zero).nodes p2 s2 ((bs.getD k .zero).nodes.length-1) (by omega)).2;have h1:=zdc _ _ _ _ hl x hx;have h3:=zf5 hspec _ (zet bs k hk _ (htk _ h1));omega
 have hcap:=fun(pl:Nat) (Q:Nat->Option Pt) (vP:Value) (ps:List (Nat×Pt)) (w0:World) (hN:NpS W1 pl (.int .i64 (n:Int)) (.slice ao bs.length cap) w0 Q vP ps) (hl:ps.length=bs.length) (hk:∀k,k<bs.length->opQ ps k=(F k).2.2)=>zlc w W1 hb01 bs ao cap ⟨ao,cap,rfl,hm,hc⟩ (by omega) n hG5 pl Q vP ps w0 hN (hBr.keep (hb01.block 0 hpos)) hl t (by omega) a' e' (by omega) (by omega) cl (fun k h=>by rw[hk k h];exact(hF k h).2.2.2) hgr
 have HR:Hid (∀r,CapQ n bs t a' e' cl r->CapR n bs t a' e' cl r):=fun r h=>by
  have ea:(a':Int).toNat=a':=by omega
  have ee:(e':Int).toNat=e':=by omega
  rcases h with ⟨h1,h2⟩|⟨k,h1,h2,h3,l,h4,h5⟩
  ·refine .inl ⟨fun hp=>?_,h2⟩;obtain⟨_,k,hk,hb⟩:=hp;rw[ea,ee] at hb;exact h1 k hk hb
  ·refine .inr ⟨hspan,k,h1,?_,?_,l,?_,?_⟩
   ·rw[ea,ee];exact h2
   ·rw[ea,ee];exact h3
   ·rw[ea,ee];exact h4
   ·rw[h5,show (n:Int).toNat=n from by omega]
 have Hcap:=hidF hcap;clear hi hst hsum hlift hsp hq Hno Hemp hcell hF hparts htr hown hgr hcap x0 a0 a1 hW0 hspan hspec x1
 go_wp2_with fail
 refine hnp.mono ?_;rintro x2 W2 ⟨pl,Q,vP,ps,rfl,hN,hpl,hpq⟩;have hca:=Hcap.out pl Q vP ps W2 hN hpl hpq;clear hnp hN
 go_wp2_with fail
 refine hca.mono ?_;rintro x3 W3 ⟨r,v3,hr,rfl,own3,hb3⟩;have HF:Hid (∃r,CapR n bs t a' e' cl r/\CapA w r (.returned v3) W3):=⟨r,HR.out r hr,v3,rfl,own3,hb3⟩;clear hca hr own3 hb3;go_wp2;go_ret;exact HF.out
end
theorem zhd{P:Nat->Prop}{i j k k':Nat}(h:Gre P i j k)(h':Gre P i j k'):k=k':=by
 rcases zse k k' with e|e|e
 ·exact absurd h'.2.2.1 (h.2.2.2 k' e h'.2.1)
 ·exact e
 ·exact absurd h.2.2.1 (h'.2.2.2 k e h.2.1)
theorem zp0{L:Nat->Nat->Prop}{R:Nat->Nat->List Up->Prop}{C:Nat->Int->Nat->Nat->Prop}(hR:∀i j l l',R i j l->R i j l'->l=l'){mn:Nat}{mx:Int}{i j:Nat}{l:List Up}(h:CpR L R C mn mx i j l):∀l',CpR L R C mn mx i j l'->l=l':=by
 induction h with
 |done i j=>
  intro l' h';cases h' with
  |done=>rfl
  |out _ _ _ h=>exact absurd h (by decide)
  |may _ _ _ _ _ _ h=>exact absurd h (by decide)
 |void i=>
  intro l' h';cases h' with
  |void=>rfl
  |out _ _ _ h=>exact absurd h (by decide)
  |may _ _ _ _ _ _ h=>exact absurd h (by decide)
  |more _ _ _ _ _ h=>exact absurd h (Nat.lt_irrefl _)
 |out mx i j hm hn=>
  intro l' h';cases h' with
  |done=>rfl
  |void=>rfl
  |out=>rfl
  |may _ _ _ k _ _ _ g=>exact absurd g.2.2.1 (hn k g.1 g.2.1)
  |more=>exact absurd hm (by decide)
 |must mn mx i j k l1 l2 g h1 h2 ih=>
  intro l' h';cases h' with
  |must _ _ _ _ k' l1' l2' g' h1' h2'=>
   obtain rfl:=zhd g g';rw[hR _ _ _ _ h1 h1',ih _ h2']
 |may mx i j k l1 l2 hm g h1 h2 ih=>
  intro l' h';cases h' with
  |done=>exact absurd hm (by decide)
  |void=>exact absurd hm (by decide)
  |out _ _ _ _ hn=>exact absurd g.2.2.1 (hn k g.1 g.2.1)
  |may _ _ _ k' l1' l2' _ g' h1' h2'=>
   obtain rfl:=zhd g g';rw[hR _ _ _ _ h1 h1',ih _ h2']
  |more=>exact absurd hm (by decide)
 |more i j k l1 l2 hi g h1 h2 ih=>
  intro l' h';cases h' with
  |void=>exact absurd hi (Nat.lt_irrefl _)
  |out _ _ _ h=>exact absurd h (by decide)
  |may _ _ _ _ _ _ h=>exact absurd h (by decide)
  |more _ _ k' l1' l2' _ g' h1' h2'=>
   obtain rfl:=zhd g g';rw[hR _ _ _ _ h1 h1',ih _ h2']
theorem zfU{u:Word}:∀(p:Pt) (i j:Nat) (l l':List Up),Pl u p i j l->Pl u p i j l'->l=l'
 |.set _,_,_,l,l',h,h'=>by have h:l=[]:=h;have h':l'=[]:=h';rw[h,h']
 |.grp b g,i,j,l,l',⟨m,e,h⟩,⟨m',e',h'⟩=>by rw[e,e',zfU b i j m m' h h']
 |.seq p q,i,j,l,l',⟨k,l1,l2,g,h1,h2,e⟩,⟨k',l1',l2',g',h1',h2',e'⟩=>by
  obtain rfl:=zhd g g';rw[e,e',zfU p i k l1 l1' h1 h1',zfU q k j l2 l2' h2 h2']
 |.alt p q,i,j,l,l',h,h'=>by
  rcases h with ⟨a,h⟩|⟨a,h⟩<;>rcases h' with ⟨a',h'⟩|⟨a',h'⟩
  ·exact zfU p i j l l' h h'
  ·exact absurd a a'
  ·exact absurd a' a
  ·exact zfU q i j l l' h h'
 |.rep b mn mx,i,j,l,l',h,h'=>zp0 (zfU b) (show CpR (Lg u b) (Pl u b) (fun mn mx i j=>Lg u (.rep b mn mx) i j) mn.toNat mx i j l from h) l' h'
theorem zoh{G:Int}{bs:List zaf}{t:ByteArray}{a e:Int}{cl:Bool}{r r':List (Int×Int)}(h:CapR G bs t a e cl r)(h':CapR G bs t a e cl r'):r=r':=by
 rcases h with ⟨h1,h2⟩|⟨h1,k,h2,h3,h4,l,h5,h6⟩<;>rcases h' with ⟨g1,g2⟩|⟨g1,k',g2,g3,g4,l',g5,g6⟩
 ·rw[h2,g2]
 ·exact absurd ⟨g1,k',g2,g4⟩ h1
 ·exact absurd ⟨h1,k,h2,h4⟩ g1
 ·have ek:k=k':=by
   rcases zse k k' with e|e|e
   ·exact absurd h4 (g3 k e)
   ·exact e
   ·exact absurd g4 (h3 k' e)
  subst ek;rw[h6,g6,zfU _ _ _ _ _ h5 g5]
theorem zdw{lo:Nat}(G:Int)(v:Value)(bs:List zaf)(t:ByteArray)(a e:Int)(cl:Bool)(r:List (Int×Int))(w:World)(hs:zaj lo w v bs)(hsm:Small bs)(hBr:zaY w)(hr:CapR G bs t a e cl r):
  Calls Tryz.prog 7 #[.agg #[v,.int .i64 G],.string t,.int .i64 a,.int .i64 e,.bool cl] w fun x w'=>CapA w r x w':=
 (zgp G v bs t a e cl w hs hsm hBr).mono fun _ _ ⟨_,h1,h2⟩=>zoh hr h1 ▸ h2
section
variable {B sz g n cap:Nat}{W:World}{v:Value}{rs:List (Int×Int)}{xs:List Value}
open Go.RowKit
attribute [local go_sem ↓] Go.wp_at_zero Go.wp_at_succ
def PvO(B:Nat)(W:World)(v:Value)(rs:List (Int×Int)):Prop:=W.ownsRow B 50 2 v rs.length (pv rs)
theorem hidP{p:Prop}(h:p):Hid p:=h
theorem znz(rs:List (Int×Int))(i:Nat)(h:i<rs.length):(pv rs)[i*2]?=some (.int .i64 (rs.getD i (0,0)).1)/\(pv rs)[i*2+1]?=some (.int .i64 (rs.getD i (0,0)).2):=⟨zkM rs (j:=0) h (by omega),zkM rs (j:=1) h (by omega)⟩
theorem PvO.read(h:PvO B W v rs)(hn:rs.length<=1048576):zag B W v rs:=by
 rcases h.2 with ⟨rfl,h0⟩|⟨g,cap,cur,rfl,hg,hh,h1,h2,h3,h4⟩
 ·have hr:rs=[]:=zrs h0;subst hr;exact⟨none,0,rfl,by simp,fun h=>absurd h (by simp)⟩
 ·refine⟨some ⟨g,0,none⟩,cap,rfl,by omega,fun _=>⟨g,0,rfl,hg,(zrc.1 hh).1,fun i hi=>?_⟩⟩;have e:=znz rs i hi;have c0:=h.cellAt (i*2) (by omega);have c1:=h.cellAt (i*2+1) (by omega);rw[e.1] at c0;rw[e.2] at c1;exact⟨by rw[zsi];exact c0,by rw[zsi];exact c1⟩
theorem zeX{e:TypeId}(h:W.ownsRow B e sz (.slice (some ⟨g,0,none⟩) n cap) n xs)(j:Nat)(u:Value):(W.setCell ⟨g,j,none⟩ u).ownsRow B e sz (.slice (some ⟨g,0,none⟩) n cap) n (xs.set j u):=by
 refine⟨by rw[List.length_set];exact h.1,?_⟩;rcases h.2 with ⟨e,_⟩|⟨g',cap',cur,e,hg,hh,h1,h2,h3,h4⟩
 ·cases e
 ·cases e
  refine .inr ⟨g,cap,cur.setIfInBounds j u,rfl,hg,zsr _ _ _ _ _ _ hh,h1,h2,by simp[h3],?_⟩;rw[Array.toList_setIfInBounds,List.take_set,h4]
def mxLP(k:Int)(xs:List Value)(a:Nat):List Value:=(List.range xs.length).map fun j=>if j<a then .int .i64 (k+(j:Int)) else xs.getD j undef
theorem znh(k:Int)(xs:List Value):mxLP k xs 0=xs:=by
 unfold mxLP;apply List.ext_getElem
 ·simp
 ·intro n h1 h2;simp[List.getD,h2]
theorem zkF(k:Int)(xs:List Value)(a:Nat):(mxLP k xs a).set a (.int .i64 (k+(a:Int)))=mxLP k xs (a+1):=by
 unfold mxLP;apply List.ext_getElem
 ·simp
 ·intro n h1 h2;rw[List.getElem_set]
  by_cases e:a=n
  ·subst e;simp
  ·rw[zss e];simp only[List.getElem_map,List.getElem_range]
   by_cases e2:n<a
   ·rw[zst e2,zst (by omega)]
   ·rw[zss e2,zss (by omega)]
def mkRP(n:Nat)(k:Int):List (Int×Int):=(List.range n).map fun(j:Nat)=>(k+2*(j:Int),k+2*(j:Int)+1)
theorem zcO(n:Nat)(k:Int):(mkRP n k).length=n:=by simp[mkRP]
theorem zoT(k:Int)(rs:List (Int×Int)):mxLP k (pv rs) (rs.length*2)=pv (mkRP rs.length k):=by
 apply zrt
 intro m
 by_cases hm:m<rs.length*2
 ·have hL:(mxLP k (pv rs) (rs.length*2))[m]?=some (.int .i64 (k+(m:Int))):=by
   unfold mxLP;rw[zrG,List.getElem?_range (by rw[zea];exact hm)];simp[hm]
  rw[hL];have hi:m/2<(mkRP rs.length k).length:=by rw[zcO];omega
  have hg:=znz (mkRP rs.length k) (m/2) hi;have hv:(mkRP rs.length k).getD (m/2) (0,0)=(k+2*((m/2:Nat):Int),k+2*((m/2:Nat):Int)+1):=by
   unfold mkRP;have:m/2<rs.length:=by omega
   simp[List.getD,this]
  rw[hv] at hg;rcases Nat.mod_two_eq_zero_or_one m with e|e
  ·have:=hg.1;rw[show m/2*2=m by omega] at this;rw[this]
   congr 2
   omega
  ·have:=hg.2;rw[show m/2*2+1=m by omega] at this;rw[this]
   congr 2
   omega
 ·rw[zrE (by unfold mxLP;simp[zea];omega),zrE (by rw[zea,zcO];omega)]
theorem zgO{e:TypeId}(h:W.ownsRow B e sz (.slice (some ⟨g,0,none⟩) n cap) n xs){j:Nat}(hj:j<n*sz):(∃u,W.cell? ⟨g,j,none⟩=some u)/\W.frozen? ⟨g,j,none⟩=false:=by
 refine⟨?_,?_⟩
 ·have:=h.cellAt j hj;rw[this,zrD (by rw[h.1];exact hj)];exact⟨_,rfl⟩
 ·rcases h.2 with ⟨e,_⟩|⟨g',cap',cur,e,hg,hh,_⟩
  ·cases e
  ·cases e;exact zso _ _ _ _ _ hh
theorem zfy(W:World)(row:Option Nat):W.grownBy W row:=⟨rfl,rfl,rfl,zsa _,fun _ _ _=>rfl⟩
theorem zeO{w':World}(h:W.grownBy w' (some g))(o:Nat)(u:Value):W.grownBy (w'.setCell ⟨g,o,none⟩ u) (some g):=
 ⟨h.os,h.tape,h.output,by simpa [World.setCell] using h.size,fun k hk hr=>by rw[zsq _ _ _ _ (fun e=>hr (by rw[e]))];exact h.block k hk hr⟩
theorem zih(k:Int)(w:World)(h:PvO B w v rs)(hk:0<=k/\k<=1000000000)(hn:rs.length<=100000):
  Calls Tryz.prog 11 #[v,.int .i64 k] w fun e w'=>e=.returned (.int .i64 (k+2*(rs.length:Int)))/\PvO B w' v (mkRP rs.length k)/\w.grownBy w' v.ownBlock:=by
 rcases h.2 with ⟨rfl,h0⟩|⟨g,cap,cur,rfl,hg,hh,h1,h2,h3,h4⟩
 ·have hr:rs=[]:=zrs h0;subst hr;clear h h0
  go_enter Tryz.func11,Tryz.ntmps11
  go_wp2
  go_loopw [1,5] (fun kv iv wr=>kv=.int .i64 k/\iv=.int .i64 0/\wr=w) (fun _ _ _=>0)
  case atStart=>exact⟨rfl,rfl,rfl⟩
  case round=>
   obtain⟨rfl,rfl,rfl⟩:=hrel;go_wp2;go_ret;exact⟨by simp,⟨rfl,.inl ⟨rfl,rfl⟩⟩,zfy _ _⟩
 ·obtain⟨n,hnn⟩:∃n,n=rs.length:=⟨_,rfl⟩;have hO:w.ownsRow B 50 2 (.slice (some ⟨g,0,none⟩) n cap) n (pv rs):=by rw[hnn];exact h
  have HO0:Hid (w.ownsRow B 50 2 (.slice (some ⟨g,0,none⟩) n cap) n (mxLP k (pv rs) 0)):=by rw[znh];exact hO
  have hrl:(pv rs).length=n*2:=by rw[zea,hnn]
  have HRL:=hidP hrl;have HEND:Hid (mxLP k (pv rs) (n*2)=pv (mkRP n k)):=by rw[hnn];exact zoT k rs
  have hn2:n<=100000:=by omega
  rw[<-hnn];have Hnn:=hidP hnn;clear hh h3 h4 hO h hrl hnn hn
  go_enter Tryz.func11,Tryz.ntmps11
  go_wp2
  go_loopw [1,5] (fun kv iv wr=>∃i:Nat,i<=n/\kv=.int .i64 (k+2*(i:Int))/\iv=.int .i64 (i:Int)/\Hid (wr.ownsRow B 50 2 (.slice (some ⟨g,0,none⟩) n cap) n (mxLP k (pv rs) (i*2)))/\Hid (w.grownBy wr (some g))) (fun _ iv _=>n-(intOf iv).toNat)
  case atStart=>exact⟨0,by omega,by go_num,rfl,HO0,zfy _ _⟩
  case round=>
   clear HO0;obtain⟨i,hi,rfl,rfl,HO,HG⟩:=hrel
   by_cases hlt:i<n
   ·have hltI:(i:Int)<(n:Int):=by omega
    obtain⟨⟨u0,c0⟩,f0⟩:=zgO HO.out (j:=i*2) (by omega);have HO1:=zeX HO.out (i*2) (.int .i64 (k+2*(i:Int)));rw[show k+2*(i:Int)=k+((i*2:Nat):Int) by omega,zkF] at HO1;have HO1H:=hidP HO1;clear HO1;have HG1:=hidP (zeO HG.out (i*2) (.int .i64 (k+2*(i:Int))));rw[show k+((i*2:Nat):Int)=k+2*(i:Int) by omega] at HO1H
    go_upto_region 5 with fail
    generalize wr.setCell ⟨g,i*2,none⟩ (.int .i64 (k+2*(i:Int)))=W2 at *;clear c0 f0;obtain⟨⟨u1,c1⟩,f1⟩:=zgO HO1H.out (j:=i*2+1) (by omega);have HO2:=zeX HO1H.out (i*2+1) (.int .i64 (k+2*(i:Int)+1));rw[show k+2*(i:Int)+1=k+((i*2+1:Nat):Int) by omega,zkF] at HO2;rw[show k+((i*2+1:Nat):Int)=k+2*(i:Int)+1 by omega,show i*2+1+1=(i+1)*2 by omega] at HO2;have HO2H:=hidP HO2;have HG2:=hidP (zeO HG1.out (i*2+1) (.int .i64 (k+2*(i:Int)+1)));clear HO2 HG HO;go_wp2
    go_roundw
    case rel=>exact⟨i+1,by omega,by congr 1;omega,by go_num,HO2H,HG2⟩
    case measure=>simp[intOf];omega
   ·have hin:i=n:=by omega
    subst hin;go_wp2;go_ret;exact⟨rfl,by show World.ownsRow _ _ _ _ _ _ _;rw[zcO,<-HEND.out];exact HO.out,HG.out⟩
theorem zoR(n:Nat)(k:Int){i:Nat}(h:i<n):(mkRP n k).getD i (0,0)=(k+2*(i:Int),k+2*(i:Int)+1):=by
 unfold mkRP;simp[List.getD,h]
theorem zh4{lo:Nat}(k:Int)(w:World)(h:zag lo w v (mkRP n k))(hk:0<=k/\k<=1000000000)(hn:n<=100000):
  Calls Tryz.prog 12 #[v,.int .i64 k] w fun e w'=>e=.returned (.int .i64 (k+2*(n:Int)))/\w'=w:=by
 obtain⟨ao,cap,rfl,hm,hc⟩:=h;rw[zcO] at hm ⊢;have HC:Hid (0<n->∃b o,ao=some ⟨b,o,none⟩/\∀i,i<n->w.cell? ⟨b,o+i*2,none⟩=some (.int .i64 (k+2*(i:Int)))/\w.cell? ⟨b,o+i*2+1,none⟩=some (.int .i64 (k+2*(i:Int)+1))):=fun h0=>by
  obtain⟨b,o,e,_,_,h9⟩:=hc (by rw[zcO];exact h0);refine⟨b,o,e,fun i hi=>?_⟩;have h8:=h9 i (by rw[zcO];exact hi);rw[zoR n k hi] at h8;exact h8
 clear hc hm
 go_enter Tryz.func12,Tryz.ntmps12
 go_wp2
 go_loopw [1,5] (fun kv iv wr=>∃i:Nat,i<=n/\kv=.int .i64 (k+2*(i:Int))/\iv=.int .i64 (i:Int)/\wr=w) (fun _ iv _=>n-(intOf iv).toNat)
 case atStart=>exact⟨0,by omega,by go_num,rfl,rfl⟩
 case round=>
  obtain⟨i,hi,rfl,rfl,rfl⟩:=hrel
  by_cases hlt:i<n
  ·have hltI:(i:Int)<(n:Int):=by omega
   obtain⟨b,o,rfl,h9⟩:=HC.out (by omega);obtain⟨c0,c1⟩:=h9 i hlt;clear h9 HC;go_wp2
   go_roundw
   case rel=>exact⟨i+1,by omega,by congr 1;omega,by go_num,trivial⟩
   case measure=>simp[intOf];omega
  ·have hin:i=n:=by omega
   subst hin;go_wp2;go_ret;exact⟨rfl,rfl⟩
end
variable {lo T b:Nat}{w W:World}{cs:Array Value}{v:Value}
open Go.RowKit
attribute [local go_sem ↓] Go.wp_at_zero Go.wp_at_succ
def slB:Option Value->Bool
 |some (.slice _ _ _)=>true
 |_=>false
structure MkR(lo T:Nat)(w W:World):Prop where
 os:W.os=w.os
 tape:W.tape=w.tape
 output:W.output=w.output
 size:w.heap.size<=W.heap.size
 out:∀b,b<w.heap.size->(b<lo\/T<=b)->W.heap[b]?=w.heap[b]?
 row:∀(b:Nat) (cs:Array Value) (t:TypeId),w.heap[b]?=some (.cells cs t (0,0))->∃cs':Array Value,W.heap[b]?=some (.cells cs' t (0,0))/\cs'.size=cs.size/\(∀(i:Nat),slB cs[i]?=true->cs'[i]?=cs[i]?)/\∀(i:Nat),slB cs[i]?=false->slB cs'[i]?=false
theorem MkR.refl(lo T:Nat)(w:World):MkR lo T w w:=⟨rfl,rfl,rfl,zsa _,fun _ _ _=>rfl,fun _ cs _ h=>⟨cs,h,rfl,fun _ _=>rfl,fun _ h=>h⟩⟩
theorem MkR.trans{a b c:World}(h:MkR lo T a b)(k:MkR lo T b c):MkR lo T a c:=
 ⟨k.os.trans h.os,k.tape.trans h.tape,k.output.trans h.output,zsb h.size k.size,fun i hi ho=>(k.out i (zsc hi h.size) ho).trans (h.out i hi ho),fun i cs t e=>by
  obtain⟨cs1,e1,s1,p1,q1⟩:=h.row i cs t e;obtain⟨cs2,e2,s2,p2,q2⟩:=k.row i cs1 t e1;refine⟨cs2,e2,s2.trans s1,fun i hi=>?_,fun i hi=>q2 i (q1 i hi)⟩;have:=p1 i hi;rw[p2 i (by rw[this];exact hi),this]⟩
theorem MkR.put{o:Nat}{t:TypeId}(hb:w.heap[b]?=some (.cells cs t (0,0)))(h1:lo<=b)(h2:b<T)(hn:slB cs[o]?=false)(u:Value)(hu:slB (some u)=false):MkR lo T w (w.setCell ⟨b,o,none⟩ u):=by
 refine⟨rfl,rfl,rfl,by simp[World.setCell],fun i hi ho=>zsq _ _ _ _ (by show i≠b;omega),fun i cs' t' e=>?_⟩
 by_cases hib:i=b
 ·subst hib;rw[hb] at e;cases e;refine⟨_,zsr w i o _ _ u hb,by simp,fun j hj=>?_,fun j hj=>?_⟩
  ·rw[Array.getElem?_setIfInBounds]
   by_cases e:o=j
   ·subst e;rw[hn] at hj;cases hj
   ·rw[zss e]
  ·rw[Array.getElem?_setIfInBounds]
   by_cases e:o=j
   ·rw[zst e];split
    ·exact hu
    ·rfl
   ·rw[zss e];exact hj
 ·exact⟨cs',(zsq _ _ _ _ (by exact hib)).trans e,rfl,fun _ _=>rfl,fun _ h=>h⟩
def RngW(lo T:Nat)(w:World)(v:Value)(n:Nat):Prop:=∃ao cap,v=.slice ao n cap/\(0<n->∃(b o:Nat) (cs:Array Value),ao=some ⟨b,o,none⟩/\lo<=b/\b<T/\w.heap[b]?=some (.cells cs 149 (0,0))/\o+n*2<=cs.size/\∀i,i<n*2->slB cs[o+i]?=false)
def NodW(lo T:Nat)(w:World)(v:Value)(ns:List zak):Prop:=∃ao cap,v=.slice ao ns.length cap/\(0<ns.length->∃(b o:Nat) (cs:Array Value),ao=some ⟨b,o,none⟩/\lo<=b/\b<T/\w.heap[b]?=some (.cells cs 72 (0,0))/\o+ns.length*5<=cs.size/\∀i,i<ns.length->(∀j,j<5->j≠1->slB cs[o+i*5+j]?=false)/\∃sv,cs[o+i*5+1]?=some sv/\RngW lo T w sv (ns.getD i .zero).set.length)
def BraW(lo T:Nat)(w:World)(v:Value)(bs:List zaf):Prop:=∃ao cap,v=.slice ao bs.length cap/\(0<bs.length->∃(b o:Nat) (cs:Array Value),ao=some ⟨b,o,none⟩/\lo<=b/\b<T/\w.heap[b]?=some (.cells cs 41 (0,0))/\o+bs.length*3<=cs.size/\∀i,i<bs.length->(∀j,j<2->slB cs[o+i*3+j]?=false)/\∃sv,cs[o+i*3+2]?=some sv/\NodW lo T w sv (bs.getD i .zero).nodes)
theorem RngW.mk{n:Nat}(h:RngW lo T w v n)(k:MkR lo T w W):RngW lo T W v n:=by
 obtain⟨ao,cap,rfl,h⟩:=h;refine⟨ao,cap,rfl,fun h0=>?_⟩;obtain⟨b,o,cs,rfl,h1,h2,h3,h4,h5⟩:=h h0;obtain⟨cs',e,s,p,q⟩:=k.row b cs _ h3;exact⟨b,o,cs',rfl,h1,h2,e,by omega,fun i hi=>q _ (h5 i hi)⟩
theorem NodW.mk{ns:List zak}(h:NodW lo T w v ns)(k:MkR lo T w W):NodW lo T W v ns:=by
 obtain⟨ao,cap,rfl,h⟩:=h;refine⟨ao,cap,rfl,fun h0=>?_⟩;obtain⟨b,o,cs,rfl,h1,h2,h3,h4,h5⟩:=h h0;obtain⟨cs',e,s,p,q⟩:=k.row b cs _ h3;refine⟨b,o,cs',rfl,h1,h2,e,by omega,fun i hi=>?_⟩;obtain⟨g1,sv,g2,g3⟩:=h5 i hi;have hsl:slB cs[o+i*5+1]?=true:=by obtain⟨a,c,rfl,_⟩:=g3;rw[g2];rfl
 exact⟨fun j hj hne=>q _ (g1 j hj hne),sv,(p _ hsl).trans g2,g3.mk k⟩
theorem zi6{t:TypeId}(h:w.heap[b]?=some (.cells cs t (0,0))){i:Nat}(hi:i<cs.size):∃u,w.cell? ⟨b,i,none⟩=some u:=⟨cs[i],by rw[zsm _ _ _ _ _ _ h];simp[hi]⟩
theorem zhl(v:Value)(n:Nat)(k:Int)(w:World)(h:RngW lo T w v n)(hk:0<=k/\k+2*(n:Int)<=100000000):
  Calls Tryz.prog 71 #[v,.int .i64 k] w fun e W=>e=.returned (.int .i64 (k+2*(n:Int)))/\MkR lo T w W:=by
 obtain⟨ao,cap,rfl,h⟩:=h;have hk0:=hk.1;have hk1:=hk.2;have H:Hid _:=h;clear h hk
 go_enter Tryz.func71,Tryz.ntmps71
 go_wp2
 go_loopw [1,5] (fun kv iv wr=>∃i:Nat,i<=n/\iv=.int .i64 i/\kv=.int .i64 (k+2*(i:Int))/\Hid (MkR lo T w wr)) (fun _ iv _=>n-(intOf iv).toNat)
 case atStart=>exact⟨0,zsj _,rfl,by simp,MkR.refl _ _ _⟩
 case round=>
  obtain⟨i,hi,rfl,rfl,HM⟩:=hrel
  by_cases hlt:i<n
  ·obtain⟨b,o,cs,rfl,h1,h2,h3,h4,h5⟩:=H.out (by omega);obtain⟨cs1,e1,s1,p1,q1⟩:=HM.out.row b cs _ h3;obtain⟨u0,c0⟩:=zi6 e1 (i:=o+i*2) (by omega);have f0:=zso _ _ (o+i*2) _ _ e1;have m1:=MkR.put e1 h1 h2 (q1 _ (h5 (i*2) (by omega))) (.int .i64 (k+2*(i:Int))) rfl;obtain⟨cs2,e2,s2,p2,q2⟩:=m1.row b cs1 _ e1;obtain⟨u1,c1⟩:=zi6 e2 (i:=o+i*2+1) (by omega);have f1:=zso _ _ (o+i*2+1) _ _ e2;have m2:=MkR.put e2 h1 h2 (q2 _ (q1 _ (h5 (i*2+1) (by omega)))) (.int .i64 (k+2*(i:Int)+1)) rfl;have HM2:Hid _:=HM.out.trans (m1.trans m2);have hi0:(0:Int)<=(i:Int):=by omega
   have hi1:(i:Int)<(n:Int):=by omega
   obtain⟨c1',hc1'⟩:∃c1',wr.cell? ⟨b,o+i*2+1,none⟩=some c1':=⟨u1,by rw[World.cell?_setCell_other _ _ _ _ (by simp)] at c1;exact c1⟩;have f1':=zso _ _ (o+i*2+1) _ _ e1;obtain⟨kk,hkk⟩:∃kk:Int,k+2*(i:Int)=kk:=⟨_,rfl⟩;have hkb:0<=kk/\kk<=100000000:=by omega
   have hkb0:=hkb.1;have hkb1:=hkb.2;rw[hkk] at HM2 ⊢;have Hkk:Hid _:=hkk;clear m1 m2 e1 e2 p1 p2 q1 q2 s1 s2 h3 h4 h5 c1 f1 hkb hkk HM;go_wp2
   go_roundw
   case rel=>exact⟨i+1,by omega,by go_num,by rw[show k+2*((i+1:Nat):Int)=kk+1+1 by have:=Hkk.out;omega],HM2⟩
   case measure=>simp[intOf];omega
  ·have hii:i=n:=by omega
   subst hii;go_wp2;go_ret;exact⟨rfl,HM.out⟩
end Go.Proofs.YthdljcdbfmhleaaGreatDoor
