import Derived.Test.YtdimhpfiieepiaaGreatDoorC46
import Derived.BigQuiet
namespace Go.Proofs.YtdimhpfiieepiaaGreatDoor
set_option maxHeartbeats 2000000
set_option maxRecDepth 100000
section
variable{r:zaG}{b g2 lo:Nat}{cl:Bool}{a i:Int}{X:World}
open Go.RowKit
attribute [local go_sem ↓] Go.wp_at_zero Go.wp_at_succ
theorem LsR.start{t:ByteArray}(hok:okR r=true)(ht:t.size<=4096)(hb:b<=t.size)(h:LsR r.branches t b cl r.branches.length a):zfX r t b cl a:=by
 have key:∀k:Nat,k<=b->(zeF r.groups r.branches t k b cl↔∃j,j<r.branches.length/\zaP (r.branches.getD j .zero) t k b cl):=fun k hk=>by
  unfold zeF;have h1:zdA r.groups r.branches t k b=true:=by
   unfold zdA;rw[show zbP r.groups r.branches=true from hok];simp;omega
  rw[h1];simp
 rcases h with ⟨h1,h2⟩|⟨k,h1,h2,h3,h4⟩
 ·refine .inl ⟨h1,fun k hk hs=>?_⟩;obtain⟨j,hj,hb⟩:=(key k hk).1 hs;exact h2 k hk j hj hb
 ·refine .inr ⟨k,h1,h2,(key k h2).2 h3,fun j hj hs=>?_⟩;obtain⟨j',hj',hb⟩:=(key j (by omega)).1 hs;exact h4 j hj j' hj' hb
theorem zoP{G:Nat}(hG:r.groups=G)(hok:okR r=true){t:ByteArray}(ht:t.size<=4096){a b:Nat}(hab:a<=b)(hb:b<=t.size){cl:Bool}{sp:List (Int×Int)}(h:CapQ G r.branches t a b cl sp):CapR r.groups r.branches t a b cl sp:=by
 have hspan:zdA r.groups r.branches t a b=true:=by
  unfold zdA;rw[show zbP r.groups r.branches=true from hok];simp;omega
 have ea:(a:Int).toNat=a:=by omega
 have ee:(b:Int).toNat=b:=by omega
 rcases h with ⟨h1,h2⟩|⟨k,h1,h2,h3,l,h4,h5⟩
 ·refine .inl ⟨fun hp=>?_,h2⟩;obtain⟨_,k,hk,hb⟩:=hp;rw[ea,ee] at hb;exact h1 k hk hb
 ·refine .inr ⟨hspan,k,h1,?_,?_,l,?_,?_⟩
  ·rw[ea,ee];exact h2
  ·rw[ea,ee];exact h3
  ·rw[ea,ee];exact h4
  ·rw[h5,hG,show (G:Int).toNat=G from by omega]
theorem ztZ(hok:okR r=true){G:Nat}(hG:r.groups=G){t:ByteArray}(ht:t.size<=4096){a e:Nat}(hae:a<=e)(het:e<=t.size):∀k,k<r.branches.length->∀l,Pl t.data.toList (tOf (r.branches.getD k .zero).nodes ((r.branches.getD k .zero).nodes.length-1)) a e l->∀x∈l,1<=x.1/\x.1<((G+1:Nat):Int):=fun k hk l hl x hx=>by
 have hspan:zdA r.groups r.branches t a e=true:=by
  unfold zdA;rw[show zbP r.groups r.branches=true from hok];simp;omega
 obtain⟨s1,s2⟩:=znb hspan hk;obtain⟨p1,p2⟩:=ze7 _ s1;have htk:=(zmo (r.branches.getD k .zero).nodes p2 s2 ((r.branches.getD k .zero).nodes.length-1) (by omega)).2;have h1:=zd7 _ _ _ _ hl x hx;have h3:=zhr (show zbP r.groups r.branches=true from hok) _ (zfz r.branches k hk _ (htk _ h1));omega
theorem zoO(i a b:Int):Tryz.prog.built 35 [(0,.int .i64 1),(1,.int .i64 i),(2,.int .i64 a),(3,.int .i64 b)]=some #[.int .i64 1,.int .i64 i,.int .i64 a,.int .i64 b,.slice none 0 0]:=by kernel_rfl
def MtA(W:World)(gq:Nat)(r:zaG)(t:ByteArray)(cl:Bool)(i:Int)(b:Nat)(e:Ending)(W':World):Prop:=
 ∃(a:Int) (sp:List (Int×Int)) (v:Value),zfX r t b cl a/\zeW r t a b cl sp/\e=.returned (.agg #[.int .i64 1,.int .i64 i,.int .i64 a,.int .i64 b,v])/\W'.ownsRow W.heap.size 71 2 v sp.length (pv sp)/\zam (· = gq) W W'
def mtW(X:World)(g2 g:Nat)(i a b:Int)(v:Value):World:=(((((X.setCell ⟨g2,4,none⟩ v).setCell ⟨g,0,none⟩ (.int .i64 1)).setCell ⟨g,1,none⟩ (.int .i64 i)).setCell ⟨g,2,none⟩ (.int .i64 a)).setCell ⟨g,3,none⟩ (.int .i64 b)).setCell ⟨g,4,none⟩ v
theorem zrT{g:Nat}{b:Int}{v:Value}{k:Nat}(h1:k≠g2)(h2:k≠g):(mtW X g2 g i a b v).heap[k]?=X.heap[k]?:=by
 unfold mtW;rw[zv0 _ _ _ _ h2,zv0 _ _ _ _ h2,zv0 _ _ _ _ h2,zv0 _ _ _ _ h2,zv0 _ _ _ _ h2,zv0 _ _ _ _ h1]
theorem zam.put{S:Nat->Prop}{w A:World}(h:zam S w A){b o:Nat}{v:Value}(hb:S b\/w.heap.size<=b):zam S w (A.setCell ⟨b,o,none⟩ v):=h.grown (zaK A b o v) (fun k e=>by cases e;exact hb)
theorem zpQ{W:World}{gq:Nat}{B:ByteArray}{ao:Option Addr}{m c:Nat}{sp:List (Int×Int)}(tX:zam (· = gq) W X)(hst:zfX r B b cl a)(hsp:zeW r B a b cl sp)(ho:X.ownsRow lo 71 2 (.slice ao m c) sp.length (pv sp))(h1:W.heap.size<=g2)(h2:g2<lo)(h3:W.heap.size<lo):
  MtA W gq r B cl i b (.returned (.agg #[.int .i64 1,.int .i64 i,.int .i64 a,.int .i64 b,.slice ao m c])) (mtW X g2 W.heap.size i a b (.slice ao m c)):=by
 have ho':(mtW X g2 W.heap.size i a b (.slice ao m c)).ownsRow lo 71 2 (.slice ao m c) sp.length (pv sp):=zav ho fun k e=>by
  have:=(zaD ho e).1;exact zrT (by omega) (by omega)
 have ht:zam (· = gq) W (mtW X g2 W.heap.size i a b (.slice ao m c)):=by
  unfold mtW;exact(((((tX.put (.inr h1)).put (.inr (zvJ _))).put (.inr (zvJ _))).put (.inr (zvJ _))).put (.inr (zvJ _))).put (.inr (zvJ _))
 exact⟨a,sp,.slice ao m c,hst,hsp,rfl,zck ho' (by omega),ht⟩
theorem zpR(w W:World)(hbw:Below w.heap.size w W)(bf gs gq i:Nat)(hgq:w.heap.size<=gq)(L:Int)(B:ByteArray)(cl:Bool)(q:Int)(b:Nat)(r:zaG)(G:Nat)(hG:r.groups=G)(hok:okR r=true)(bao:Option Addr)(bcp:Nat)(hs:zao lo w (.slice bao r.branches.length bcp) r.branches)(hB:B.size<=4096)(hb:b<=B.size)(hBr:za7 w)(hne:gs≠gq)(hql:gq<W.heap.size)(hlen:r.branches.length<=100000)
  (hgs:W.heap[gs]?=some (.cells (sesC L B cl q b) 32 (0,0)))
  (hpo:Calls Tryz.prog 101 #[.pointer (some ⟨bf,0,none⟩),.int .i64 i] (W.alloc (.cells #[.int .i64 0,.int .i64 0,.int .i64 0,.int .i64 0,.slice none 0 0] 35)) fun e W'=>PoA (W.alloc (.cells #[.int .i64 0,.int .i64 0,.int .i64 0,.int .i64 0,.slice none 0 0] 35)) gq i G bao bcp r.branches e W'):
  Calls Tryz.prog 74 #[.pointer (some ⟨bf,0,none⟩),.pointer (some ⟨gs,0,none⟩),.int .i64 i] W fun e W'=>MtA W gq r B cl i b e W':=by
 have hpos:=zbK hBr;obtain⟨W0,hW0⟩:∃W0,W.alloc (.cells #[.int .i64 0,.int .i64 0,.int .i64 0,.int .i64 0,.slice none 0 0] 35)=W0:=⟨_,rfl⟩;have hbW:Below W.heap.size W W0:=by rw[<-hW0];exact(Below.refl _ _).alloc (zvJ _) _
 have xW:W0.heap[W.heap.size]?=some (.cells #[.int .i64 0,.int .i64 0,.int .i64 0,.int .i64 0,.slice none 0 0] 35 (0,0)):=by rw[<-hW0];exact zvZ _ _
 rw[hW0] at hpo;have hgl:=(zuH.1 hgs).1;have hmix:Tryz.prog.follows .mixedOrders=true:=by kernel_rfl
 go_enter Tryz.func74,Tryz.ntmps74
 go_wp2_with fail
 refine hpo.mono ?_;rintro e W1 ⟨pl,Q,vP,ps,wB,rfl,hN,hpl,hE,tcB,hqB⟩;have hws:=hbw.size;have hWs:=hbW.size;have hW0s:=(zuH.1 xW).1;have hBs:=tcB.size;have hbB:Below w.heap.size w wB:=⟨tcB.os.trans (hbW.os.trans hbw.os),tcB.tape.trans (hbW.tape.trans hbw.tape),tcB.output.trans (hbW.output.trans hbw.output),by omega,fun k hk=>(tcB.same k (by omega) (by show ¬k=gq;omega)).trans ((hbW.block k (by omega)).trans (hbw.block k hk))⟩;have hBB:za7 wB:=hBr.keep (hbB.block 0 hpos);have hI1:=hN.start hBB;have sB:wB.heap[gs]?=some (.cells (sesC L B cl q b) 32 (0,0)):=(tcB.same gs (by omega) hne).trans ((hbW.block gs hgl).trans hgs);have xB:wB.heap[W.heap.size]?=some (.cells #[.int .i64 0,.int .i64 0,.int .i64 0,.int .i64 0,.slice none 0 0] 35 (0,0)):=(tcB.same _ hW0s (by show ¬W.heap.size=gq;omega)).trans xW;have Hrd:Hid (∀X,Below wB.heap.size wB X->X.heap[gs]?=some (.cells (sesC L B cl q b) 32 (0,0))/\X.heap[W.heap.size]?=some (.cells #[.int .i64 0,.int .i64 0,.int .i64 0,.int .i64 0,.slice none 0 0] 35 (0,0))):=fun X hX=>⟨zag sB hX,zag xB hX⟩
 have Htc:Hid (∀X,Below wB.heap.size wB X->zam (· = gq) W X):=fun X hX=>((zam.of_below hbW).trans tcB).trans (.of_below hX)
 have hok1:=hok;have hG5:G<=500:=by
  unfold okR zbP at hok1;simp only[zuK,zvX] at hok1;omega
 have HI1:=hidR hI1;have HN:=hidR hN;have HE:=hidR hE;have Hs:=hidR hs;obtain⟨c0,c1,c2,c3,c4⟩:=zax (Hrd.out W1 hN.kd.bel).1;have hls:=fun nq:Nat=>zi7 w wB hbB r.branches bao bcp hs hlen (.int .i64 (G:Int)) pl Q vP ps W1 hN hpl B hB b hb cl hE _ (W1.drewN nq) (hI1.below (below_drewN (Below.refl _ _) nq))
 have H1:Hid (Below wB.heap.size wB W1):=hN.kd.bel;clear hpo hN hE hs hI1 tcB hqB sB xB hgs xW hok1 hW0 hbW
 go_upto_region 3 with fail
 refine za4 10 (fun w'=>∃nq,w'=W1.drewN nq) hmix ⟨1,rfl⟩ (by decide) (by kernel_rfl) ?_;intro os hos;simp only[zvD,zvF] at hos;subst hos
 repeat (go_big_quiet_step (fail))
 refine wpQuiet_nil ?_;rintro w' ⟨nq,rfl⟩ r' hr';simp only[zuX,zuY] at hr';subst hr'
 go_wp2_with fail
 refine(hls nq).mono ?_;rintro x2 W2 ⟨a,Ow2,rfl,hLs,hT2⟩;have HSt:=hidR (hLs.start hok hB hb);have HI2:=hidR hT2.inv;have HB2:=hidR (HN.out.bel hT2.inv);clear hls hLs hT2 c0 c1 c2 c3 c4;obtain⟨W3,hW3⟩:∃W3,W2.alloc (.cells #[.int .i64 1,.int .i64 i,.int .i64 a,.int .i64 b,.slice none 0 0] 35)=W3:=⟨_,rfl⟩;have hb3:Below W2.heap.size W2 W3:=by rw[<-hW3];exact(Below.refl _ _).alloc (zvJ _) _
 have x3:W3.heap[W2.heap.size]?=some (.cells #[.int .i64 1,.int .i64 i,.int .i64 a,.int .i64 b,.slice none 0 0] 35 (0,0)):=by rw[<-hW3];exact zvZ _ _
 have HI3:=hidR (HI2.out.below hb3);have HB3:=hidR (zaa HB2.out HB2.out.size hb3);have HW3:=hidR hW3;have hbt:=zoO (i:Int) a (b:Int);have hs3:=(zuH.1 x3).1;have hsB2:=HB2.out.size;clear hW3
 go_upto_region 5 with fail
 rw[HW3.out];clear HW3 hbt;have HTW:Hid (∀X,Below wB.heap.size wB X->∀(ao:Option Addr) (m c:Nat) (sp:List (Int×Int)),X.ownsRow W3.heap.size 71 2 (.slice ao m c) sp.length (pv sp)->zeW r B a b cl sp->MtA W gq r B cl i b (.returned (.agg #[.int .i64 1,.int .i64 i,.int .i64 a,.int .i64 b,.slice ao m c])) (mtW X W2.heap.size W.heap.size i a b (.slice ao m c))):=fun X hX ao m c sp ho hsp=>zpQ (Htc.out X hX) HSt.out hsp ho (by omega) (by omega) (by omega)
 have Hst2:=hidR HSt.out;clear HSt;rcases Hst2.out with ⟨rfl,-⟩|⟨k,rfl,hkb,-⟩
 ·obtain⟨⟨room,h1⟩,-⟩:=HN.out.cells HI3.out;have hno:=zir pl G _ _ _ W3 h1 hG5;clear h1
  go_wp2_with fail
  refine hno.mono ?_;rintro x4 W4 ⟨g4,rfl,-,own4,hb4⟩;have hB4:=zaa HB3.out HB3.out.size hb4;have x4:=zag x3 hb4;have q4:=zvY _ _ 4 _ _ x4;have y4:=zaj x4;have z4:=zaj (Hrd.out W4 hB4).2;have z5:∀o,W4.frozen? ⟨W.heap.size,o,none⟩=false:=fun o=>zvY _ _ o _ _ (Hrd.out W4 hB4).2
  have n1:W.heap.size≠W2.heap.size:=by omega
  have n2:W2.heap.size≠W.heap.size:=by omega
  have HF:=hidR (HTW.out W4 hB4 (some ⟨g4,0,none⟩) (G+1) (G+1) (zbT (-1,-1) G) (by
   rw[zcD];have e:zbT ((-1:Int),(-1:Int)) G=List.replicate (G+1) (-1,-1):=by simp[zbT,List.replicate_succ]
   rw[e];exact own4) (.inl ⟨rfl,by rw[hG];rfl⟩))
  unfold mtW at HF;have hGi:((G:Int)+1)=((G+1:Nat):Int):=by omega
  clear hno own4 HTW HN HE Hs HI1 HI2 HI3 HB2 HB3 x4 x3 Hst2 Hrd Htc;go_wp2;exact zvV (v:=.agg #[.int .i64 1,.int .i64 i,.int .i64 (-1),.int .i64 b,.slice (some ⟨g4,0,none⟩) (G+1) (G+1)]) (by simp[results,Tryz.results74,go_sem,z4]) rfl HF.out
 ·have hcap:=fun nq:Nat=>zle w wB hbB r.branches bao bcp Hs.out hlen G hG5 pl Q vP ps W1 HN.out hpl B hB k b hkb hb cl HE.out (ztZ hok hG hB hkb hb) _ (W3.drewN nq) (HI3.out.below (below_drewN (Below.refl _ _) nq))
  have hk1:((k:Int) == -1)=false:=by simp
  obtain⟨c0,c1,c2,c3,c4⟩:=zax (Hrd.out W3 HB3.out).1
  go_upto_region 7 with fail
  refine za4 11 (fun w'=>∃nq,w'=W3.drewN nq) hmix ⟨1,rfl⟩ (by decide) (by kernel_rfl) ?_;intro os hos;simp only[zvD,zvF] at hos;subst hos
  repeat (go_big_quiet_step (fail))
  refine wpQuiet_nil ?_;rintro w' ⟨nq,rfl⟩ r' hr';simp only[zuX,zuY] at hr';subst hr'
  go_wp2_with fail
  refine(hcap nq).mono ?_;rintro x5 W5 ⟨sp,v5,Ow5,hq5,rfl,own5,hT5,hfr5⟩;obtain⟨so,sm,sc,rfl⟩:∃so sm sc,v5=.slice so sm sc:=by
   rcases own5.2 with ⟨e,_⟩|⟨g,c,_,e,_⟩
   ·exact⟨_,_,_,e⟩
   ·exact⟨_,_,_,e⟩
  have hB5:=HN.out.bel hT5.inv;have x5:=(hT5.fre W2.heap.size HI2.out.size hs3 (fun b ho=>by have:=(HI2.out.ow _ b ho).2;omega)).1.trans x3;have q4:=zvY _ _ 4 _ _ x5;have y4:=zaj x5;have z4:=zaj (Hrd.out W5 hB5).2;have z5:∀o,W5.frozen? ⟨W.heap.size,o,none⟩=false:=fun o=>zvY _ _ o _ _ (Hrd.out W5 hB5).2
  have n1:W.heap.size≠W2.heap.size:=by omega
  have n2:W2.heap.size≠W.heap.size:=by omega
  have HF:=hidR (HTW.out W5 hB5 so sm sc sp own5 (.inr ⟨by omega,zoP hG hok hB hkb hb hq5⟩));unfold mtW at HF;clear hcap own5 HTW HN HE Hs HI1 HI2 HI3 HB2 HB3 x5 x3 Hst2 Hrd Htc c0 c1 c2 c3 c4 hT5 hfr5 hq5;go_wp2;exact zvV (v:=.agg #[.int .i64 1,.int .i64 i,.int .i64 k,.int .i64 b,.slice so sm sc]) (by simp[results,Tryz.results74,go_sem,z4]) rfl HF.out
end
theorem zi1{P:Nat->Prop}{i j k k':Nat}(h:Gre P i j k)(h':Gre P i j k'):k=k':=by
 rcases zvN k k' with e|e|e
 ·exact absurd h'.2.2.1 (h.2.2.2 k' e h'.2.1)
 ·exact e
 ·exact absurd h.2.2.1 (h'.2.2.2 k e h.2.1)
theorem ztb{L:Nat->Nat->Prop}{R:Nat->Nat->List Up->Prop}{C:Nat->Int->Nat->Nat->Prop}(hR:∀i j l l',R i j l->R i j l'->l=l'){mn:Nat}{mx:Int}{i j:Nat}{l:List Up}(h:CpR L R C mn mx i j l):∀l',CpR L R C mn mx i j l'->l=l':=by
 induction h with
 |done i j=>
  intro l' h';cases h' with
  |done=>rfl
  |out _ _ _ h=>exact absurd h (by decide)
  |may _ _ _ _ _ _ h=>exact absurd h (by decide)
 |void i=>
  intro l' h';cases h' with
  |void=>rfl
  |out _ _ _ h=>exact absurd h (by decide)
  |may _ _ _ _ _ _ h=>exact absurd h (by decide)
  |more _ _ _ _ _ h=>exact absurd h (Nat.lt_irrefl _)
 |out mx i j hm hn=>
  intro l' h';cases h' with
  |done=>rfl
  |void=>rfl
  |out=>rfl
  |may _ _ _ k _ _ _ g=>exact absurd g.2.2.1 (hn k g.1 g.2.1)
  |more=>exact absurd hm (by decide)
 |must mn mx i j k l1 l2 g h1 h2 ih=>
  intro l' h';cases h' with
  |must _ _ _ _ k' l1' l2' g' h1' h2'=>
   obtain rfl:=zi1 g g';rw[hR _ _ _ _ h1 h1',ih _ h2']
 |may mx i j k l1 l2 hm g h1 h2 ih=>
  intro l' h';cases h' with
  |done=>exact absurd hm (by decide)
  |void=>exact absurd hm (by decide)
  |out _ _ _ _ hn=>exact absurd g.2.2.1 (hn k g.1 g.2.1)
  |may _ _ _ k' l1' l2' _ g' h1' h2'=>
   obtain rfl:=zi1 g g';rw[hR _ _ _ _ h1 h1',ih _ h2']
  |more=>exact absurd hm (by decide)
 |more i j k l1 l2 hi g h1 h2 ih=>
  intro l' h';cases h' with
  |void=>exact absurd hi (Nat.lt_irrefl _)
  |out _ _ _ h=>exact absurd h (by decide)
  |may _ _ _ _ _ _ h=>exact absurd h (by decide)
  |more _ _ k' l1' l2' _ g' h1' h2'=>
   obtain rfl:=zi1 g g';rw[hR _ _ _ _ h1 h1',ih _ h2']
theorem zhd{u:Word}:∀(p:Pt) (i j:Nat) (l l':List Up),Pl u p i j l->Pl u p i j l'->l=l'
 |.set _,_,_,l,l',h,h'=>by have h:l=[]:=h;have h':l'=[]:=h';rw[h,h']
 |.grp b g,i,j,l,l',⟨m,e,h⟩,⟨m',e',h'⟩=>by rw[e,e',zhd b i j m m' h h']
 |.seq p q,i,j,l,l',⟨k,l1,l2,g,h1,h2,e⟩,⟨k',l1',l2',g',h1',h2',e'⟩=>by
  obtain rfl:=zi1 g g';rw[e,e',zhd p i k l1 l1' h1 h1',zhd q k j l2 l2' h2 h2']
 |.alt p q,i,j,l,l',h,h'=>by
  rcases h with ⟨a,h⟩|⟨a,h⟩<;>rcases h' with ⟨a',h'⟩|⟨a',h'⟩
  ·exact zhd p i j l l' h h'
  ·exact absurd a a'
  ·exact absurd a' a
  ·exact zhd q i j l l' h h'
 |.rep b mn mx,i,j,l,l',h,h'=>ztb (zhd b) (show CpR (Lg u b) (Pl u b) (fun mn mx i j=>Lg u (.rep b mn mx) i j) mn.toNat mx i j l from h) l' h'
theorem zrc{G:Int}{bs:List zah}{t:ByteArray}{a e:Int}{cl:Bool}{r r':List (Int×Int)}(h:CapR G bs t a e cl r)(h':CapR G bs t a e cl r'):r=r':=by
 rcases h with ⟨h1,h2⟩|⟨h1,k,h2,h3,h4,l,h5,h6⟩<;>rcases h' with ⟨g1,g2⟩|⟨g1,k',g2,g3,g4,l',g5,g6⟩
 ·rw[h2,g2]
 ·exact absurd ⟨g1,k',g2,g4⟩ h1
 ·exact absurd ⟨h1,k,h2,h4⟩ g1
 ·have ek:k=k':=by
   rcases zvN k k' with e|e|e
   ·exact absurd h4 (g3 k e)
   ·exact e
   ·exact absurd g4 (h3 k' e)
  subst ek;rw[h6,g6,zhd _ _ _ _ _ h5 g5]
section
variable{r:zaG}{t:ByteArray}{b:Nat}{cl:Bool}{a:Int}
theorem zot{a':Int}(h:zfX r t b cl a)(h':zfX r t b cl a'):a=a':=by
 rcases h with ⟨h1,h2⟩|⟨k,h1,h2,h3,h4⟩<;>rcases h' with ⟨g1,g2⟩|⟨k',g1,g2,g3,g4⟩
 ·rw[h1,g1]
 ·exact absurd g3 (h2 k' g2)
 ·exact absurd h3 (g2 k h2)
 ·rw[h1,g1];rcases zvN k k' with e|e|e
  ·exact absurd h3 (g4 k e)
  ·rw[e]
  ·exact absurd g3 (h4 k' e)
theorem zos{l l':List (Int×Int)}(h:zeW r t a b cl l)(h':zeW r t a b cl l'):l=l':=by
 rcases h with ⟨h1,h2⟩|⟨h1,h2⟩<;>rcases h' with ⟨g1,g2⟩|⟨g1,g2⟩
 ·rw[h2,g2]
 ·omega
 ·omega
 ·exact zrc h2 g2
theorem zp0{rs:List zaG}{d:TabD}{s s1 s2:zbs}{x1 x2:AnsD}(h:NxR rs d s s1 x1)(h':NxR rs d s s2 x2):s1=s2/\x1=x2:=by
 rcases h with ⟨h0,h1,h2⟩|⟨h0,b,h1,h2,h3,h4,a,sp,h5,h6,h7,h8⟩|⟨h0,h1,h2,h3⟩<;>rcases h' with ⟨g0,g1,g2⟩|⟨g0,b',g1,g2,g3,g4,a',sp',g5,g6,g7,g8⟩|⟨g0,g1,g2,g3⟩
 ·exact⟨h1.trans g1.symm,h2.trans g2.symm⟩
 ·rw[h0] at g0;cases g0
 ·rw[h0] at g0;cases g0
 ·rw[h0] at g0;cases g0
 ·have e:b=b':=by
   rcases zvN b b' with e|e|e
   ·have:=g3 b h1 e;omega
   ·exact e
   ·have:=h3 b' g1 e;omega
  subst e;obtain rfl:=zot h5 g5;obtain rfl:=zos h6 g6;exact⟨h7.trans g7.symm,h8.trans g8.symm⟩
 ·have:=g1 b h1 h2;omega
 ·rw[h0] at g0;cases g0
 ·have:=h1 b' g1 g2;omega
 ·exact⟨h2.trans g2.symm,h3.trans g3.symm⟩
end
section
open Go.RowKit
attribute [local go_sem ↓] Go.wp_at_zero Go.wp_at_succ
def zsr(g:Nat)(w:World):Nat:=match w.cell? ⟨g,4,none⟩ with
 |some (.int _ i)=>i.toNat
 |_=>0
theorem zm8{g:Nat}{w:World}{L:Int}{B:ByteArray}{C:Bool}{S N:Int}(h:w.heap[g]?=some (.cells (sesC L B C S N) 32 (0,0))):zsr g w=N.toNat:=by
 have:w.cell? ⟨g,4,none⟩=some (.int .i64 N):=zaj h 4;unfold zsr;rw[this]
section
variable {w W W':World} {rv cv bv fv tv ev nv kv:Value} {wd:Int} {rs:List zaG} {bf g cap gq:Nat} {vs:List Value}
theorem FinS.below(h:FinS w rv cv bv fv tv ev nv kv wd rs bf g cap gq vs W)(hb:Below W.heap.size W W'):FinS w rv cv bv fv tv ev nv kv wd rs bf g cap gq vs W':=
 ⟨zaa h.bel h.bel.size hb,h.bflo,h.gqlo,zag h.box hb,zac h.own hb,h.prt.below hb,zag h.qs hb⟩
theorem FinS.turn(h:FinS w rv cv bv fv tv ev nv kv wd rs bf g cap gq vs W){gs:Nat}{cs:Array Value}(hg:W.heap[gs]?=some (.cells cs 32 (0,0)))(hlo:w.heap.size<=gs)(tc:zam (· = gs) W W'):FinS w rv cv bv fv tv ev nv kv wd rs bf g cap gq vs W':=by
 have keep:∀(k:Nat) (c:Array Value) (t:TypeId),W.heap[k]?=some (.cells c t (0,0))->t≠32->W'.heap[k]?=some (.cells c t (0,0)):=fun k c t e ht=>(tc.same k (zuH.1 e).1 (fun e2=>by
  have e2:k=gs:=e2;rw[e2,hg] at e;exact ht (zad e).symm)).trans e
 have hs:=h.bel.size;refine⟨⟨tc.os.trans h.bel.os,tc.tape.trans h.bel.tape,tc.output.trans h.bel.output,zvK hs tc.size,fun k hk=>(tc.same k (by omega) (by show ¬k=gs;omega)).trans (h.bel.block k hk)⟩,h.bflo,h.gqlo,keep _ _ _ h.box (by decide),zav h.own fun k e=>?_,h.prt.keep tc.size fun k c t e ht=>keep k c t e (by rcases ht with rfl|rfl<;>decide),keep _ _ _ h.qs (by decide)⟩;obtain⟨_,cur,z⟩:=zaD h.own e;exact(keep _ _ _ z (by decide)).trans z.symm
end
def NtA(W:World)(gs gq:Nat)(rs:List zaG)(d:TabD)(s:zbs)(e:Ending)(W':World):Prop:=
 ∃(s':zbs) (x:AnsD) (v:Value),NxR rs d s s' x/\e=.returned (ansV x v)/\W'.heap[gs]?=some (.cells (sesC s'.L s'.B s'.C s'.S s'.N) 32 (0,0))/\W'.ownsRow W.heap.size 71 2 v x.spans.length (pv x.spans)/\zam (fun k=>k=gs\/k=gq) W W'
def rtW(X:World)(g:Nat)(a b c d:Int)(v:Value):World:=((((X.setCell ⟨g,0,none⟩ (.int .i64 a)).setCell ⟨g,1,none⟩ (.int .i64 b)).setCell ⟨g,2,none⟩ (.int .i64 c)).setCell ⟨g,3,none⟩ (.int .i64 d)).setCell ⟨g,4,none⟩ v
theorem zm7{X:World}{g:Nat}{a b c d:Int}{v:Value}{k:Nat}(h:k≠g):(rtW X g a b c d v).heap[k]?=X.heap[k]?:=by
 unfold rtW;rw[zv0 _ _ _ _ h,zv0 _ _ _ _ h,zv0 _ _ _ _ h,zv0 _ _ _ _ h,zv0 _ _ _ _ h]
theorem zmT{W X:World}{gs gq:Nat}{rs:List zaG}{d:TabD}{s s':zbs}{x:AnsD}{v:Value}(hx:NxR rs d s s' x)(hl:gs<W.heap.size)(hg:X.heap[gs]?=some (.cells (sesC s'.L s'.B s'.C s'.S s'.N) 32 (0,0))){lo:Nat}(hlo:W.heap.size<lo)(ho:X.ownsRow lo 71 2 v x.spans.length (pv x.spans))(tX:zam (fun k=>k=gs\/k=gq) W X):
  NtA W gs gq rs d s (.returned (ansV x v)) (rtW X W.heap.size x.kind x.rule x.start x.fin v):=by
 have ht:zam (fun k=>k=gs\/k=gq) W (rtW X W.heap.size x.kind x.rule x.start x.fin v):=by
  unfold rtW;exact((((tX.put (.inr (zvJ _))).put (.inr (zvJ _))).put (.inr (zvJ _))).put (.inr (zvJ _))).put (.inr (zvJ _))
 have ho':(rtW X W.heap.size x.kind x.rule x.start x.fin v).ownsRow lo 71 2 v x.spans.length (pv x.spans):=zav ho fun k e=>by
  have:=(zaD ho e).1;exact zm7 (by omega)
 exact⟨s',x,v,hx,rfl,(zm7 (by omega)).trans hg,zck ho' (by omega),ht⟩
theorem zic(i:Int):Tryz.prog.built 35 [(0,.int .i64 i)]=some #[.int .i64 i,.int .i64 0,.int .i64 0,.int .i64 0,.slice none 0 0]:=by kernel_rfl
theorem zph(xs:Array Value)(w:World):(callFunc 76 xs).run Tryz.prog w=.ok (.enter 76 xs) w:=by kernel_rfl
theorem zrV{lo:Nat}(w W:World)(bf g cap gq gs:Nat)(vs:List Value)(ao:Option Addr)(rc:Nat)(cv bv fv tv ev nv kv:Value)(rs:List zaG)(d:TabD)(L:Int)(B:ByteArray)(C:Bool)(S:Int)(n:Nat)(hr:zaY lo w (.slice ao rs.length rc) rs)(hsm:zcL rs)(hs:zbe lo w cv bv fv tv ev nv kv d)(hBr:za7 w)(hB:zd3 rs d ⟨L,B,C,S,n⟩=true)
  (hF:FinS w (.slice ao rs.length rc) cv bv fv tv ev nv kv d.width rs bf g cap gq vs W) (hg:W.heap[gs]?=some (.cells (sesC L B C S n) 32 (0,0))) (hgs:w.heap.size<=gs):
  Calls Tryz.prog 38 #[.pointer (some ⟨bf,0,none⟩),.pointer (some ⟨gs,0,none⟩)] W fun e W'=>NtA W gs gq rs d ⟨L,B,C,S,n⟩ e W':=by
 obtain⟨hlist,hf,htg,hfi,hL1,hL2,hBL,-,hnB,hS0,hS1⟩:=zb1 hB;dsimp only at hL1 hL2 hBL hnB hS0 hS1;have hmix:Tryz.prog.follows .mixedOrders=true:=by kernel_rfl
 obtain⟨st,Hst⟩:∃st:Nat->Nat,Hid (∀b,((st b:Nat):Int)=stT d ⟨L,B,C,S,n⟩ b):=⟨fun b=>(stT d ⟨L,B,C,S,n⟩ b).toNat,fun b=>by have:=zkH hB b;dsimp only;omega⟩;obtain⟨nm,Hnm⟩:∃nm:Nat->Int,Hid (∀b,nm b=namT d ⟨L,B,C,S,n⟩ b):=⟨_,fun _=>rfl⟩;have Hstb:Hid (∀b,st b<d.base.length):=fun b=>by have:=zkH hB b;have:=Hst.out b;omega
 have Hs0:Hid (((st n:Nat):Int)=S):=by
  show _=_;rw[Hst.out];unfold stT;dsimp only;rw[show n-(n:Int).toNat=0 from by omega];rfl
 have Hsn:Hid (∀b,n<=b->∀h:b<B.size,((st (b+1):Nat):Int)=zcb d (st b) (B[b]'h).toNat):=fun b h1 h2=>by
  rw[Hst.out,znc (s:=⟨L,B,C,S,n⟩) (by dsimp only;omega) (B[b]'h2).toNat (by dsimp only;simp[h2];rfl),<-Hst.out]
  rfl
 have Hnb:Hid (∀b,-1<=nm b/\nm b<rs.length):=fun b=>by rw[Hnm.out];exact zlH hB b
 have Hns:Hid (∀b,namS d C (st b) b B.size=nm b):=fun b=>by
  rw[Hnm.out];unfold namS namT;dsimp only;rw[<-Hst.out];rfl
 obtain⟨W0,hW0⟩:∃W0,W.alloc (.cells #[.int .i64 0,.int .i64 0,.int .i64 0,.int .i64 0,.slice none 0 0] 35)=W0:=⟨_,rfl⟩;have hbW:Below W.heap.size W W0:=by rw[<-hW0];exact(Below.refl _ _).alloc (zvJ _) _
 have xW:W0.heap[W.heap.size]?=some (.cells #[.int .i64 0,.int .i64 0,.int .i64 0,.int .i64 0,.slice none 0 0] 35 (0,0)):=by rw[<-hW0];exact zvZ _ _
 have hgl:=(zuH.1 hg).1;have hql:=(zuH.1 hF.qs).1;have hl0:=(zuH.1 xW).1;have hgq:gs≠gq:=fun e=>by
  have:=hF.qs;rw[<-e,hg] at this;exact absurd (zad this) (by decide)
 have HF0:=hidR (hF.below hbW);have Hg0:Hid (W0.heap[gs]?=some (.cells (sesC L B C (st n) n) 32 (0,0))):=by
  show _=_;rw[Hs0.out];exact zag hg hbW
 have HxW:=hidR xW;have Hr:=hidR hr;have Hs:=hidR hs;have Hf:=hidR hf;have HB:=hidR hB;have Hlist:=hidR hlist;have HBr:=hidR hBr;have HbW:=hidR hbW;clear hr hs hf hB hlist hBr hF hg xW htg hfi hbW
 go_enter Tryz.func38,Tryz.ntmps38
 go_wp2;clear hW0
 go_loopw [] (fun wr=>∃b:Nat,n<=b/\b<=B.size/\Hid (zam (· = gs) W0 wr)/\Hid (wr.heap[gs]?=some (.cells (sesC L B C (st b) b) 32 (0,0)))/\Hid (∀j,n<=j->j<b->nm j=-1))
  (fun wr=>B.size+1-zsr gs wr)
 case atStart=>exact⟨n,zvJ _,by omega,zam.refl _ _,Hg0,fun j h1 h2=>by omega⟩
 case round=>
  obtain⟨b,hnb,hbs,HT,Hg,HNo⟩:=hrel;obtain⟨V,hV⟩:∃V,V=wr:=⟨_,rfl⟩;subst hV;have HF:=hidR (HF0.out.turn Hg0.out hgs HT.out);have hfd:=zrm bf gs (.slice ao rs.length rc) cv bv fv tv ev nv kv _ _ d L B C (st b) b V (Hs.out.below HF.out.bel) Hf.out (Hstb.out b) HF.out.box Hg.out;rw[Hns.out] at hfd
  go_wp2_with fail
  refine hfd.mono ?_;rintro e W1 ⟨rfl,hb1⟩;have HF1:=hidR (HF.out.below hb1);have Hg1:=hidR (zag Hg.out hb1);have HT1:=hidR (HT.out.trans (.of_below hb1));have hsz:zsr gs V=b:=by rw[zm8 Hg.out];omega
  have Hsz:=hidR hsz;clear hfd HF HT hsz;have hW1s:=HF1.out.bel.size;have x1:=(HT1.out.same W.heap.size hl0 (by show ¬W.heap.size=gs;omega)).trans HxW.out;have hl1:=(zuH.1 x1).1;have Htw:Hid (zam (fun k=>k=gs\/k=gq) W W1):=(zam.of_below HbW.out).trans (HT1.out.mono fun k _ h=>.inl h)
  by_cases hneg:nm b=-1
  ·have hne:(nm b != -1)=false:=by simp[hneg]
   obtain⟨c0,c1,c2,c3,c4⟩:=zax Hg1.out
   by_cases hbe:b=B.size
   ·have hq:((b:Int)==(B.size:Int))=true:=by simp;omega
    have HN:Hid (NxR rs d ⟨L,B,C,S,n⟩ ⟨L,B,C,st b,b⟩ ⟨if C then 3 else 2,0,0,0,[]⟩):=.inr (.inr ⟨HB.out,fun j h1 h2=>by
     rw[<-Hnm.out]
     by_cases e:j=b
     ·rw[e];exact hneg
     ·exact HNo.out j (by dsimp only at h1;omega) (by dsimp only at h2;omega),by rw[Hst.out,hbe],rfl⟩)
    have z4:=zaj x1;have z5:∀o,W1.frozen? ⟨W.heap.size,o,none⟩=false:=fun o=>zvY _ _ o _ _ x1
    have Hfin:Hid (∀nq,NtA W gs gq rs d ⟨L,B,C,S,n⟩ (.returned (ansV ⟨if C then 3 else 2,0,0,0,[]⟩ (.slice none 0 0))) (rtW (W1.drewN nq) W.heap.size (if C then 3 else 2) 0 0 0 (.slice none 0 0))):=fun nq=>zmT (x:=⟨if C then 3 else 2,0,0,0,[]⟩) HN.out hgl Hg1.out (Nat.lt_succ_self _) ⟨rfl,.inl ⟨rfl,rfl⟩⟩ (Htw.out.trans (.of_below (below_drewN (Below.refl _ _) nq)))
    have hbt:=zic 2;have hbt3:=zic 3;clear HN hneg hbe HF1 HT1 Htw x1;go_wp2
    go_quiet (fail)
    cases C
    ·have HFn:=hidR (Hfin.out nq);simp only[zuL,if_false] at HFn;unfold rtW at HFn;clear Hfin;go_wp2;exact zvV (v:=.agg #[.int .i64 2,.int .i64 0,.int .i64 0,.int .i64 0,.slice none 0 0]) (by simp[results,Tryz.results38,go_sem,z4]) rfl HFn.out
    ·have HFn:=hidR (Hfin.out nq);simp only[if_true] at HFn;unfold rtW at HFn;clear Hfin;go_wp2;exact zvV (v:=.agg #[.int .i64 3,.int .i64 0,.int .i64 0,.int .i64 0,.slice none 0 0]) (by simp[results,Tryz.results38,go_sem,z4]) rfl HFn.out
   ·have hq:((b:Int)==(B.size:Int))=false:=by simp;omega
    have hlt:b<B.size:=by omega
    have HNo2:Hid (∀j,n<=j->j<b+1->nm j=-1):=fun j h1 h2=>by
     by_cases e:j=b
     ·rw[e];exact hneg
     ·exact HNo.out j h1 (by omega)
    have hb0:(0:Int)<=(b:Int):=by omega
    have hb2:(b:Int)<(B.size:Int):=by omega
    have Hlk:=hidR (Hsn.out b hnb hlt);have hc:(B[b]'hlt).toNat<256:=(B[b]'hlt).toNat_lt;clear hneg hbe HNo;go_wp2
    go_quiet (fail)
    go_upto_region 7 with fail
    obtain⟨V1,hV1⟩:∃V1,W1.drewN nq=V1:=⟨_,rfl⟩;have hbV:Below W1.heap.size W1 V1:=by rw[<-hV1];exact below_drewN (Below.refl _ _) nq
    rw[hV1];have HFv:=hidR (HF1.out.below hbV);have Hgv:=hidR (zag Hg1.out hbV);have HTv:=hidR (HT1.out.trans (.of_below hbV));have hx:∀s:ExtU V1,(s.W.heap[bf]?=some (.cells (finC (.slice ao rs.length rc) cv d.width bv fv tv ev nv kv (.slice (some ⟨g,0,none⟩) rs.length cap) (.slice (some ⟨gq,0,none⟩) rs.length rs.length)) 128 (0,0)))/\s.W.heap[gs]?=some (.cells (sesC L B C (st b) b) 32 (0,0)):=fun s=>⟨zag HFv.out.box s.h,zag Hgv.out s.h⟩
    have k1:=fun s:ExtU V1=>(show s.W.cell? ⟨bf,1,none⟩=some cv from zaj (hx s).1 1)
    have k2:=fun s:ExtU V1=>(show s.W.cell? ⟨bf,2,none⟩=some (.int .i64 d.width) from zaj (hx s).1 2)
    have k3:=fun s:ExtU V1=>(show s.W.cell? ⟨bf,3,none⟩=some bv from zaj (hx s).1 3)
    have k4:=fun s:ExtU V1=>(show s.W.cell? ⟨bf,4,none⟩=some fv from zaj (hx s).1 4)
    have k5:=fun s:ExtU V1=>(show s.W.cell? ⟨bf,5,none⟩=some tv from zaj (hx s).1 5)
    have k6:=fun s:ExtU V1=>(show s.W.cell? ⟨bf,6,none⟩=some ev from zaj (hx s).1 6)
    have k7:=fun s:ExtU V1=>(show s.W.cell? ⟨bf,7,none⟩=some nv from zaj (hx s).1 7)
    have k8:=fun s:ExtU V1=>(show s.W.cell? ⟨bf,8,none⟩=some kv from zaj (hx s).1 8)
    have l1:=fun s:ExtU V1=>(show s.W.cell? ⟨gs,1,none⟩=some (.string B) from zaj (hx s).2 1)
    have l3:=fun s:ExtU V1=>(show s.W.cell? ⟨gs,3,none⟩=some (.int .i64 (st b)) from zaj (hx s).2 3)
    have l4:=fun s:ExtU V1=>(show s.W.cell? ⟨gs,4,none⟩=some (.int .i64 b) from zaj (hx s).2 4)
    clear c0 c1 c2 c3 c4 hV1 hx HF1 Hg1 HT1 Htw;refine zcx [0,1,2,3,4,5,6,7,8,9,10,11,12,13,14,15,16,17] [18,19,20,21,22,23] 23 (fun w'=>∃s:ExtU V1,w'=s.W) hmix ⟨⟨V1.drew,(Below.refl _ _).drew⟩,rfl⟩ (by kernel_rfl) ?_;intro os hos;simp only[zu1,zu2,zu8,zu7] at hos;subst hos
    change wpQuiet _ _ _ _ [_,_,_,_,_,_,_,_,_,_,_,_,_,_,_,_,_,_] _
    repeat (go_big_quiet_step (fail))
    refine wpQuiet_nil ?_;rintro w' ⟨⟨Wb,hWb⟩,hw'⟩ r' hr';replace hw':w'=Wb:=hw';subst w';simp only[zu1,zu2,zu8,zu7,Option.map_some] at hr';subst hr';clear k1 k2 k3 k4 k5 k6 k7 k8 l1 l3 l4;refine za2 rfl (fun K5 hK5=>zd6 (ops:=#[]) rfl (fun _ _ h=>h) ?_)
    change wpList _ _ _ [_] _ _
    go_wp2;rw[zbA];refine hK5 _ _ (fun _=>⟨⟨Wb,hWb⟩,rfl⟩) ?_;clear hK5 K5;refine za2 rfl (fun K5 hK5=>zd6 (ops:=#[]) rfl (fun _ _ h=>h) ?_)
    change wpList _ _ _ [_] _ _
    go_wp2;rw[zbA];refine hK5 _ _ (fun _=>⟨⟨Wb,hWb⟩,rfl⟩) ?_;clear hK5 K5;have hbb:=zaa HFv.out.bel HFv.out.bel.size hWb;have hstp:=zsB cv bv fv tv ev nv kv d (st b) (B[b]'hlt).toNat Wb (Hs.out.below hbb) Hf.out (Hstb.out b) hc;refine za2 rfl (fun K5 hK5=>?_);refine zdI 76 #[.tmp 38,.tmp 42,.tmp 52] #[39,3,3] (by rfl) #[.agg #[cv,.int .i64 d.width,bv,fv,tv,ev,nv,kv],.int .i64 (st b),.int .i64 ((B[b]'hlt).toNat:Int)] (by simp[Act.eval]) (fun v w'=>v=.int .i64 (st (b+1))/\Below Wb.heap.size Wb w') (zph _ _) (hstp.mono (by
     rintro e w1 ⟨rfl,h2⟩;exact⟨_,rfl,by rw[Hlk.out],h2⟩)) ?_
    rintro v8 W8 ⟨rfl,hb8⟩;have hb8v:Below V1.heap.size V1 W8:=zaa hWb hWb.size hb8;refine hK5 _ _ (fun _=>⟨⟨W8,hb8v⟩,rfl⟩) ?_;clear hK5 K5 hstp;refine za2 rfl (fun K5 hK5=>zd6 (ops:=#[]) rfl (fun _ _ h=>h) ?_)
    change wpList _ _ _ [_] _ _
    go_wp2;rw[zbA];refine hK5 _ _ (fun _=>⟨⟨W8,hb8v⟩,rfl⟩) ?_;clear hK5 K5;refine za2 rfl (fun K5 hK5=>zd6 (ops:=#[]) rfl (fun _ _ h=>h) ?_)
    change wpList _ _ _ [_] _ _
    go_wp2;rw[zbA];refine hK5 _ _ (fun _=>⟨⟨W8,hb8v⟩,rfl⟩) ?_;clear hK5 K5;have g8:=zag Hgv.out hb8v;have g9:=zv1 W8 gs 3 _ _ (.int .i64 (st (b+1))) g8;have g10:=zv1 (W8.setCell ⟨gs,3,none⟩ (.int .i64 (st (b+1)))) gs 4 _ _ (.int .i64 ((b:Int)+1)) g9;obtain⟨c0,c1,c2,c3,c4⟩:=zax g8;have f3:=zvY _ _ 3 _ _ g8;have f4:=zvY _ _ 4 _ _ g8;have HT10:Hid (zam (· = gs) W0 ((W8.setCell ⟨gs,3,none⟩ (.int .i64 (st (b+1)))).setCell ⟨gs,4,none⟩ (.int .i64 ((b:Int)+1)))):=((HTv.out.trans (.of_below hb8v)).put (.inl rfl)).put (.inl rfl);have Hg10:Hid (((W8.setCell ⟨gs,3,none⟩ (.int .i64 (st (b+1)))).setCell ⟨gs,4,none⟩ (.int .i64 ((b:Int)+1))).heap[gs]?=some (.cells (sesC L B C (st (b+1)) ((b+1:Nat):Int)) 32 (0,0))):=g10;have hbw:IntKind.i64.wrap ((b:Int)+1)=(b:Int)+1:=by rw[IntKind.wrap_i64];omega
    clear g8 g9 g10 HTv Hgv HFv hbb;refine zgh (by simp) (fun _ _ h=>h) ?_
    change wpList _ _ _ [_] _ _
    go_wp2;rw[za5];go_wp2
    go_roundw
    case rel=>exact⟨b+1,by omega,by omega,HT10,Hg10,HNo2⟩
    case measure=>
     rw[zm8 Hg10.out,Hsz.out];omega
  ·obtain⟨i,hi⟩:∃i:Nat,nm b=i:=⟨(nm b).toNat,by have:=(Hnb.out b).1;omega⟩;have hil:i<rs.length:=by have:=(Hnb.out b).2;omega
   have hne:((i:Int) != -1)=true:=by simp
   have Hi:=hidR hi;rw[hi];clear hi hneg;have hbel:=HF1.out.bel;obtain⟨ao',rc',hv',hrm,hrc⟩:=Hr.out;cases hv';obtain⟨rb,ro,rv,rd,hao,Hrd,hrl,k0,k1,hrv⟩:=hrc.elem hbel hil;subst hao;obtain⟨bao,bcp,rfl,hbm,hbc⟩:=hrv;have hB0:zao lo w (.slice bao rd.branches.length bcp) rd.branches:=⟨bao,bcp,rfl,hbm,hbc⟩;have hsr:Small rd.branches:=by have:=hsm.2 i hil;rw[Hrd.out] at this;exact this
   have hok:okR rd=true:=by
    have h1:=Hlist.out;simp only[zc2,zuK] at h1;exact zuP.1 h1.1.2 rd (by rw[<-Hrd.out];simp[List.getD,hil])
   have hok1:=hok;unfold okR zbP at hok1;simp only[zuK,zvX] at hok1;obtain⟨G,hG⟩:∃G:Nat,rd.groups=G:=⟨rd.groups.toNat,by omega⟩;have hlen:rd.branches.length<=100000:=by omega
   rw[hG] at k1;obtain⟨gp,sc,cs2,h1,h2,h3⟩:=HF1.out.prt.at_ i hil;rw[Hrd.out] at h1 h3;have kp:W1.cell? ⟨g,i,none⟩=some (.slice (some ⟨gp,0,none⟩) rd.branches.length sc):=(HF1.out.own.cellAt i (by omega)).trans h1;obtain⟨Wa,hWa⟩:∃Wa,W1.alloc (.cells #[.int .i64 0,.int .i64 0,.int .i64 0,.int .i64 0,.slice none 0 0] 35)=Wa:=⟨_,rfl⟩;have hba:Below W1.heap.size W1 Wa:=by rw[<-hWa];exact(Below.refl _ _).alloc (zvJ _) _
   have FA:=HF1.out.below hba;have hpo:=zoi Wa bf g cap gq rs.length i gp sc rb ro rc cv bv fv tv ev nv kv d.width G bao bcp rd.branches _ hil FA.box FA.qs (by simp[hil]) hlen ((hba.cell (p:=⟨rb,ro+i*2,none⟩) (block_lt_of_cell k0)).trans k0) ((hba.cell (p:=⟨rb,ro+i*2+1,none⟩) (block_lt_of_cell k1)).trans k1) ((hba.cell (p:=⟨g,i,none⟩) (block_lt_of_cell kp)).trans kp) (h3.keep hba.size (fun k _ _ e _=>(hba.block k (zuH.1 e).1).trans e) (fun g' sc' e=>by cases e;exact⟨cs2,h2⟩)) ⟨cs2,zag h2 hba⟩;rw[<-hWa] at hpo;have hm:=zpR w W1 hbel bf gs gq i HF1.out.gqlo L B C (st b) b rd G hG hok bao bcp hB0 (by omega) hbs HBr.out hgq (zuH.1 HF1.out.qs).1 hlen Hg1.out hpo;have hg1l:=(zuH.1 Hg1.out).1;clear hpo hWa hba FA hok1 k0 k1 kp h1 h2 h3 hB0 hbc hrc HF1
   go_wp2_with fail
   refine hm.mono ?_;rintro e W2 ⟨a,sp,v,hst,hsp,rfl,own2,tc2⟩;obtain⟨so,sm,sc2,rfl⟩:∃so sm sc,v=.slice so sm sc:=by
    rcases own2.2 with ⟨e,_⟩|⟨g,c,_,e,_⟩
    ·exact⟨_,_,_,e⟩
    ·exact⟨_,_,_,e⟩
   obtain⟨W3,hW3⟩:∃W3,W2.alloc (.cells #[.int .i64 1,.int .i64 i,.int .i64 a,.int .i64 b,.slice so sm sc2] 35)=W3:=⟨_,rfl⟩;have hb3:Below W2.heap.size W2 W3:=by rw[<-hW3];exact(Below.refl _ _).alloc (zvJ _) _
   have x3:W3.heap[W2.heap.size]?=some (.cells #[.int .i64 1,.int .i64 i,.int .i64 a,.int .i64 b,.slice so sm sc2] 35 (0,0)):=by rw[<-hW3];exact zvZ _ _
   have g2:=(tc2.same gs hg1l hgq).trans Hg1.out;have hs2:=tc2.size;have hq1:W.heap.size≠gq:=by omega
   have r2:=(tc2.same W.heap.size hl1 hq1).trans x1;have hcon:=zny gs L B C (st b) b b hbs W3 (zag g2 hb3);obtain⟨c0,c1,c2,c3,c4⟩:=zax (zag g2 hb3);have HW3:=hidR hW3;have hg2l:=(zuH.1 g2).1;have HN:Hid (NxR rs d ⟨L,B,C,S,n⟩ ⟨L,B.extract b B.size,C,0,0⟩ ⟨1,i,a,b,sp⟩):=.inr (.inl ⟨HB.out,b,by dsimp only;omega,hbs,fun j h1 h2=>by
     rw[<-Hnm.out];exact HNo.out j (by dsimp only at h1;omega) h2,by rw[<-Hnm.out,Hi.out];omega,a,sp,by rw[<-Hnm.out,Hi.out,zuO,Hrd.out];exact hst,by rw[<-Hnm.out,Hi.out,zuO,Hrd.out];exact hsp,rfl,by rw[<-Hnm.out,Hi.out]⟩)
   clear hW3 hm hst hsp x1
   go_upto_region 4 with fail
   rw[HW3.out];clear HW3
   go_wp2_with fail
   refine hcon.mono ?_;rintro e W4 ⟨rfl,tc4,g4⟩;have hs3:=hb3.size;have hs4:=tc4.size;have hx3l:=(zuH.1 x3).1;have x4:=(tc4.same _ hx3l (by show ¬W2.heap.size=gs;omega)).trans x3;have r4:=(tc4.same W.heap.size (by omega) (by show ¬W.heap.size=gs;omega)).trans (zag r2 hb3);have own4:W4.ownsRow W1.heap.size 71 2 (.slice so sm sc2) sp.length (pv sp):=zav (zac own2 hb3) fun k e=>tc4.same k (by have:=(zaD own2 e);obtain⟨_,cur,z⟩:=this;have:=(zuH.1 z).1;omega) (by have:=(zaD own2 e).1;show ¬k=gs;omega)
   have tF:zam (fun k=>k=gs\/k=gq) W W4:=((Htw.out.trans (tc2.mono fun k _ h=>.inr h)).trans (.of_below hb3)).trans (tc4.mono fun k _ h=>.inl h);have HFn:=hidR (zmT (x:=⟨1,i,a,b,sp⟩) HN.out hgl g4 (lo:=W1.heap.size) hl1 own4 tF);unfold rtW at HFn;have z4:=zaj r4;have z5:∀o,W4.frozen? ⟨W.heap.size,o,none⟩=false:=fun o=>zvY _ _ o _ _ r4
   obtain⟨y0,y1,y2,y3,y4⟩:=zax x4;clear hcon HN own2 own4 tc2 tc4 tF g4 g2 x3 x4 r2 r4 c0 c1 c2 c3 c4 Htw Hg1 HT1;go_wp2;exact zvV (v:=.agg #[.int .i64 1,.int .i64 i,.int .i64 a,.int .i64 b,.slice so sm sc2]) (by simp[results,Tryz.results38,go_sem,z4]) rfl HFn.out
end
open Go.RowKit
attribute [local go_sem ↓] Go.wp_at_zero Go.wp_at_succ
structure Fo(w:World)(t0 t1 t2 t3:TypeId)(C0 C1 C2 C3:Array Value)(W:World):Prop where
 below:Below w.heap.size w W
 r0:W.heap[w.heap.size]?=some (.cells C0 t0 (0,0))
 r1:W.heap[w.heap.size+1]?=some (.cells C1 t1 (0,0))
 r2:W.heap[w.heap.size+2]?=some (.cells C2 t2 (0,0))
 r3:W.heap[w.heap.size+3]?=some (.cells C3 t3 (0,0))
section
variable {w W W':World} {t0 t1 t2 t3:TypeId} {C0 C1 C2 C3:Array Value}
theorem Fo.call(h:Fo w t0 t1 t2 t3 C0 C1 C2 C3 W)(hb:Below W.heap.size W W'):Fo w t0 t1 t2 t3 C0 C1 C2 C3 W':=
 ⟨zaa h.below h.below.size hb,zag h.r0 hb,zag h.r1 hb,zag h.r2 hb,zag h.r3 hb⟩
theorem Fo.size(h:Fo w t0 t1 t2 t3 C0 C1 C2 C3 W):w.heap.size+3<W.heap.size:=zix h.r3
theorem Fo.new(w:World)(t0 t1 t2 t3:TypeId)(C0 C1 C2 C3:Array Value):Fo w t0 t1 t2 t3 C0 C1 C2 C3 ((((w.alloc (.cells C0 t0)).alloc (.cells C1 t1)).alloc (.cells C2 t2)).alloc (.cells C3 t3)):=by
 have s1:(w.alloc (.cells C0 t0)).heap.size=w.heap.size+1:=by simp
 have s2:((w.alloc (.cells C0 t0)).alloc (.cells C1 t1)).heap.size=w.heap.size+2:=by simp
 have s3:(((w.alloc (.cells C0 t0)).alloc (.cells C1 t1)).alloc (.cells C2 t2)).heap.size=w.heap.size+3:=by simp
 refine⟨(((Below.refl _ _).alloc (zvJ _) _).alloc (by simp) _).alloc (by simp;omega) _ |>.alloc (by simp;omega) _,?_,?_,?_,?_⟩
 ·exact zak (zak (zak (zvZ _ _)))
 ·have:=zvZ (w.alloc (.cells C0 t0)) (.cells C1 t1);rw[s1] at this;exact zak (zak this)
 ·have:=zvZ ((w.alloc (.cells C0 t0)).alloc (.cells C1 t1)) (.cells C2 t2);rw[s2] at this;exact zak this
 ·have:=zvZ (((w.alloc (.cells C0 t0)).alloc (.cells C1 t1)).alloc (.cells C2 t2)) (.cells C3 t3);rw[s3] at this;exact this
theorem Fo.cells(h:Fo w t0 t1 t2 t3 C0 C1 C2 C3 W):(∀o,W.cell? ⟨w.heap.size,o,none⟩=C0[o]?)/\(∀o,W.cell? ⟨w.heap.size+1,o,none⟩=C1[o]?)/\(∀o,W.cell? ⟨w.heap.size+2,o,none⟩=C2[o]?)/\(∀o,W.cell? ⟨w.heap.size+3,o,none⟩=C3[o]?)/\(∀o,W.frozen? ⟨w.heap.size+1,o,none⟩=false)/\(∀o,W.frozen? ⟨w.heap.size+2,o,none⟩=false)/\(∀o,W.frozen? ⟨w.heap.size+3,o,none⟩=false):=
 ⟨zaj h.r0,zaj h.r1,zaj h.r2,zaj h.r3,fun o=>zvY _ _ o _ _ h.r1,fun o=>zvY _ _ o _ _ h.r2,fun o=>zvY _ _ o _ _ h.r3⟩
end
theorem zkG{lo:Nat}(ao:Option Addr)(rc:Nat)(cv bv fv tv ev nv kv:Value)(rs:List zaG)(d:TabD)(s:zbs)(w:World)(hr:zaY lo w (.slice ao rs.length rc) rs)(hsm:zcL rs)(hs:zbe lo w cv bv fv tv ev nv kv d)(hB:zd3 rs d s=false):
  Calls Tryz.prog 7 #[.agg #[.slice ao rs.length rc,cv,.int .i64 d.width,bv,fv,tv,ev,nv,kv],.agg #[.int .i64 s.L,.string s.B,.bool s.C,.int .i64 s.S,.int .i64 s.N]] w fun e w'=>NxA w .zero .zero e w':=by
 have F0:=Fo.new w 41 32 32 35 #[.slice ao rs.length rc,cv,.int .i64 d.width,bv,fv,tv,ev,nv,kv] #[.int .i64 s.L,.string s.B,.bool s.C,.int .i64 s.S,.int .i64 s.N] #[.int .i64 0,.string ⟨#[]⟩,.bool false,.int .i64 0,.int .i64 0] #[.int .i64 0,.int .i64 0,.int .i64 0,.int .i64 0,.slice none 0 0];obtain⟨W0,hW0⟩:∃W0,(((w.alloc (.cells #[.slice ao rs.length rc,cv,.int .i64 d.width,bv,fv,tv,ev,nv,kv] 41)).alloc (.cells #[.int .i64 s.L,.string s.B,.bool s.C,.int .i64 s.S,.int .i64 s.N] 32)).alloc (.cells #[.int .i64 0,.string ⟨#[]⟩,.bool false,.int .i64 0,.int .i64 0] 32)).alloc (.cells #[.int .i64 0,.int .i64 0,.int .i64 0,.int .i64 0,.slice none 0 0] 35)=W0:=⟨_,rfl⟩;rw[hW0] at F0;obtain⟨ba,bc,hbv⟩:∃ba bc,bv=.slice ba d.base.length bc:=by obtain⟨ba,bc,h,_⟩:=hs.base;exact⟨ba,bc,h⟩
 subst hbv;have c1:=zey ao rc cv _ fv tv ev nv kv rs d W0 (hr.below F0.below) hsm (hs.below F0.below);have Hn:Hid (zd3 rs d s=(matB rs d&&zcq s&&decide (s.S<d.base.length))):=rfl;obtain⟨c0,c1',c2',c3,f1,f2,f3⟩:=F0.cells;clear hr hsm
 go_enter Tryz.func7,Tryz.ntmps7
 go_wp2_with fail
 refine c1.mono ?_;rintro e W1 ⟨rfl,hb1⟩;have F1:=F0.call hb1;clear c0 c1' c2' c3 f1 f2 f3 hW0 c1 F0 hb1;cases hm:matB rs d
 ·obtain⟨c0,c1,c2,c3,f1,f2,f3⟩:=F1.cells;go_wp2;exact zvV (v:=.tuple #[.agg #[.int .i64 0,.string ⟨#[]⟩,.bool false,.int .i64 0,.int .i64 0],.agg #[.int .i64 0,.int .i64 0,.int .i64 0,.int .i64 0,.slice none 0 0]]) (by simp[results,Tryz.results7,go_sem,c2,c3]) rfl ⟨_,rfl,⟨rfl,.inl ⟨rfl,rfl⟩⟩,by
   iterate 10 refine Below.setCell ?_ (by simp<;>omega) _
   exact F1.below⟩
 have c2:=zez s W1;obtain⟨c0,c1,c2',c3,f1,f2,f3⟩:=F1.cells
 go_wp2_with fail
 refine c2.mono ?_;rintro e W2 ⟨rfl,hb2⟩;have F2:=F1.call hb2;clear c0 c1 c2' c3 f1 f2 f3 c2 F1 hb2;obtain⟨c0,c1,c2,c3,f1,f2,f3⟩:=F2.cells;cases hq:zcq s
 ·go_wp2;exact zvV (v:=.tuple #[.agg #[.int .i64 0,.string ⟨#[]⟩,.bool false,.int .i64 0,.int .i64 0],.agg #[.int .i64 0,.int .i64 0,.int .i64 0,.int .i64 0,.slice none 0 0]]) (by simp[results,Tryz.results7,go_sem,c2,c3]) rfl ⟨_,rfl,⟨rfl,.inl ⟨rfl,rfl⟩⟩,by
   iterate 10 refine Below.setCell ?_ (by simp<;>omega) _
   exact F2.below⟩
 have hS:decide ((d.base.length:Int)<=s.S)=true:=decide_eq_true (by
  have:=Hn.out;rw[hB,hm,hq] at this;have:=of_decide_eq_false this.symm;omega)
 have hS2:decide (s.S>=(d.base.length:Int))=true:=hS;clear hm hq Hn hB;go_wp2;exact zvV (v:=.tuple #[.agg #[.int .i64 0,.string ⟨#[]⟩,.bool false,.int .i64 0,.int .i64 0],.agg #[.int .i64 0,.int .i64 0,.int .i64 0,.int .i64 0,.slice none 0 0]]) (by simp[results,Tryz.results7,go_sem,c2,c3]) rfl ⟨_,rfl,⟨rfl,.inl ⟨rfl,rfl⟩⟩,by
  iterate 10 refine Below.setCell ?_ (by simp<;>omega) _
  exact F2.below⟩
end Go.Proofs.YtdimhpfiieepiaaGreatDoor
