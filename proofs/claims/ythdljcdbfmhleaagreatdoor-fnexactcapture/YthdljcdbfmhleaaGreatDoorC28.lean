import Derived.Test.YthdljcdbfmhleaaGreatDoorC27
import Derived.Deep.LoopGhost
namespace Go.Proofs.YthdljcdbfmhleaaGreatDoor
set_option maxHeartbeats 1000000
set_option maxRecDepth 100000
section
variable {w w':World}
open Go.RowKit
attribute [local go_sem] Oper.semAt_some
def NwP(w:World)(p:Pt)(e:Ending)(w':World):Prop:=
 ∃(s:Nat) (v:StV) (a b:RdV) (O1 O2:Nat->Prop),e=.returned (.pointer (some ⟨s,0,none⟩))/\Strd O1 O2 w' s v a b/\a.m=1/\b.m=1/\zcZ (unD p 0) v.n v.nw v.f v.F v.G v.A v.L/\(v.e=true↔(unD p 0).e)/\w.heap.size<=v.b0/\v.n<=2000/\v.nw=((wPt p).toNat+63)/64/\Below w.heap.size w w'
theorem zhP(bt ga gl nw:Nat)(e:Bool):Tryz.prog.built 177 [(0,.pointer (some ⟨bt,0,none⟩)),(1,.agg #[.bool e,.slice (some ⟨ga,0,none⟩) nw nw,.slice (some ⟨gl,0,none⟩) nw nw])]=some #[.pointer (some ⟨bt,0,none⟩),.bool e,.slice (some ⟨ga,0,none⟩) nw nw,.slice (some ⟨gl,0,none⟩) nw nw,.slice none 0 0,.pointer none,.pointer none]:=by kernel_rfl
theorem StC.marks{B:Nat}{n nw bt ga gl:Nat}{lv sv fv:Value}{lr mk:Nat->Nat}{Lk:Nat->Nat->Nat}{A L:Nat->Nat}{f:Nat->Nat->Bool}(h:StC B w n nw bt ga gl lv sv fv lr mk Lk A L f)(hk:∀k:Nat,(∀x,w.heap[k]?≠some (Obj.deferred x))->w'.heap[k]?=w.heap[k]?)(hz:w'.heap[0]?=w.heap[0]?)(hs:w.heap.size<=w'.heap.size):StC B w' n nw bt ga gl lv sv fv lr mk Lk A L f:=by
 have hb:∀{k:Nat} {cs:Array Value} {t:TypeId},w.heap[k]?=some (.cells cs t (0,0))->w'.heap[k]?=some (.cells cs t (0,0)):=fun e=>(hk _ (fun x h=>by rw[e] at h;cases h)).trans e
 have hc:∀{k o:Nat} {v:Value},w.cell? ⟨k,o,none⟩=some v->w'.cell? ⟨k,o,none⟩=some v:=fun {k o v} e=>(World.cell?_of_block (hk k (fun x h=>by simp[World.cell?,h] at e))).trans e
 have hp:∀{g:Nat} {T:Nat->Nat},zal w nw g T->zal w' nw g T:=fun h=>⟨hb h.row,h.lt⟩
 refine⟨hb h.box,h.btB,fun hn=>?_,fun p hn=>⟨hb (h.mks p hn).1,(h.mks p hn).2⟩,fun hn=>?_,fun p hn=>⟨hp (h.lrs p hn).1,(h.lrs p hn).2⟩,⟨hp h.pa.1,h.pa.2⟩,⟨hp h.pl.1,h.pl.2⟩,h.bru.keep hz,h.pos,zsb h.le hs,h.n64,h.nwl,h.lb,h.ab⟩
 ·obtain⟨gs,cs,e,hl,k⟩:=h.svs hn;exact⟨gs,cs,e,hl,fun p hp=>hc (k p hp)⟩
 ·obtain⟨gs,cs,e,hl,k⟩:=h.lvs hn;exact⟨gs,cs,e,hl,fun p hp=>hc (k p hp)⟩
theorem Strd.marks{O1 O2:Nat->Prop}{s:Nat}{v:StV}{a b:RdV}(h:Strd O1 O2 w s v a b)(hk:∀k:Nat,(∀x,w.heap[k]?≠some (Obj.deferred x))->w'.heap[k]?=w.heap[k]?)(hO:∀k,O1 k\/O2 k->w'.heap[k]?=w.heap[k]?)(hz:w'.heap[0]?=w.heap[0]?)(hs:w.heap.size<=w'.heap.size):Strd O1 O2 w' s v a b:=
 ⟨(hk s (fun x e=>by rw[h.box] at e;cases e)).trans h.box,⟨h.c.c1.marks hk hz hs,h.c.c2.marks hk hz hs,h.c.p0,h.c.s0,h.c.s1,h.c.tb,h.c.ab,h.c.lb,h.c.sb,h.c.fb,h.c.bb,h.c.frb,h.c.brb,h.c.ne⟩,h.ra.keep fun k h1 _=>hO k (.inl h1),h.rb.keep fun k h1 _=>hO k (.inr h1),fun k h1=>⟨(h.o1 k h1).1,zsc (h.o1 k h1).2 hs⟩,fun k h1=>⟨(h.o2 k h1).1,zsc (h.o2 k h1).2 hs⟩,h.o12⟩
theorem zil(p:Pt)(v:Value)(w:World)(hT:zai w v p)(hle:wPt p<=2000)(hB:zaY w)(h0:0<w.heap.size):
  Calls Tryz.prog 87 #[v] w fun e w'=>NwP w p e w':=by
 obtain⟨t,x,rfl⟩:=zaz hT;have hW:=zbz p _ hT;have hbd:=za8 p _ hT;obtain⟨wt,Hwt⟩:∃wt:Nat,Hid (wPt p=wt):=⟨(wPt p).toNat,by show _=_;omega⟩;have hwt:wt<=2000:=by have:=Hwt.out;omega
 rw[Hwt.out] at hW;obtain⟨nw,Hnw⟩:∃nw:Nat,Hid (nw=(wt+63)/64):=⟨_,rfl⟩;have hnw:nw<=1000:=by have:=Hnw.out;omega
 have hwr:=zcW p;clear hle hbd;refine(callsIn_wide (n:=5)).1 ?_;refine callsIn_of_wp_marks Tryz.func87 rfl trivial ?_ rfl;refine wpIn_wide.2 ?_;simp only[Tryz.ntmps87,zr4,zrL,zrN,Nat.reduceAdd,Nat.reduceSub,zrd,zre,zr1,zrn,zrZ,zro]
 go_wp2_with (first|(refine zbs _ rfl _ _ rfl _ _ rfl hW ⟨fun _ _=>by kernel_rfl,fun _ _=>by kernel_rfl,fun _ _=>by kernel_rfl,fun _ _=>by kernel_rfl,fun _ _=>by kernel_rfl⟩ ?_;intro w1 hb1)|(go_at_call 105;refine(zim wt nw Hnw.out (by omega) w1).mono ?_;rintro r W2 ⟨rfl,hW2⟩;have y2:zeo W2 w1.heap.size nw (.slice none 0 0) (.slice none 0 0):=(by rw[hW2];exact zsp _ _);have hb2:Below w1.heap.size w1 W2:=(by rw[hW2];exact(Below.refl _ _).alloc (zsa _) _);clear hW2))
 have hb02:Below w.heap.size w W2:=hb1.trans (hb2.mono hb1.size);have hp1:0<w1.heap.size:=zsc h0 hb1.size;have tk2:=Trk.start (B:=w1.heap.size) (zsa _) hp1 y2 hnw (hB.keep (hb02.block 0 h0)) (fun _=>0) (fun _ _=>false) (fun _=>0) (fun _=>zaQ);have hT2:=zai.keep (.of hb02) p _ hT;have hw2:=hwr w1.heap.size 0 nw w1.heap.size _ _ _ _ _ _ W2 _ tk2 hT2 (by have:=Hwt.out;omega) (by have:=Hwt.out;have:=Hnw.out;omega);have hbl:w1.heap.size<W2.heap.size:=(zrc.1 y2).1;clear hwr tk2 hT2 hT hW hb2 y2 hB;refine hw2.mono ?_;rintro r W3 ⟨n,ga,gl,e,sv,fv,mk,f,fr,F,A,L,rfl,hn,D⟩;obtain⟨fa,fc,rfl⟩:=zbp D.tk.fo;have HD:Hid _:=D;have k2:=(zac D.tk.box).2.2.1;have hn2:n<=2000:=by have:=Hwt.out;omega
 have hbt3:w1.heap.size<W3.heap.size:=(zrc.1 D.tk.box).1;have hbs:=zhP w1.heap.size ga gl nw e;obtain⟨W5,hW5⟩:∃W5,(W3.alloc (.cells #[.pointer (some ⟨w1.heap.size,0,none⟩),.bool e,.slice (some ⟨ga,0,none⟩) nw nw,.slice (some ⟨gl,0,none⟩) nw nw,.slice none 0 0,.pointer none,.pointer none] 177)).alloc (.cells #[.pointer (some ⟨W3.heap.size,0,none⟩)] 112)=W5:=⟨_,rfl⟩;have hb5:Below W3.heap.size W3 W5:=by rw[<-hW5];exact((Below.refl _ _).alloc (zsa _) _).alloc (by simp) _
 have x4:W5.heap[W3.heap.size]?=some (.cells #[.pointer (some ⟨w1.heap.size,0,none⟩),.bool e,.slice (some ⟨ga,0,none⟩) nw nw,.slice (some ⟨gl,0,none⟩) nw nw,.slice none 0 0,.pointer none,.pointer none] 177 (0,0)):=by rw[<-hW5];exact zah (zsp _ _)
 have x5:W5.heap[W3.heap.size+1]?=some (.cells #[.pointer (some ⟨W3.heap.size,0,none⟩)] 112 (0,0)):=by
  rw[<-hW5];have:=zsp (W3.alloc (.cells #[.pointer (some ⟨w1.heap.size,0,none⟩),.bool e,.slice (some ⟨ga,0,none⟩) nw nw,.slice (some ⟨gl,0,none⟩) nw nw,.slice none 0 0,.pointer none,.pointer none] 177)) (.cells #[.pointer (some ⟨W3.heap.size,0,none⟩)] 112)
  simpa using this
 have k5:W5.cell? ⟨w1.heap.size,2,none⟩=some (.slice fa n fc):=(hb5.cell (p:=⟨w1.heap.size,2,none⟩) hbt3).trans k2;have HA0:Hid (BfA W5 W3.heap.size w1.heap.size ga gl nw e W5 0 (fun _=>0) none 0):=⟨zan.refl _ _,x4,⟨rfl,.inl ⟨rfl,rfl⟩⟩,fun p hp=>by omega,fun p q hp=>by omega⟩;have Hx5:Hid _:=x5;clear D hw2 hn x4 x5 k2
 go_wp2_with (first|(refine zdm rfl 177 #[(0,.tmp 11),(1,.tmp 14)] rfl [(0,.pointer (some ⟨w1.heap.size,0,none⟩)),(1,.agg #[.bool e,.slice (some ⟨ga,0,none⟩) nw nw,.slice (some ⟨gl,0,none⟩) nw nw])] (by simp[Act.eval]) _ hbs ?_)|(refine zem rfl 177 (.tmp 15) rfl #[.pointer (some ⟨w1.heap.size,0,none⟩),.bool e,.slice (some ⟨ga,0,none⟩) nw nw,.slice (some ⟨gl,0,none⟩) nw nw,.slice none 0 0,.pointer none,.pointer none] rfl ?_))
 clear hbs hW5
 go_loopw [22] (fun i wr=>∃(k:Nat) (br:Nat->Nat) (ba:Option Addr) (bc:Nat),k<=n/\i=.int .i64 k/\BfA W5 W3.heap.size w1.heap.size ga gl nw e wr k br ba bc)
  (fun i _=>n-(intOf i).toNat)
 case atStart=>exact⟨0,_,_,_,zsj _,rfl,HA0.out⟩
 case round=>
  obtain⟨k,br,ba,bc,hk,rfl,hA⟩:=hrel;have hs5:W3.heap.size+1<W5.heap.size:=(zrc.1 Hx5.out).1;have hcs:=(hA.tc.same (W3.heap.size+1) hs5 (by show ¬(W3.heap.size+1=W3.heap.size);omega)).trans Hx5.out;have hbr:zeo wr w1.heap.size nw sv (.slice fa n fc):=(hA.tc.same w1.heap.size (by omega) (by show ¬(w1.heap.size=W3.heap.size);omega)).trans ((hb5.block _ hbt3).trans HD.out.tk.box);have d0:wr.cell? ⟨W3.heap.size+1,0,none⟩=some (.pointer (some ⟨W3.heap.size,0,none⟩)):=(zsm _ _ _ _ _ _ hcs:_=_);have d4:=(zaG hA.box).2.2.2.2.1;have dt:=(zac hbr).2.2.1
  by_cases hlt:k<n
  ·have hno:=zdQ nw w1.heap.size sv (.slice fa n fc) wr.drew hbr hnw;have Hnx:Hid _:=fun(w6:World) (hp:zal w6 nw wr.heap.size zaQ) (hg:wr.drew.grownBy w6 none)=>hA.next (by omega) (by omega) hcs hp hg
   clear hA hcs hbr dt;go_wp2;refine wp_mono (Q:=zfj _) ?_ zcc
   go_region_law ((first|(refine zdi (by rfl) 107 #[.tmp 29] #[172] (by rfl) #[.pointer (some ⟨w1.heap.size,0,none⟩)] (by simp[Act.eval,Act.put]) (.slice (some ⟨wr.heap.size,0,none⟩) nw nw) (fun w'=>zal w' nw wr.heap.size zaQ/\wr.drew.grownBy w' none) (zhX _ _) hno ?_;intro w6 hp6;obtain⟨g,c,w10,⟨e6,e6'⟩,⟨e7,e7'⟩,hap,e10,f10,e10',hA'⟩:=Hnx.out w6 hp6.1 hp6.2;have HA':Hid _:=hA';clear hp6 hA')|(refine zf6 (by rfl) (.tmp 28) (.tmp 31) 175 (by rfl) _ _ (by rfl) (by rfl) _ _ hap ?_)|fail))
   all_goals
    clear hno hap e6 e6' e7 e7' e10 f10 e10' d0 d4;rw[za5];go_wp2
    go_roundw
    case rel=>exact⟨k+1,_,_,_,by omega,by go_num,HA'.out⟩
    case measure=>simp[intOf];omega
  ·have hkn:n=k:=by omega
   subst hkn;clear HA0 hlt d4 hk;have hs6:=hA.tc.size;have HB0:Hid (BfB wr n nw br F wr 0 (fun _=>zaQ)):=⟨zan.refl _ _,fun p hp=>⟨(hA.set p hp).1,fun q=>by rw[zbL];simp⟩⟩;have hbrW:∀p,p<n->W5.heap.size<=br p/\br p<wr.heap.size:=fun p hp=>⟨(hA.set p hp).2,(hA.set p hp).1.glt⟩
   have HA:Hid _:=hA;have Hcs:Hid _:=hcs;have HbrW:Hid _:=hbrW;clear hA hcs hbrW;go_wp2;clear dt d0;refine wp_loop_ghost_k (fun q a W=>∃(k:Nat) (G:Nat->Nat->Nat) (Ds:List Nat) (u5 u6 u7 u42 u43 u44 u45 u46 u47 u48 u49 u50 u51 u52 u53 u54 u55 u56 u57 u58:Value),q=n-k/\k<=n/\Hid (BfB wr n nw br F W k G)/\Hid (Ds.Nodup/\∀x∈Ds,wr.heap.size<=x/\W.heap[x]?=some (.deferred (some [])))/\a={tmps:=#[.iface t x,undef,.pointer none,.pointer (some ⟨w1.heap.size,0,none⟩),.pointer (some ⟨W3.heap.size+1,0,none⟩),u5,u6,u7,.iface t x,.int .i64 wt,.pointer (some ⟨w1.heap.size,0,none⟩),.pointer (some ⟨w1.heap.size,0,none⟩),.pointer (some ⟨w1.heap.size,0,none⟩),.iface t x,.agg #[.bool e,.slice (some ⟨ga,0,none⟩) nw nw,.slice (some ⟨gl,0,none⟩) nw nw],.agg #[.pointer (some ⟨w1.heap.size,0,none⟩),.bool e,.slice (some ⟨ga,0,none⟩) nw nw,.slice (some ⟨gl,0,none⟩) nw nw,.slice none 0 0,.pointer none,.pointer none],.pointer (some ⟨W3.heap.size,0,none⟩),.pointer (some ⟨w1.heap.size,0,none⟩),.pointer (some ⟨w1.heap.size,0,none⟩),.pointer (some ⟨w1.heap.size,2,none⟩),.slice fa n fc,.int .i64 n,.int .i64 n,.bool false,u24,u25,u26,u27,u28,u29,u30,u31,u32,u33,u34,u35,.pointer (some ⟨w1.heap.size,0,none⟩),.pointer (some ⟨w1.heap.size,0,none⟩),.pointer (some ⟨w1.heap.size,2,none⟩),.slice fa n fc,.int .i64 n,.int .i64 k,u42,u43,u44,u45,u46,u47,u48,u49,u50,u51,u52,u53,u54,u55,u56,u57,u58,undef,undef,undef],defers:=Ds.map zqM}) n ?start ?round
   case start=>exact⟨0,_,[],_,_,_,_,_,_,_,_,_,_,_,_,_,_,_,_,_,_,_,_,rfl,zsj _,HB0,⟨List.nodup_nil,fun _ h=>by cases h⟩,rfl⟩
   case round=>
    rintro q a W ⟨k,G,Ds,u5,u6,u7,u42,u43,u44,u45,u46,u47,u48,u49,u50,u51,u52,u53,u54,u55,u56,u57,u58,hq,hkn,HB,HDs,rfl⟩ J K hJ hK;have szW:=HB.out.tc.size;have sameW:∀j,j<W5.heap.size->W.heap[j]?=wr.heap[j]?:=fun j hj=>HB.out.tc.same j (by omega) (fun⟨p,h1,h2⟩=>by have:=(HbrW.out p h1).1;omega)
    have hcsW:W.heap[W3.heap.size+1]?=some (.cells #[.pointer (some ⟨W3.heap.size,0,none⟩)] 112 (0,0)):=(sameW _ hs5).trans Hcs.out;have same3:∀j,j<W3.heap.size->W.heap[j]?=W3.heap[j]?:=fun j hj=>(sameW j (by omega)).trans ((HA.out.tc.same j (by omega) (by show ¬(j=W3.heap.size);omega)).trans (hb5.block j hj))
    have cW:W.cell? ⟨W3.heap.size+1,0,none⟩=some (.pointer (some ⟨W3.heap.size,0,none⟩)):=(zsm _ _ _ _ _ _ hcsW:_=_);have Hs3:Hid _:=same3
    by_cases hlt:k<n
    ·obtain⟨gf,cf,cur,hfe,hfr,hfc⟩:=zbc HD.out.tk.fo (by omega);have hgf:gf<W3.heap.size:=(zrc.1 hfr).1;have cf2:W.cell? ⟨gf,k,none⟩=some (.slice (some ⟨fr k,0,none⟩) nw nw):=(World.cell?_of_block (Hs3.out gf hgf)).trans (by rw[zsm _ _ _ _ _ _ hfr,hfc k hlt];simp[slcL,hlt]);injection hfe with h1 _ h3
     subst h3;subst h1;clear hfr hfc same3 cur;have hi0:(0:Int)<=(k:Int):=by omega
     have hi1:(k:Int)<(n:Int):=by omega
     obtain⟨W0,hW0⟩:∃W0,W.alloc (.cells #[.int .i64 k] 3)=W0:=⟨_,rfl⟩;have b0:Below W.heap.size W W0:=by rw[<-hW0];exact(Below.refl _ _).alloc (zsa _) _
     have x0:W0.heap[W.heap.size]?=some (.cells #[.int .i64 k] 3 (0,0)):=by rw[<-hW0];exact zsp _ _
     have hl0:W.heap.size<W0.heap.size:=(zrc.1 x0).1;have hFk:=HD.out.tk.fol.rows k hlt;have hFl:=hFk.glt;have y1:zal W0 nw (fr k) (F k):=⟨(b0.block _ (by omega)).trans ((Hs3.out _ hFl).trans hFk.row),hFk.lt⟩;have yB:zaY W0:=HD.out.tk.bru.keep ((b0.block 0 (by omega)).trans (Hs3.out 0 (by omega)));go_wp2
     rename_i K2 hK2 _
     clear cf2;refine(wpIn_wide (n:=5)).1 ?_;clear hW0;refine zbS (by omega) (gf:=108) (fb:=#[.slice (some ⟨fr k,0,none⟩) nw nw]) (lb:=#[]) rfl (enters_of Tryz.func108 (by kernel_rfl) rfl)
      (T:=[0,fr k]) (by intro j hj;simp at hj;omega)
      (zbY 4 nw (fr k) nw (F k) (by omega) hnw W0 y1 yB) (fun _=>rfl)
      (fun pre W'=>zan (fun j=>∃p,p<n/\j=br p) W0 W'/\∃G':Nat->Nat->Nat,∀p,p<n->zal W' nw (br p) (G' p)/\∀q,zae (G' p) q=true↔(q<k/\zae (F q) p=true)\/(q=k/\p∈zbP pre))
      (fun _ _ _=>False)
      (fun s A B hs ht=>⟨hs.1.turn ht,by obtain⟨G',h1⟩:=hs.2;exact⟨G',fun p hp=>⟨⟨ht.same _ _ (h1 p hp).1.row (.inr rfl),(h1 p hp).1.lt⟩,(h1 p hp).2⟩⟩⟩)
      (fun c s A B hs ht=>hs)
      ⟨zan.refl _ _,G,fun p hp=>⟨⟨(b0.block _ (HB.out.set p hp).1.glt).trans (HB.out.set p hp).1.row,(HB.out.set p hp).1.lt⟩,fun q=>by rw[(HB.out.set p hp).2 q];simp[zbP]⟩⟩
      (fun z=>{tmps:=#[.iface t x,undef,.pointer none,.pointer (some ⟨w1.heap.size,0,none⟩),.pointer (some ⟨W3.heap.size+1,0,none⟩),.pointer (some ⟨W.heap.size,0,none⟩),.slice (some ⟨fr k,0,none⟩) nw nw,.int .i64 (z.1:Int),.iface t x,.int .i64 wt,.pointer (some ⟨w1.heap.size,0,none⟩),.pointer (some ⟨w1.heap.size,0,none⟩),.pointer (some ⟨w1.heap.size,0,none⟩),.iface t x,.agg #[.bool e,.slice (some ⟨ga,0,none⟩) nw nw,.slice (some ⟨gl,0,none⟩) nw nw],.agg #[.pointer (some ⟨w1.heap.size,0,none⟩),.bool e,.slice (some ⟨ga,0,none⟩) nw nw,.slice (some ⟨gl,0,none⟩) nw nw,.slice none 0 0,.pointer none,.pointer none],.pointer (some ⟨W3.heap.size,0,none⟩),.pointer (some ⟨w1.heap.size,0,none⟩),.pointer (some ⟨w1.heap.size,0,none⟩),.pointer (some ⟨w1.heap.size,2,none⟩),.slice (some ⟨gf,0,none⟩) n fc,.int .i64 n,.int .i64 n,.bool false,u24,u25,u26,u27,u28,u29,u30,u31,u32,u33,u34,u35,.pointer (some ⟨w1.heap.size,0,none⟩),.pointer (some ⟨w1.heap.size,0,none⟩),.pointer (some ⟨w1.heap.size,2,none⟩),.slice (some ⟨gf,0,none⟩) n fc,.int .i64 n,.int .i64 k,.bool true,.int .i64 k,.pointer (some ⟨gf,k,none⟩),.slice (some ⟨fr k,0,none⟩) nw nw,.slice (some ⟨fr k,0,none⟩) nw nw,.func (.func 108) #[.slice (some ⟨fr k,0,none⟩) nw nw] #[],.int .i64 (z.1:Int),u49,u50,u51,u52,u53,u54,u55,u56,u57,u58,undef,undef,undef],defers:=[]})
      ?assign ?body ?done ?stop
     case assign=>
      intro l x W K hK
      gi_wp2
      exact hK
     case stop=>
      rintro D c pre W hD _ hf;exact hf.elim
     case body=>
      clear hJ hK hK2;rintro l pre ⟨x,hx⟩ W' hl ⟨ht,G',hG'⟩ hlen;have hxn:x<n:=((HD.out.good.fo k x ⟨zsj _,hlt⟩ hx.2)).2;obtain⟨gb,cb,curb,hbe,hbr2,hbc⟩:=zbc HA.out.own (by omega);have sz':=ht.size;have sameX:∀j,j<W0.heap.size->(∀p,p<n->j≠br p)->W'.heap[j]?=W0.heap[j]?:=fun j h1 h2=>ht.same j h1 (fun⟨p,h3,h4⟩=>h2 p h3 h4)
      have hbl:∀p,p<n->br p≠W.heap.size:=fun p hp=>by have:=(HB.out.set p hp).1.glt;omega
      have zk:W'.cell? ⟨W.heap.size,0,none⟩=some (.int .i64 k):=(World.cell?_of_block (sameX _ hl0 (fun p hp e=>hbl p hp e.symm))).trans (zsm _ _ _ _ _ _ x0:_=_);have zc:W'.cell? ⟨W3.heap.size+1,0,none⟩=some (.pointer (some ⟨W3.heap.size,0,none⟩)):=(World.cell?_of_block (sameX (W3.heap.size+1) (by omega) (fun p hp e=>by have:=(HbrW.out p hp).1;omega))).trans ((b0.cell (p:=⟨W3.heap.size+1,0,none⟩) (by show W3.heap.size+1<W.heap.size;omega)).trans cW);have hsW:W.heap[W3.heap.size]?=wr.heap[W3.heap.size]?:=HB.out.tc.same _ (by omega) (fun⟨p,h1,h2⟩=>by have:=(HbrW.out p h1).1;omega);have zs:W'.cell? ⟨W3.heap.size,4,none⟩=some (.slice (some ⟨gb,0,none⟩) n cb):=by
       rw[World.cell?_of_block (sameX W3.heap.size (by omega) (fun p hp e=>by have:=(HbrW.out p hp).1;omega)),World.cell?_of_block ((b0.block W3.heap.size (by omega)).trans hsW),(zaG HA.out.box).2.2.2.2.1,hbe]
      have hgbl:gb<wr.heap.size:=(zrc.1 hbr2).1;have hgbn:∀p,p<n->gb≠br p:=fun p hp e=>by
       have:=(HA.out.set p hp).1.row;rw[<-e,hbr2] at this;exact absurd (zad this) (by decide)
      have zb:W'.cell? ⟨gb,x,none⟩=some (.slice (some ⟨br x,0,none⟩) nw nw):=by
       rw[World.cell?_of_block (sameX gb (by omega) hgbn),World.cell?_of_block ((b0.block gb (by omega)).trans (HB.out.tc.same gb hgbl (fun⟨p,h1,h2⟩=>hgbn p h1 h2))),zsm _ _ _ _ _ _ hbr2,hbc x hxn];simp[slcL,hxn]
      have hadd:=fun nq=>zdH nw (br x) nw (G' x) k (W'.drewN nq) (hG' x hxn).1.row (by have:=HD.out.tk.n64;omega) hnw (hG' x hxn).1.lt
      have hx0:(0:Int)<=(x:Int):=by omega
      have hx1:(x:Int)<(n:Int):=by omega
      have hmix:Tryz.prog.follows .mixedOrders=true:=by kernel_rfl
      have Hbl:Hid _:=hbl;have HsX:Hid _:=sameX;have HG':Hid _:=hG';have Ht:Hid _:=ht;have hbxl:br x<W'.heap.size:=(hG' x hxn).1.glt;have hb1x:=(HbrW.out x hxn).1;have hbxW:br x<W.heap.size:=(HB.out.set x hxn).1.glt;clear hbl sameX hG' ht hbe hbr2 hbc hgbn sameW hcsW;dsimp only
      gi_wp2
      refine zgk 8 (fun w'=>∃n,w'=W'.drewN n) hmix ⟨1,rfl⟩ (by rintro ⟨_,_,h⟩;exact h) (by decide) (by kernel_rfl) rfl ?_;intro os hos;simp only[zr6,zr8] at hos;subst hos
      repeat (go_big_quiet_step (fail))
      refine wpQuiet_nil ?_;rintro w2 ⟨nq,rfl⟩ r' hr';simp only[zrr,List.drop_zero] at hr';subst hr'
      go_wp2_with (go_at_call 91;refine(hadd nq).mono ?_;rintro e' w' ⟨rfl,hp',hg'⟩)
      gi_wp2
      have hg2:W'.grownBy w' (some (br x)):=⟨hg'.os,hg'.tape,hg'.output,hg'.size,hg'.block⟩;refine⟨KeepsFrom.of_grownBy (W:=W') (row:=some (br x)) hg2 (fun j e=>by cases e;omega),fun j hj=>?_,Ht.out.grown (A:=W') (o:=some (br x)) hg2 (fun g e=>by cases e;exact .inl ⟨x,hxn,rfl⟩),fun p=>if p=x then addT (G' x) k else G' p,fun p hp=>?_⟩
      ·refine hg2.block j ?_ (fun e=>?_)
       ·simp at hj;show j<W'.heap.size;omega
       ·have e':j=br x:=by simpa using e
        simp at hj;omega
      ·by_cases hpx:p=x
       ·subst hpx;simp only[if_true];refine⟨⟨hp',zeq _ (HG'.out p hp).1.lt k⟩,fun q=>?_⟩;rw[zdn,zrg,(HG'.out p hp).2 q,zbB];simp;constructor
        ·rintro ((h|⟨h,_⟩)|h)
         ·exact .inl h
         ·exact .inr h
         ·exact .inr h
        ·rintro (h|h)
         ·exact .inl (.inl h)
         ·exact .inr h
       ·simp only[zss hpx];have hne:br p≠br x:=fun e=>hpx (HA.out.inj p x hp hxn e)
        have h1:=HG'.out p hp;refine⟨⟨(hg2.block (br p) h1.1.glt (fun e=>hne (by simpa using e))).trans h1.1.row,h1.1.lt⟩,fun q=>?_⟩;rw[h1.2 q,zbB];simp[hpx]
     case done=>
      rintro D ys W' hD hys ⟨ht,G',hG'⟩ hKd;have HB1:Hid (BfB wr n nw br F W' (k+1) G'):=by
       refine⟨HB.out.tc.trans ((zan.of_below b0).trans ht),fun p hp=>⟨(hG' p hp).1,fun q=>?_⟩⟩;rw[(hG' p hp).2 q];have:=hys p;have:=HD.out.tk.n64;constructor
       ·rintro (⟨h1,h2⟩|⟨rfl,h2⟩)
        ·exact⟨by omega,h2⟩
        ·exact⟨by omega,((hys p).1 h2).2⟩
       ·rintro ⟨h1,h2⟩
        by_cases e:q=k
        ·subst e;exact .inr ⟨rfl,(hys p).2 ⟨by omega,h2⟩⟩
        ·exact .inl ⟨by omega,h2⟩
      have HD1:Hid ((D::Ds).Nodup/\∀x∈D::Ds,wr.heap.size<=x/\W'.heap[x]?=some (.deferred (some []))):=by
       have hlt:∀x∈Ds,x<W.heap.size:=fun x hx=>(zrc.1 (HDs.out.2 x hx).2).1
       refine⟨List.nodup_cons.2 ⟨fun h=>by have:=hlt D h;omega,HDs.out.1⟩,fun x hx=>?_⟩;rcases zrS.1 hx with rfl|hx
       ·exact⟨by omega,hKd⟩
       ·refine⟨(HDs.out.2 x hx).1,(ht.same x (by have:=hlt x hx;omega) (fun⟨p,h1,h2⟩=>?_)).trans ((b0.block x (hlt x hx)).trans (HDs.out.2 x hx).2)⟩;have h3:=(HB.out.set p h1).1.row;rw[<-h2,(HDs.out.2 x hx).2] at h3;cases h3
      refine hK2 _ _ ?_;clear hK2 hKd hG' ht hys;dsimp only;go_wp2;exact Handed.intro (n-(k+1)) (by omega) (hJ _ _ _ ⟨k+1,G',D::Ds,_,_,_,_,_,_,_,_,_,_,_,_,_,_,_,_,_,_,_,_,rfl,by omega,HB1,HD1,rfl⟩)
    ·obtain rfl:n=k:=by omega
     obtain⟨hC,hbox,hRw,hem⟩:=zj4 rfl hbl hp1 HD.out rfl (by omega) hb5 HA.out HB.out;have hfg:=zh2 _ _ _ _ W hbox hC;have Hrw:Hid _:=hRw;have Hem:Hid _:=hem;clear hRw hem hC hbox hJ same3 sameW hcsW hlt
     go_wp2_with fail
     refine hfg.mono ?_;rintro e' W4 ⟨rfl,a',b',O1,O2,hst,ha,hb,hnew,tc4⟩;have z4:W4.cell? ⟨W3.heap.size+1,0,none⟩=some (.pointer (some ⟨W3.heap.size,0,none⟩)):=(World.cell?_of_block (tc4.same (W3.heap.size+1) (by omega) (by show ¬(W3.heap.size+1=W3.heap.size);omega))).trans cW;have Hst:Hid _:=hst;have Hnw2:Hid _:=hnew;have Htc:Hid _:=tc4;clear hst hnew tc4 hfg cW;go_wp2;refine zeR Ds W4 HDs.out.1 (fun x hx=>(Htc.out.same x ((zrc.1 (HDs.out.2 x hx).2).1) (by have:=(HDs.out.2 x hx).1;show ¬(x=W3.heap.size);omega)).trans (HDs.out.2 x hx).2) (fun W' hk1 hk2 hk3 hk4 hk5=>?_);have hds:∀x,x∈Ds->x<W.heap.size/\wr.heap.size<=x:=fun x hx=>⟨(zrc.1 (HDs.out.2 x hx).2).1,(HDs.out.2 x hx).1⟩
     have hdd:∀x,x∈Ds->W4.heap[x]?=some (.deferred (some [])):=fun x hx=>(Htc.out.same x (hds x hx).1 (by have:=(hds x hx).2;show ¬(x=W3.heap.size);omega)).trans (HDs.out.2 x hx).2
     have sz4:=Htc.out.size;refine⟨.pointer (some ⟨W3.heap.size,0,none⟩),by simp[results,Tryz.results87,go_sem],W3.heap.size,_,a',b',O1,O2,rfl,Hst.out.marks (fun k h=>hk1 k (fun hm=>h _ (hdd k hm))) (fun k h=>hk1 k (fun hm=>by have:=Hnw2.out k h;have:=(hds k hm).1;omega)) (hk1 0 (fun hm=>by have:=(hds 0 hm).2;omega)) (by omega),ha,hb,Hrw.out,Hem.out,by show w.heap.size<=w1.heap.size;exact hb1.size,hn2,by show nw=_;rw[Hwt.out,zri];exact Hnw.out,?_⟩;have hbf:∀k,k<w.heap.size->W'.heap[k]?=w.heap[k]?:=fun k hk=>by
      have h1:=hb1.size;have h2:=hb02.size;rw[hk1 k (fun hm=>by have:=(hds k hm).2;omega),Htc.out.same k (by omega) (by show ¬(k=W3.heap.size);omega),Hs3.out k (by omega),HD.out.kp.low k (by omega)];exact hb02.block k hk
     exact⟨hk3.trans (Htc.out.os.trans (HB.out.tc.os.trans (HA.out.tc.os.trans (hb5.os.trans (HD.out.kp.os.trans hb02.os))))),hk4.trans (Htc.out.tape.trans (HB.out.tc.tape.trans (HA.out.tc.tape.trans (hb5.tape.trans (HD.out.kp.tape.trans hb02.tape))))),hk5.trans (Htc.out.output.trans (HB.out.tc.output.trans (HA.out.tc.output.trans (hb5.output.trans (HD.out.kp.output.trans hb02.output))))),by have:=hb1.size;have:=hb02.size;omega,hbf⟩
end
variable {u:Word}{i n e m k:Nat}{p q b:Pt}{l:List Up}
theorem zmt(u:Word){i n a b:Nat}(hb:b<=n):(((u.drop i).take n).drop a).take (b-a)=(u.drop (i+a)).take (b-a):=by
 rw[List.drop_take,List.take_take,List.drop_drop,Nat.min_eq_left (by omega)]
theorem zdx(hn:i+n<=u.length){p:Pt}{a b:Nat}(hb:b<=n):Lg ((u.drop i).take n) p a b↔Lg u p (i+a) (i+b):=by
 unfold Lg;rw[zmt u hb,show i+b-(i+a)=b-a from by omega];have hl:((u.drop i).take n).length=n:=by simp;omega
 rw[hl];constructor
 ·rintro ⟨h1,h2,h3⟩;exact⟨by omega,by omega,h3⟩
 ·rintro ⟨h1,h2,h3⟩;exact⟨by omega,by omega,h3⟩
def noG:Pt->Prop
 |.set _=>True
 |.seq p q=>noG p/\noG q
 |.alt p q=>noG p/\noG q
 |.rep b _ _=>noG b
 |.grp _ _=>False
theorem zfV{u:Word}:∀(p:Pt),noG p->∀(i j:Nat) (l:List Up),Pl u p i j l->l=[]
 |.set _,_,_,_,_,h=>h
 |.grp _ _,h,_,_,_,_=>h.elim
 |.seq p q,hn,i,j,_,⟨k,l1,l2,_,h1,h2,e⟩=>by
  rw[e,zfV p hn.1 i k l1 h1,zfV q hn.2 k j l2 h2];rfl
 |.alt p q,hn,i,j,l,h=>by
  rcases h with ⟨_,h⟩|⟨_,h⟩
  ·exact zfV p hn.1 i j l h
  ·exact zfV q hn.2 i j l h
 |.rep b mn mx,hn,i,j,l,h=>by
  replace h:CpR (Lg u b) (Pl u b) (fun mn mx i j=>Lg u (.rep b mn mx) i j) mn.toNat mx i j l:=h;have ih:=zfV (u:=u) b hn;clear hn;generalize mn.toNat=n at h
  induction h with
  |done=>rfl
  |void=>rfl
  |out=>rfl
  |must _ _ i j k l1 l2 _ h1 _ ihc=>rw[ih i k l1 h1,ihc];rfl
  |may _ i j k l1 l2 _ _ h1 _ ihc=>rw[ih i k l1 h1,ihc];rfl
  |more i j k l1 l2 _ _ h1 _ ihc=>rw[ih i k l1 h1,ihc];rfl
abbrev Laid:=List (Pt×Nat)
inductive LdR (u:Word):Laid->Nat->List Up->Prop
 |nil (i:Nat):LdR u [] i []
 |cons (q:Pt) (e:Nat) (L:Laid) (i:Nat) (l1 l2:List Up):Pl u q i e l1->LdR u L e l2->LdR u ((q,e)::L) i (l1++l2)
def LdOk(u:Word)(j:Nat):Laid->Nat->Prop
 |[],_=>True
 |(q,e)::L,i=>Lg u q i e/\e<=j/\LdOk u j L e
def shL(i:Nat)(L:Laid):Laid:=L.map fun x=>(x.1,i+x.2)
def zdL:Pt->Nat->Nat->List Up
 |.grp _ g,i,j=>[(g,i,j)]
 |_,_,_=>[]
def LayP(u:Word)(p:Pt)(i j:Nat)(L:Laid):Prop:=LdOk u j L i/\∀l,LdR u L i l->Pl u p i j (zdL p i j++l)
abbrev Lnk:=Pt×Bool
def TlP(u:Word)(n:Nat):List Lnk->Nat->Prop
 |[],m=>m=n
 |(q,o)::ls,m=>(∃e,TlP u n ls e/\Lg u q m e)\/(o=true/\m=n)
theorem TlP.le:∀{ls:List Lnk} {m:Nat},TlP u n ls m->m<=n
 |[],_,h=>Nat.le_of_eq h
 |(_,_)::ls,_,h=>by
  rcases h with ⟨e,h1,h2⟩|⟨_,h⟩
  ·exact zsb h2.1 (TlP.le h1)
  ·exact Nat.le_of_eq h
inductive ChR (u:Word) (n:Nat):List Lnk->Nat->Laid->Prop
 |nil (i:Nat):ChR u n [] i []
 |stop (q:Pt) (o:Bool) (ls:List Lnk) (i:Nat):(∀e,TlP u n ls e->¬Lg u q i e)->ChR u n ((q,o)::ls) i []
 |cons (q:Pt) (o:Bool) (ls:List Lnk) (i e:Nat) (L:Laid):Gre (fun e=>Lg u q i e/\TlP u n ls e) i n e->ChR u n ls e L->ChR u n ((q,o)::ls) i ((q,e)::L)
theorem zhG(hn:i+n<=u.length):∀(ls:List Lnk) (m:Nat),m<=n->(TlP ((u.drop i).take n) n ls m↔TlP u (i+n) ls (i+m))
 |[],m,hm=>⟨fun h=>by have h:m=n:=h;subst h;rfl,fun h=>by have h:i+m=i+n:=h;show m=n;omega⟩
 |(q,o)::ls,m,hm=>by
  constructor
  ·rintro (⟨e,h1,h2⟩|⟨h1,h2⟩)
   ·have he:=h1.le;exact .inl ⟨i+e,(zhG hn ls e he).1 h1,(zdx hn he).1 h2⟩
   ·exact .inr ⟨h1,by omega⟩
  ·rintro (⟨e,h1,h2⟩|⟨h1,h2⟩)
   ·have he:=h1.le;have h3:=h2.1;obtain⟨x,rfl⟩:∃x,e=i+x:=⟨e-i,by omega⟩;exact .inl ⟨x,(zhG hn ls x (by omega)).2 h1,(zdx hn (by omega)).2 h2⟩
   ·exact .inr ⟨h1,by omega⟩
theorem zmR{P Q:Nat->Prop}{a:Nat}(h:Gre P a n e)(hc:∀x,x<=n->(P x↔Q (i+x))):Gre Q (i+a) (i+n) (i+e):=by
 refine⟨by have:=h.1;omega,by have:=h.2.1;omega,(hc e h.2.1).1 h.2.2.1,fun m h1 h2 h3=>?_⟩;obtain⟨x,rfl⟩:∃x,m=i+x:=⟨m-i,by omega⟩;exact h.2.2.2 x (by omega) (by omega) ((hc x (by omega)).2 h3)
theorem zmg(hn:i+n<=u.length){ls:List Lnk}{a:Nat}{L:Laid}(h:ChR ((u.drop i).take n) n ls a L):a<=n->ChR u (i+n) ls (i+a) (shL i L):=by
 induction h with
 |nil a=>intro _;exact .nil _
 |stop q o ls a h=>
  intro ha;refine .stop q o ls _ fun e h1 h2=>?_
  have:=h1.le;have h3:=h2.1;obtain⟨x,rfl⟩:∃x,e=i+x:=⟨e-i,by omega⟩;exact h x ((zhG hn ls x (by omega)).2 h1) ((zdx hn (by omega)).2 h2)
 |cons q o ls a e L h _ ih=>
  intro ha;exact .cons q o ls _ _ _ (zmR h fun x hx=>and_congr (zdx hn hx) (zhG hn ls x hx)) (ih h.2.1)
def zbU:Pt->List Pt
 |.seq l r=>l::zbU r
 |p=>[p]
def zd9(qs:List Pt):List Lnk:=qs.map fun q=>(q,false)
theorem zgc:TlP u n [(p,false)] m↔Lg u p m n:=by
 constructor
 ·rintro (⟨e,h1,h2⟩|⟨h,_⟩)
  ·have h1:e=n:=h1;subst h1;exact h2
  ·cases h
 ·intro h;exact .inl ⟨n,rfl,h⟩
theorem zgd:∀(p:Pt) (m:Nat),TlP u n (zd9 (zbU p)) m↔Lg u p m n
 |.seq l r,m=>by
  rw[zm7];constructor
  ·rintro (⟨e,h1,h2⟩|⟨h,_⟩)
   ·exact⟨e,h2,(zgd r e).1 h1⟩
   ·cases h
  ·rintro ⟨e,h1,h2⟩;exact .inl ⟨e,(zgd r e).2 h2,h1⟩
 |.set _,m=>zgc
 |.alt _ _,m=>zgc
 |.rep _ _ _,m=>zgc
 |.grp _ _,m=>zgc
theorem zjp(h:LdR u [(q,e)] i l):Pl u q i e l:=by
 cases h with
 |cons _ _ _ _ l1 l2 h1 h2=>cases h2;rw[zrm];exact h1
theorem zfm{L:Laid}(h:ChR u n [(p,false)] i L)(hp:Lg u p i n):LdOk u n L i/\∀l,LdR u L i l->Pl u p i n l:=by
 cases h with
 |stop _ _ _ _ h=>exact absurd hp (h n rfl)
 |cons _ _ _ _ e L g h=>
  have he:e=n:=g.2.2.1.2;subst he;cases h;exact⟨⟨hp,zsa _,trivial⟩,fun l hl=>zjp hl⟩
theorem zmj:∀(p:Pt) (i:Nat) (L:Laid),ChR u n (zd9 (zbU p)) i L->Lg u p i n->LdOk u n L i/\∀l,LdR u L i l->Pl u p i n l
 |.seq a r,i,L,h,hp=>by
  cases h with
  |stop _ _ _ _ h=>
   obtain⟨e,h1,h2⟩:=zm7.1 hp;exact absurd h1 (h e ((zgd r e).2 h2))
  |cons _ _ _ _ e L g h=>
   have g':=g.congr (Q:=fun e=>Lg u a i e/\Lg u r e n) fun m _ _=>and_congr Iff.rfl (zgd r m)
   obtain⟨h1,h2⟩:=zmj r e L h g'.2.2.1.2;refine⟨⟨g'.2.2.1.1,g'.2.1,h1⟩,fun l hl=>?_⟩;cases hl with
   |cons _ _ _ _ l1 l2 k1 k2=>exact⟨e,l1,l2,g',k1,h2 l2 k2,rfl⟩
 |.set _,i,L,h,hp=>zfm h hp
 |.alt _ _,i,L,h,hp=>zfm h hp
 |.rep _ _ _,i,L,h,hp=>zfm h hp
 |.grp _ _,i,L,h,hp=>zfm h hp
def repL(b:Pt)(mn:Nat)(mx:Int):List Lnk:=List.replicate mn (b,false)++(List.replicate (mx-mn).toNat (b,true)++(if mx=-1 then [(.rep b 0 (-1),false)] else []))
def zdM(mx:Int):Int:=if 0<mx then mx-1 else mx
theorem zf0(b:Pt)(mn:Nat)(mx:Int)(h:mx=-1\/(mn:Int)+1<=mx):repL b (mn+1) mx=(b,false)::repL b mn (zdM mx):=by
 unfold repL zdM;rcases h with rfl|h
 ·simp[List.replicate_succ];omega
 ·have e1:(if 0<mx then mx-1 else mx)=mx-1:=zst (by omega);have e2:¬mx=-1:=by omega
  have e3:¬mx-1=-1:=by omega
  rw[e1,zss e2,zss e3,show (mx-((mn+1:Nat):Int)).toNat=(mx-1-(mn:Int)).toNat from by omega];simp[List.replicate_succ]
theorem zhs(b:Pt)(k:Nat):repL b 0 ((k+1:Nat):Int)=(b,true)::repL b 0 (k:Int):=by
 unfold repL;rw[zss (by omega),zss (by omega),show (((k+1:Nat):Int)-((0:Nat):Int)).toNat=k+1 from by omega,show ((k:Int)-((0:Nat):Int)).toNat=k from by omega];simp[List.replicate_succ]
theorem zf1(b:Pt):repL b 0 0=[]:=by simp[repL]
theorem zfZ(b:Pt):repL b 0 (-1)=[(.rep b 0 (-1),false)]:=by simp[repL]
theorem zqc(hn:n<=u.length):Lg u (.rep b ((0:Nat):Int) ((0:Nat):Int)) m n↔m=n:=by
 rw[zcX];constructor
 ·rintro ⟨_,k,_,h2,h3⟩;obtain rfl:k=0:=by omega
  exact h3
 ·intro h;exact⟨hn,0,by omega,.inr (by omega),h⟩
theorem zqJ(hn:n<=u.length):Lg u (.rep b ((0:Nat):Int) ((k+1:Nat):Int)) m n↔(∃e,Lg u (.rep b ((0:Nat):Int) (k:Int)) e n/\Lg u b m e)\/m=n:=by
 constructor
 ·intro h;rcases zqh (by omega) h with h|⟨e,h1,h2⟩
  ·exact .inr h
  ·rw[show ((k+1:Nat):Int)-1=(k:Int) from by omega] at h2;exact .inl ⟨e,h2,h1⟩
 ·rintro (⟨e,h1,h2⟩|rfl)
  ·obtain⟨h3,x,h4,h5,h6⟩:=zcX.1 h1;exact zcX.2 ⟨hn,x+1,by omega,.inr (by omega),e,h2,h6⟩
  ·exact zfB hn _ (.inr (by omega))
theorem zdV(hn:n<=u.length){b:Pt}:∀(mn:Nat) (mx:Int),(mx=-1\/(mn:Int)<=mx)->∀m,TlP u n (repL b mn mx) m↔Lg u (.rep b mn mx) m n
 |mn+1,mx,hb,m=>by
  rw[zf0 b mn mx (by omega),zjZ (by omega)];constructor
  ·rintro (⟨e,h1,h2⟩|⟨h,_⟩)
   ·exact⟨e,h2,(zdV hn mn (zdM mx) (by unfold zdM;split<;>omega) e).1 h1⟩
   ·cases h
  ·rintro ⟨e,h1,h2⟩;exact .inl ⟨e,(zdV hn mn (zdM mx) (by unfold zdM;split<;>omega) e).2 h2,h1⟩
 |0,mx,hb,m=>by
  rcases hb with rfl|hb
  ·rw[zfZ];exact zgc
  ·obtain⟨k,rfl⟩:∃k:Nat,mx=k:=⟨mx.toNat,by omega⟩;clear hb
   induction k generalizing m with
   |zero=>rw[zqc hn];show TlP u n (repL b 0 0) m↔_;rw[zf1];exact Iff.rfl
   |succ k ih=>
    rw[zhs,zqJ hn];show (∃e,TlP u n (repL b 0 (k:Int)) e/\Lg u b m e)\/(true=true/\m=n)↔_;constructor
    ·rintro (⟨e,h1,h2⟩|⟨_,h⟩)
     ·exact .inl ⟨e,(ih e).1 h1,h2⟩
     ·exact .inr h
    ·rintro (⟨e,h1,h2⟩|h)
     ·exact .inl ⟨e,(ih e).2 h1,h2⟩
     ·exact .inr ⟨rfl,h⟩
theorem zmi(hn:n<=u.length){b:Pt}:∀(mn:Nat) (mx:Int),(mx=-1\/(mn:Int)<=mx)->∀(i:Nat) (L:Laid),ChR u n (repL b mn mx) i L->Lg u (.rep b mn mx) i n->LdOk u n L i/\∀l,LdR u L i l->CpR (Lg u b) (Pl u b) (fun mn mx i j=>Lg u (.rep b mn mx) i j) mn mx i n l
 |mn+1,mx,hb,i,L,h,hp=>by
  have hb':zdM mx=-1\/(mn:Int)<=zdM mx:=by unfold zdM;split<;>omega
  rw[zf0 b mn mx (by omega)] at h;cases h with
  |stop _ _ _ _ h=>
   obtain⟨e,h1,h2⟩:=(zjZ (by omega)).1 hp;exact absurd h1 (h e ((zdV hn mn (zdM mx) hb' e).2 h2))
  |cons _ _ _ _ e L g h=>
   have g':=g.congr (Q:=fun e=>Lg u b i e/\Lg u (.rep b mn (zdM mx)) e n) fun m _ _=>and_congr Iff.rfl (zdV hn mn (zdM mx) hb' m)
   obtain⟨h1,h2⟩:=zmi hn mn (zdM mx) hb' e L h g'.2.2.1.2;refine⟨⟨g'.2.2.1.1,g'.2.1,h1⟩,fun l hl=>?_⟩;cases hl with
   |cons _ _ _ _ l1 l2 k1 k2=>exact .must mn mx i n e l1 l2 g' k1 (h2 l2 k2)
 |0,mx,hb,i,L,h,hp=>by
  rcases hb with rfl|hb
  ·rw[zfZ] at h;exact zfm h hp
  ·obtain⟨k,rfl⟩:∃k:Nat,mx=k:=⟨mx.toNat,by omega⟩;clear hb
   induction k generalizing i L with
   |zero=>
    have h:ChR u n (repL b 0 0) i L:=h;rw[zf1] at h;cases h;exact⟨trivial,fun l hl=>by cases hl;exact .done i n⟩
   |succ k ih=>
    rw[zhs] at h;have e0:((k+1:Nat):Int)-1=(k:Int):=by omega
    have ht:=fun m=>zdV hn (b:=b) 0 (k:Int) (.inr (by omega)) m
    cases h with
    |stop _ _ _ _ h=>
     refine⟨trivial,fun l hl=>?_⟩;cases hl;refine .out _ i n (by omega) fun x _ _ ⟨h1,h2⟩=>h x ((ht x).2 ?_) h1
     rw[e0] at h2;exact h2
    |cons _ _ _ _ e L g h=>
     have g':=g.congr (Q:=fun e=>Lg u b i e/\Lg u (.rep b ((0:Nat):Int) (k:Int)) e n) fun m _ _=>and_congr Iff.rfl (ht m)
     obtain⟨h1,h2⟩:=ih e L h g'.2.2.1.2;refine⟨⟨g'.2.2.1.1,g'.2.1,h1⟩,fun l hl=>?_⟩;cases hl with
     |cons _ _ _ _ l1 l2 k1 k2=>exact .may _ i n e l1 l2 (by omega) (by rw[e0];exact g') k1 (by rw[e0];exact h2 l2 k2)
inductive RoR (u:Word) (n:Nat) (b:Pt):Nat->Laid->Prop
 |done:RoR u n b n []
 |more (i e:Nat) (L:Laid):i<n->Gre (fun e=>Lg u b i e/\Lg u (.rep b 0 (-1)) e n) (i+1) n e->RoR u n b e L->RoR u n b i ((b,e)::L)
theorem zqn(hn:i+n<=u.length){b:Pt}{a:Nat}{L:Laid}(h:RoR ((u.drop i).take n) n b a L):RoR u (i+n) b (i+a) (shL i L):=by
 induction h with
 |done=>exact .done
 |more a e L hi g _ ih=>exact .more _ _ _ (by omega) (zmR (a:=a+1) g fun x hx=>and_congr (zdx hn hx) (zdx hn (zsa n))) ih
theorem zqW{L:Laid}(h:RoR u n b i L):LdOk u n L i/\∀l,LdR u L i l->CpR (Lg u b) (Pl u b) (fun mn mx i j=>Lg u (.rep b mn mx) i j) 0 (-1) i n l:=by
 induction h with
 |done=>exact⟨trivial,fun l hl=>by cases hl;exact .void n⟩
 |more i e L hi g _ ih=>
  refine⟨⟨g.2.2.1.1,g.2.1,ih.1⟩,fun l hl=>?_⟩;cases hl with
  |cons _ _ _ _ l1 l2 k1 k2=>exact .more i n e l1 l2 hi g k1 (ih.2 l2 k2)
def zaW:Pt->List Pt
 |.alt l r=>zaW l++zaW r
 |p=>[p]
def ChoR(u:Word)(i n:Nat)(qs:List Pt)(L:Laid):Prop:=∃(k:Nat) (q:Pt),qs[k]?=some q/\(∀(j:Nat) (q':Pt),j<k->qs[j]?=some q'->¬Lg u q' i n)/\Lg u q i n/\L=[(q,n)]
theorem zd0:∀(p:Pt),Lg u p i n↔∃q∈zaW p,Lg u q i n
 |.alt l r=>by
  rw[zm4,zd0 l,zd0 r];constructor
  ·rintro (⟨q,h1,h2⟩|⟨q,h1,h2⟩)
   ·exact⟨q,zrR.2 (.inl h1),h2⟩
   ·exact⟨q,zrR.2 (.inr h1),h2⟩
  ·rintro ⟨q,h1,h2⟩;rcases zrR.1 h1 with h1|h1
   ·exact .inl ⟨q,h1,h2⟩
   ·exact .inr ⟨q,h1,h2⟩
 |.set _=>⟨fun h=>⟨_,zrY.2 rfl,h⟩,fun⟨q,h1,h2⟩=>by obtain rfl:=zrY.1 h1;exact h2⟩
 |.seq _ _=>⟨fun h=>⟨_,zrY.2 rfl,h⟩,fun⟨q,h1,h2⟩=>by obtain rfl:=zrY.1 h1;exact h2⟩
 |.rep _ _ _=>⟨fun h=>⟨_,zrY.2 rfl,h⟩,fun⟨q,h1,h2⟩=>by obtain rfl:=zrY.1 h1;exact h2⟩
 |.grp _ _=>⟨fun h=>⟨_,zrY.2 rfl,h⟩,fun⟨q,h1,h2⟩=>by obtain rfl:=zrY.1 h1;exact h2⟩
theorem zg6(h:[p][k]?=some q)(hl:Pl u q i n l):Pl u p i n l:=by
 cases k with
 |zero=>simp at h;subst h;exact hl
 |succ k=>simp at h
theorem zmf:∀(p:Pt) (k:Nat),(zaW p)[k]?=some q->(∀j q',j<k->(zaW p)[j]?=some q'->¬Lg u q' i n)->Lg u q i n->Pl u q i n l->Pl u p i n l
 |.alt a r,k,h,hf,hq,hl=>by
  by_cases hk:k<(zaW a).length
  ·have h1:(zaW a)[k]?=some q:=by rw[<-h];exact(zry hk).symm
   exact .inl ⟨(zd0 a).2 ⟨q,zrW h1,hq⟩,zmf a k h1 (fun j q' hj e=>hf j q' hj (by rw[<-e];exact zry (by omega))) hq hl⟩
  ·have h1:(zaW r)[k-(zaW a).length]?=some q:=by rw[<-h];exact(zrz (by omega)).symm
   refine .inr ⟨fun hc=>?_,zmf r _ h1 (fun j q' hj e=>hf ((zaW a).length+j) q' (by omega) (by rw[<-e];exact(zrz (by omega)).trans (by congr 1;omega))) hq hl⟩;obtain⟨q',h2,h3⟩:=(zd0 a).1 hc;obtain⟨j,hj,e⟩:=List.getElem_of_mem h2;exact hf j q' (by omega) (by show (zaW a++zaW r)[j]?=_;rw[zry hj,zrD hj,e]) h3
 |.set _,k,h,_,_,hl=>zg6 h hl
 |.seq _ _,k,h,_,_,hl=>zg6 h hl
 |.rep _ _ _,k,h,_,_,hl=>zg6 h hl
 |.grp _ _,k,h,_,_,hl=>zg6 h hl
def LayC(u:Word)(i n:Nat):Pt->Laid->Prop
 |.set _,L=>L=[]
 |.grp b _,L=>L=[(b,n)]
 |.alt p q,L=>ChoR u i n (zaW (.alt p q)) L
 |.seq p q,L=>ChR u n (zd9 (zbU (.seq p q))) i L
 |.rep b mn mx,L=>if mn=0/\mx=-1 then RoR u n b i L else ChR u n (repL b mn.toNat mx) i L
theorem zoL(hn:i+n<=u.length):∀(p:Pt) (L:Laid),LayC ((u.drop i).take n) 0 n p L->LayC u i (i+n) p (shL i L)
 |.set _,L,h=>by have h:L=[]:=h;subst h;rfl
 |.grp b _,L,h=>by have h:L=[(b,n)]:=h;subst h;rfl
 |.alt p q,L,⟨k,x,h1,h2,h3,h4⟩=>⟨k,x,h1,fun j q' hj e h=>h2 j q' hj e ((zdx hn (zsa n)).2 h),(zdx hn (zsa n)).1 h3,by subst h4;rfl⟩
 |.seq p q,L,h=>zmg hn (a:=0) h (zsj _)
 |.rep b mn mx,L,h=>by
  replace h:if mn=0/\mx=-1 then RoR ((u.drop i).take n) n b 0 L else ChR ((u.drop i).take n) n (repL b mn.toNat mx) 0 L:=h
  show if mn=0/\mx=-1 then RoR u (i+n) b i (shL i L) else ChR u (i+n) (repL b mn.toNat mx) i (shL i L)
  by_cases e:mn=0/\mx=-1
  ·rw[zst e] at h ⊢;exact zqn hn (a:=0) h
  ·rw[zss e] at h ⊢;exact zmg hn (a:=0) h (zsj _)
theorem zqb(hn:n<=u.length):∀(p:Pt) (L:Laid),OkP p->(∀f,p≠.set f)->Lg u p i n->LayC u i n p L->LayP u p i n L
 |.set f,L,_,hs,_,_=>absurd rfl (hs f)
 |.grp b g,L,_,_,hp,h=>by
  have h:L=[(b,n)]:=h;subst h;exact⟨⟨hp,zsa _,trivial⟩,fun l hl=>⟨l,rfl,zjp hl⟩⟩
 |.alt p q,L,_,_,_,⟨k,x,h1,h2,h3,h4⟩=>by
  subst h4;exact⟨⟨h3,zsa _,trivial⟩,fun l hl=>zmf (.alt p q) k h1 h2 h3 (zjp hl)⟩
 |.seq p q,L,_,_,hp,h=>zmj (.seq p q) i L h hp
 |.rep b mn mx,L,ho,_,hp,h=>by
  obtain⟨_,h1,h2⟩:=ho;obtain⟨m,rfl⟩:∃m:Nat,mn=m:=⟨mn.toNat,by omega⟩;replace h:if (m:Int)=0/\mx=-1 then RoR u n b i L else ChR u n (repL b m mx) i L:=h
  by_cases e:(m:Int)=0/\mx=-1
  ·rw[zst e] at h;obtain⟨e1,rfl⟩:=e;obtain rfl:m=0:=by omega
   exact zqW h
  ·rw[zss e] at h;exact zmi hn m mx h2 i L h hp
end Go.Proofs.YthdljcdbfmhleaaGreatDoor
