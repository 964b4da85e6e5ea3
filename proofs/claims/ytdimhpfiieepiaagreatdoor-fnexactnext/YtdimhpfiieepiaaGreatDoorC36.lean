import Derived.Test.YtdimhpfiieepiaaGreatDoorC35
import Derived.Deep.LoopGhost
namespace Go.Proofs.YtdimhpfiieepiaaGreatDoor
set_option maxHeartbeats 1000000
set_option maxRecDepth 100000
section
variable{w w':World}
open Go.RowKit
attribute [local go_sem] Oper.semAt_some
def NwP(w:World)(p:Pt)(e:Ending)(w':World):Prop:=
 ∃(s:Nat) (v:StV) (a b:RdV) (O1 O2:Nat->Prop),e=.returned (.pointer (some ⟨s,0,none⟩))/\Strd O1 O2 w' s v a b/\a.m=1/\b.m=1/\zdT (unD p 0) v.n v.nw v.f v.F v.G v.A v.L/\(v.e=true↔(unD p 0).e)/\w.heap.size<=v.b0/\v.n<=2000/\v.nw=((wPt p).toNat+63)/64/\Below w.heap.size w w'
theorem zjI(bt ga gl nw:Nat)(e:Bool):Tryz.prog.built 229 [(0,.pointer (some ⟨bt,0,none⟩)),(1,.agg #[.bool e,.slice (some ⟨ga,0,none⟩) nw nw,.slice (some ⟨gl,0,none⟩) nw nw])]=some #[.pointer (some ⟨bt,0,none⟩),.bool e,.slice (some ⟨ga,0,none⟩) nw nw,.slice (some ⟨gl,0,none⟩) nw nw,.slice none 0 0,.pointer none,.pointer none]:=by kernel_rfl
theorem StC.marks{B:Nat}{n nw bt ga gl:Nat}{lv sv fv:Value}{lr mk:Nat->Nat}{Lk:Nat->Nat->Nat}{A L:Nat->Nat}{f:Nat->Nat->Bool}(h:StC B w n nw bt ga gl lv sv fv lr mk Lk A L f)(hk:∀k:Nat,(∀x,w.heap[k]?≠some (Obj.deferred x))->w'.heap[k]?=w.heap[k]?)(hz:w'.heap[0]?=w.heap[0]?)(hs:w.heap.size<=w'.heap.size):StC B w' n nw bt ga gl lv sv fv lr mk Lk A L f:=by
 have hb:∀{k:Nat} {cs:Array Value} {t:TypeId},w.heap[k]?=some (.cells cs t (0,0))->w'.heap[k]?=some (.cells cs t (0,0)):=fun e=>(hk _ (fun x h=>by rw[e] at h;cases h)).trans e
 have hc:∀{k o:Nat} {v:Value},w.cell? ⟨k,o,none⟩=some v->w'.cell? ⟨k,o,none⟩=some v:=fun {k o v} e=>(World.cell?_of_block (hk k (fun x h=>by simp[World.cell?,h] at e))).trans e
 have hp:∀{g:Nat} {T:Nat->Nat},zar w nw g T->zar w' nw g T:=fun h=>⟨hb h.row,h.lt⟩
 refine⟨hb h.box,h.btB,fun hn=>?_,fun p hn=>⟨hb (h.mks p hn).1,(h.mks p hn).2⟩,fun hn=>?_,fun p hn=>⟨hp (h.lrs p hn).1,(h.lrs p hn).2⟩,⟨hp h.pa.1,h.pa.2⟩,⟨hp h.pl.1,h.pl.2⟩,h.bru.keep hz,h.pos,zvK h.le hs,h.n64,h.nwl,h.lb,h.ab⟩
 ·obtain⟨gs,cs,e,hl,k⟩:=h.svs hn;exact⟨gs,cs,e,hl,fun p hp=>hc (k p hp)⟩
 ·obtain⟨gs,cs,e,hl,k⟩:=h.lvs hn;exact⟨gs,cs,e,hl,fun p hp=>hc (k p hp)⟩
theorem Strd.marks{O1 O2:Nat->Prop}{s:Nat}{v:StV}{a b:RdV}(h:Strd O1 O2 w s v a b)(hk:∀k:Nat,(∀x,w.heap[k]?≠some (Obj.deferred x))->w'.heap[k]?=w.heap[k]?)(hO:∀k,O1 k\/O2 k->w'.heap[k]?=w.heap[k]?)(hz:w'.heap[0]?=w.heap[0]?)(hs:w.heap.size<=w'.heap.size):Strd O1 O2 w' s v a b:=
 ⟨(hk s (fun x e=>by rw[h.box] at e;cases e)).trans h.box,⟨h.c.c1.marks hk hz hs,h.c.c2.marks hk hz hs,h.c.p0,h.c.s0,h.c.s1,h.c.tb,h.c.ab,h.c.lb,h.c.sb,h.c.fb,h.c.bb,h.c.frb,h.c.brb,h.c.ne⟩,h.ra.keep fun k h1 _=>hO k (.inl h1),h.rb.keep fun k h1 _=>hO k (.inr h1),fun k h1=>⟨(h.o1 k h1).1,zvL (h.o1 k h1).2 hs⟩,fun k h1=>⟨(h.o2 k h1).1,zvL (h.o2 k h1).2 hs⟩,h.o12⟩
theorem zko(p:Pt)(v:Value)(w:World)(hT:zan w v p)(hle:wPt p<=2000)(hB:za7 w)(h0:0<w.heap.size):
  Calls Tryz.prog 142 #[v] w fun e w'=>NwP w p e w':=by
 obtain⟨t,x,rfl⟩:=zaC hT;have hW:=zb3 p _ hT;have hbd:=zbw p _ hT;obtain⟨wt,Hwt⟩:∃wt:Nat,Hid (wPt p=wt):=⟨(wPt p).toNat,by show _=_;omega⟩;have hwt:wt<=2000:=by have:=Hwt.out;omega
 rw[Hwt.out] at hW;obtain⟨nw,Hnw⟩:∃nw:Nat,Hid (nw=(wt+63)/64):=⟨_,rfl⟩;have hnw:nw<=1000:=by have:=Hnw.out;omega
 have hwr:=zdQ p;clear hle hbd;refine(callsIn_wide (n:=5)).1 ?_;refine callsIn_of_wp_marks Tryz.func142 rfl trivial ?_ rfl;refine wpIn_wide.2 ?_;simp only[Tryz.ntmps142,zvA,zvi,zvk,Nat.reduceAdd,Nat.reduceSub,zuI,zuJ,zvx,zuT,zvw,zuU]
 go_wp2_with (first|(refine zbQ _ rfl _ _ rfl _ _ rfl hW ⟨fun _ _=>by kernel_rfl,fun _ _=>by kernel_rfl,fun _ _=>by kernel_rfl,fun _ _=>by kernel_rfl,fun _ _=>by kernel_rfl⟩ ?_;intro w1 hb1)|(go_at_call 162;refine(zkp wt nw Hnw.out (by omega) w1).mono ?_;rintro r W2 ⟨rfl,hW2⟩;have y2:zfu W2 w1.heap.size nw (.slice none 0 0) (.slice none 0 0):=(by rw[hW2];exact zvZ _ _);have hb2:Below w1.heap.size w1 W2:=(by rw[hW2];exact(Below.refl _ _).alloc (zvJ _) _);clear hW2))
 have hb02:Below w.heap.size w W2:=hb1.trans (hb2.mono hb1.size);have hp1:0<w1.heap.size:=zvL h0 hb1.size;have tk2:=Trk.start (B:=w1.heap.size) (zvJ _) hp1 y2 hnw (hB.keep (hb02.block 0 h0)) (fun _=>0) (fun _ _=>false) (fun _=>0) (fun _=>za0);have hT2:=zan.keep (.of hb02) p _ hT;have hw2:=hwr w1.heap.size 0 nw w1.heap.size _ _ _ _ _ _ W2 _ tk2 hT2 (by have:=Hwt.out;omega) (by have:=Hwt.out;have:=Hnw.out;omega);have hbl:w1.heap.size<W2.heap.size:=(zuH.1 y2).1;clear hwr tk2 hT2 hT hW hb2 y2 hB;refine hw2.mono ?_;rintro r W3 ⟨n,ga,gl,e,sv,fv,mk,f,fr,F,A,L,rfl,hn,D⟩;obtain⟨fa,fc,rfl⟩:=zbN D.tk.fo;have HD:Hid _:=D;have k2:=(zaf D.tk.box).2.2.1;have hn2:n<=2000:=by have:=Hwt.out;omega
 have hbt3:w1.heap.size<W3.heap.size:=(zuH.1 D.tk.box).1;have hbs:=zjI w1.heap.size ga gl nw e;obtain⟨W5,hW5⟩:∃W5,(W3.alloc (.cells #[.pointer (some ⟨w1.heap.size,0,none⟩),.bool e,.slice (some ⟨ga,0,none⟩) nw nw,.slice (some ⟨gl,0,none⟩) nw nw,.slice none 0 0,.pointer none,.pointer none] 229)).alloc (.cells #[.pointer (some ⟨W3.heap.size,0,none⟩)] 197)=W5:=⟨_,rfl⟩;have hb5:Below W3.heap.size W3 W5:=by rw[<-hW5];exact((Below.refl _ _).alloc (zvJ _) _).alloc (by simp) _
 have x4:W5.heap[W3.heap.size]?=some (.cells #[.pointer (some ⟨w1.heap.size,0,none⟩),.bool e,.slice (some ⟨ga,0,none⟩) nw nw,.slice (some ⟨gl,0,none⟩) nw nw,.slice none 0 0,.pointer none,.pointer none] 229 (0,0)):=by rw[<-hW5];exact zak (zvZ _ _)
 have x5:W5.heap[W3.heap.size+1]?=some (.cells #[.pointer (some ⟨W3.heap.size,0,none⟩)] 197 (0,0)):=by
  rw[<-hW5];have:=zvZ (W3.alloc (.cells #[.pointer (some ⟨w1.heap.size,0,none⟩),.bool e,.slice (some ⟨ga,0,none⟩) nw nw,.slice (some ⟨gl,0,none⟩) nw nw,.slice none 0 0,.pointer none,.pointer none] 229)) (.cells #[.pointer (some ⟨W3.heap.size,0,none⟩)] 197)
  simpa using this
 have k5:W5.cell? ⟨w1.heap.size,2,none⟩=some (.slice fa n fc):=(hb5.cell (p:=⟨w1.heap.size,2,none⟩) hbt3).trans k2;have HA0:Hid (BfA W5 W3.heap.size w1.heap.size ga gl nw e W5 0 (fun _=>0) none 0):=⟨zam.refl _ _,x4,⟨rfl,.inl ⟨rfl,rfl⟩⟩,fun p hp=>by omega,fun p q hp=>by omega⟩;have Hx5:Hid _:=x5;clear D hw2 hn x4 x5 k2
 go_wp2_with (first|(refine zek rfl 229 #[(0,.tmp 11),(1,.tmp 14)] rfl [(0,.pointer (some ⟨w1.heap.size,0,none⟩)),(1,.agg #[.bool e,.slice (some ⟨ga,0,none⟩) nw nw,.slice (some ⟨gl,0,none⟩) nw nw])] (by simp[Act.eval]) _ hbs ?_)|(refine zfr rfl 229 (.tmp 15) rfl #[.pointer (some ⟨w1.heap.size,0,none⟩),.bool e,.slice (some ⟨ga,0,none⟩) nw nw,.slice (some ⟨gl,0,none⟩) nw nw,.slice none 0 0,.pointer none,.pointer none] rfl ?_))
 clear hbs hW5
 go_loopw [22] (fun i wr=>∃(k:Nat) (br:Nat->Nat) (ba:Option Addr) (bc:Nat),k<=n/\i=.int .i64 k/\BfA W5 W3.heap.size w1.heap.size ga gl nw e wr k br ba bc)
  (fun i _=>n-(intOf i).toNat)
 case atStart=>exact⟨0,_,_,_,zvT _,rfl,HA0.out⟩
 case round=>
  obtain⟨k,br,ba,bc,hk,rfl,hA⟩:=hrel;have hs5:W3.heap.size+1<W5.heap.size:=(zuH.1 Hx5.out).1;have hcs:=(hA.tc.same (W3.heap.size+1) hs5 (by show ¬(W3.heap.size+1=W3.heap.size);omega)).trans Hx5.out;have hbr:zfu wr w1.heap.size nw sv (.slice fa n fc):=(hA.tc.same w1.heap.size (by omega) (by show ¬(w1.heap.size=W3.heap.size);omega)).trans ((hb5.block _ hbt3).trans HD.out.tk.box);have d0:wr.cell? ⟨W3.heap.size+1,0,none⟩=some (.pointer (some ⟨W3.heap.size,0,none⟩)):=(zvW _ _ _ _ _ _ hcs:_=_);have d4:=(zaS hA.box).2.2.2.2.1;have dt:=(zaf hbr).2.2.1
  by_cases hlt:k<n
  ·have hno:=zeO nw w1.heap.size sv (.slice fa n fc) wr.drew hbr hnw;have Hnx:Hid _:=fun(w6:World) (hp:zar w6 nw wr.heap.size za0) (hg:wr.drew.grownBy w6 none)=>hA.next (by omega) (by omega) hcs hp hg
   clear hA hcs hbr dt;go_wp2;refine wp_mono (Q:=zfB _) ?_ zcm
   go_region_law ((first|(refine zef (by rfl) 164 #[.tmp 29] #[224] (by rfl) #[.pointer (some ⟨w1.heap.size,0,none⟩)] (by simp[Act.eval,Act.put]) (.slice (some ⟨wr.heap.size,0,none⟩) nw nw) (fun w'=>zar w' nw wr.heap.size za0/\wr.drew.grownBy w' none) (zjU _ _) hno ?_;intro w6 hp6;obtain⟨g,c,w10,⟨e6,e6'⟩,⟨e7,e7'⟩,hap,e10,f10,e10',hA'⟩:=Hnx.out w6 hp6.1 hp6.2;have HA':Hid _:=hA';clear hp6 hA')|(refine zhs (by rfl) (.tmp 28) (.tmp 31) 227 (by rfl) _ _ (by rfl) (by rfl) _ _ hap ?_)|fail))
   all_goals
    clear hno hap e6 e6' e7 e7' e10 f10 e10' d0 d4;rw[za5];go_wp2
    go_roundw
    case rel=>exact⟨k+1,_,_,_,by omega,by go_num,HA'.out⟩
    case measure=>simp[intOf];omega
  ·have hkn:n=k:=by omega
   subst hkn;clear HA0 hlt d4 hk;have hs6:=hA.tc.size;have HB0:Hid (BfB wr n nw br F wr 0 (fun _=>za0)):=⟨zam.refl _ _,fun p hp=>⟨(hA.set p hp).1,fun q=>by rw[zcg];simp⟩⟩;have hbrW:∀p,p<n->W5.heap.size<=br p/\br p<wr.heap.size:=fun p hp=>⟨(hA.set p hp).2,(hA.set p hp).1.glt⟩
   have HA:Hid _:=hA;have Hcs:Hid _:=hcs;have HbrW:Hid _:=hbrW;clear hA hcs hbrW;go_wp2;clear dt d0;refine wp_loop_ghost_k (fun q a W=>∃(k:Nat) (G:Nat->Nat->Nat) (Ds:List Nat) (u5 u6 u7 u42 u43 u44 u45 u46 u47 u48 u49 u50 u51 u52 u53 u54 u55 u56 u57 u58:Value),q=n-k/\k<=n/\Hid (BfB wr n nw br F W k G)/\Hid (Ds.Nodup/\∀x∈Ds,wr.heap.size<=x/\W.heap[x]?=some (.deferred (some [])))/\a={tmps:=#[.iface t x,undef,.pointer none,.pointer (some ⟨w1.heap.size,0,none⟩),.pointer (some ⟨W3.heap.size+1,0,none⟩),u5,u6,u7,.iface t x,.int .i64 wt,.pointer (some ⟨w1.heap.size,0,none⟩),.pointer (some ⟨w1.heap.size,0,none⟩),.pointer (some ⟨w1.heap.size,0,none⟩),.iface t x,.agg #[.bool e,.slice (some ⟨ga,0,none⟩) nw nw,.slice (some ⟨gl,0,none⟩) nw nw],.agg #[.pointer (some ⟨w1.heap.size,0,none⟩),.bool e,.slice (some ⟨ga,0,none⟩) nw nw,.slice (some ⟨gl,0,none⟩) nw nw,.slice none 0 0,.pointer none,.pointer none],.pointer (some ⟨W3.heap.size,0,none⟩),.pointer (some ⟨w1.heap.size,0,none⟩),.pointer (some ⟨w1.heap.size,0,none⟩),.pointer (some ⟨w1.heap.size,2,none⟩),.slice fa n fc,.int .i64 n,.int .i64 n,.bool false,u24,u25,u26,u27,u28,u29,u30,u31,u32,u33,u34,u35,.pointer (some ⟨w1.heap.size,0,none⟩),.pointer (some ⟨w1.heap.size,0,none⟩),.pointer (some ⟨w1.heap.size,2,none⟩),.slice fa n fc,.int .i64 n,.int .i64 k,u42,u43,u44,u45,u46,u47,u48,u49,u50,u51,u52,u53,u54,u55,u56,u57,u58,undef,undef,undef],defers:=Ds.map zud}) n ?start ?round
   case start=>exact⟨0,_,[],_,_,_,_,_,_,_,_,_,_,_,_,_,_,_,_,_,_,_,_,rfl,zvT _,HB0,⟨List.nodup_nil,fun _ h=>by cases h⟩,rfl⟩
   case round=>
    rintro q a W ⟨k,G,Ds,u5,u6,u7,u42,u43,u44,u45,u46,u47,u48,u49,u50,u51,u52,u53,u54,u55,u56,u57,u58,hq,hkn,HB,HDs,rfl⟩ J K hJ hK;have szW:=HB.out.tc.size;have sameW:∀j,j<W5.heap.size->W.heap[j]?=wr.heap[j]?:=fun j hj=>HB.out.tc.same j (by omega) (fun⟨p,h1,h2⟩=>by have:=(HbrW.out p h1).1;omega)
    have hcsW:W.heap[W3.heap.size+1]?=some (.cells #[.pointer (some ⟨W3.heap.size,0,none⟩)] 197 (0,0)):=(sameW _ hs5).trans Hcs.out;have same3:∀j,j<W3.heap.size->W.heap[j]?=W3.heap[j]?:=fun j hj=>(sameW j (by omega)).trans ((HA.out.tc.same j (by omega) (by show ¬(j=W3.heap.size);omega)).trans (hb5.block j hj))
    have cW:W.cell? ⟨W3.heap.size+1,0,none⟩=some (.pointer (some ⟨W3.heap.size,0,none⟩)):=(zvW _ _ _ _ _ _ hcsW:_=_);have Hs3:Hid _:=same3
    by_cases hlt:k<n
    ·obtain⟨gf,cf,cur,hfe,hfr,hfc⟩:=zbz HD.out.tk.fo (by omega);have hgf:gf<W3.heap.size:=(zuH.1 hfr).1;have cf2:W.cell? ⟨gf,k,none⟩=some (.slice (some ⟨fr k,0,none⟩) nw nw):=(World.cell?_of_block (Hs3.out gf hgf)).trans (by rw[zvW _ _ _ _ _ _ hfr,hfc k hlt];simp[slcL,hlt]);injection hfe with h1 _ h3
     subst h3;subst h1;clear hfr hfc same3 cur;have hi0:(0:Int)<=(k:Int):=by omega
     have hi1:(k:Int)<(n:Int):=by omega
     obtain⟨W0,hW0⟩:∃W0,W.alloc (.cells #[.int .i64 k] 3)=W0:=⟨_,rfl⟩;have b0:Below W.heap.size W W0:=by rw[<-hW0];exact(Below.refl _ _).alloc (zvJ _) _
     have x0:W0.heap[W.heap.size]?=some (.cells #[.int .i64 k] 3 (0,0)):=by rw[<-hW0];exact zvZ _ _
     have hl0:W.heap.size<W0.heap.size:=(zuH.1 x0).1;have hFk:=HD.out.tk.fol.rows k hlt;have hFl:=hFk.glt;have y1:zar W0 nw (fr k) (F k):=⟨(b0.block _ (by omega)).trans ((Hs3.out _ hFl).trans hFk.row),hFk.lt⟩;have yB:za7 W0:=HD.out.tk.bru.keep ((b0.block 0 (by omega)).trans (Hs3.out 0 (by omega)));go_wp2
     rename_i K2 hK2 _
     clear cf2;refine(wpIn_wide (n:=5)).1 ?_;clear hW0;refine zct (by omega) (gf:=165) (fb:=#[.slice (some ⟨fr k,0,none⟩) nw nw]) (lb:=#[]) rfl (enters_of Tryz.func165 (by kernel_rfl) rfl)
      (T:=[0,fr k]) (by intro j hj;simp at hj;omega)
      (zcC 4 nw (fr k) nw (F k) (by omega) hnw W0 y1 yB) (fun _=>rfl)
      (fun pre W'=>zam (fun j=>∃p,p<n/\j=br p) W0 W'/\∃G':Nat->Nat->Nat,∀p,p<n->zar W' nw (br p) (G' p)/\∀q,zai (G' p) q=true↔(q<k/\zai (F q) p=true)\/(q=k/\p∈zco pre))
      (fun _ _ _=>False)
      (fun s A B hs ht=>⟨hs.1.turn ht,by obtain⟨G',h1⟩:=hs.2;exact⟨G',fun p hp=>⟨⟨ht.same _ _ (h1 p hp).1.row (.inr rfl),(h1 p hp).1.lt⟩,(h1 p hp).2⟩⟩⟩)
      (fun c s A B hs ht=>hs)
      ⟨zam.refl _ _,G,fun p hp=>⟨⟨(b0.block _ (HB.out.set p hp).1.glt).trans (HB.out.set p hp).1.row,(HB.out.set p hp).1.lt⟩,fun q=>by rw[(HB.out.set p hp).2 q];simp[zco]⟩⟩
      (fun z=>{tmps:=#[.iface t x,undef,.pointer none,.pointer (some ⟨w1.heap.size,0,none⟩),.pointer (some ⟨W3.heap.size+1,0,none⟩),.pointer (some ⟨W.heap.size,0,none⟩),.slice (some ⟨fr k,0,none⟩) nw nw,.int .i64 (z.1:Int),.iface t x,.int .i64 wt,.pointer (some ⟨w1.heap.size,0,none⟩),.pointer (some ⟨w1.heap.size,0,none⟩),.pointer (some ⟨w1.heap.size,0,none⟩),.iface t x,.agg #[.bool e,.slice (some ⟨ga,0,none⟩) nw nw,.slice (some ⟨gl,0,none⟩) nw nw],.agg #[.pointer (some ⟨w1.heap.size,0,none⟩),.bool e,.slice (some ⟨ga,0,none⟩) nw nw,.slice (some ⟨gl,0,none⟩) nw nw,.slice none 0 0,.pointer none,.pointer none],.pointer (some ⟨W3.heap.size,0,none⟩),.pointer (some ⟨w1.heap.size,0,none⟩),.pointer (some ⟨w1.heap.size,0,none⟩),.pointer (some ⟨w1.heap.size,2,none⟩),.slice (some ⟨gf,0,none⟩) n fc,.int .i64 n,.int .i64 n,.bool false,u24,u25,u26,u27,u28,u29,u30,u31,u32,u33,u34,u35,.pointer (some ⟨w1.heap.size,0,none⟩),.pointer (some ⟨w1.heap.size,0,none⟩),.pointer (some ⟨w1.heap.size,2,none⟩),.slice (some ⟨gf,0,none⟩) n fc,.int .i64 n,.int .i64 k,.bool true,.int .i64 k,.pointer (some ⟨gf,k,none⟩),.slice (some ⟨fr k,0,none⟩) nw nw,.slice (some ⟨fr k,0,none⟩) nw nw,.func (.func 165) #[.slice (some ⟨fr k,0,none⟩) nw nw] #[],.int .i64 (z.1:Int),u49,u50,u51,u52,u53,u54,u55,u56,u57,u58,undef,undef,undef],defers:=[]})
      ?assign ?body ?done ?stop
     case assign=>
      intro l x W K hK
      gi_wp2
      exact hK
     case stop=>
      rintro D c pre W hD _ hf;exact hf.elim
     case body=>
      clear hJ hK hK2;rintro l pre ⟨x,hx⟩ W' hl ⟨ht,G',hG'⟩ hlen;have hxn:x<n:=((HD.out.good.fo k x ⟨zvT _,hlt⟩ hx.2)).2;obtain⟨gb,cb,curb,hbe,hbr2,hbc⟩:=zbz HA.out.own (by omega);have sz':=ht.size;have sameX:∀j,j<W0.heap.size->(∀p,p<n->j≠br p)->W'.heap[j]?=W0.heap[j]?:=fun j h1 h2=>ht.same j h1 (fun⟨p,h3,h4⟩=>h2 p h3 h4)
      have hbl:∀p,p<n->br p≠W.heap.size:=fun p hp=>by have:=(HB.out.set p hp).1.glt;omega
      have zk:W'.cell? ⟨W.heap.size,0,none⟩=some (.int .i64 k):=(World.cell?_of_block (sameX _ hl0 (fun p hp e=>hbl p hp e.symm))).trans (zvW _ _ _ _ _ _ x0:_=_);have zc:W'.cell? ⟨W3.heap.size+1,0,none⟩=some (.pointer (some ⟨W3.heap.size,0,none⟩)):=(World.cell?_of_block (sameX (W3.heap.size+1) (by omega) (fun p hp e=>by have:=(HbrW.out p hp).1;omega))).trans ((b0.cell (p:=⟨W3.heap.size+1,0,none⟩) (by show W3.heap.size+1<W.heap.size;omega)).trans cW);have hsW:W.heap[W3.heap.size]?=wr.heap[W3.heap.size]?:=HB.out.tc.same _ (by omega) (fun⟨p,h1,h2⟩=>by have:=(HbrW.out p h1).1;omega);have zs:W'.cell? ⟨W3.heap.size,4,none⟩=some (.slice (some ⟨gb,0,none⟩) n cb):=by
       rw[World.cell?_of_block (sameX W3.heap.size (by omega) (fun p hp e=>by have:=(HbrW.out p hp).1;omega)),World.cell?_of_block ((b0.block W3.heap.size (by omega)).trans hsW),(zaS HA.out.box).2.2.2.2.1,hbe]
      have hgbl:gb<wr.heap.size:=(zuH.1 hbr2).1;have hgbn:∀p,p<n->gb≠br p:=fun p hp e=>by
       have:=(HA.out.set p hp).1.row;rw[<-e,hbr2] at this;exact absurd (zad this) (by decide)
      have zb:W'.cell? ⟨gb,x,none⟩=some (.slice (some ⟨br x,0,none⟩) nw nw):=by
       rw[World.cell?_of_block (sameX gb (by omega) hgbn),World.cell?_of_block ((b0.block gb (by omega)).trans (HB.out.tc.same gb hgbl (fun⟨p,h1,h2⟩=>hgbn p h1 h2))),zvW _ _ _ _ _ _ hbr2,hbc x hxn];simp[slcL,hxn]
      have hadd:=fun nq=>zeG nw (br x) nw (G' x) k (W'.drewN nq) (hG' x hxn).1.row (by have:=HD.out.tk.n64;omega) hnw (hG' x hxn).1.lt
      have hx0:(0:Int)<=(x:Int):=by omega
      have hx1:(x:Int)<(n:Int):=by omega
      have hmix:Tryz.prog.follows .mixedOrders=true:=by kernel_rfl
      have Hbl:Hid _:=hbl;have HsX:Hid _:=sameX;have HG':Hid _:=hG';have Ht:Hid _:=ht;have hbxl:br x<W'.heap.size:=(hG' x hxn).1.glt;have hb1x:=(HbrW.out x hxn).1;have hbxW:br x<W.heap.size:=(HB.out.set x hxn).1.glt;clear hbl sameX hG' ht hbe hbr2 hbc hgbn sameW hcsW;dsimp only
      gi_wp2
      refine zhF 8 (fun w'=>∃n,w'=W'.drewN n) hmix ⟨1,rfl⟩ (by rintro ⟨_,_,h⟩;exact h) (by decide) (by kernel_rfl) rfl ?_;intro os hos;simp only[zvD,zvF] at hos;subst hos
      repeat (go_big_quiet_step (fail))
      refine wpQuiet_nil ?_;rintro w2 ⟨nq,rfl⟩ r' hr';simp only[zuX,zuY] at hr';subst hr'
      go_wp2_with (go_at_call 146;refine(hadd nq).mono ?_;rintro e' w' ⟨rfl,hp',hg'⟩)
      gi_wp2
      have hg2:W'.grownBy w' (some (br x)):=⟨hg'.os,hg'.tape,hg'.output,hg'.size,hg'.block⟩;refine⟨KeepsFrom.of_grownBy (W:=W') (row:=some (br x)) hg2 (fun j e=>by cases e;omega),fun j hj=>?_,Ht.out.grown (A:=W') (o:=some (br x)) hg2 (fun g e=>by cases e;exact .inl ⟨x,hxn,rfl⟩),fun p=>if p=x then addT (G' x) k else G' p,fun p hp=>?_⟩
      ·refine hg2.block j ?_ (fun e=>?_)
       ·simp at hj;show j<W'.heap.size;omega
       ·have e':j=br x:=by simpa using e
        simp at hj;omega
      ·by_cases hpx:p=x
       ·subst hpx;simp only[if_true];refine⟨⟨hp',zfw _ (HG'.out p hp).1.lt k⟩,fun q=>?_⟩;rw[zel,zuM,(HG'.out p hp).2 q,zb6];simp;constructor
        ·rintro ((h|⟨h,_⟩)|h)
         ·exact .inl h
         ·exact .inr h
         ·exact .inr h
        ·rintro (h|h)
         ·exact .inl (.inl h)
         ·exact .inr h
       ·simp only[zv2 hpx];have hne:br p≠br x:=fun e=>hpx (HA.out.inj p x hp hxn e)
        have h1:=HG'.out p hp;refine⟨⟨(hg2.block (br p) h1.1.glt (fun e=>hne (by simpa using e))).trans h1.1.row,h1.1.lt⟩,fun q=>?_⟩;rw[h1.2 q,zb6];simp[hpx]
     case done=>
      rintro D ys W' hD hys ⟨ht,G',hG'⟩ hKd;have HB1:Hid (BfB wr n nw br F W' (k+1) G'):=by
       refine⟨HB.out.tc.trans ((zam.of_below b0).trans ht),fun p hp=>⟨(hG' p hp).1,fun q=>?_⟩⟩;rw[(hG' p hp).2 q];have:=hys p;have:=HD.out.tk.n64;constructor
       ·rintro (⟨h1,h2⟩|⟨rfl,h2⟩)
        ·exact⟨by omega,h2⟩
        ·exact⟨by omega,((hys p).1 h2).2⟩
       ·rintro ⟨h1,h2⟩
        by_cases e:q=k
        ·subst e;exact .inr ⟨rfl,(hys p).2 ⟨by omega,h2⟩⟩
        ·exact .inl ⟨by omega,h2⟩
      have HD1:Hid ((D::Ds).Nodup/\∀x∈D::Ds,wr.heap.size<=x/\W'.heap[x]?=some (.deferred (some []))):=by
       have hlt:∀x∈Ds,x<W.heap.size:=fun x hx=>(zuH.1 (HDs.out.2 x hx).2).1
       refine⟨List.nodup_cons.2 ⟨fun h=>by have:=hlt D h;omega,HDs.out.1⟩,fun x hx=>?_⟩;rcases zvp.1 hx with rfl|hx
       ·exact⟨by omega,hKd⟩
       ·refine⟨(HDs.out.2 x hx).1,(ht.same x (by have:=hlt x hx;omega) (fun⟨p,h1,h2⟩=>?_)).trans ((b0.block x (hlt x hx)).trans (HDs.out.2 x hx).2)⟩;have h3:=(HB.out.set p h1).1.row;rw[<-h2,(HDs.out.2 x hx).2] at h3;cases h3
      refine hK2 _ _ ?_;clear hK2 hKd hG' ht hys;dsimp only;go_wp2;exact Handed.intro (n-(k+1)) (by omega) (hJ _ _ _ ⟨k+1,G',D::Ds,_,_,_,_,_,_,_,_,_,_,_,_,_,_,_,_,_,_,_,_,rfl,by omega,HB1,HD1,rfl⟩)
    ·obtain rfl:n=k:=by omega
     obtain⟨hC,hbox,hRw,hem⟩:=zmh rfl hbl hp1 HD.out rfl (by omega) hb5 HA.out HB.out;have hfg:=zj1 _ _ _ _ W hbox hC;have Hrw:Hid _:=hRw;have Hem:Hid _:=hem;clear hRw hem hC hbox hJ same3 sameW hcsW hlt
     go_wp2_with fail
     refine hfg.mono ?_;rintro e' W4 ⟨rfl,a',b',O1,O2,hst,ha,hb,hnew,tc4⟩;have z4:W4.cell? ⟨W3.heap.size+1,0,none⟩=some (.pointer (some ⟨W3.heap.size,0,none⟩)):=(World.cell?_of_block (tc4.same (W3.heap.size+1) (by omega) (by show ¬(W3.heap.size+1=W3.heap.size);omega))).trans cW;have Hst:Hid _:=hst;have Hnw2:Hid _:=hnew;have Htc:Hid _:=tc4;clear hst hnew tc4 hfg cW;go_wp2;refine zf6 Ds W4 HDs.out.1 (fun x hx=>(Htc.out.same x ((zuH.1 (HDs.out.2 x hx).2).1) (by have:=(HDs.out.2 x hx).1;show ¬(x=W3.heap.size);omega)).trans (HDs.out.2 x hx).2) (fun W' hk1 hk2 hk3 hk4 hk5=>?_);have hds:∀x,x∈Ds->x<W.heap.size/\wr.heap.size<=x:=fun x hx=>⟨(zuH.1 (HDs.out.2 x hx).2).1,(HDs.out.2 x hx).1⟩
     have hdd:∀x,x∈Ds->W4.heap[x]?=some (.deferred (some [])):=fun x hx=>(Htc.out.same x (hds x hx).1 (by have:=(hds x hx).2;show ¬(x=W3.heap.size);omega)).trans (HDs.out.2 x hx).2
     have sz4:=Htc.out.size;refine⟨.pointer (some ⟨W3.heap.size,0,none⟩),by simp[results,Tryz.results142,go_sem],W3.heap.size,_,a',b',O1,O2,rfl,Hst.out.marks (fun k h=>hk1 k (fun hm=>h _ (hdd k hm))) (fun k h=>hk1 k (fun hm=>by have:=Hnw2.out k h;have:=(hds k hm).1;omega)) (hk1 0 (fun hm=>by have:=(hds 0 hm).2;omega)) (by omega),ha,hb,Hrw.out,Hem.out,by show w.heap.size<=w1.heap.size;exact hb1.size,hn2,by show nw=_;rw[Hwt.out,zuO];exact Hnw.out,?_⟩;have hbf:∀k,k<w.heap.size->W'.heap[k]?=w.heap[k]?:=fun k hk=>by
      have h1:=hb1.size;have h2:=hb02.size;rw[hk1 k (fun hm=>by have:=(hds k hm).2;omega),Htc.out.same k (by omega) (by show ¬(k=W3.heap.size);omega),Hs3.out k (by omega),HD.out.kp.low k (by omega)];exact hb02.block k hk
     exact⟨hk3.trans (Htc.out.os.trans (HB.out.tc.os.trans (HA.out.tc.os.trans (hb5.os.trans (HD.out.kp.os.trans hb02.os))))),hk4.trans (Htc.out.tape.trans (HB.out.tc.tape.trans (HA.out.tc.tape.trans (hb5.tape.trans (HD.out.kp.tape.trans hb02.tape))))),hk5.trans (Htc.out.output.trans (HB.out.tc.output.trans (HA.out.tc.output.trans (hb5.output.trans (HD.out.kp.output.trans hb02.output))))),by have:=hb1.size;have:=hb02.size;omega,hbf⟩
end
section
variable{u:Word}{i n e m k:Nat}{p q b:Pt}{l:List Up}
theorem zo6(u:Word){i n a b:Nat}(hb:b<=n):(((u.drop i).take n).drop a).take (b-a)=(u.drop (i+a)).take (b-a):=by
 rw[List.drop_take,List.take_take,List.drop_drop,zvO (by omega)]
theorem zeA(hn:i+n<=u.length){p:Pt}{a b:Nat}(hb:b<=n):Lg ((u.drop i).take n) p a b↔Lg u p (i+a) (i+b):=by
 unfold Lg;rw[zo6 u hb,show i+b-(i+a)=b-a from by omega];have hl:((u.drop i).take n).length=n:=by simp;omega
 rw[hl];constructor
 ·rintro ⟨h1,h2,h3⟩;exact⟨by omega,by omega,h3⟩
 ·rintro ⟨h1,h2,h3⟩;exact⟨by omega,by omega,h3⟩
def noG:Pt->Prop
 |.set _=>True
 |.seq p q=>noG p/\noG q
 |.alt p q=>noG p/\noG q
 |.rep b _ _=>noG b
 |.grp _ _=>False
theorem zhe{u:Word}:∀(p:Pt),noG p->∀(i j:Nat) (l:List Up),Pl u p i j l->l=[]
 |.set _,_,_,_,_,h=>h
 |.grp _ _,h,_,_,_,_=>h.elim
 |.seq p q,hn,i,j,_,⟨k,l1,l2,_,h1,h2,e⟩=>by
  rw[e,zhe p hn.1 i k l1 h1,zhe q hn.2 k j l2 h2];rfl
 |.alt p q,hn,i,j,l,h=>by
  rcases h with ⟨_,h⟩|⟨_,h⟩
  ·exact zhe p hn.1 i j l h
  ·exact zhe q hn.2 i j l h
 |.rep b mn mx,hn,i,j,l,h=>by
  replace h:CpR (Lg u b) (Pl u b) (fun mn mx i j=>Lg u (.rep b mn mx) i j) mn.toNat mx i j l:=h;have ih:=zhe (u:=u) b hn;clear hn;generalize mn.toNat=n at h
  induction h with
  |done=>rfl
  |void=>rfl
  |out=>rfl
  |must _ _ i j k l1 l2 _ h1 _ ihc=>rw[ih i k l1 h1,ihc];rfl
  |may _ i j k l1 l2 _ _ h1 _ ihc=>rw[ih i k l1 h1,ihc];rfl
  |more i j k l1 l2 _ _ h1 _ ihc=>rw[ih i k l1 h1,ihc];rfl
abbrev Laid:=List (Pt×Nat)
inductive LdR (u:Word):Laid->Nat->List Up->Prop
 |nil (i:Nat):LdR u [] i []
 |cons (q:Pt) (e:Nat) (L:Laid) (i:Nat) (l1 l2:List Up):Pl u q i e l1->LdR u L e l2->LdR u ((q,e)::L) i (l1++l2)
def LdOk(u:Word)(j:Nat):Laid->Nat->Prop
 |[],_=>True
 |(q,e)::L,i=>Lg u q i e/\e<=j/\LdOk u j L e
def shL(i:Nat)(L:Laid):Laid:=L.map fun x=>(x.1,i+x.2)
def zeK:Pt->Nat->Nat->List Up
 |.grp _ g,i,j=>[(g,i,j)]
 |_,_,_=>[]
def LayP(u:Word)(p:Pt)(i j:Nat)(L:Laid):Prop:=LdOk u j L i/\∀l,LdR u L i l->Pl u p i j (zeK p i j++l)
abbrev Lnk:=Pt×Bool
def TlP(u:Word)(n:Nat):List Lnk->Nat->Prop
 |[],m=>m=n
 |(q,o)::ls,m=>(∃e,TlP u n ls e/\Lg u q m e)\/(o=true/\m=n)
theorem TlP.le:∀{ls:List Lnk} {m:Nat},TlP u n ls m->m<=n
 |[],_,h=>Nat.le_of_eq h
 |(_,_)::ls,_,h=>by
  rcases h with ⟨e,h1,h2⟩|⟨_,h⟩
  ·exact zvK h2.1 (TlP.le h1)
  ·exact Nat.le_of_eq h
inductive ChR (u:Word) (n:Nat):List Lnk->Nat->Laid->Prop
 |nil (i:Nat):ChR u n [] i []
 |stop (q:Pt) (o:Bool) (ls:List Lnk) (i:Nat):(∀e,TlP u n ls e->¬Lg u q i e)->ChR u n ((q,o)::ls) i []
 |cons (q:Pt) (o:Bool) (ls:List Lnk) (i e:Nat) (L:Laid):Gre (fun e=>Lg u q i e/\TlP u n ls e) i n e->ChR u n ls e L->ChR u n ((q,o)::ls) i ((q,e)::L)
theorem zjA(hn:i+n<=u.length):∀(ls:List Lnk) (m:Nat),m<=n->(TlP ((u.drop i).take n) n ls m↔TlP u (i+n) ls (i+m))
 |[],m,hm=>⟨fun h=>by have h:m=n:=h;subst h;rfl,fun h=>by have h:i+m=i+n:=h;show m=n;omega⟩
 |(q,o)::ls,m,hm=>by
  constructor
  ·rintro (⟨e,h1,h2⟩|⟨h1,h2⟩)
   ·have he:=h1.le;exact .inl ⟨i+e,(zjA hn ls e he).1 h1,(zeA hn he).1 h2⟩
   ·exact .inr ⟨h1,by omega⟩
  ·rintro (⟨e,h1,h2⟩|⟨h1,h2⟩)
   ·have he:=h1.le;have h3:=h2.1;obtain⟨x,rfl⟩:∃x,e=i+x:=⟨e-i,by omega⟩;exact .inl ⟨x,(zjA hn ls x (by omega)).2 h1,(zeA hn (by omega)).2 h2⟩
   ·exact .inr ⟨h1,by omega⟩
theorem zpw{P Q:Nat->Prop}{a:Nat}(h:Gre P a n e)(hc:∀x,x<=n->(P x↔Q (i+x))):Gre Q (i+a) (i+n) (i+e):=by
 refine⟨by have:=h.1;omega,by have:=h.2.1;omega,(hc e h.2.1).1 h.2.2.1,fun m h1 h2 h3=>?_⟩;obtain⟨x,rfl⟩:∃x,m=i+x:=⟨m-i,by omega⟩;exact h.2.2.2 x (by omega) (by omega) ((hc x (by omega)).2 h3)
theorem zoS(hn:i+n<=u.length){ls:List Lnk}{a:Nat}{L:Laid}(h:ChR ((u.drop i).take n) n ls a L):a<=n->ChR u (i+n) ls (i+a) (shL i L):=by
 induction h with
 |nil a=>intro _;exact .nil _
 |stop q o ls a h=>
  intro ha;refine .stop q o ls _ fun e h1 h2=>?_
  have:=h1.le;have h3:=h2.1;obtain⟨x,rfl⟩:∃x,e=i+x:=⟨e-i,by omega⟩;exact h x ((zjA hn ls x (by omega)).2 h1) ((zeA hn (by omega)).2 h2)
 |cons q o ls a e L h _ ih=>
  intro ha;exact .cons q o ls _ _ _ (zpw h fun x hx=>and_congr (zeA hn hx) (zjA hn ls x hx)) (ih h.2.1)
def zcy:Pt->List Pt
 |.seq l r=>l::zcy r
 |p=>[p]
def zfc(qs:List Pt):List Lnk:=qs.map fun q=>(q,false)
theorem zhy:TlP u n [(p,false)] m↔Lg u p m n:=by
 constructor
 ·rintro (⟨e,h1,h2⟩|⟨h,_⟩)
  ·have h1:e=n:=h1;subst h1;exact h2
  ·cases h
 ·intro h;exact .inl ⟨n,rfl,h⟩
theorem zhz:∀(p:Pt) (m:Nat),TlP u n (zfc (zcy p)) m↔Lg u p m n
 |.seq l r,m=>by
  rw[zpM];constructor
  ·rintro (⟨e,h1,h2⟩|⟨h,_⟩)
   ·exact⟨e,h2,(zhz r e).1 h1⟩
   ·cases h
  ·rintro ⟨e,h1,h2⟩;exact .inl ⟨e,(zhz r e).2 h2,h1⟩
 |.set _,m=>zhy
 |.alt _ _,m=>zhy
 |.rep _ _ _,m=>zhy
 |.grp _ _,m=>zhy
theorem zly(h:LdR u [(q,e)] i l):Pl u q i e l:=by
 cases h with
 |cons _ _ _ _ l1 l2 h1 h2=>cases h2;rw[zuS];exact h1
theorem zgE{L:Laid}(h:ChR u n [(p,false)] i L)(hp:Lg u p i n):LdOk u n L i/\∀l,LdR u L i l->Pl u p i n l:=by
 cases h with
 |stop _ _ _ _ h=>exact absurd hp (h n rfl)
 |cons _ _ _ _ e L g h=>
  have he:e=n:=g.2.2.1.2;subst he;cases h;exact⟨⟨hp,zvJ _,trivial⟩,fun l hl=>zly hl⟩
theorem zoV:∀(p:Pt) (i:Nat) (L:Laid),ChR u n (zfc (zcy p)) i L->Lg u p i n->LdOk u n L i/\∀l,LdR u L i l->Pl u p i n l
 |.seq a r,i,L,h,hp=>by
  cases h with
  |stop _ _ _ _ h=>
   obtain⟨e,h1,h2⟩:=zpM.1 hp;exact absurd h1 (h e ((zhz r e).2 h2))
  |cons _ _ _ _ e L g h=>
   have g':=g.congr (Q:=fun e=>Lg u a i e/\Lg u r e n) fun m _ _=>and_congr Iff.rfl (zhz r m)
   obtain⟨h1,h2⟩:=zoV r e L h g'.2.2.1.2;refine⟨⟨g'.2.2.1.1,g'.2.1,h1⟩,fun l hl=>?_⟩;cases hl with
   |cons _ _ _ _ l1 l2 k1 k2=>exact⟨e,l1,l2,g',k1,h2 l2 k2,rfl⟩
 |.set _,i,L,h,hp=>zgE h hp
 |.alt _ _,i,L,h,hp=>zgE h hp
 |.rep _ _ _,i,L,h,hp=>zgE h hp
 |.grp _ _,i,L,h,hp=>zgE h hp
def repL(b:Pt)(mn:Nat)(mx:Int):List Lnk:=List.replicate mn (b,false)++(List.replicate (mx-mn).toNat (b,true)++(if mx=-1 then [(.rep b 0 (-1),false)] else []))
def zeL(mx:Int):Int:=if 0<mx then mx-1 else mx
theorem zhj(b:Pt)(mn:Nat)(mx:Int)(h:mx=-1\/(mn:Int)+1<=mx):repL b (mn+1) mx=(b,false)::repL b mn (zeL mx):=by
 unfold repL zeL;rcases h with rfl|h
 ·simp[List.replicate_succ];omega
 ·have e1:(if 0<mx then mx-1 else mx)=mx-1:=zv3 (by omega);have e2:¬mx=-1:=by omega
  have e3:¬mx-1=-1:=by omega
  rw[e1,zv2 e2,zv2 e3,show (mx-((mn+1:Nat):Int)).toNat=(mx-1-(mn:Int)).toNat from by omega];simp[List.replicate_succ]
theorem zjn(b:Pt)(k:Nat):repL b 0 ((k+1:Nat):Int)=(b,true)::repL b 0 (k:Int):=by
 unfold repL;rw[zv2 (by omega),zv2 (by omega),show (((k+1:Nat):Int)-((0:Nat):Int)).toNat=k+1 from by omega,show ((k:Int)-((0:Nat):Int)).toNat=k from by omega];simp[List.replicate_succ]
theorem zhk(b:Pt):repL b 0 0=[]:=by simp[repL]
theorem zhi(b:Pt):repL b 0 (-1)=[(.rep b 0 (-1),false)]:=by simp[repL]
theorem ztp(hn:n<=u.length):Lg u (.rep b ((0:Nat):Int) ((0:Nat):Int)) m n↔m=n:=by
 rw[zdR];constructor
 ·rintro ⟨_,k,_,h2,h3⟩;obtain rfl:k=0:=by omega
  exact h3
 ·intro h;exact⟨hn,0,by omega,.inr (by omega),h⟩
theorem zua(hn:n<=u.length):Lg u (.rep b ((0:Nat):Int) ((k+1:Nat):Int)) m n↔(∃e,Lg u (.rep b ((0:Nat):Int) (k:Int)) e n/\Lg u b m e)\/m=n:=by
 constructor
 ·intro h;rcases ztw (by omega) h with h|⟨e,h1,h2⟩
  ·exact .inr h
  ·rw[show ((k+1:Nat):Int)-1=(k:Int) from by omega] at h2;exact .inl ⟨e,h2,h1⟩
 ·rintro (⟨e,h1,h2⟩|rfl)
  ·obtain⟨h3,x,h4,h5,h6⟩:=zdR.1 h1;exact zdR.2 ⟨hn,x+1,by omega,.inr (by omega),e,h2,h6⟩
  ·exact zgU hn _ (.inr (by omega))
theorem zeT(hn:n<=u.length){b:Pt}:∀(mn:Nat) (mx:Int),(mx=-1\/(mn:Int)<=mx)->∀m,TlP u n (repL b mn mx) m↔Lg u (.rep b mn mx) m n
 |mn+1,mx,hb,m=>by
  rw[zhj b mn mx (by omega),zl8 (by omega)];constructor
  ·rintro (⟨e,h1,h2⟩|⟨h,_⟩)
   ·exact⟨e,h2,(zeT hn mn (zeL mx) (by unfold zeL;split<;>omega) e).1 h1⟩
   ·cases h
  ·rintro ⟨e,h1,h2⟩;exact .inl ⟨e,(zeT hn mn (zeL mx) (by unfold zeL;split<;>omega) e).2 h2,h1⟩
 |0,mx,hb,m=>by
  rcases hb with rfl|hb
  ·rw[zhi];exact zhy
  ·obtain⟨k,rfl⟩:∃k:Nat,mx=k:=⟨mx.toNat,by omega⟩;clear hb
   induction k generalizing m with
   |zero=>rw[ztp hn];show TlP u n (repL b 0 0) m↔_;rw[zhk];exact Iff.rfl
   |succ k ih=>
    rw[zjn,zua hn];show (∃e,TlP u n (repL b 0 (k:Int)) e/\Lg u b m e)\/(true=true/\m=n)↔_;constructor
    ·rintro (⟨e,h1,h2⟩|⟨_,h⟩)
     ·exact .inl ⟨e,(ih e).1 h1,h2⟩
     ·exact .inr h
    ·rintro (⟨e,h1,h2⟩|h)
     ·exact .inl ⟨e,(ih e).2 h1,h2⟩
     ·exact .inr ⟨rfl,h⟩
theorem zoU(hn:n<=u.length){b:Pt}:∀(mn:Nat) (mx:Int),(mx=-1\/(mn:Int)<=mx)->∀(i:Nat) (L:Laid),ChR u n (repL b mn mx) i L->Lg u (.rep b mn mx) i n->LdOk u n L i/\∀l,LdR u L i l->CpR (Lg u b) (Pl u b) (fun mn mx i j=>Lg u (.rep b mn mx) i j) mn mx i n l
 |mn+1,mx,hb,i,L,h,hp=>by
  have hb':zeL mx=-1\/(mn:Int)<=zeL mx:=by unfold zeL;split<;>omega
  rw[zhj b mn mx (by omega)] at h;cases h with
  |stop _ _ _ _ h=>
   obtain⟨e,h1,h2⟩:=(zl8 (by omega)).1 hp;exact absurd h1 (h e ((zeT hn mn (zeL mx) hb' e).2 h2))
  |cons _ _ _ _ e L g h=>
   have g':=g.congr (Q:=fun e=>Lg u b i e/\Lg u (.rep b mn (zeL mx)) e n) fun m _ _=>and_congr Iff.rfl (zeT hn mn (zeL mx) hb' m)
   obtain⟨h1,h2⟩:=zoU hn mn (zeL mx) hb' e L h g'.2.2.1.2;refine⟨⟨g'.2.2.1.1,g'.2.1,h1⟩,fun l hl=>?_⟩;cases hl with
   |cons _ _ _ _ l1 l2 k1 k2=>exact .must mn mx i n e l1 l2 g' k1 (h2 l2 k2)
 |0,mx,hb,i,L,h,hp=>by
  rcases hb with rfl|hb
  ·rw[zhi] at h;exact zgE h hp
  ·obtain⟨k,rfl⟩:∃k:Nat,mx=k:=⟨mx.toNat,by omega⟩;clear hb
   induction k generalizing i L with
   |zero=>
    have h:ChR u n (repL b 0 0) i L:=h;rw[zhk] at h;cases h;exact⟨trivial,fun l hl=>by cases hl;exact .done i n⟩
   |succ k ih=>
    rw[zjn] at h;have e0:((k+1:Nat):Int)-1=(k:Int):=by omega
    have ht:=fun m=>zeT hn (b:=b) 0 (k:Int) (.inr (by omega)) m
    cases h with
    |stop _ _ _ _ h=>
     refine⟨trivial,fun l hl=>?_⟩;cases hl;refine .out _ i n (by omega) fun x _ _ ⟨h1,h2⟩=>h x ((ht x).2 ?_) h1
     rw[e0] at h2;exact h2
    |cons _ _ _ _ e L g h=>
     have g':=g.congr (Q:=fun e=>Lg u b i e/\Lg u (.rep b ((0:Nat):Int) (k:Int)) e n) fun m _ _=>and_congr Iff.rfl (ht m)
     obtain⟨h1,h2⟩:=ih e L h g'.2.2.1.2;refine⟨⟨g'.2.2.1.1,g'.2.1,h1⟩,fun l hl=>?_⟩;cases hl with
     |cons _ _ _ _ l1 l2 k1 k2=>exact .may _ i n e l1 l2 (by omega) (by rw[e0];exact g') k1 (by rw[e0];exact h2 l2 k2)
inductive RoR (u:Word) (n:Nat) (b:Pt):Nat->Laid->Prop
 |done:RoR u n b n []
 |more (i e:Nat) (L:Laid):i<n->Gre (fun e=>Lg u b i e/\Lg u (.rep b 0 (-1)) e n) (i+1) n e->RoR u n b e L->RoR u n b i ((b,e)::L)
theorem ztC(hn:i+n<=u.length){b:Pt}{a:Nat}{L:Laid}(h:RoR ((u.drop i).take n) n b a L):RoR u (i+n) b (i+a) (shL i L):=by
 induction h with
 |done=>exact .done
 |more a e L hi g _ ih=>exact .more _ _ _ (by omega) (zpw (a:=a+1) g fun x hx=>and_congr (zeA hn hx) (zeA hn (zvJ n))) ih
theorem zup{L:Laid}(h:RoR u n b i L):LdOk u n L i/\∀l,LdR u L i l->CpR (Lg u b) (Pl u b) (fun mn mx i j=>Lg u (.rep b mn mx) i j) 0 (-1) i n l:=by
 induction h with
 |done=>exact⟨trivial,fun l hl=>by cases hl;exact .void n⟩
 |more i e L hi g _ ih=>
  refine⟨⟨g.2.2.1.1,g.2.1,ih.1⟩,fun l hl=>?_⟩;cases hl with
  |cons _ _ _ _ l1 l2 k1 k2=>exact .more i n e l1 l2 hi g k1 (ih.2 l2 k2)
def zbf:Pt->List Pt
 |.alt l r=>zbf l++zbf r
 |p=>[p]
def ChoR(u:Word)(i n:Nat)(qs:List Pt)(L:Laid):Prop:=∃(k:Nat) (q:Pt),qs[k]?=some q/\(∀(j:Nat) (q':Pt),j<k->qs[j]?=some q'->¬Lg u q' i n)/\Lg u q i n/\L=[(q,n)]
theorem ze1:∀(p:Pt),Lg u p i n↔∃q∈zbf p,Lg u q i n
 |.alt l r=>by
  rw[zpK,ze1 l,ze1 r];constructor
  ·rintro (⟨q,h1,h2⟩|⟨q,h1,h2⟩)
   ·exact⟨q,zvo.2 (.inl h1),h2⟩
   ·exact⟨q,zvo.2 (.inr h1),h2⟩
  ·rintro ⟨q,h1,h2⟩;rcases zvo.1 h1 with h1|h1
   ·exact .inl ⟨q,h1,h2⟩
   ·exact .inr ⟨q,h1,h2⟩
 |.set _=>⟨fun h=>⟨_,zvv.2 rfl,h⟩,fun⟨q,h1,h2⟩=>by obtain rfl:=zvv.1 h1;exact h2⟩
 |.seq _ _=>⟨fun h=>⟨_,zvv.2 rfl,h⟩,fun⟨q,h1,h2⟩=>by obtain rfl:=zvv.1 h1;exact h2⟩
 |.rep _ _ _=>⟨fun h=>⟨_,zvv.2 rfl,h⟩,fun⟨q,h1,h2⟩=>by obtain rfl:=zvv.1 h1;exact h2⟩
 |.grp _ _=>⟨fun h=>⟨_,zvv.2 rfl,h⟩,fun⟨q,h1,h2⟩=>by obtain rfl:=zvv.1 h1;exact h2⟩
theorem ziS(h:[p][k]?=some q)(hl:Pl u q i n l):Pl u p i n l:=by
 cases k with
 |zero=>simp at h;subst h;exact hl
 |succ k=>simp at h
theorem zoR:∀(p:Pt) (k:Nat),(zbf p)[k]?=some q->(∀j q',j<k->(zbf p)[j]?=some q'->¬Lg u q' i n)->Lg u q i n->Pl u q i n l->Pl u p i n l
 |.alt a r,k,h,hf,hq,hl=>by
  by_cases hk:k<(zbf a).length
  ·have h1:(zbf a)[k]?=some q:=by rw[<-h];exact(zu5 hk).symm
   exact .inl ⟨(ze1 a).2 ⟨q,zvt h1,hq⟩,zoR a k h1 (fun j q' hj e=>hf j q' hj (by rw[<-e];exact zu5 (by omega))) hq hl⟩
  ·have h1:(zbf r)[k-(zbf a).length]?=some q:=by rw[<-h];exact(zu6 (by omega)).symm
   refine .inr ⟨fun hc=>?_,zoR r _ h1 (fun j q' hj e=>hf ((zbf a).length+j) q' (by omega) (by rw[<-e];exact(zu6 (by omega)).trans (by congr 1;omega))) hq hl⟩;obtain⟨q',h2,h3⟩:=(ze1 a).1 hc;obtain⟨j,hj,e⟩:=List.getElem_of_mem h2;exact hf j q' (by omega) (by show (zbf a++zbf r)[j]?=_;rw[zu5 hj,zva hj,e]) h3
 |.set _,k,h,_,_,hl=>ziS h hl
 |.seq _ _,k,h,_,_,hl=>ziS h hl
 |.rep _ _ _,k,h,_,_,hl=>ziS h hl
 |.grp _ _,k,h,_,_,hl=>ziS h hl
def LayC(u:Word)(i n:Nat):Pt->Laid->Prop
 |.set _,L=>L=[]
 |.grp b _,L=>L=[(b,n)]
 |.alt p q,L=>ChoR u i n (zbf (.alt p q)) L
 |.seq p q,L=>ChR u n (zfc (zcy (.seq p q))) i L
 |.rep b mn mx,L=>if mn=0/\mx=-1 then RoR u n b i L else ChR u n (repL b mn.toNat mx) i L
theorem zrJ(hn:i+n<=u.length):∀(p:Pt) (L:Laid),LayC ((u.drop i).take n) 0 n p L->LayC u i (i+n) p (shL i L)
 |.set _,L,h=>by have h:L=[]:=h;subst h;rfl
 |.grp b _,L,h=>by have h:L=[(b,n)]:=h;subst h;rfl
 |.alt p q,L,⟨k,x,h1,h2,h3,h4⟩=>⟨k,x,h1,fun j q' hj e h=>h2 j q' hj e ((zeA hn (zvJ n)).2 h),(zeA hn (zvJ n)).1 h3,by subst h4;rfl⟩
 |.seq p q,L,h=>zoS hn (a:=0) h (zvT _)
 |.rep b mn mx,L,h=>by
  replace h:if mn=0/\mx=-1 then RoR ((u.drop i).take n) n b 0 L else ChR ((u.drop i).take n) n (repL b mn.toNat mx) 0 L:=h
  show if mn=0/\mx=-1 then RoR u (i+n) b i (shL i L) else ChR u (i+n) (repL b mn.toNat mx) i (shL i L)
  by_cases e:mn=0/\mx=-1
  ·rw[zv3 e] at h ⊢;exact ztC hn (a:=0) h
  ·rw[zv2 e] at h ⊢;exact zoS hn (a:=0) h (zvT _)
theorem zto(hn:n<=u.length):∀(p:Pt) (L:Laid),OkP p->(∀f,p≠.set f)->Lg u p i n->LayC u i n p L->LayP u p i n L
 |.set f,L,_,hs,_,_=>absurd rfl (hs f)
 |.grp b g,L,_,_,hp,h=>by
  have h:L=[(b,n)]:=h;subst h;exact⟨⟨hp,zvJ _,trivial⟩,fun l hl=>⟨l,rfl,zly hl⟩⟩
 |.alt p q,L,_,_,_,⟨k,x,h1,h2,h3,h4⟩=>by
  subst h4;exact⟨⟨h3,zvJ _,trivial⟩,fun l hl=>zoR (.alt p q) k h1 h2 h3 (zly hl)⟩
 |.seq p q,L,_,_,hp,h=>zoV (.seq p q) i L h hp
 |.rep b mn mx,L,ho,_,hp,h=>by
  obtain⟨_,h1,h2⟩:=ho;obtain⟨m,rfl⟩:∃m:Nat,mn=m:=⟨mn.toNat,by omega⟩;replace h:if (m:Int)=0/\mx=-1 then RoR u n b i L else ChR u n (repL b m mx) i L:=h
  by_cases e:(m:Int)=0/\mx=-1
  ·rw[zv3 e] at h;obtain⟨e1,rfl⟩:=e;obtain rfl:m=0:=by omega
   exact zup h
  ·rw[zv2 e] at h;exact zoU hn m mx h2 i L h hp
end
section
variable{O O1 O2:Nat -> Prop}{w:World}{r nw bt ga gl gm gv m s:Nat}{lv sS sP:Value}{L gx:Nat -> Nat}{Ts:Nat -> Nat -> Nat}{es:List (Int×Int)}{a b:RdV}{v:StV}
open Go.RowKit
attribute [local go_sem ↓] Go.wp_at_zero Go.wp_at_succ
def Omin(r gm gv:Nat)(sS sP:Value)(gx:Nat->Nat)(m:Nat)(k:Nat):Prop:=k=r\/k=gm\/k=gv\/sS.ownBlock=some k\/sP.ownBlock=some k\/∃i,i<m/\k=gx i
theorem RdS.least(h:RdS O w r nw bt ga gl lv L gm gv sS sP gx Ts m es):RdS (Omin r gm gv sS sP gx m) w r nw bt ga gl lv L gm gv sS sP gx Ts m es:=
 ⟨h.box,h.nm,h.mv,h.so,h.po,h.set,h.dif,.inl rfl,.inr (.inl rfl),.inr (.inr (.inl rfl)),fun _ e=>.inr (.inr (.inr (.inl e))),fun _ e=>.inr (.inr (.inr (.inr (.inl e)))),fun i hi=>.inr (.inr (.inr (.inr (.inr ⟨i,hi,rfl⟩)))),h.nd⟩
theorem RdS.leastO(h:RdS O w r nw bt ga gl lv L gm gv sS sP gx Ts m es){k:Nat}(hk:Omin r gm gv sS sP gx m k):O k:=by
 rcases hk with rfl|rfl|rfl|e|e|⟨i,hi,rfl⟩
 ·exact h.or
 ·exact h.om
 ·exact h.ov
 ·exact h.os k e
 ·exact h.op k e
 ·exact h.ox i hi
theorem RdS.noM(h:RdS O w r nw bt ga gl lv L gm gv sS sP gx Ts m es){k:Nat}(hk:Omin r gm gv sS sP gx m k){cs:Array Value}:w.heap[k]?≠some (.cells cs 293 (0,0)):=fun e=>by
 rcases hk with rfl|rfl|rfl|e2|e2|⟨i,hi,rfl⟩
 ·rw[h.box] at e;exact absurd (zad e) (by decide)
 ·rw[h.nm] at e;cases e
 ·rw[h.mv] at e;cases e
 ·obtain⟨-,cur,e3⟩:=zaZ h.so e2;rw[e3] at e;exact absurd (zad e) (by decide)
 ·obtain⟨-,cur,e3⟩:=zaZ h.po e2;rw[e3] at e;exact absurd (zad e) (by decide)
 ·rw[(h.set i hi).row] at e;exact absurd (zad e) (by decide)
theorem zm3{B:Nat}{n:Nat}{sv fv:Value}{lr mk:Nat->Nat}{Lk:Nat->Nat->Nat}{A:Nat->Nat}{f:Nat->Nat->Bool}(C:StC B w n nw bt ga gl lv sv fv lr mk Lk A L f)(hO:∀k,O k->B<=k/\k<w.heap.size)(h:RdS O w r nw bt ga gl lv L gm gv sS sP gx Ts m es)(hM:MvOk nw f Lk A Ts m es)(hS:zk4 n nw Ts m)(i c:Nat)(b:Bool)(hi:i<m)(hc:c<256)(hm:m<=100000000):
  Calls Tryz.prog 147 #[.pointer (some ⟨r,0,none⟩),.int .i64 i,.int .u8 c,.bool b] w fun e w'=>znn O w n r nw bt ga gl lv f Lk A L gm gv gx Ts m i c b e w'/\zaT w w':=by
 refine(ztA C (O:=Omin r gm gv sS sP gx m) (fun k hk=>hO k (h.leastO hk)) h.least hM hS i c b hi hc hm).mono ?_;rintro e w' ⟨t,m',sS',sP',gx',Ts',es',h1,h2,h3,h4,h5,h6,h7,h8,h9,tc⟩;exact⟨⟨t,m',sS',sP',gx',Ts',es',h1,h2.mono fun k hk=>hk.elim (fun x=>.inl (h.leastO x)) .inr,h3,h4,h5,h6,h7,h8,h9,tc.mono fun k _ hk=>h.leastO hk⟩,fun mg f e=>(tc.same mg (zuH.1 e).1 (fun ho=>h.noM ho e)).trans e⟩
structure RdN(a a':RdV):Prop where
 r:a'.r=a.r
 lo:a.m<=a'.m
 old:∀j,j<a.m->a'.gx j=a.gx j/\a'.Ts j=a.Ts j
theorem RdN.refl(a:RdV):RdN a a:=⟨rfl,zvJ _,fun _ _=>⟨rfl,rfl⟩⟩
theorem RdN.trans{c:RdV}(h:RdN a b)(k:RdN b c):RdN a c:=⟨k.r.trans h.r,zvK h.lo k.lo,fun j hj=>by
 have h1:=h.old j hj;have h2:=k.old j (zvL hj h.lo);exact⟨h2.1.trans h1.1,h2.2.trans h1.2⟩⟩
def news(O:Nat->Prop)(w w':World)(k:Nat):Prop:=O k\/(w.heap.size<=k/\k<w'.heap.size)
def RdBk(O1 O2:Nat->Prop)(w:World)(s:Nat)(v:StV)(a b:RdV)(i c:Nat)(bg:Bool)(e:Ending)(w':World):Prop:=
 ∃(t:Nat) (b':RdV),e=.returned (.int .i64 t)/\t<b'.m/\b'.m<=b.m+1/\RdN b b'/\zgz v.nw v.f v.G v.L (b.Ts i) c bg (b'.Ts t)/\Strd O1 (news O2 w w') w' s v a b'/\zam O2 w w'/\zaT w w'
theorem zm2(h:Strd O1 O2 w s v a b)(i c:Nat)(bg:Bool)(hi:i<b.m)(hc:c<256)(hm:b.m<=100000000):
  Calls Tryz.prog 147 #[.pointer (some ⟨b.r,0,none⟩),.int .i64 i,.int .u8 c,.bool bg] w fun e w'=>RdBk O1 O2 w s v a b i c bg e w':=by
 refine(zm3 h.c.c2 h.o2 h.rb.s h.rb.mv h.rb.sets i c bg hi hc hm).mono ?_;rintro e w' ⟨⟨t,m',sS,sP,gx',Ts',es',rfl,hR,ht,hm1,hm2,hold,hst,hmv,hsb,tc⟩,km⟩;have hle:=h.c.c1.le;have hsz:=tc.size;have lowB:∀k,k<v.B->w'.heap[k]?=w.heap[k]?:=fun k hk=>tc.same k (by omega) (fun ho=>by have:=(h.o2 k ho).1;omega)
 refine⟨t,⟨b.r,b.gm,b.gv,sS,sP,gx',Ts',m',es'⟩,rfl,ht,hm2,⟨rfl,hm1,hold⟩,hst,⟨(lowB s h.c.s1).trans h.box,⟨h.c.c1.keep lowB (by omega),h.c.c2.keep lowB (by omega),h.c.p0,h.c.s0,h.c.s1,h.c.tb,h.c.ab,h.c.lb,h.c.sb,h.c.fb,h.c.bb,h.c.frb,h.c.brb,h.c.ne⟩,h.ra.keep (fun k h1 _=>tc.same k (h.o1 k h1).2 (h.o12 k h1)),⟨hR,hmv,hsb,fun x hx=>?_,by show 0<m';omega⟩,fun k hk=>⟨(h.o1 k hk).1,zvL (h.o1 k hk).2 hsz⟩,fun k hk=>?_,fun k h1 h2=>?_⟩,tc,km⟩
 ·show Ts' 0 x=0;rw[(hold 0 h.rb.pos).2];exact h.rb.zero x hx
 ·rcases hk with hk|hk
  ·exact⟨(h.o2 k hk).1,zvL (h.o2 k hk).2 hsz⟩
  ·exact⟨by omega,hk.2⟩
 ·rcases h2 with h2|h2
  ·exact h.o12 k h1 h2
  ·have:=(h.o1 k h1).2;omega
def RdAh(O1 O2:Nat->Prop)(w:World)(s:Nat)(v:StV)(a b:RdV)(i c:Nat)(bg:Bool)(e:Ending)(w':World):Prop:=
 ∃(t:Nat) (a':RdV),e=.returned (.int .i64 t)/\t<a'.m/\a'.m<=a.m+1/\RdN a a'/\zgz v.nw v.f v.F v.A (a.Ts i) c bg (a'.Ts t)/\Strd (news O1 w w') O2 w' s v a' b/\zam O1 w w'/\zaT w w'
theorem zsd(h:Strd O1 O2 w s v a b)(i c:Nat)(bg:Bool)(hi:i<a.m)(hc:c<256)(hm:a.m<=100000000):
  Calls Tryz.prog 147 #[.pointer (some ⟨a.r,0,none⟩),.int .i64 i,.int .u8 c,.bool bg] w fun e w'=>RdAh O1 O2 w s v a b i c bg e w':=by
 refine(zm3 h.c.c1 h.o1 h.ra.s h.ra.mv h.ra.sets i c bg hi hc hm).mono ?_;rintro e w' ⟨⟨t,m',sS,sP,gx',Ts',es',rfl,hR,ht,hm1,hm2,hold,hst,hmv,hsb,tc⟩,km⟩;have hle:=h.c.c1.le;have hsz:=tc.size;have lowB:∀k,k<v.B->w'.heap[k]?=w.heap[k]?:=fun k hk=>tc.same k (by omega) (fun ho=>by have:=(h.o1 k ho).1;omega)
 refine⟨t,⟨a.r,a.gm,a.gv,sS,sP,gx',Ts',m',es'⟩,rfl,ht,hm2,⟨rfl,hm1,hold⟩,hst,⟨(lowB s h.c.s1).trans h.box,⟨h.c.c1.keep lowB (by omega),h.c.c2.keep lowB (by omega),h.c.p0,h.c.s0,h.c.s1,h.c.tb,h.c.ab,h.c.lb,h.c.sb,h.c.fb,h.c.bb,h.c.frb,h.c.brb,h.c.ne⟩,⟨hR,hmv,hsb,fun x hx=>?_,by show 0<m';omega⟩,h.rb.keep (fun k h1 _=>tc.same k (h.o2 k h1).2 (fun ho=>h.o12 k ho h1)),fun k hk=>?_,fun k hk=>⟨(h.o2 k hk).1,zvL (h.o2 k hk).2 hsz⟩,fun k h1 h2=>?_⟩,tc,km⟩
 ·show Ts' 0 x=0;rw[(hold 0 h.ra.pos).2];exact h.ra.zero x hx
 ·rcases hk with hk|hk
  ·exact⟨(h.o1 k hk).1,zvL (h.o1 k hk).2 hsz⟩
  ·exact⟨by omega,hk.2⟩
 ·rcases h1 with h1|h1
  ·exact h.o12 k h1 h2
  ·have:=(h.o2 k h2).2;omega
theorem Strd.other{w':World}(h:Strd O1 O2 w s v a b){S:Nat->Prop}(tc:zam S w w')(hB:∀k,S k->v.B<=k)(h1:∀k,S k->¬O1 k)(h2:∀k,S k->¬O2 k):Strd O1 O2 w' s v a b:=by
 have hle:=h.c.c1.le;have hsz:=tc.size;have lowB:∀k,k<v.B->w'.heap[k]?=w.heap[k]?:=fun k hk=>tc.same k (by omega) (fun ho=>by have:=hB k ho;omega)
 exact⟨(lowB s h.c.s1).trans h.box,⟨h.c.c1.keep lowB (by omega),h.c.c2.keep lowB (by omega),h.c.p0,h.c.s0,h.c.s1,h.c.tb,h.c.ab,h.c.lb,h.c.sb,h.c.fb,h.c.bb,h.c.frb,h.c.brb,h.c.ne⟩,h.ra.keep (fun k g _=>tc.same k (h.o1 k g).2 (fun x=>h1 k x g)),h.rb.keep (fun k g _=>tc.same k (h.o2 k g).2 (fun x=>h2 k x g)),fun k hk=>⟨(h.o1 k hk).1,zvL (h.o1 k hk).2 hsz⟩,fun k hk=>⟨(h.o2 k hk).1,zvL (h.o2 k hk).2 hsz⟩,h.o12⟩
end
section
open Go.RowKit
def zdu(ps:List Nat):List Value:=ps.map fun(i:Nat)=>Value.int .i64 (i:Int)
theorem zlv(ps:List Nat)(i:Nat):zdu (ps++[i])=zdu ps++[.int .i64 (i:Int)]:=by simp[zdu]
theorem zbg{w:World}{g:Nat}{a0 a1 a2 a3:Value}{t:TypeId}(h:w.heap[g]?=some (.cells #[a0,a1,a2,a3] t (0,0))):w.cell? ⟨g,0,none⟩=some a0/\w.cell? ⟨g,1,none⟩=some a1/\w.cell? ⟨g,2,none⟩=some a2/\w.cell? ⟨g,3,none⟩=some a3:=by
 have:∀o,w.cell? ⟨g,o,none⟩=#[a0,a1,a2,a3][o]?:=fun _=>zvW _ _ _ _ _ _ h
 exact⟨this 0,this 1,this 2,this 3⟩
structure BkS(w:World)(O1 O2:Nat->Prop)(s:Nat)(v:StV)(a b:RdV)(ne:Nat)(u:Word)(M:PA)(E:Nat->Prop)(high t gs:Nat)(W:World)(lo at' at0 now:Nat)(b':RdV)(O:Nat->Prop)(S:Nat->Nat)(pv:Value)(ps:List Nat):Prop where
 tc:zam O2 w W
 km:zaT w W
 st:Strd O1 O W s v a b'
 rn:RdN b b'
 mb:b'.m+at'<=b.m+high
 o2:∀k,O2 k->O k
 o2':∀k,O k->O2 k\/w.heap.size<=k
 nt:¬O t
 ng:¬O gs
 np:∀k,pv.ownBlock=some k->¬O k
 box:W.heap[t]?=some (.cells #[.pointer (some ⟨b.r,0,none⟩),.slice (some ⟨gs,0,none⟩) ne ne,.int .i64 high,pv] 195 (0,0))
 sp:zar W ne gs S
 pa:W.ownsRow w.heap.size 3 1 pv ps.length (zdu ps)
 tw:w.heap.size<=t
 gw:w.heap.size<=gs
 le:at'<=high
 len:ps.length+at0=high
 nw:now<b'.m
 bk:zeE v.nw (b'.Ts now) (Back u M E at')
 ix:∀j,j<ps.length->ps.getD j 0<b'.m/\zeE v.nw (b'.Ts (ps.getD j 0)) (Back u M E (high-1-j))
 ss:∀q,zai S q=true↔lo<=q/\Sta u M E q
section
variable {w:World} {O1 O2:Nat->Prop} {s:Nat} {v:StV} {a b:RdV} {ne:Nat} {u:Word} {M:PA} {E:Nat->Prop} {high t gs:Nat} {W:World} {lo at' at0 now:Nat} {b':RdV} {O:Nat->Prop} {S:Nat->Nat} {pv:Value} {ps:List Nat}
theorem BkS.tg(h:BkS w O1 O2 s v a b ne u M E high t gs W lo at' at0 now b' O S pv ps):t≠gs:=fun e=>by
 have h1:=h.box;have h2:=h.sp.row;rw[e,h2] at h1;exact absurd (zad h1) (by decide)
theorem BkS.pne(h:BkS w O1 O2 s v a b ne u M E high t gs W lo at' at0 now b' O S pv ps){k:Nat}(hk:pv.ownBlock=some k):k≠t/\k≠gs/\w.heap.size<=k:=by
 obtain⟨h1,cur,h2⟩:=zaZ h.pa hk;refine⟨fun e=>?_,fun e=>?_,h1⟩
 ·rw[e,h.box] at h2;exact absurd (zad h2) (by decide)
 ·rw[e,h.sp.row] at h2;exact absurd (zad h2) (by decide)
theorem BkS.mine(h:BkS w O1 O2 s v a b ne u M E high t gs W lo at' at0 now b' O S pv ps){T:Nat->Prop}{W':World}(tc:zam T W W')(hT:∀k,T k->k=t\/k=gs\/pv.ownBlock=some k)(hB:v.B<=w.heap.size)(h1:∀k,O1 k->k<w.heap.size):zam O2 w W'/\zaT w W'/\Strd O1 O W' s v a b':=by
 have hw:∀k,T k->w.heap.size<=k:=fun k hk=>by
  rcases hT k hk with e|e|e
  ·rw[e];exact h.tw
  ·rw[e];exact h.gw
  ·exact(h.pne e).2.2
 refine⟨⟨tc.os.trans h.tc.os,tc.tape.trans h.tc.tape,tc.output.trans h.tc.output,zvK h.tc.size tc.size,fun k hk hn=>(tc.same k (by have:=h.tc.size;omega) (fun e=>by have:=hw k e;omega)).trans (h.tc.same k hk hn)⟩,h.km.trans fun mg f e=>(tc.same mg (zuH.1 e).1 (fun e2=>?_)).trans e,h.st.other tc (fun k e=>by have:=hw k e;omega) (fun k e ho=>by have:=hw k e;have:=h1 k ho;omega) (fun k e ho=>?_)⟩
 ·rcases hT mg e2 with e3|e3|e3
  ·rw[e3,h.box] at e;exact absurd (zad e) (by decide)
  ·rw[e3,h.sp.row] at e;exact absurd (zad e) (by decide)
  ·obtain⟨-,cur,e4⟩:=zaZ h.pa e3;rw[e4] at e;exact absurd (zad e) (by decide)
 ·rcases hT k e with e3|e3|e3
  ·rw[e3] at ho;exact h.nt ho
  ·rw[e3] at ho;exact h.ng ho
  ·exact h.np k e3 ho
theorem BkS.add(h:BkS w O1 O2 s v a b ne u M E high t gs W (at'+1) at' at0 now b' O S pv ps){W':World}(hr:W'.heap[gs]?=some (.cells (zcS ne (addT S at')) 236 (0,0)))(hg:W.grownBy W' (some gs))(hs:Sta u M E at')(hB:v.B<=w.heap.size)(h1:∀k,O1 k->k<w.heap.size):BkS w O1 O2 s v a b ne u M E high t gs W' at' at' at0 now b' O (addT S at') pv ps:=by
 have tc:zam (· = gs) W W':=(zam.refl _ W).grown hg (fun k e=>by cases e;exact .inl rfl);obtain⟨m1,m2,m3⟩:=h.mine tc (fun k e=>.inr (.inl e)) hB h1;refine⟨m1,m2,m3,h.rn,h.mb,h.o2,h.o2',h.nt,h.ng,h.np,(tc.same t (zuH.1 h.box).1 h.tg).trans h.box,⟨hr,zfw S h.sp.lt at'⟩,zav h.pa fun k e=>?_,h.tw,h.gw,h.le,h.len,h.nw,h.bk,h.ix,fun q=>?_⟩
 ·obtain⟨-,cur,e4⟩:=zaZ h.pa e;exact tc.same k (zuH.1 e4).1 (h.pne e).2.1
 ·rw[zel,zuM,h.ss q];constructor
  ·rintro (⟨h2,h3⟩|h2)
   ·exact⟨by omega,h3⟩
   ·have e:q=at':=by simpa using h2
    subst e;exact⟨zvJ _,hs⟩
  ·rintro ⟨h2,h3⟩
   by_cases e:q=at'
   ·exact .inr (by simpa using e)
   ·exact .inl ⟨by omega,h3⟩
theorem BkS.skip(h:BkS w O1 O2 s v a b ne u M E high t gs W (at'+1) at' at0 now b' O S pv ps)(hs:¬Sta u M E at'):BkS w O1 O2 s v a b ne u M E high t gs W at' at' at0 now b' O S pv ps:=
 ⟨h.tc,h.km,h.st,h.rn,h.mb,h.o2,h.o2',h.nt,h.ng,h.np,h.box,h.sp,h.pa,h.tw,h.gw,h.le,h.len,h.nw,h.bk,h.ix,fun q=>(h.ss q).trans ⟨fun⟨h2,h3⟩=>⟨by omega,h3⟩,fun⟨h2,h3⟩=>⟨by
  rcases zvM at' q with e|e
  ·exact e
  ·obtain rfl:q=at':=by omega
   exact absurd h3 hs,h3⟩⟩⟩
theorem BkS.drewN(n:Nat)(h:BkS w O1 O2 s v a b ne u M E high t gs W lo at' at0 now b' O S pv ps)(hB:v.B<=w.heap.size)(h1:∀k,O1 k->k<w.heap.size):BkS w O1 O2 s v a b ne u M E high t gs (W.drewN n) lo at' at0 now b' O S pv ps:=by
 obtain⟨m1,m2,m3⟩:=h.mine (T:=fun _=>False) (W':=W.drewN n) ⟨rfl,rfl,rfl,zvJ _,fun _ _ _=>rfl⟩ (fun k e=>e.elim) hB h1;exact⟨m1,m2,m3,h.rn,h.mb,h.o2,h.o2',h.nt,h.ng,h.np,h.box,⟨h.sp.row,h.sp.lt⟩,h.pa,h.tw,h.gw,h.le,h.len,h.nw,h.bk,h.ix,h.ss⟩
theorem BkS.read{p:Nat}(hR:zdT M v.n v.nw v.f v.F v.G v.A v.L)(h:BkS w O1 O2 s v a b ne u M E high t gs W lo (p+1) at0 now b' O S pv ps){c:UInt8}(hc:u[p]?=some c){bg:Bool}(hbg:bg=true↔E (p+1)){x:Nat}{b2:RdV}{W':World}(hx:x<b2.m)(hm:b2.m<=b'.m+1)(hn:RdN b' b2)(hs:zgz v.nw v.f v.G v.L (b'.Ts now) c.toNat bg (b2.Ts x))(st:Strd O1 (news O W W') W' s v a b2)(tc:zam O W W')(km:zaT W W'):BkS w O1 O2 s v a b ne u M E high t gs W' lo p at0 x b2 (news O W W') S pv ps:=by
 have hsz:=h.tc.size;have lt:∀k,k<W.heap.size->¬O k->¬news O W W' k:=fun k h1 h2 h3=>h3.elim h2 fun h4=>by omega
 have htl:=(zuH.1 h.box).1;have hpl:∀k,pv.ownBlock=some k->k<W.heap.size:=fun k e=>by obtain⟨-,cur,e4⟩:=zaZ h.pa e;exact(zuH.1 e4).1
 refine⟨⟨tc.os.trans h.tc.os,tc.tape.trans h.tc.tape,tc.output.trans h.tc.output,zvK h.tc.size tc.size,fun k hk hn=>(tc.same k (by omega) (fun e=>(h.o2' k e).elim hn fun e=>by omega)).trans (h.tc.same k hk hn)⟩,h.km.trans km,st,h.rn.trans hn,by have:=h.mb;omega,fun k hk=>.inl (h.o2 k hk),fun k hk=>hk.elim (h.o2' k) fun e=>.inr (by omega),lt t htl h.nt,lt gs h.sp.glt h.ng,fun k e=>lt k (hpl k e) (h.np k e),(tc.same t htl h.nt).trans h.box,⟨(tc.same gs h.sp.glt h.ng).trans h.sp.row,h.sp.lt⟩,zav h.pa fun k e=>tc.same k (hpl k e) (h.np k e),h.tw,h.gw,by have:=h.le;omega,h.len,hx,?_,fun j hj=>?_,h.ss⟩
 ·exact zoL hR hc hbg (fun q h1 h2=>h.st.rb.sets now q h.nw h1 h2) (fun q h1 h2=>st.rb.sets x q hx h1 h2) h.bk hs
 ·obtain⟨h1,h2⟩:=h.ix j hj;have:=hn.lo;exact⟨by omega,by rw[(hn.old _ h1).2];exact h2⟩
theorem BkS.push(h:BkS w O1 O2 s v a b ne u M E high t gs W lo at' (at'+1) now b' O S pv ps){W8:World}{g cap:Nat}(hown:W8.ownsRow w.heap.size 3 1 (.slice (some ⟨g,0,none⟩) (ps.length+1) cap) (ps.length+1) (zdu ps++[.int .i64 (now:Int)]))(hg:W.grownBy W8 pv.ownBlock)(hat:pv.ownBlock=some g\/W.heap.size<=g)(hB:v.B<=w.heap.size)(h1:∀k,O1 k->k<w.heap.size):BkS w O1 O2 s v a b ne u M E high t gs (W8.setCell ⟨t,3,none⟩ (.slice (some ⟨g,0,none⟩) (ps.length+1) cap)) lo at' at' now b' O S (.slice (some ⟨g,0,none⟩) (ps.length+1) cap) (ps++[now]):=by
 have tc8:zam (fun k=>k=t\/pv.ownBlock=some k) W W8:=(zam.refl _ W).grown hg (fun k e=>.inl (.inr e));have htl:=(zuH.1 h.box).1;have b8:W8.heap[t]?=_:=(hg.block t htl (fun e=>(h.pne e.symm).1 rfl)).trans h.box;have b9:=zv1 W8 t 3 _ _ (.slice (some ⟨g,0,none⟩) (ps.length+1) cap) b8;have ot:∀k,k≠t->(W8.setCell ⟨t,3,none⟩ (.slice (some ⟨g,0,none⟩) (ps.length+1) cap)).heap[k]?=W8.heap[k]?:=fun k e=>zv0 _ _ _ _ (show k≠t from e)
 have tc:zam (fun k=>k=t\/pv.ownBlock=some k) W (W8.setCell ⟨t,3,none⟩ (.slice (some ⟨g,0,none⟩) (ps.length+1) cap)):=⟨tc8.os,tc8.tape,tc8.output,by simpa using tc8.size,fun k hk hn=>(ot k (fun e=>hn (.inl e))).trans (tc8.same k hk hn)⟩;obtain⟨m1,m2,m3⟩:=h.mine tc (fun k e=>e.elim .inl fun e=>.inr (.inr e)) hB h1;have hOl:∀k,O k->k<W.heap.size:=fun k hk=>(h.st.o2 k hk).2
 refine⟨m1,m2,m3,h.rn,h.mb,h.o2,h.o2',h.nt,h.ng,fun k e ho=>?_,b9,⟨(ot gs (fun e=>h.tg e.symm)).trans ((hg.block gs h.sp.glt (fun e=>(h.pne e.symm).2.1 rfl)).trans h.sp.row),h.sp.lt⟩,?_,h.tw,h.gw,h.le,by rw[zvh,List.length_singleton];have:=h.len;omega,h.nw,h.bk,fun j hj=>?_,h.ss⟩
 ·have e:g=k:=by simpa [Value.ownBlock] using e
  subst e;rcases hat with e2|e2
  ·exact h.np g e2 ho
  ·have:=hOl g ho;omega
 ·rw[zvh,List.length_singleton,zlv];refine zav hown fun k e=>?_
  have e:g=k:=by simpa [Value.ownBlock] using e
  subst e;refine ot g (fun e2=>?_);rcases hat with e3|e3
  ·exact(h.pne e3).1 e2
  ·omega
 ·rw[zvh,List.length_singleton] at hj
  by_cases e:j<ps.length
  ·rw[zu3,zu5 e,<-zu3];exact h.ix j e
  ·obtain rfl:j=ps.length:=by omega
   rw[zu3,zu6 (zvJ _),zvR];have e2:high-1-ps.length=at':=by have:=h.len;omega
   rw[e2];exact⟨h.nw,h.bk⟩
end
structure zoH(w:World)(O1 O2:Nat->Prop)(s:Nat)(v:StV)(a b:RdV)(ne:Nat)(u:Word)(M:PA)(E:Nat->Prop)(high t gs:Nat)(W:World)(b':RdV)(O:Nat->Prop)(S:Nat->Nat)(pv:Value)(ps:List Nat):Prop where
 tc:zam O2 w W
 km:zaT w W
 st:Strd O1 O W s v a b'
 rn:RdN b b'
 mb:b'.m<=b.m+high
 o2:∀k,O2 k->O k
 o2':∀k,O k->O2 k\/w.heap.size<=k
 nt:¬O t
 ng:¬O gs
 np:∀k,pv.ownBlock=some k->¬O k
 box:W.heap[t]?=some (.cells #[.pointer (some ⟨b'.r,0,none⟩),.slice (some ⟨gs,0,none⟩) ne ne,.int .i64 high,pv] 195 (0,0))
 sp:zar W ne gs S
 pa:W.ownsRow w.heap.size 3 1 pv ps.length (zdu ps)
 tw:w.heap.size<=t
 gw:w.heap.size<=gs
 len:ps.length<=high
 ix:∀j,j<ps.length->ps.getD j 0<b'.m/\zeE v.nw (b'.Ts (ps.getD j 0)) (Back u M E (high-1-j))
 off:∀i p,i+ps.length<high->¬Back u M E i p
 ss:∀q,zai S q=true↔Sta u M E q
theorem BkS.bottom{w:World}{O1 O2:Nat->Prop}{s:Nat}{v:StV}{a b:RdV}{ne:Nat}{u:Word}{M:PA}{E:Nat->Prop}{high t gs:Nat}{W:World}{now:Nat}{b':RdV}{O:Nat->Prop}{S:Nat->Nat}{pv:Value}{ps:List Nat}(h:BkS w O1 O2 s v a b ne u M E high t gs W 0 0 0 now b' O S pv ps):zoH w O1 O2 s v a b ne u M E high t gs W b' O S pv ps:=
 ⟨h.tc,h.km,h.st,h.rn,by have:=h.mb;omega,h.o2,h.o2',h.nt,h.ng,h.np,by rw[h.rn.r];exact h.box,h.sp,h.pa,h.tw,h.gw,by have:=h.len;omega,h.ix,fun i p hi=>by have:=h.len;omega,fun q=>(h.ss q).trans ⟨fun x=>x.2,fun x=>⟨zvT _,x⟩⟩⟩
theorem BkS.early{w:World}{O1 O2:Nat->Prop}{s:Nat}{v:StV}{a b:RdV}{ne:Nat}{u:Word}{M:PA}{E:Nat->Prop}{high t gs:Nat}{W:World}{at':Nat}{b':RdV}{O:Nat->Prop}{S:Nat->Nat}{pv:Value}{ps:List Nat}(hR:zdT M v.n v.nw v.f v.F v.G v.A v.L)(h:BkS w O1 O2 s v a b ne u M E high t gs W at' at' at' 0 b' O S pv ps)(hE:∀m,m<=at'->¬E m):zoH w O1 O2 s v a b ne u M E high t gs W b' O S pv ps:=by
 have hb0:∀p,¬Back u M E at' p:=fun p hb=>by
  have hp:=Back.lt hR hb;have hn:=hR.n64;have h1:=(h.bk p (by omega)).2 hb;have h2:=h.st.rb.zero (p/64) (by omega);unfold zai at h1;rw[h2] at h1;simp at h1
 have hlow:∀i p,Back u M E i p->at'<i:=fun i p hb=>zq9 hE hb0 hb
 refine⟨h.tc,h.km,h.st,h.rn,by have:=h.mb;omega,h.o2,h.o2',h.nt,h.ng,h.np,by rw[h.rn.r];exact h.box,h.sp,h.pa,h.tw,h.gw,by have:=h.len;omega,h.ix,fun i p hi hb=>by have:=h.len;have:=hlow i p hb;omega,fun q=>(h.ss q).trans ⟨fun x=>x.2,fun x=>⟨?_,x⟩⟩⟩;rcases x with ⟨h1,_⟩|⟨p,_,h1⟩
 ·rcases zvM q at' with e|e
  ·exact absurd h1 (hE q (by omega))
  ·exact e
 ·have:=hlow q p h1;omega
end
open Go.RowKit
attribute [local go_sem ↓] Go.wp_at_zero Go.wp_at_succ
theorem ziR{a b:Array Value}{t u:TypeId}{f g:Nat×Nat}(h:some (Obj.cells a t f)=some (Obj.cells b u g)):a=b:=by cases h;rfl
structure StrQ(w:World)(s:Nat)(p:Pt)(X:Nat->Prop)(v:StV)(a b:RdV)(O1 O2:Nat->Prop):Prop where
 st:Strd O1 O2 w s v a b
 rw:zdT (unD p 0) v.n v.nw v.f v.F v.G v.A v.L
 em:v.e=true↔(unD p 0).e
 nl:v.n<=2000
 nwe:v.nw=((wPt p).toNat+63)/64
 lo:∀k,v.b0<=k->k<v.B->X k
 x1:∀k,O1 k->X k
 x2:∀k,O2 k->X k
theorem StrQ.keep{w w':World}{s:Nat}{p:Pt}{X:Nat->Prop}{v:StV}{a b:RdV}{O1 O2:Nat->Prop}(h:StrQ w s p X v a b O1 O2)(hk:∀k,X k->w'.heap[k]?=w.heap[k]?)(hm:zaT w w')(hz:w'.heap[0]?=w.heap[0]?)(hs:w.heap.size<=w'.heap.size):StrQ w' s p X v a b O1 O2:=
 ⟨h.st.keep (fun k hk'=>hk k (hk'.elim (fun x=>h.lo k x.1 x.2) fun x=>x.elim (h.x1 k) (h.x2 k))) hm hz hs,h.rw,h.em,h.nl,h.nwe,h.lo,h.x1,h.x2⟩
theorem StrQ.sX{w:World}{s:Nat}{p:Pt}{X:Nat->Prop}{v:StV}{a b:RdV}{O1 O2:Nat->Prop}(h:StrQ w s p X v a b O1 O2):X s:=h.lo s h.st.c.s0 h.st.c.s1
def KpS(w:World)(p:Pt)(X:Nat->Prop)(k:Value):Prop:=k=.pointer none\/∃s v a b O1 O2,k=.pointer (some ⟨s,0,none⟩)/\StrQ w s p X v a b O1 O2/\a.m<=50000000/\b.m<=50000000
theorem KpS.keep{w w':World}{p:Pt}{X:Nat->Prop}{k:Value}(h:KpS w p X k)(hk:∀k,X k->w'.heap[k]?=w.heap[k]?)(hm:zaT w w')(hz:w'.heap[0]?=w.heap[0]?)(hs:w.heap.size<=w'.heap.size):KpS w' p X k:=by
 rcases h with h|⟨s,v,a,b,O1,O2,h1,h2,h3⟩
 ·exact .inl h
 ·exact .inr ⟨s,v,a,b,O1,O2,h1,h2.keep hk hm hz hs,h3⟩
structure PnI(w0:World)(pl:Nat)(Q:Nat->Option Pt)(Ow:Nat->Nat->Prop)(w:World):Prop where
 os:w.os=w0.os
 tape:w.tape=w0.tape
 output:w.output=w0.output
 size:w0.heap.size<=w.heap.size
 old:∀k,k<w0.heap.size->Q k=none->k≠pl->w.heap[k]?=w0.heap[k]?
 q0:Q 0=none
 p0:pl≠0
 bru:za7 w0
 plan:∃(x0 x1 x2:Value) (r0 room:Nat),w0.heap[pl]?=some (.cells #[x0,x1,x2,.int .i64 r0] 189 (0,0))/\w.heap[pl]?=some (.cells #[x0,x1,x2,.int .i64 room] 189 (0,0))/\room<=1048576
 pc:∀a p,Q a=some p->∃v f k,w0.heap[a]?=some (.cells #[.pointer (some ⟨pl,0,none⟩),v,f,.pointer none] 222 (0,0))/\w.heap[a]?=some (.cells #[.pointer (some ⟨pl,0,none⟩),v,f,k] 222 (0,0))/\zan w0 v p/\wPt p<=2000/\KpS w p (fun k=>Ow k a) k
 ow:∀k a,Ow k a->w0.heap.size<=k/\k<w.heap.size
 dj:∀k a b,Ow k a->Ow k b->a=b
section
variable {w0:World} {pl:Nat} {Q:Nat->Option Pt} {Ow:Nat->Nat->Prop} {w:World}
theorem PnI.pl0(h:PnI w0 pl Q Ow w):pl<w0.heap.size:=by
 obtain⟨x0,x1,x2,r0,room,h1,_⟩:=h.plan;exact(zuH.1 h1).1
theorem PnI.pos(h:PnI w0 pl Q Ow w):0<w0.heap.size:=by have:=h.pl0;omega
theorem PnI.alt(h:PnI w0 pl Q Ow w){a:Nat}{p:Pt}(ha:Q a=some p):a<w0.heap.size:=by
 obtain⟨v,f,k,h1,_⟩:=h.pc a p ha;exact(zuH.1 h1).1
theorem PnI.zero(h:PnI w0 pl Q Ow w):w.heap[0]?=w0.heap[0]?:=h.old 0 h.pos h.q0 (fun e=>h.p0 e.symm)
theorem PnI.typ(h:PnI w0 pl Q Ow w){k:Nat}{cs:Array Value}{t:TypeId}(hk:w0.heap[k]?=some (.cells cs t (0,0)))(h1:t≠222)(h2:t≠189):w.heap[k]?=some (.cells cs t (0,0)):=by
 refine(h.old k (zuH.1 hk).1 ?_ ?_).trans hk
 ·cases hq:Q k with
  |none=>rfl
  |some p=>
   obtain⟨v,f,x,h3,_⟩:=h.pc k p hq;rw[hk] at h3;exact absurd (zad h3) h1
 ·rintro rfl;obtain⟨x0,x1,x2,r0,room,h3,_⟩:=h.plan;rw[hk] at h3;exact absurd (zad h3) h2
theorem PnI.marks(h:PnI w0 pl Q Ow w):zaT w0 w:=fun mg f e=>h.typ e (by decide) (by decide)
theorem PnI.ne(h:PnI w0 pl Q Ow w){a:Nat}{p:Pt}(ha:Q a=some p):a≠pl:=by
 rintro rfl;obtain⟨v,f,x,h3,_⟩:=h.pc a p ha;obtain⟨x0,x1,x2,r0,room,h4,_⟩:=h.plan;rw[h3] at h4;exact absurd (zad h4) (by decide)
theorem PnI.turn(h:PnI w0 pl Q Ow w){a:Nat}{p:Pt}(ha:Q a=some p){X X':Nat->Prop}{w':World}(hX:∀k,X k->w0.heap.size<=k/\(Ow k a\/∀b,¬Ow k b))(tc:zam (fun k=>k=pl\/k=a\/X k) w w')(hm:zaT w w')
  (hpl:∃(x0 x1 x2:Value) (r room:Nat),w.heap[pl]?=some (.cells #[x0,x1,x2,.int .i64 r] 189 (0,0))/\w'.heap[pl]?=some (.cells #[x0,x1,x2,.int .i64 room] 189 (0,0))/\room<=1048576)
  (hpc:∃v f k k',w.heap[a]?=some (.cells #[.pointer (some ⟨pl,0,none⟩),v,f,k] 222 (0,0))/\w'.heap[a]?=some (.cells #[.pointer (some ⟨pl,0,none⟩),v,f,k'] 222 (0,0))/\KpS w' p X' k')
  (hX':∀k,X' k->w0.heap.size<=k/\k<w'.heap.size/\(Ow k a\/w.heap.size<=k\/∀b,¬Ow k b)):PnI w0 pl Q (fun k b=>(b=a/\X' k)\/(b≠a/\Ow k b)) w':=by
 have hal:=h.alt ha;have hpl0:=h.pl0;have hsz:=h.size;have hsz':=tc.size;have hap:=h.ne ha;have hnX:∀k,k<w0.heap.size->¬X k:=fun k hk hx=>by have:=(hX k hx).1;omega
 have hold:∀k,k<w0.heap.size->k≠pl->k≠a->w'.heap[k]?=w.heap[k]?:=fun k h1 h2 h3=>tc.same k (by omega) (fun e=>e.elim h2 fun e=>e.elim h3 (hnX k h1))
 have hz:w'.heap[0]?=w.heap[0]?:=hold 0 h.pos (fun e=>h.p0 e.symm) (fun e=>by have:=h.q0;rw[e,ha] at this;cases this);refine⟨tc.os.trans h.os,tc.tape.trans h.tape,tc.output.trans h.output,by omega,fun k h1 h2 h3=>(hold k h1 h3 (fun e=>by rw[e,ha] at h2;cases h2)).trans (h.old k h1 h2 h3),h.q0,h.p0,h.bru,?_,fun b q hb=>?_,fun k b hk=>?_,fun k b c hb hc=>?_⟩
 ·obtain⟨x0,x1,x2,r0,room,h1,h2,h3⟩:=h.plan;obtain⟨y0,y1,y2,s0,room',k1,k2,k3⟩:=hpl;rw[h2] at k1;have e:=ziR k1;simp only[Array.mk.injEq,List.cons.injEq,and_true] at e;obtain⟨rfl,rfl,rfl,-⟩:=e;exact⟨_,_,_,r0,room',h1,k2,k3⟩
 ·obtain⟨v,f,k,h1,h2,h3,h4,h5⟩:=h.pc b q hb
  by_cases e:b=a
  ·subst e;rw[ha] at hb;cases hb;obtain⟨v',f',k',k2,g1,g2,g3⟩:=hpc;rw[h2] at g1;have e:=ziR g1;simp only[Array.mk.injEq,List.cons.injEq,and_true,true_and] at e;obtain⟨rfl,rfl,-⟩:=e;refine⟨_,_,k2,h1,g2,h3,h4,?_⟩;have:(fun k=>(b=b/\X' k)\/(b≠b/\Ow k b))=X':=funext fun k=>propext ⟨fun x=>x.elim (fun y=>y.2) (fun y=>absurd rfl y.1),fun x=>.inl ⟨rfl,x⟩⟩
   rw[this];exact g3
  ·have hbl:=h.alt hb;refine⟨v,f,k,h1,(hold b hbl (h.ne hb) e).trans h2,h3,h4,?_⟩;have:(fun k=>(b=a/\X' k)\/(b≠a/\Ow k b))=fun k=>Ow k b:=funext fun k=>propext ⟨fun x=>x.elim (fun y=>absurd y.1 e) (fun y=>y.2),fun x=>.inr ⟨e,x⟩⟩
   rw[this];refine h5.keep (fun k hk=>?_) hm hz hsz';have hk0:=h.ow k b hk;refine tc.same k hk0.2 ?_;rintro (rfl|rfl|hx)
   ·omega
   ·omega
   ·rcases(hX k hx).2 with h6|h6
    ·exact e (h.dj k b a hk h6)
    ·exact h6 b hk
 ·rcases hk with ⟨rfl,hk⟩|⟨-,hk⟩
  ·exact⟨(hX' k hk).1,(hX' k hk).2.1⟩
  ·have:=h.ow k b hk;omega
 ·have key:∀d,d≠a->Ow k d->¬X' k:=fun d hd ho hx=>by
   rcases(hX' k hx).2.2 with h6|h6|h6
   ·exact hd (h.dj k d a ho h6)
   ·have:=h.ow k d ho;omega
   ·exact h6 d ho
  rcases hb with ⟨rfl,hb⟩|⟨h1,hb⟩<;>rcases hc with ⟨rfl,hc⟩|⟨h2,hc⟩
  ·rfl
  ·exact absurd hb (key c h2 hc)
  ·exact absurd hc (key b h1 hb)
  ·exact h.dj k b c hb hc
end
structure Chg(pl a:Nat)(Ow:Nat->Nat->Prop)(w:World)(Ow':Nat->Nat->Prop)(w':World)(X:Nat->Prop):Prop where
 tc:zam (fun k=>k=pl\/k=a\/Ow k a) w w'
 km:zaT w w'
 oth:∀k b,b≠a->(Ow' k b↔Ow k b)
 own:∀k,Ow' k a->Ow k a\/w.heap.size<=k
 xs:∀k,X k->Ow k a\/w.heap.size<=k
theorem Chg.refl(pl a:Nat)(Ow:Nat->Nat->Prop)(w:World):Chg pl a Ow w Ow w (fun k=>Ow k a):=⟨zam.refl _ _,fun _ _ e=>e,fun _ _ _=>Iff.rfl,fun _ h=>.inl h,fun _ h=>.inl h⟩
structure StrO(w0:World)(pl:Nat)(Q:Nat->Option Pt)(a:Nat)(p:Pt)(Ow:Nat->Nat->Prop)(w:World)(s:Nat)(X:Nat->Prop)(v:StV)(ra rb:RdV)(O1 O2:Nat->Prop):Prop where
 inv:PnI w0 pl Q Ow w
 q:Q a=some p
 st:StrQ w s p X v ra rb O1 O2
 x0:∀k,X k->w0.heap.size<=k/\k<w.heap.size
 x1:((∀k,X k↔Ow k a)/\w.cell? ⟨a,3,none⟩=some (.pointer (some ⟨s,0,none⟩)))\/∀k b,X k->¬Ow k b
theorem StrO.step{w0:World}{pl:Nat}{Q:Nat->Option Pt}{a:Nat}{p:Pt}{Ow:Nat->Nat->Prop}{w:World}{s:Nat}{X:Nat->Prop}{v:StV}{ra rb:RdV}{O1 O2:Nat->Prop}(h:StrO w0 pl Q a p Ow w s X v ra rb O1 O2){w':World}{X':Nat->Prop}{v':StV}{ra' rb':RdV}{O1' O2':Nat->Prop}(tc:zam X w w')(hm:zaT w w')(st:StrQ w' s p X' v' ra' rb' O1' O2')(ha:ra'.m<=50000000)(hb:rb'.m<=50000000)(hX':∀k,X' k->X k\/w.heap.size<=k)(hl:∀k,X' k->k<w'.heap.size):
  ∃Ow',StrO w0 pl Q a p Ow' w' s X' v' ra' rb' O1' O2'/\(∀k b,Ow' k b->Ow k b\/X' k)/\∀Ow0 w00,Chg pl a Ow0 w00 Ow w X->Chg pl a Ow0 w00 Ow' w' X':=by
 have hpl0:=h.inv.pl0;have hal:=h.inv.alt h.q;have hsz:=h.inv.size;have hpl:=h.inv.plan;have hpc:=h.inv.pc a p h.q;have hnX:∀k,k<w0.heap.size->¬X k:=fun k hk hx=>by have:=(h.x0 k hx).1;omega
 obtain⟨x0,x1,x2,r0,room,-,h2,h3⟩:=hpl;obtain⟨v0,f0,k0,-,g2,-,-,-⟩:=hpc;have p2:w'.heap[pl]?=_:=(tc.same pl (by omega) (hnX pl hpl0)).trans h2;have a2:w'.heap[a]?=_:=(tc.same a (by omega) (hnX a hal)).trans g2;have hx0':∀k,X' k->w0.heap.size<=k/\k<w'.heap.size:=fun k hk=>⟨(hX' k hk).elim (fun h1=>(h.x0 k h1).1) (fun h1=>by omega),hl k hk⟩
 have tcW:zam (fun k=>k=pl\/k=a\/X k) w w':=tc.mono fun k _ hk=>.inr (.inr hk)
 have chg:∀Ow',(∀k b,b≠a->(Ow' k b↔Ow k b))->(∀k,Ow' k a->Ow k a\/X' k)->∀Ow0 w00,Chg pl a Ow0 w00 Ow w X->Chg pl a Ow0 w00 Ow' w' X':=fun Ow' h1 h2 Ow0 w00 c=>by
  have hsx:∀k,X' k->Ow0 k a\/w00.heap.size<=k:=fun k hk=>by
   rcases hX' k hk with h5|h5
   ·exact c.xs k h5
   ·have:=c.tc.size;exact .inr (by omega)
  refine⟨⟨tc.os.trans c.tc.os,tc.tape.trans c.tc.tape,tc.output.trans c.tc.output,zvK c.tc.size tc.size,fun k hk hn=>?_⟩,c.km.trans hm,fun k b hb=>(h1 k b hb).trans (c.oth k b hb),fun k hk=>?_,hsx⟩
  ·refine(tc.same k (by have:=c.tc.size;omega) (fun hx=>?_)).trans (c.tc.same k hk hn);rcases c.xs k hx with h5|h5
   ·exact hn (.inr (.inr h5))
   ·omega
  ·rcases h2 k hk with h5|h5
   ·exact c.own k h5
   ·exact hsx k h5
 rcases h.x1 with ⟨x1,x2'⟩|x1
 ·have hk0:k0=.pointer (some ⟨s,0,none⟩):=by
   have:w.cell? ⟨a,3,none⟩=some k0:=(zvW _ _ _ _ _ _ g2:_=_);rw[this] at x2';exact Option.some.inj x2'
  subst hk0;refine⟨_,⟨h.inv.turn h.q (X:=X) (X':=X') (fun k hk=>⟨(h.x0 k hk).1,.inl ((x1 k).1 hk)⟩) tcW hm ⟨_,_,_,_,_,h2,p2,h3⟩ ⟨_,_,_,_,g2,a2,.inr ⟨s,v',ra',rb',O1',O2',rfl,st,ha,hb⟩⟩ (fun k hk=>⟨(hx0' k hk).1,(hx0' k hk).2,?_⟩),h.q,st,hx0',.inl ⟨fun k=>⟨fun hk=>.inl ⟨rfl,hk⟩,fun hk=>hk.elim (fun x=>x.2) (fun x=>absurd rfl x.1)⟩,(zvW _ _ _ _ _ _ a2:_=_)⟩⟩,fun k b hk=>hk.elim (fun y=>.inr y.2) (fun y=>.inl y.2),chg _ (fun k b hb=>⟨fun x=>x.elim (fun y=>absurd y.1 hb) (fun y=>y.2),fun x=>.inr ⟨hb,x⟩⟩) (fun k hk=>hk.elim (fun y=>.inr y.2) (fun y=>absurd rfl y.1))⟩;rcases hX' k hk with h5|h5
  ·exact .inl ((x1 k).1 h5)
  ·exact .inr (.inl h5)
 ·have hz:w'.heap[0]?=w.heap[0]?:=tc.same 0 (by have:=h.inv.pos;omega) (hnX 0 h.inv.pos);refine⟨Ow,⟨⟨tc.os.trans h.inv.os,tc.tape.trans h.inv.tape,tc.output.trans h.inv.output,zvK hsz tc.size,fun k g1 g2 g3=>(tc.same k (by omega) (hnX k g1)).trans (h.inv.old k g1 g2 g3),h.inv.q0,h.inv.p0,h.inv.bru,?_,fun b q hb=>?_,fun k b hk=>?_,h.inv.dj⟩,h.q,st,hx0',.inr fun k b hk ho=>?_⟩,fun _ _ hk=>.inl hk,chg Ow (fun _ _ _=>Iff.rfl) (fun k hk=>.inl hk)⟩
  ·obtain⟨y0,y1,y2,r0,room,k1,k2,k3⟩:=h.inv.plan;exact⟨_,_,_,_,_,k1,(tc.same pl (by omega) (hnX pl hpl0)).trans k2,k3⟩
  ·obtain⟨v1,f1,k1,q1,q2,q3,q4,q5⟩:=h.inv.pc b q hb;have hbl:=h.inv.alt hb;exact⟨v1,f1,k1,q1,(tc.same b (by omega) (hnX b hbl)).trans q2,q3,q4,q5.keep (fun k hk=>tc.same k (h.inv.ow k b hk).2 (fun hx=>x1 k b hx hk)) hm hz tc.size⟩
  ·have:=h.inv.ow k b hk;have:=tc.size;omega
  ·rcases hX' k hk with h5|h5
   ·exact x1 k b h5 ho
   ·have:=h.inv.ow k b ho;omega
theorem StrO.below{w0:World}{pl:Nat}{Q:Nat->Option Pt}{a:Nat}{p:Pt}{Ow:Nat->Nat->Prop}{w:World}{s:Nat}{X:Nat->Prop}{v:StV}{ra rb:RdV}{O1 O2:Nat->Prop}(h:StrO w0 pl Q a p Ow w s X v ra rb O1 O2){w':World}(hi:PnI w0 pl Q Ow w')(hb:Below w.heap.size w w'):StrO w0 pl Q a p Ow w' s X v ra rb O1 O2:=by
 have hal:=h.inv.alt h.q;have hsz:=h.inv.size;have hpos:=h.inv.pos;refine⟨hi,h.q,h.st.keep (fun k hk=>hb.block k (h.x0 k hk).2) (zaT.of hb) (hb.block 0 (by omega)) hb.size,fun k hk=>⟨(h.x0 k hk).1,zvL (h.x0 k hk).2 hb.size⟩,?_⟩;rcases h.x1 with ⟨h1,h2⟩|h1
 ·exact .inl ⟨h1,(hb.cell (p:=⟨a,3,none⟩) (by show a<w.heap.size;omega)).trans h2⟩
 ·exact .inr h1
theorem Chg.below{pl a:Nat}{Ow Ow1:Nat->Nat->Prop}{w w1 w2:World}{X:Nat->Prop}(c:Chg pl a Ow w Ow1 w1 X)(hb:Below w1.heap.size w1 w2):Chg pl a Ow w Ow1 w2 X:=⟨c.tc.trans (.of_below hb),c.km.trans (zaT.of hb),c.oth,c.own,c.xs⟩
structure PnT(w0:World)(pl:Nat)(Q:Nat->Option Pt)(Ow:Nat->Nat->Prop)(w:World)(Ow':Nat->Nat->Prop)(w':World):Prop where
 inv:PnI w0 pl Q Ow' w'
 size:w.heap.size<=w'.heap.size
 fre:∀k,w0.heap.size<=k->k<w.heap.size->(∀b,¬Ow k b)->w'.heap[k]?=w.heap[k]?/\∀b,¬Ow' k b
theorem PnT.trans{w0:World}{pl:Nat}{Q:Nat->Option Pt}{Ow Ow1 Ow2:Nat->Nat->Prop}{w w1 w2:World}(h:PnT w0 pl Q Ow w Ow1 w1)(k:PnT w0 pl Q Ow1 w1 Ow2 w2):PnT w0 pl Q Ow w Ow2 w2:=
 ⟨k.inv,zvK h.size k.size,fun j h1 h2 h3=>by
  obtain⟨e1,f1⟩:=h.fre j h1 h2 h3;obtain⟨e2,f2⟩:=k.fre j h1 (zvL h2 h.size) f1;exact⟨e2.trans e1,f2⟩⟩
theorem PnI.below{w0:World}{pl:Nat}{Q:Nat->Option Pt}{Ow:Nat->Nat->Prop}{w w':World}(h:PnI w0 pl Q Ow w)(hb:Below w.heap.size w w'):PnI w0 pl Q Ow w':=by
 have hsz:=h.size;have hbs:=hb.size;refine⟨hb.os.trans h.os,hb.tape.trans h.tape,hb.output.trans h.output,by omega,fun k h1 h2 h3=>(hb.block k (by omega)).trans (h.old k h1 h2 h3),h.q0,h.p0,h.bru,?_,fun b q hq=>?_,fun k b hk=>?_,h.dj⟩
 ·obtain⟨x0,x1,x2,r0,room,h1,h2,h3⟩:=h.plan;exact⟨_,_,_,_,_,h1,(hb.block pl (by have:=h.pl0;omega)).trans h2,h3⟩
 ·obtain⟨v1,f1,k1,q1,q2,q3,q4,q5⟩:=h.pc b q hq;exact⟨v1,f1,k1,q1,(hb.block b (by have:=h.alt hq;omega)).trans q2,q3,q4,q5.keep (fun k hk=>hb.block k (h.ow k b hk).2) (zaT.of hb) (hb.block 0 (by have:=h.pos;omega)) hbs⟩
 ·have:=h.ow k b hk;omega
theorem PnT.of_below{w0:World}{pl:Nat}{Q:Nat->Option Pt}{Ow:Nat->Nat->Prop}{w w':World}(h:PnI w0 pl Q Ow w)(hb:Below w.heap.size w w'):PnT w0 pl Q Ow w Ow w':=
 ⟨h.below hb,hb.size,fun k _ h2 h3=>⟨hb.block k h2,h3⟩⟩
theorem PnT.below{w0:World}{pl:Nat}{Q:Nat->Option Pt}{Ow Ow1:Nat->Nat->Prop}{w w1 w2:World}(h:PnT w0 pl Q Ow w Ow1 w1)(hb:Below w1.heap.size w1 w2):PnT w0 pl Q Ow w Ow1 w2:=h.trans (.of_below h.inv hb)
theorem StrO.plT{w0:World}{pl:Nat}{Q:Nat->Option Pt}{a:Nat}{p:Pt}{Ow:Nat->Nat->Prop}{w:World}{s:Nat}{X:Nat->Prop}{v:StV}{ra rb:RdV}{O1 O2:Nat->Prop}(h:StrO w0 pl Q a p Ow w s X v ra rb O1 O2){Ow0:Nat->Nat->Prop}{w00:World}(c:Chg pl a Ow0 w00 Ow w X):PnT w0 pl Q Ow0 w00 Ow w:=
 ⟨h.inv,c.tc.size,fun k h1 h2 h3=>⟨c.tc.same k h2 (fun e=>by
  have:=h.inv.pl0;have:=h.inv.alt h.q;rcases e with e|e|e
  ·omega
  ·omega
  ·exact h3 a e),fun b hb=>by
  by_cases e:b=a
  ·subst e;rcases c.own k hb with h5|h5
   ·exact h3 b h5
   ·omega
  ·exact h3 b ((c.oth k b e).1 hb)⟩⟩
end Go.Proofs.YtdimhpfiieepiaaGreatDoor
