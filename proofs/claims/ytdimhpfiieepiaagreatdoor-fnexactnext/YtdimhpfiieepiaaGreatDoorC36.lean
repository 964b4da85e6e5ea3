import Derived.Test.YtdimhpfiieepiaaGreatDoorC35
import Derived.Deep.LoopGhost
namespace Go.Proofs.YtdimhpfiieepiaaGreatDoor
open Proofs.Tryz
open Option renaming none->za,some->zd
open Value renaming pointer->ze,slice->zf,int->zg,agg->zi
open Obj renaming cells->zh
set_option maxHeartbeats 1000000
set_option maxRecDepth 100000
section
variable {w w':World}
open Go.RowKit
attribute [local go_sem] Oper.semAt_some
def NwP(w:World)(p:Pt)(e:Ending)(w':World):Prop:=
 ∃(s:Nat) (v:ey) (a b:cd) (O1 O2:Nat->Prop),e=.returned (ze (zd ⟨s,0,za⟩))/\gR O1 O2 w' s v a b/\a.m=1/\b.m=1/\py (bY p 0) v.n v.nw v.f v.F v.G v.A v.L/\(v.e=true↔(bY p 0).e)/\w.heap.size<=v.b0/\v.n<=2000/\v.nw=((aF p).toNat+63)/64/\Below w.heap.size w w'
theorem zjp(bt ga gl nw:Nat)(e:Bool):prog.built 229 [(0,ze (zd ⟨bt,0,za⟩)),(1,zi #[.bool e,zf (zd ⟨ga,0,za⟩) nw nw,zf (zd ⟨gl,0,za⟩) nw nw])]=zd #[ze (zd ⟨bt,0,za⟩),.bool e,zf (zd ⟨ga,0,za⟩) nw nw,zf (zd ⟨gl,0,za⟩) nw nw,zf za 0 0,ze za,ze za]:=by kernel_rfl
theorem pE.marks{B:Nat}{n nw bt ga gl:Nat}{lv sv fv:Value}{lr mk:Nat->Nat}{Lk:Nat->Nat->Nat}{A L:Nat->Nat}{f:Nat->Nat->Bool}(h:pE B w n nw bt ga gl lv sv fv lr mk Lk A L f)(hk:∀k:Nat,(∀x,w.heap[k]?≠zd (Obj.deferred x))->w'.heap[k]?=w.heap[k]?)(hz:w'.heap[0]?=w.heap[0]?)(hs:w.heap.size<=w'.heap.size):pE B w' n nw bt ga gl lv sv fv lr mk Lk A L f:=by
 have hb:∀{k:Nat} {cs:Array Value} {t:TypeId},w.heap[k]?=zd (zh cs t (0,0))->w'.heap[k]?=zd (zh cs t (0,0)):=λe=>(hk _ (λx h=>by rw[e]at h;cases h)).trans e
 have hc:∀{k o:Nat} {v:Value},w.cell? ⟨k,o,za⟩=zd v->w'.cell? ⟨k,o,za⟩=zd v:=λ{k o v} e=>(World.cell?_of_block (hk k (λx h=>by simp[World.cell?,h]at e))).trans e
 have hp:∀{g:Nat} {T:Nat->Nat},aH w nw g T->aH w' nw g T:=λh=>⟨hb h.row,h.lt⟩
 refine⟨hb h.box,h.Ab,λhn=>?_,λp hn=>⟨hb (h.pS p hn).1,(h.pS p hn).2⟩,λhn=>?_,λp hn=>⟨hp (h.wa p hn).1,(h.wa p hn).2⟩,⟨hp h.pa.1,h.pa.2⟩,⟨hp h.pl.1,h.pl.2⟩,h.dR.keep hz,h.pos,aU h.le hs,h.kC,h.gY,h.lb,h.ab⟩
 ·obtain⟨gs,cs,e,hl,k⟩:=h.CU hn;exact⟨gs,cs,e,hl,λp hp=>hc (k p hp)⟩
 ·obtain⟨gs,cs,e,hl,k⟩:=h.Ld hn;exact⟨gs,cs,e,hl,λp hp=>hc (k p hp)⟩
theorem gR.marks{O1 O2:Nat->Prop}{s:Nat}{v:ey}{a b:cd}(h:gR O1 O2 w s v a b)(hk:∀k:Nat,(∀x,w.heap[k]?≠zd (Obj.deferred x))->w'.heap[k]?=w.heap[k]?)(hO:∀k,O1 k\/O2 k->w'.heap[k]?=w.heap[k]?)(hz:w'.heap[0]?=w.heap[0]?)(hs:w.heap.size<=w'.heap.size):gR O1 O2 w' s v a b:=
 ⟨(hk s (λx e=>by rw[h.box]at e;cases e)).trans h.box,⟨h.c.c1.marks hk hz hs,h.c.c2.marks hk hz hs,h.c.p0,h.c.s0,h.c.s1,h.c.tb,h.c.ab,h.c.lb,h.c.sb,h.c.fb,h.c.bb,h.c.Gl,h.c.Gh,h.c.ne⟩,h.ra.keep λk h1 _=>hO k (.inl h1),h.rb.keep λk h1 _=>hO k (.inr h1),λk h1=>⟨(h.o1 k h1).1,bA (h.o1 k h1).2 hs⟩,λk h1=>⟨(h.o2 k h1).1,bA (h.o2 k h1).2 hs⟩,h.EB⟩
theorem zj6(p:Pt)(v:Value)(w:World)(hT:aR w v p)(hle:aF p<=2000)(hB:fG w)(h0:0<w.heap.size):
  Calls prog 142 #[v] w λe w'=>NwP w p e w':=by
 obtain⟨t,x,rfl⟩:=ji hT;have hW:=ES p _ hT;have dZ:=iS p _ hT;obtain⟨wt,F7⟩:∃wt:Nat,Hid (aF p=wt):=⟨(aF p).toNat,by show _=_;omega⟩;have rR:wt<=2000:=by have:=F7.out;omega
 rw[F7.out]at hW;obtain⟨nw,MW⟩:∃nw:Nat,Hid (nw=(wt+63)/64):=⟨_,rfl⟩;have bV:nw<=1000:=by have:=MW.out;omega
 have jx:=Fh p;clear hle dZ;refine(callsIn_wide (n:=5)).1 ?_;refine callsIn_of_wp_marks func142 rfl trivial ?_ rfl;refine wpIn_wide.2 ?_;simp only[ntmps142,yh,qg,oA,Nat.reduceAdd,Nat.reduceSub,Bl,Bm,Br,Bs,wJ,Bt]
 go_wp2_with (first|(refine H9 _ rfl _ _ rfl _ _ rfl hW ⟨λ_ _=>by kernel_rfl,λ_ _=>by kernel_rfl,λ_ _=>by kernel_rfl,λ_ _=>by kernel_rfl,λ_ _=>by kernel_rfl⟩ ?_;intro w1 ak)|(go_at_call 162;refine(zj7 wt nw MW.out (by omega) w1).mono ?_;rintro r W2 ⟨rfl,dH⟩;have y2:vf W2 w1.heap.size nw (zf za 0 0) (zf za 0 0):=(by rw[dH];exact aL _ _);have af:Below w1.heap.size w1 W2:=(by rw[dH];exact au);clear dH))
 have jK:Below w.heap.size w W2:=ak.trans (af.mono ak.size);have fD:0<w1.heap.size:=bA h0 ak.size;have tk2:=jp.start (B:=w1.heap.size) (ai _) fD y2 bV (hB.keep (jK.block 0 h0)) (λ_=>0) (λ_ _=>false) (λ_=>0) (λ_=>cK);have nP:=aR.keep (.of jK) p _ hT;have gz:=jx w1.heap.size 0 nw w1.heap.size _ _ _ _ _ _ W2 _ tk2 nP (by have:=F7.out;omega) (by have:=F7.out;have:=MW.out;omega);have bu:w1.heap.size<W2.heap.size:=(ap.1 y2).1;clear jx tk2 nP hT hW af y2 hB;refine gz.mono ?_;rintro r W3 ⟨n,ga,gl,e,sv,fv,mk,f,fr,F,A,L,rfl,hn,D⟩;obtain⟨fa,fc,rfl⟩:=C6 D.tk.fo;have HD:Hid _:=D;have k2:=(bW D.tk.box).2.2.1;have ky:n<=2000:=by have:=F7.out;omega
 have St:w1.heap.size<W3.heap.size:=(ap.1 D.tk.box).1;have iY:=zjp w1.heap.size ga gl nw e;obtain⟨W5,td⟩:∃W5,(W3.alloc (zh #[ze (zd ⟨w1.heap.size,0,za⟩),.bool e,zf (zd ⟨ga,0,za⟩) nw nw,zf (zd ⟨gl,0,za⟩) nw nw,zf za 0 0,ze za,ze za] 229)).alloc (zh #[ze (zd ⟨W3.heap.size,0,za⟩)] 197)=W5:=⟨_,rfl⟩;have bE:Below W3.heap.size W3 W5:=by rw[<-td];exact(au).alloc (by simp) _
 have x4:W5.heap[W3.heap.size]?=zd (zh #[ze (zd ⟨w1.heap.size,0,za⟩),.bool e,zf (zd ⟨ga,0,za⟩) nw nw,zf (zd ⟨gl,0,za⟩) nw nw,zf za 0 0,ze za,ze za] 229 (0,0)):=by rw[<-td];exact cQ (aL _ _)
 have x5:W5.heap[W3.heap.size+1]?=zd (zh #[ze (zd ⟨W3.heap.size,0,za⟩)] 197 (0,0)):=by
  rw[<-td];have:=aL (W3.alloc (zh #[ze (zd ⟨w1.heap.size,0,za⟩),.bool e,zf (zd ⟨ga,0,za⟩) nw nw,zf (zd ⟨gl,0,za⟩) nw nw,zf za 0 0,ze za,ze za] 229)) (zh #[ze (zd ⟨W3.heap.size,0,za⟩)] 197)
  simpa using this
 have k5:W5.cell? ⟨w1.heap.size,2,za⟩=zd (.slice fa n fc):=(bE.cell (p:=⟨w1.heap.size,2,za⟩) St).trans k2;have Xv:Hid (FD W5 W3.heap.size w1.heap.size ga gl nw e W5 0 (λ_=>0) za 0):=⟨aE.refl _ _,x4,⟨rfl,.inl ⟨rfl,rfl⟩⟩,λp hp=>by omega,λp q hp=>by omega⟩;have F8:Hid _:=x5;clear D gz hn x4 x5 k2
 go_wp2_with (first|(refine zeg rfl 229 #[(0,.tmp 11),(1,.tmp 14)] rfl [(0,ze (zd ⟨w1.heap.size,0,za⟩)),(1,zi #[.bool e,zf (zd ⟨ga,0,za⟩) nw nw,zf (zd ⟨gl,0,za⟩) nw nw])] (by simp[Act.eval]) _ iY ?_)|(refine zfn rfl 229 (.tmp 15) rfl #[ze (zd ⟨w1.heap.size,0,za⟩),.bool e,zf (zd ⟨ga,0,za⟩) nw nw,zf (zd ⟨gl,0,za⟩) nw nw,zf za 0 0,ze za,ze za] rfl ?_))
 clear iY td
 go_loopw [22] (λi wr=>∃(k:Nat) (br:Nat->Nat) (ba:Option Addr) (bc:Nat),k<=n/\i=zg .i64 k/\FD W5 W3.heap.size w1.heap.size ga gl nw e wr k br ba bc)
  (λi _=>n-(intOf i).toNat)
 case atStart=>exact⟨0,_,_,_,aZ _,rfl,Xv.out⟩
 case round=>
  obtain⟨k,br,ba,bc,hk,rfl,hA⟩:=hrel;have CH:W3.heap.size+1<W5.heap.size:=(ap.1 F8.out).1;have hcs:=(hA.tc.same (W3.heap.size+1) CH (by show ¬(W3.heap.size+1=W3.heap.size);omega)).trans F8.out;have aB:vf wr w1.heap.size nw sv (.slice fa n fc):=(hA.tc.same w1.heap.size (by omega) (by show ¬(w1.heap.size=W3.heap.size);omega)).trans ((bE.block _ St).trans HD.out.tk.box);have d0:wr.cell? ⟨W3.heap.size+1,0,za⟩=zd (ze (zd ⟨W3.heap.size,0,za⟩)):=(aO _ _ _ _ _ _ hcs:_=_);have d4:=(mD hA.box).2.2.2.2.1;have dt:=(bW aB).2.2.1
  by_cases hlt:k<n
  ·have hno:=Fl nw w1.heap.size sv (.slice fa n fc) wr.drew aB bV;have rf:Hid _:=λ(w6:World) (hp:aH w6 nw wr.heap.size cK) (hg:wr.drew.grownBy w6 za)=>hA.next (by omega) (by omega) hcs hp hg
   clear hA hcs aB dt;go_wp2;refine wp_mono (Q:=vk _) ?_ E7
   go_region_law ((first|(refine Dd (by rfl) 164 #[.tmp 29] #[224] (by rfl) #[ze (zd ⟨w1.heap.size,0,za⟩)] (by simp[Act.eval,Act.put]) (zf (zd ⟨wr.heap.size,0,za⟩) nw nw) (λw'=>aH w' nw wr.heap.size cK/\wr.drew.grownBy w' za) (zjB _ _) hno ?_;intro w6 Tw;obtain⟨g,c,kG,⟨e6,e6'⟩,⟨e7,e7'⟩,kR,RA,f10,zxS,hA'⟩:=rf.out w6 Tw.1 Tw.2;have HA':Hid _:=hA';clear Tw hA')|(refine V8 (by rfl) (.tmp 28) (.tmp 31) 227 (by rfl) _ _ (by rfl) (by rfl) _ _ kR ?_)|fail))
   all_goals
    clear hno kR e6 e6' e7 e7' RA f10 zxS d0 d4;rw[wy];go_wp2
    go_roundw
    case rel=>exact⟨k+1,_,_,_,by omega,by go_num,HA'.out⟩
    case measure=>simp[intOf];omega
  ·have ke:n=k:=by omega
   subst ke;clear Xv hlt d4 hk;have KD:=hA.tc.size;have dr:Hid (Mw wr n nw br F wr 0 (λ_=>cK)):=⟨aE.refl _ _,λp hp=>⟨(hA.set p hp).1,λq=>by rw[Ba];simp⟩⟩;have J1:∀p,p<n->W5.heap.size<=br p/\br p<wr.heap.size:=λp hp=>⟨(hA.set p hp).2,(hA.set p hp).1.cj⟩
   have HA:Hid _:=hA;have Hcs:Hid _:=hcs;have I8:Hid _:=J1;clear hA hcs J1;go_wp2;clear dt d0;refine wp_loop_ghost_k (λq a W=>∃(k:Nat) (G:Nat->Nat->Nat) (Ds:List Nat) (u5 u6 u7 u42 u43 u44 u45 u46 u47 u48 UK UL UM UN UO UQ UR UT UU UW:Value),q=n-k/\k<=n/\Hid (Mw wr n nw br F W k G)/\Hid (Ds.Nodup/\∀x∈Ds,wr.heap.size<=x/\W.heap[x]?=zd (.deferred (zd [])))/\a={tmps:=#[.iface t x,undef,ze za,ze (zd ⟨w1.heap.size,0,za⟩),ze (zd ⟨W3.heap.size+1,0,za⟩),u5,u6,u7,.iface t x,zg .i64 wt,ze (zd ⟨w1.heap.size,0,za⟩),ze (zd ⟨w1.heap.size,0,za⟩),ze (zd ⟨w1.heap.size,0,za⟩),.iface t x,zi #[.bool e,zf (zd ⟨ga,0,za⟩) nw nw,zf (zd ⟨gl,0,za⟩) nw nw],zi #[ze (zd ⟨w1.heap.size,0,za⟩),.bool e,zf (zd ⟨ga,0,za⟩) nw nw,zf (zd ⟨gl,0,za⟩) nw nw,zf za 0 0,ze za,ze za],ze (zd ⟨W3.heap.size,0,za⟩),ze (zd ⟨w1.heap.size,0,za⟩),ze (zd ⟨w1.heap.size,0,za⟩),ze (zd ⟨w1.heap.size,2,za⟩),.slice fa n fc,zg .i64 n,zg .i64 n,.bool false,u24,u25,u26,u27,u28,u29,u30,u31,u32,u33,u34,u35,ze (zd ⟨w1.heap.size,0,za⟩),ze (zd ⟨w1.heap.size,0,za⟩),ze (zd ⟨w1.heap.size,2,za⟩),.slice fa n fc,zg .i64 n,zg .i64 k,u42,u43,u44,u45,u46,u47,u48,UK,UL,UM,UN,UO,UQ,UR,UT,UU,UW,undef,undef,undef],defers:=Ds.map zty}) n ?start ?round
   case start=>exact⟨0,_,[],_,_,_,_,_,_,_,_,_,_,_,_,_,_,_,_,_,_,_,_,rfl,aZ _,dr,⟨List.nodup_nil,λ_ h=>by cases h⟩,rfl⟩
   case round=>
    rintro q a W ⟨k,G,Ds,u5,u6,u7,u42,u43,u44,u45,u46,u47,u48,UK,UL,UM,UN,UO,UQ,UR,UT,UU,UW,hq,ke,HB,vu,rfl⟩ J K hJ hK;have szW:=HB.out.tc.size;have wm:∀j,j<W5.heap.size->W.heap[j]?=wr.heap[j]?:=λj hj=>HB.out.tc.same j (by omega) (λ⟨p,h1,h2⟩=>by have:=(I8.out p h1).1;omega)
    have Sw:W.heap[W3.heap.size+1]?=zd (zh #[ze (zd ⟨W3.heap.size,0,za⟩)] 197 (0,0)):=(wm _ CH).trans Hcs.out;have EI:∀j,j<W3.heap.size->W.heap[j]?=W3.heap[j]?:=λj hj=>(wm j (by omega)).trans ((HA.out.tc.same j (by omega) (by show ¬(j=W3.heap.size);omega)).trans (bE.block j hj))
    have cW:W.cell? ⟨W3.heap.size+1,0,za⟩=zd (ze (zd ⟨W3.heap.size,0,za⟩)):=(aO _ _ _ _ _ _ Sw:_=_);have Dz:Hid _:=EI
    by_cases hlt:k<n
    ·obtain⟨gf,cf,aA,hfe,eT,Eb⟩:=xN HD.out.tk.fo (by omega);have Cs:gf<W3.heap.size:=(ap.1 eT).1;have cf2:W.cell? ⟨gf,k,za⟩=zd (zf (zd ⟨fr k,0,za⟩) nw nw):=(World.cell?_of_block (Dz.out gf Cs)).trans (by rw[aO _ _ _ _ _ _ eT,Eb k hlt];simp[gJ,hlt]);injection hfe with h1 _ h3
     subst h3;subst h1;clear eT Eb EI aA;have dO:(0:Int)<=(k:Int):=by omega
     have dh:(k:Int)<(n:Int):=by omega
     obtain⟨W0,ah⟩:∃W0,W.alloc (zh #[zg .i64 k] 3)=W0:=⟨_,rfl⟩;have b0:Below W.heap.size W W0:=by rw[<-ah];exact au
     have x0:W0.heap[W.heap.size]?=zd (zh #[zg .i64 k] 3 (0,0)):=by rw[<-ah];exact aL _ _
     have lD:W.heap.size<W0.heap.size:=(ap.1 x0).1;have RT:=HD.out.tk.fol.rows k hlt;have hFl:=RT.cj;have y1:aH W0 nw (fr k) (F k):=⟨(b0.block _ (by omega)).trans ((Dz.out _ hFl).trans RT.row),RT.lt⟩;have yB:fG W0:=HD.out.tk.dR.keep ((b0.block 0 (by omega)).trans (Dz.out 0 (by omega)));go_wp2
     rename_i K2 Aq _
     clear cf2;refine(wpIn_wide (n:=5)).1 ?_;clear ah;refine Ie (by omega) (gf:=165) (fb:=#[zf (zd ⟨fr k,0,za⟩) nw nw]) (lb:=#[]) rfl (enters_of func165 (by kernel_rfl) rfl)
      (T:=[0,fr k]) (by intro j hj;simp at hj;omega)
      (LI 4 nw (fr k) nw (F k) (by omega) bV W0 y1 yB) (λ_=>rfl)
      (λpre W'=>aE (λj=>∃p,p<n/\j=br p) W0 W'/\∃G':Nat->Nat->Nat,∀p,p<n->aH W' nw (br p) (G' p)/\∀q,ax (G' p) q=true↔(q<k/\ax (F q) p=true)\/(q=k/\p∈jC pre))
      (λ_ _ _=>False)
      (λs A B hs ht=>⟨hs.1.turn ht,by obtain⟨G',h1⟩:=hs.2;exact⟨G',λp hp=>⟨⟨ht.same _ _ (h1 p hp).1.row (.inr rfl),(h1 p hp).1.lt⟩,(h1 p hp).2⟩⟩⟩)
      (λc s A B hs ht=>hs)
      ⟨aE.refl _ _,G,λp hp=>⟨⟨(b0.block _ (HB.out.set p hp).1.cj).trans (HB.out.set p hp).1.row,(HB.out.set p hp).1.lt⟩,λq=>by rw[(HB.out.set p hp).2 q];simp[jC]⟩⟩
      (λz=>{tmps:=#[.iface t x,undef,ze za,ze (zd ⟨w1.heap.size,0,za⟩),ze (zd ⟨W3.heap.size+1,0,za⟩),ze (zd ⟨W.heap.size,0,za⟩),zf (zd ⟨fr k,0,za⟩) nw nw,zg .i64 (z.1:Int),.iface t x,zg .i64 wt,ze (zd ⟨w1.heap.size,0,za⟩),ze (zd ⟨w1.heap.size,0,za⟩),ze (zd ⟨w1.heap.size,0,za⟩),.iface t x,zi #[.bool e,zf (zd ⟨ga,0,za⟩) nw nw,zf (zd ⟨gl,0,za⟩) nw nw],zi #[ze (zd ⟨w1.heap.size,0,za⟩),.bool e,zf (zd ⟨ga,0,za⟩) nw nw,zf (zd ⟨gl,0,za⟩) nw nw,zf za 0 0,ze za,ze za],ze (zd ⟨W3.heap.size,0,za⟩),ze (zd ⟨w1.heap.size,0,za⟩),ze (zd ⟨w1.heap.size,0,za⟩),ze (zd ⟨w1.heap.size,2,za⟩),zf (zd ⟨gf,0,za⟩) n fc,zg .i64 n,zg .i64 n,.bool false,u24,u25,u26,u27,u28,u29,u30,u31,u32,u33,u34,u35,ze (zd ⟨w1.heap.size,0,za⟩),ze (zd ⟨w1.heap.size,0,za⟩),ze (zd ⟨w1.heap.size,2,za⟩),zf (zd ⟨gf,0,za⟩) n fc,zg .i64 n,zg .i64 k,.bool true,zg .i64 k,ze (zd ⟨gf,k,za⟩),zf (zd ⟨fr k,0,za⟩) nw nw,zf (zd ⟨fr k,0,za⟩) nw nw,.func (.func 165) #[zf (zd ⟨fr k,0,za⟩) nw nw] #[],zg .i64 (z.1:Int),UK,UL,UM,UN,UO,UQ,UR,UT,UU,UW,undef,undef,undef],defers:=[]})
      ?assign ?body ?done ?stop
     case assign=>
      intro l x W K hK
      gi_wp2
      exact hK
     case stop=>
      rintro D c pre W hD _ hf;exact hf.elim
     case body=>
      clear hJ hK Aq;rintro l pre ⟨x,hx⟩ W' hl ⟨ht,G',Ao⟩ hlen;have fF:x<n:=((HD.out.iV.fo k x ⟨aZ _,hlt⟩ hx.2)).2;obtain⟨gb,cb,zzH,Co,jr,rI⟩:=xN HA.out.own (by omega);have sz':=ht.size;have Ha:∀j,j<W0.heap.size->(∀p,p<n->j≠br p)->W'.heap[j]?=W0.heap[j]?:=λj h1 h2=>ht.same j h1 (λ⟨p,h3,h4⟩=>h2 p h3 h4)
      have bu:∀p,p<n->br p≠W.heap.size:=λp hp=>by have:=(HB.out.set p hp).1.cj;omega
      have zk:W'.cell? ⟨W.heap.size,0,za⟩=zd (zg .i64 k):=(World.cell?_of_block (Ha _ lD (λp hp e=>bu p hp e.symm))).trans (aO _ _ _ _ _ _ x0:_=_);have zc:W'.cell? ⟨W3.heap.size+1,0,za⟩=zd (ze (zd ⟨W3.heap.size,0,za⟩)):=(World.cell?_of_block (Ha (W3.heap.size+1) (by omega) (λp hp e=>by have:=(I8.out p hp).1;omega))).trans ((b0.cell (p:=⟨W3.heap.size+1,0,za⟩) (by show W3.heap.size+1<W.heap.size;omega)).trans cW);have TI:W.heap[W3.heap.size]?=wr.heap[W3.heap.size]?:=HB.out.tc.same _ (by omega) (λ⟨p,h1,h2⟩=>by have:=(I8.out p h1).1;omega);have zs:W'.cell? ⟨W3.heap.size,4,za⟩=zd (zf (zd ⟨gb,0,za⟩) n cb):=by
       rw[World.cell?_of_block (Ha W3.heap.size (by omega) (λp hp e=>by have:=(I8.out p hp).1;omega)),World.cell?_of_block ((b0.block W3.heap.size (by omega)).trans TI),(mD HA.out.box).2.2.2.2.1,Co]
      have zyi:gb<wr.heap.size:=(ap.1 jr).1;have SL:∀p,p<n->gb≠br p:=λp hp e=>by
       have:=(HA.out.set p hp).1.row;rw[<-e,jr]at this;exact absurd (bP this) (by decide)
      have zb:W'.cell? ⟨gb,x,za⟩=zd (zf (zd ⟨br x,0,za⟩) nw nw):=by
       rw[World.cell?_of_block (Ha gb (by omega) SL),World.cell?_of_block ((b0.block gb (by omega)).trans (HB.out.tc.same gb zyi (λ⟨p,h1,h2⟩=>SL p h1 h2))),aO _ _ _ _ _ _ jr,rI x fF];simp[gJ,fF]
      have lW:=λnq=>Fj nw (br x) nw (G' x) k (W'.drewN nq) (Ao x fF).1.row (by have:=HD.out.tk.kC;omega) bV (Ao x fF).1.lt
      have fE:(0:Int)<=(x:Int):=by omega
      have mj:(x:Int)<(n:Int):=by omega
      have fU:prog.follows .mixedOrders=true:=by kernel_rfl
      have Yd:Hid _:=bu;have HsX:Hid _:=Ha;have Qc:Hid _:=Ao;have Ht:Hid _:=ht;have zzU:br x<W'.heap.size:=(Ao x fF).1.cj;have zzR:=(I8.out x fF).1;have zzT:br x<W.heap.size:=(HB.out.set x fF).1.cj;clear bu Ha Ao ht Co jr rI SL wm Sw;dsimp only
      gi_wp2
      refine zhv 8 (λw'=>∃n,w'=W'.drewN n) fU ⟨1,rfl⟩ (by rintro ⟨_,_,h⟩;exact h) (by decide) (by kernel_rfl) rfl ?_;intro os ck;simp only[nE,tV]at ck;subst ck
      repeat (go_big_quiet_step (fail))
      refine wpQuiet_nil ?_;rintro w2 ⟨nq,rfl⟩ r' bZ;simp only[wM,wN]at bZ;subst bZ
      go_wp2_with (go_at_call 146;refine(lW nq).mono ?_;rintro e' w' ⟨rfl,tj,cY⟩)
      gi_wp2
      have bU:W'.grownBy w' (zd (br x)):=⟨cY.os,cY.tape,cY.output,cY.size,cY.block⟩;refine⟨KeepsFrom.of_grownBy (W:=W') (row:=zd (br x)) bU (λj e=>by cases e;omega),λj hj=>?_,Ht.out.grown (A:=W') (o:=zd (br x)) bU (λg e=>by cases e;exact .inl ⟨x,fF,rfl⟩),λp=>if p=x then kP (G' x) k else G' p,λp hp=>?_⟩
      ·refine bU.block j ?_ (λe=>?_)
       ·simp at hj;show j<W'.heap.size;omega
       ·have e':j=br x:=by simpa using e
        simp at hj;omega
      ·by_cases Ok:p=x
       ·subst Ok;simp only[if_true];refine⟨⟨tj,IA _ (Qc.out p hp).1.lt k⟩,λq=>?_⟩;rw[Il,sw,(Qc.out p hp).2 q,CZ];simp;constructor
        ·rintro ((h|⟨h,_⟩)|h)
         ·exact .inl h
         ·exact .inr h
         ·exact .inr h
        ·rintro (h|h)
         ·exact .inl (.inl h)
         ·exact .inr h
       ·simp only[aq Ok];have hne:br p≠br x:=λe=>Ok (HA.out.inj p x hp fF e)
        have h1:=Qc.out p hp;refine⟨⟨(bU.block (br p) h1.1.cj (λe=>hne (by simpa using e))).trans h1.1.row,h1.1.lt⟩,λq=>?_⟩;rw[h1.2 q,CZ];simp[Ok]
     case done=>
      rintro D ys W' hD jR ⟨ht,G',Ao⟩ ZT;have HB1:Hid (Mw wr n nw br F W' (k+1) G'):=by
       refine⟨HB.out.tc.trans ((aE.cH b0).trans ht),λp hp=>⟨(Ao p hp).1,λq=>?_⟩⟩;rw[(Ao p hp).2 q];have:=jR p;have:=HD.out.tk.kC;constructor
       ·rintro (⟨h1,h2⟩|⟨rfl,h2⟩)
        ·exact⟨by omega,h2⟩
        ·exact⟨by omega,((jR p).1 h2).2⟩
       ·rintro ⟨h1,h2⟩
        by_cases e:q=k
        ·subst e;exact .inr ⟨rfl,(jR p).2 ⟨by omega,h2⟩⟩
        ·exact .inl ⟨by omega,h2⟩
      have HD1:Hid ((D::Ds).Nodup/\∀x∈D::Ds,wr.heap.size<=x/\W'.heap[x]?=zd (.deferred (zd []))):=by
       have hlt:∀x∈Ds,x<W.heap.size:=λx hx=>(ap.1 (vu.out.2 x hx).2).1
       refine⟨List.nodup_cons.2 ⟨λh=>by have:=hlt D h;omega,vu.out.1⟩,λx hx=>?_⟩;rcases oB.1 hx with rfl|hx
       ·exact⟨by omega,ZT⟩
       ·refine⟨(vu.out.2 x hx).1,(ht.same x (by have:=hlt x hx;omega) (λ⟨p,h1,h2⟩=>?_)).trans ((b0.block x (hlt x hx)).trans (vu.out.2 x hx).2)⟩;have h3:=(HB.out.set p h1).1.row;rw[<-h2,(vu.out.2 x hx).2]at h3;cases h3
      refine Aq _ _ ?_;clear Aq ZT Ao ht jR;dsimp only;go_wp2;exact Handed.intro (n-(k+1)) (by omega) (hJ _ _ _ ⟨k+1,G',D::Ds,_,_,_,_,_,_,_,_,_,_,_,_,_,_,_,_,_,_,_,_,rfl,by omega,HB1,HD1,rfl⟩)
    ·obtain rfl:n=k:=by omega
     obtain⟨hC,gU,Z3,qu⟩:=zlM rfl bu fD HD.out rfl (by omega) bE HA.out HB.out;have Ed:=zjJ _ _ _ _ W gU hC;have M0:Hid _:=Z3;have FT:Hid _:=qu;clear Z3 qu hC gU hJ EI wm Sw hlt
     go_wp2_with fail
     refine Ed.mono ?_;rintro e' W4 ⟨rfl,a',b',O1,O2,hst,ha,hb,qy,zp⟩;have z4:W4.cell? ⟨W3.heap.size+1,0,za⟩=zd (ze (zd ⟨W3.heap.size,0,za⟩)):=(World.cell?_of_block (zp.same (W3.heap.size+1) (by omega) (by show ¬(W3.heap.size+1=W3.heap.size);omega))).trans cW;have jY:Hid _:=hst;have zw8:Hid _:=qy;have wT:Hid _:=zp;clear hst qy zp Ed cW;go_wp2;refine zf3 Ds W4 vu.out.1 (λx hx=>(wT.out.same x ((ap.1 (vu.out.2 x hx).2).1) (by have:=(vu.out.2 x hx).1;show ¬(x=W3.heap.size);omega)).trans (vu.out.2 x hx).2) (λW' cM iA nW N9 Oa=>?_);have J6:∀x,x∈Ds->x<W.heap.size/\wr.heap.size<=x:=λx hx=>⟨(ap.1 (vu.out.2 x hx).2).1,(vu.out.2 x hx).1⟩
     have hdd:∀x,x∈Ds->W4.heap[x]?=zd (.deferred (zd [])):=λx hx=>(wT.out.same x (J6 x hx).1 (by have:=(J6 x hx).2;show ¬(x=W3.heap.size);omega)).trans (vu.out.2 x hx).2
     have sz4:=wT.out.size;refine⟨ze (zd ⟨W3.heap.size,0,za⟩),by simp[results,results142,go_sem],W3.heap.size,_,a',b',O1,O2,rfl,jY.out.marks (λk h=>cM k (λhm=>h _ (hdd k hm))) (λk h=>cM k (λhm=>by have:=zw8.out k h;have:=(J6 k hm).1;omega)) (cM 0 (λhm=>by have:=(J6 0 hm).2;omega)) (by omega),ha,hb,M0.out,FT.out,by show w.heap.size<=w1.heap.size;exact ak.size,ky,by show nw=_;rw[F7.out,sx];exact MW.out,?_⟩;have ux:∀k,k<w.heap.size->W'.heap[k]?=w.heap[k]?:=λk hk=>by
      have h1:=ak.size;have h2:=jK.size;rw[cM k (λhm=>by have:=(J6 k hm).2;omega),wT.out.same k (by omega) (by show ¬(k=W3.heap.size);omega),Dz.out k (by omega),HD.out.kp.low k (by omega)];exact jK.block k hk
     exact⟨nW.trans (wT.out.os.trans (HB.out.tc.os.trans (HA.out.tc.os.trans (bE.os.trans (HD.out.kp.os.trans jK.os))))),N9.trans (wT.out.tape.trans (HB.out.tc.tape.trans (HA.out.tc.tape.trans (bE.tape.trans (HD.out.kp.tape.trans jK.tape))))),Oa.trans (wT.out.output.trans (HB.out.tc.output.trans (HA.out.tc.output.trans (bE.output.trans (HD.out.kp.output.trans jK.output))))),by have:=ak.size;have:=jK.size;omega,ux⟩
end
variable {u:aJ}{i n e m k:Nat}{p q b:Pt}{l:List Up}
theorem zoA(u:aJ){i n a b:Nat}(hb:b<=n):(((u.drop i).take n).drop a).take (b-a)=(u.drop (i+a)).take (b-a):=by
 rw[List.drop_take,List.take_take,List.drop_drop,IL (by omega)]
theorem zx(hn:i+n<=u.length){p:Pt}{a b:Nat}(hb:b<=n):Lg ((u.drop i).take n) p a b↔Lg u p (i+a) (i+b):=by
 unfold Lg;rw[zoA u hb,show i+b-(i+a)=b-a from by omega];have hl:((u.drop i).take n).length=n:=by simp;omega
 rw[hl];constructor
 ·rintro ⟨h1,h2,h3⟩;exact⟨by omega,by omega,h3⟩
 ·rintro ⟨h1,h2,h3⟩;exact⟨by omega,by omega,h3⟩
def lJ:Pt->Prop
 |.set _=>True
 |.seq p q=>lJ p/\lJ q
 |.aQ p q=>lJ p/\lJ q
 |.aw b _ _=>lJ b
 |.aT _ _=>False
theorem Fq{u:aJ}:∀(p:Pt),lJ p->∀(i j:Nat) (l:List Up),Pl u p i j l->l=[]
 |.set _,_,_,_,_,h=>h
 |.aT _ _,h,_,_,_,_=>h.elim
 |.seq p q,hn,i,j,_,⟨k,l1,l2,_,h1,h2,e⟩=>by
  rw[e,Fq p hn.1 i k l1 h1,Fq q hn.2 k j l2 h2];rfl
 |.aQ p q,hn,i,j,l,h=>by
  rcases h with ⟨_,h⟩|⟨_,h⟩
  ·exact Fq p hn.1 i j l h
  ·exact Fq q hn.2 i j l h
 |.aw b mn mx,hn,i,j,l,h=>by
  replace h:ie (Lg u b) (Pl u b) (λmn mx i j=>Lg u (.aw b mn mx) i j) mn.toNat mx i j l:=h;have ih:=Fq (u:=u) b hn;clear hn;generalize mn.toNat=n at h
  induction h with
  |done=>rfl
  |pk=>rfl
  |out=>rfl
  |must _ _ i j k l1 l2 _ h1 _ xE=>rw[ih i k l1 h1,xE];rfl
  |may _ i j k l1 l2 _ _ h1 _ xE=>rw[ih i k l1 h1,xE];rfl
  |more i j k l1 l2 _ _ h1 _ xE=>rw[ih i k l1 h1,xE];rfl
abbrev Laid:=List (Pt×Nat)
inductive rk (u:aJ):Laid->Nat->List Up->Prop
 |nil (i:Nat):rk u [] i []
 |cons (q:Pt) (e:Nat) (L:Laid) (i:Nat) (l1 l2:List Up):Pl u q i e l1->rk u L e l2->rk u ((q,e)::L) i (l1++l2)
def yz(u:aJ)(j:Nat):Laid->Nat->Prop
 |[],_=>True
 |(q,e)::L,i=>Lg u q i e/\e<=j/\yz u j L e
def pV(i:Nat)(L:Laid):Laid:=L.map λx=>(x.1,i+x.2)
def sk:Pt->Nat->Nat->List Up
 |.aT _ g,i,j=>[(g,i,j)]
 |_,_,_=>[]
def zxf(u:aJ)(p:Pt)(i j:Nat)(L:Laid):Prop:=yz u j L i/\∀l,rk u L i l->Pl u p i j (sk p i j++l)
abbrev fR:=Pt×Bool
def ig(u:aJ)(n:Nat):List fR->Nat->Prop
 |[],m=>m=n
 |(q,o)::ls,m=>(∃e,ig u n ls e/\Lg u q m e)\/(o=true/\m=n)
theorem ig.le:∀{ls:List fR} {m:Nat},ig u n ls m->m<=n
 |[],_,h=>Nat.le_of_eq h
 |(_,_)::ls,_,h=>by
  rcases h with ⟨e,h1,h2⟩|⟨_,h⟩
  ·exact aU h2.1 (ig.le h1)
  ·exact Nat.le_of_eq h
inductive jD (u:aJ) (n:Nat):List fR->Nat->Laid->Prop
 |nil (i:Nat):jD u n [] i []
 |stop (q:Pt) (o:Bool) (ls:List fR) (i:Nat):(∀e,ig u n ls e->¬Lg u q i e)->jD u n ((q,o)::ls) i []
 |cons (q:Pt) (o:Bool) (ls:List fR) (i e:Nat) (L:Laid):nF (λe=>Lg u q i e/\ig u n ls e) i n e->jD u n ls e L->jD u n ((q,o)::ls) i ((q,e)::L)
theorem PN(hn:i+n<=u.length):∀(ls:List fR) (m:Nat),m<=n->(ig ((u.drop i).take n) n ls m↔ig u (i+n) ls (i+m))
 |[],m,hm=>⟨λh=>by have h:m=n:=h;subst h;rfl,λh=>by have h:i+m=i+n:=h;show m=n;omega⟩
 |(q,o)::ls,m,hm=>by
  constructor
  ·rintro (⟨e,h1,h2⟩|⟨h1,h2⟩)
   ·have he:=h1.le;exact .inl ⟨i+e,(PN hn ls e he).1 h1,(zx hn he).1 h2⟩
   ·exact .inr ⟨h1,by omega⟩
  ·rintro (⟨e,h1,h2⟩|⟨h1,h2⟩)
   ·have he:=h1.le;have h3:=h2.1;obtain⟨x,rfl⟩:∃x,e=i+x:=⟨e-i,by omega⟩;exact .inl ⟨x,(PN hn ls x (by omega)).2 h1,(zx hn (by omega)).2 h2⟩
   ·exact .inr ⟨h1,by omega⟩
theorem zo0{P Q:Nat->Prop}{a:Nat}(h:nF P a n e)(hc:∀x,x<=n->(P x↔Q (i+x))):nF Q (i+a) (i+n) (i+e):=by
 refine⟨by have:=h.1;omega,by have:=h.2.1;omega,(hc e h.2.1).1 h.2.2.1,λm h1 h2 h3=>?_⟩;obtain⟨x,rfl⟩:∃x,m=i+x:=⟨m-i,by omega⟩;exact h.2.2.2 x (by omega) (by omega) ((hc x (by omega)).2 h3)
theorem zom(hn:i+n<=u.length){ls:List fR}{a:Nat}{L:Laid}(h:jD ((u.drop i).take n) n ls a L):a<=n->jD u (i+n) ls (i+a) (pV i L):=by
 induction h with
 |nil a=>intro _;exact .nil _
 |stop q o ls a h=>
  intro ha;refine .stop q o ls _ λe h1 h2=>?_
  have:=h1.le;have h3:=h2.1;obtain⟨x,rfl⟩:∃x,e=i+x:=⟨e-i,by omega⟩;exact h x ((PN hn ls x (by omega)).2 h1) ((zx hn (by omega)).2 h2)
 |cons q o ls a e L h _ ih=>
  intro ha;exact .cons q o ls _ _ _ (zo0 h λx hx=>and_congr (zx hn hx) (PN hn ls x hx)) (ih h.2.1)
def jV:Pt->List Pt
 |.seq l r=>l::jV r
 |p=>[p]
def tS(qs:List Pt):List fR:=qs.map λq=>(q,false)
theorem Mf:ig u n [(p,false)] m↔Lg u p m n:=by
 constructor
 ·rintro (⟨e,h1,h2⟩|⟨h,_⟩)
  ·have h1:e=n:=h1;subst h1;exact h2
  ·cases h
 ·intro h;exact .inl ⟨n,rfl,h⟩
theorem Mg:∀(p:Pt) (m:Nat),ig u n (tS (jV p)) m↔Lg u p m n
 |.seq l r,m=>by
  rw[Xb];constructor
  ·rintro (⟨e,h1,h2⟩|⟨h,_⟩)
   ·exact⟨e,h2,(Mg r e).1 h1⟩
   ·cases h
  ·rintro ⟨e,h1,h2⟩;exact .inl ⟨e,(Mg r e).2 h2,h1⟩
 |.set _,m=>Mf
 |.aQ _ _,m=>Mf
 |.aw _ _ _,m=>Mf
 |.aT _ _,m=>Mf
theorem WJ(h:rk u [(q,e)] i l):Pl u q i e l:=by
 cases h with
 |cons _ _ _ _ l1 l2 h1 h2=>cases h2;rw[tW];exact h1
theorem L9{L:Laid}(h:jD u n [(p,false)] i L)(hp:Lg u p i n):yz u n L i/\∀l,rk u L i l->Pl u p i n l:=by
 cases h with
 |stop _ _ _ _ h=>exact absurd hp (h n rfl)
 |cons _ _ _ _ e L g h=>
  have he:e=n:=g.2.2.1.2;subst he;cases h;exact⟨⟨hp,ai _,trivial⟩,λl hl=>WJ hl⟩
theorem zop:∀(p:Pt) (i:Nat) (L:Laid),jD u n (tS (jV p)) i L->Lg u p i n->yz u n L i/\∀l,rk u L i l->Pl u p i n l
 |.seq a r,i,L,h,hp=>by
  cases h with
  |stop _ _ _ _ h=>
   obtain⟨e,h1,h2⟩:=Xb.1 hp;exact absurd h1 (h e ((Mg r e).2 h2))
  |cons _ _ _ _ e L g h=>
   have g':=g.congr (Q:=λe=>Lg u a i e/\Lg u r e n) λm _ _=>and_congr Iff.rfl (Mg r m)
   obtain⟨h1,h2⟩:=zop r e L h g'.2.2.1.2;refine⟨⟨g'.2.2.1.1,g'.2.1,h1⟩,λl hl=>?_⟩;cases hl with
   |cons _ _ _ _ l1 l2 k1 k2=>exact⟨e,l1,l2,g',k1,h2 l2 k2,rfl⟩
 |.set _,i,L,h,hp=>L9 h hp
 |.aQ _ _,i,L,h,hp=>L9 h hp
 |.aw _ _ _,i,L,h,hp=>L9 h hp
 |.aT _ _,i,L,h,hp=>L9 h hp
def gI(b:Pt)(mn:Nat)(mx:Int):List fR:=List.replicate mn (b,false)++(List.replicate (mx-mn).toNat (b,true)++(if mx=-1 then [(.aw b 0 (-1),false)] else []))
def sr(mx:Int):Int:=if 0<mx then mx-1 else mx
theorem VJ(b:Pt)(mn:Nat)(mx:Int)(h:mx=-1\/(mn:Int)+1<=mx):gI b (mn+1) mx=(b,false)::gI b mn (sr mx):=by
 unfold gI sr;rcases h with rfl|h
 ·simp[List.replicate_succ];omega
 ·have e1:(if 0<mx then mx-1 else mx)=mx-1:=aD (by omega);have e2:¬mx=-1:=by omega
  have e3:¬mx-1=-1:=by omega
  rw[e1,aq e2,aq e3,show (mx-((mn+1:Nat):Int)).toNat=(mx-1-(mn:Int)).toNat from by omega];simp[List.replicate_succ]
theorem V9(b:Pt)(k:Nat):gI b 0 ((k+1:Nat):Int)=(b,true)::gI b 0 (k:Int):=by
 unfold gI;rw[aq (by omega),aq (by omega),show (((k+1:Nat):Int)-((0:Nat):Int)).toNat=k+1 from by omega,show ((k:Int)-((0:Nat):Int)).toNat=k from by omega];simp[List.replicate_succ]
theorem VZ(b:Pt):gI b 0 0=[]:=by simp[gI]
theorem VI(b:Pt):gI b 0 (-1)=[(.aw b 0 (-1),false)]:=by simp[gI]
theorem zsS(hn:n<=u.length):Lg u (.aw b ((0:Nat):Int) ((0:Nat):Int)) m n↔m=n:=by
 rw[wD];constructor
 ·rintro ⟨_,k,_,h2,h3⟩;obtain rfl:k=0:=by omega
  exact h3
 ·intro h;exact⟨hn,0,by omega,.inr (by omega),h⟩
theorem ztv(hn:n<=u.length):Lg u (.aw b ((0:Nat):Int) ((k+1:Nat):Int)) m n↔(∃e,Lg u (.aw b ((0:Nat):Int) (k:Int)) e n/\Lg u b m e)\/m=n:=by
 constructor
 ·intro h;rcases zsZ (by omega) h with h|⟨e,h1,h2⟩
  ·exact .inr h
  ·rw[show ((k+1:Nat):Int)-1=(k:Int) from by omega]at h2;exact .inl ⟨e,h2,h1⟩
 ·rintro (⟨e,h1,h2⟩|rfl)
  ·obtain⟨h3,x,h4,h5,h6⟩:=wD.1 h1;exact wD.2 ⟨hn,x+1,by omega,.inr (by omega),e,h2,h6⟩
  ·exact Mc hn _ (.inr (by omega))
theorem Fm(hn:n<=u.length){b:Pt}:∀(mn:Nat) (mx:Int),(mx=-1\/(mn:Int)<=mx)->∀m,ig u n (gI b mn mx) m↔Lg u (.aw b mn mx) m n
 |mn+1,mx,hb,m=>by
  rw[VJ b mn mx (by omega),WA (by omega)];constructor
  ·rintro (⟨e,h1,h2⟩|⟨h,_⟩)
   ·exact⟨e,h2,(Fm hn mn (sr mx) (by unfold sr;split<;>omega) e).1 h1⟩
   ·cases h
  ·rintro ⟨e,h1,h2⟩;exact .inl ⟨e,(Fm hn mn (sr mx) (by unfold sr;split<;>omega) e).2 h2,h1⟩
 |0,mx,hb,m=>by
  rcases hb with rfl|hb
  ·rw[VI];exact Mf
  ·obtain⟨k,rfl⟩:∃k:Nat,mx=k:=⟨mx.toNat,by omega⟩;clear hb
   induction k generalizing m with
   |zero=>rw[zsS hn];show ig u n (gI b 0 0) m↔_;rw[VZ];exact Iff.rfl
   |succ k ih=>
    rw[V9,ztv hn];show (∃e,ig u n (gI b 0 (k:Int)) e/\Lg u b m e)\/(true=true/\m=n)↔_;constructor
    ·rintro (⟨e,h1,h2⟩|⟨_,h⟩)
     ·exact .inl ⟨e,(ih e).1 h1,h2⟩
     ·exact .inr h
    ·rintro (⟨e,h1,h2⟩|h)
     ·exact .inl ⟨e,(ih e).2 h1,h2⟩
     ·exact .inr ⟨rfl,h⟩
theorem zoo(hn:n<=u.length){b:Pt}:∀(mn:Nat) (mx:Int),(mx=-1\/(mn:Int)<=mx)->∀(i:Nat) (L:Laid),jD u n (gI b mn mx) i L->Lg u (.aw b mn mx) i n->yz u n L i/\∀l,rk u L i l->ie (Lg u b) (Pl u b) (λmn mx i j=>Lg u (.aw b mn mx) i j) mn mx i n l
 |mn+1,mx,hb,i,L,h,hp=>by
  have Cm:sr mx=-1\/(mn:Int)<=sr mx:=by unfold sr;split<;>omega
  rw[VJ b mn mx (by omega)]at h;cases h with
  |stop _ _ _ _ h=>
   obtain⟨e,h1,h2⟩:=(WA (by omega)).1 hp;exact absurd h1 (h e ((Fm hn mn (sr mx) Cm e).2 h2))
  |cons _ _ _ _ e L g h=>
   have g':=g.congr (Q:=λe=>Lg u b i e/\Lg u (.aw b mn (sr mx)) e n) λm _ _=>and_congr Iff.rfl (Fm hn mn (sr mx) Cm m)
   obtain⟨h1,h2⟩:=zoo hn mn (sr mx) Cm e L h g'.2.2.1.2;refine⟨⟨g'.2.2.1.1,g'.2.1,h1⟩,λl hl=>?_⟩;cases hl with
   |cons _ _ _ _ l1 l2 k1 k2=>exact .must mn mx i n e l1 l2 g' k1 (h2 l2 k2)
 |0,mx,hb,i,L,h,hp=>by
  rcases hb with rfl|hb
  ·rw[VI]at h;exact L9 h hp
  ·obtain⟨k,rfl⟩:∃k:Nat,mx=k:=⟨mx.toNat,by omega⟩;clear hb
   induction k generalizing i L with
   |zero=>
    have h:jD u n (gI b 0 0) i L:=h;rw[VZ]at h;cases h;exact⟨trivial,λl hl=>by cases hl;exact .done i n⟩
   |succ k ih=>
    rw[V9]at h;have e0:((k+1:Nat):Int)-1=(k:Int):=by omega
    have ht:=λm=>Fm hn (b:=b) 0 (k:Int) (.inr (by omega)) m
    cases h with
    |stop _ _ _ _ h=>
     refine⟨trivial,λl hl=>?_⟩;cases hl;refine .out _ i n (by omega) λx _ _ ⟨h1,h2⟩=>h x ((ht x).2 ?_) h1
     rw[e0]at h2;exact h2
    |cons _ _ _ _ e L g h=>
     have g':=g.congr (Q:=λe=>Lg u b i e/\Lg u (.aw b ((0:Nat):Int) (k:Int)) e n) λm _ _=>and_congr Iff.rfl (ht m)
     obtain⟨h1,h2⟩:=ih e L h g'.2.2.1.2;refine⟨⟨g'.2.2.1.1,g'.2.1,h1⟩,λl hl=>?_⟩;cases hl with
     |cons _ _ _ _ l1 l2 k1 k2=>exact .may _ i n e l1 l2 (by omega) (by rw[e0];exact g') k1 (by rw[e0];exact h2 l2 k2)
inductive nK (u:aJ) (n:Nat) (b:Pt):Nat->Laid->Prop
 |done:nK u n b n []
 |more (i e:Nat) (L:Laid):i<n->nF (λe=>Lg u b i e/\Lg u (.aw b 0 (-1)) e n) (i+1) n e->nK u n b e L->nK u n b i ((b,e)::L)
theorem zs5(hn:i+n<=u.length){b:Pt}{a:Nat}{L:Laid}(h:nK ((u.drop i).take n) n b a L):nK u (i+n) b (i+a) (pV i L):=by
 induction h with
 |done=>exact .done
 |more a e L hi g _ ih=>exact .more _ _ _ (by omega) (zo0 (a:=a+1) g λx hx=>and_congr (zx hn hx) (zx hn (ai n))) ih
theorem ztK{L:Laid}(h:nK u n b i L):yz u n L i/\∀l,rk u L i l->ie (Lg u b) (Pl u b) (λmn mx i j=>Lg u (.aw b mn mx) i j) 0 (-1) i n l:=by
 induction h with
 |done=>exact⟨trivial,λl hl=>by cases hl;exact .pk n⟩
 |more i e L hi g _ ih=>
  refine⟨⟨g.2.2.1.1,g.2.1,ih.1⟩,λl hl=>?_⟩;cases hl with
  |cons _ _ _ _ l1 l2 k1 k2=>exact .more i n e l1 l2 hi g k1 (ih.2 l2 k2)
def dw:Pt->List Pt
 |.aQ l r=>dw l++dw r
 |p=>[p]
def zwX(u:aJ)(i n:Nat)(qs:List Pt)(L:Laid):Prop:=∃(k:Nat) (q:Pt),qs[k]?=zd q/\(∀(j:Nat) (q':Pt),j<k->qs[j]?=zd q'->¬Lg u q' i n)/\Lg u q i n/\L=[(q,n)]
theorem LV:∀(p:Pt),Lg u p i n↔∃q∈dw p,Lg u q i n
 |.aQ l r=>by
  rw[Xa,LV l,LV r];constructor
  ·rintro (⟨q,h1,h2⟩|⟨q,h1,h2⟩)
   ·exact⟨q,er.2 (.inl h1),h2⟩
   ·exact⟨q,er.2 (.inr h1),h2⟩
  ·rintro ⟨q,h1,h2⟩;rcases er.1 h1 with h1|h1
   ·exact .inl ⟨q,h1,h2⟩
   ·exact .inr ⟨q,h1,h2⟩
 |.set _=>⟨λh=>⟨_,eM.2 rfl,h⟩,λ⟨q,h1,h2⟩=>by obtain rfl:=eM.1 h1;exact h2⟩
 |.seq _ _=>⟨λh=>⟨_,eM.2 rfl,h⟩,λ⟨q,h1,h2⟩=>by obtain rfl:=eM.1 h1;exact h2⟩
 |.aw _ _ _=>⟨λh=>⟨_,eM.2 rfl,h⟩,λ⟨q,h1,h2⟩=>by obtain rfl:=eM.1 h1;exact h2⟩
 |.aT _ _=>⟨λh=>⟨_,eM.2 rfl,h⟩,λ⟨q,h1,h2⟩=>by obtain rfl:=eM.1 h1;exact h2⟩
theorem PL(h:[p][k]?=zd q)(hl:Pl u q i n l):Pl u p i n l:=by
 cases k with
 |zero=>simp at h;subst h;exact hl
 |succ k=>simp at h
theorem WX:∀(p:Pt) (k:Nat),(dw p)[k]?=zd q->(∀j q',j<k->(dw p)[j]?=zd q'->¬Lg u q' i n)->Lg u q i n->Pl u q i n l->Pl u p i n l
 |.aQ a r,k,h,hf,hq,hl=>by
  by_cases hk:k<(dw a).length
  ·have h1:(dw a)[k]?=zd q:=by rw[<-h];exact(qR hk).symm
   exact .inl ⟨(LV a).2 ⟨q,Bq h1,hq⟩,WX a k h1 (λj q' hj e=>hf j q' hj (by rw[<-e];exact qR (by omega))) hq hl⟩
  ·have h1:(dw r)[k-(dw a).length]?=zd q:=by rw[<-h];exact(vo (by omega)).symm
   refine .inr ⟨λhc=>?_,WX r _ h1 (λj q' hj e=>hf ((dw a).length+j) q' (by omega) (by rw[<-e];exact(vo (by omega)).trans (by congr 1;omega))) hq hl⟩;obtain⟨q',h2,h3⟩:=(LV a).1 hc;obtain⟨j,hj,e⟩:=List.getElem_of_mem h2;exact hf j q' (by omega) (by show (dw a++dw r)[j]?=_;rw[qR hj,eY hj,e]) h3
 |.set _,k,h,_,_,hl=>PL h hl
 |.seq _ _,k,h,_,_,hl=>PL h hl
 |.aw _ _ _,k,h,_,_,hl=>PL h hl
 |.aT _ _,k,h,_,_,hl=>PL h hl
def yy(u:aJ)(i n:Nat):Pt->Laid->Prop
 |.set _,L=>L=[]
 |.aT b _,L=>L=[(b,n)]
 |.aQ p q,L=>zwX u i n (dw (.aQ p q)) L
 |.seq p q,L=>jD u n (tS (jV (.seq p q))) i L
 |.aw b mn mx,L=>if mn=0/\mx=-1 then nK u n b i L else jD u n (gI b mn.toNat mx) i L
theorem zre(hn:i+n<=u.length):∀(p:Pt) (L:Laid),yy ((u.drop i).take n) 0 n p L->yy u i (i+n) p (pV i L)
 |.set _,L,h=>by have h:L=[]:=h;subst h;rfl
 |.aT b _,L,h=>by have h:L=[(b,n)]:=h;subst h;rfl
 |.aQ p q,L,⟨k,x,h1,h2,h3,h4⟩=>⟨k,x,h1,λj q' hj e h=>h2 j q' hj e ((zx hn (ai n)).2 h),(zx hn (ai n)).1 h3,by subst h4;rfl⟩
 |.seq p q,L,h=>zom hn (a:=0) h (aZ _)
 |.aw b mn mx,L,h=>by
  replace h:if mn=0/\mx=-1 then nK ((u.drop i).take n) n b 0 L else jD ((u.drop i).take n) n (gI b mn.toNat mx) 0 L:=h
  show if mn=0/\mx=-1 then nK u (i+n) b i (pV i L) else jD u (i+n) (gI b mn.toNat mx) i (pV i L)
  by_cases e:mn=0/\mx=-1
  ·rw[aD e]at h ⊢;exact zs5 hn (a:=0) h
  ·rw[aq e]at h ⊢;exact zom hn (a:=0) h (aZ _)
theorem zsR(hn:n<=u.length):∀(p:Pt) (L:Laid),oO p->(∀f,p≠.set f)->Lg u p i n->yy u i n p L->zxf u p i n L
 |.set f,L,_,hs,_,_=>absurd rfl (hs f)
 |.aT b g,L,_,_,hp,h=>by
  have h:L=[(b,n)]:=h;subst h;exact⟨⟨hp,ai _,trivial⟩,λl hl=>⟨l,rfl,WJ hl⟩⟩
 |.aQ p q,L,_,_,_,⟨k,x,h1,h2,h3,h4⟩=>by
  subst h4;exact⟨⟨h3,ai _,trivial⟩,λl hl=>WX (.aQ p q) k h1 h2 h3 (WJ hl)⟩
 |.seq p q,L,_,_,hp,h=>zop (.seq p q) i L h hp
 |.aw b mn mx,L,ho,_,hp,h=>by
  obtain⟨_,h1,h2⟩:=ho;obtain⟨m,rfl⟩:∃m:Nat,mn=m:=⟨mn.toNat,by omega⟩;replace h:if (m:Int)=0/\mx=-1 then nK u n b i L else jD u n (gI b m mx) i L:=h
  by_cases e:(m:Int)=0/\mx=-1
  ·rw[aD e]at h;obtain⟨e1,rfl⟩:=e;obtain rfl:m=0:=by omega
   exact ztK h
  ·rw[aq e]at h;exact zoo hn m mx h2 i L h hp
end Go.Proofs.YtdimhpfiieepiaaGreatDoor
