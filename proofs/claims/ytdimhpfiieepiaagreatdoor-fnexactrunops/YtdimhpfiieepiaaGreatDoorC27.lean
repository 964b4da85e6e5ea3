import Derived.Test.YtdimhpfiieepiaaGreatDoorC26
import Derived.Deep.LoopGhost
namespace Go.Proofs.YtdimhpfiieepiaaGreatDoor
open Proofs.Tryz
open Option renaming some->za,none->zd
open Value renaming pointer->ze,slice->zg,int->zh,agg->zn
open Go renaming World->zf,Value->zl,Calls->zo,TypeId->zp
open Obj renaming cells->zi
open RowKit renaming Hid->zj,Below->zm
set_option maxHeartbeats 1000000
set_option maxRecDepth 100000
open Go.RowKit
section
variable {w w':zf}
attribute [local go_sem] Oper.semAt_some
def NwP(w:zf)(p:Pt)(e:Ending)(w':zf):Prop:=
 ∃(s:Nat) (v:eE) (a b:cz) (O1 O2:Nat->Prop),e=.returned (ze (za ⟨s,0,zd⟩))/\gW O1 O2 w' s v a b/\a.m=1/\b.m=1/\pF (cj p 0) v.n v.nw v.f v.F v.G v.A v.L/\(v.e=true↔(cj p 0).e)/\w.heap.size<=v.b0/\v.n<=2000/\v.nw=((aE p).toNat+63)/64/\zm w.heap.size w w'
theorem zjo(bt ga gl nw:Nat)(e:Bool):prog.built 229 [(0,ze (za ⟨bt,0,zd⟩)),(1,zn #[.bool e,zg (za ⟨ga,0,zd⟩) nw nw,zg (za ⟨gl,0,zd⟩) nw nw])]=za #[ze (za ⟨bt,0,zd⟩),.bool e,zg (za ⟨ga,0,zd⟩) nw nw,zg (za ⟨gl,0,zd⟩) nw nw,zg zd 0 0,ze zd,ze zd]:=by kernel_rfl
theorem pN.marks{B:Nat}{n nw bt ga gl:Nat}{lv sv fv:zl}{lr mk:Nat->Nat}{Lk:Nat->Nat->Nat}{A L:Nat->Nat}{f:Nat->Nat->Bool}(h:pN B w n nw bt ga gl lv sv fv lr mk Lk A L f)(hk:∀k:Nat,(∀x,w.heap[k]?≠za (Obj.deferred x))->w'.heap[k]?=w.heap[k]?)(hz:w'.heap[0]?=w.heap[0]?)(hs:w.heap.size<=w'.heap.size):pN B w' n nw bt ga gl lv sv fv lr mk Lk A L f:=by
 have hb:∀{k:Nat} {cs:Array zl} {t:zp},w.heap[k]?=za (zi cs t (0,0))->w'.heap[k]?=za (zi cs t (0,0)):=λe=>(hk _ (λx h=>by rw[e]at h;cases h)).trans e
 have hc:∀{k o:Nat} {v:zl},w.cell? ⟨k,o,zd⟩=za v->w'.cell? ⟨k,o,zd⟩=za v:=λ{k o v} e=>(World.cell?_of_block (hk k (λx h=>by simp[World.cell?,h]at e))).trans e
 have hp:∀{g:Nat} {T:Nat->Nat},aH w nw g T->aH w' nw g T:=λh=>⟨hb h.row,h.lt⟩
 refine⟨hb h.box,h.AP,λhn=>?_,λp hn=>⟨hb (h.qf p hn).1,(h.qf p hn).2⟩,λhn=>?_,λp hn=>⟨hp (h.wE p hn).1,(h.wE p hn).2⟩,⟨hp h.pa.1,h.pa.2⟩,⟨hp h.pl.1,h.pl.2⟩,h.dv.keep hz,h.pos,aW h.le hs,h.kE,h.ic,h.lb,h.ab⟩
 ·obtain⟨gs,cs,e,hl,k⟩:=h.Dx hn;exact⟨gs,cs,e,hl,λp hp=>hc (k p hp)⟩
 ·obtain⟨gs,cs,e,hl,k⟩:=h.MG hn;exact⟨gs,cs,e,hl,λp hp=>hc (k p hp)⟩
theorem gW.marks{O1 O2:Nat->Prop}{s:Nat}{v:eE}{a b:cz}(h:gW O1 O2 w s v a b)(hk:∀k:Nat,(∀x,w.heap[k]?≠za (Obj.deferred x))->w'.heap[k]?=w.heap[k]?)(hO:∀k,O1 k\/O2 k->w'.heap[k]?=w.heap[k]?)(hz:w'.heap[0]?=w.heap[0]?)(hs:w.heap.size<=w'.heap.size):gW O1 O2 w' s v a b:=
 ⟨(hk s (λx e=>by rw[h.box]at e;cases e)).trans h.box,⟨h.c.c1.marks hk hz hs,h.c.c2.marks hk hz hs,h.c.p0,h.c.s0,h.c.s1,h.c.tb,h.c.ab,h.c.lb,h.c.sb,h.c.fb,h.c.bb,h.c.Ia,h.c.HH,h.c.ne⟩,h.ra.keep λk h1 _=>hO k (.inl h1),h.rb.keep λk h1 _=>hO k (.inr h1),λk h1=>⟨(h.o1 k h1).1,bA (h.o1 k h1).2 hs⟩,λk h1=>⟨(h.o2 k h1).1,bA (h.o2 k h1).2 hs⟩,h.FA⟩
theorem zj6(p:Pt)(v:zl)(w:zf)(hT:aU w v p)(hle:aE p<=2000)(hB:fS w)(h0:0<w.heap.size):
  zo prog 142 #[v] w λe w'=>NwP w p e w':=by
 obtain⟨t,x,rfl⟩:=je hT;have hW:=FP p _ hT;have dV:=iP p _ hT;obtain⟨wt,GY⟩:∃wt:Nat,zj (aE p=wt):=⟨(aE p).toNat,by show _=_;omega⟩;have rX:wt<=2000:=by have:=GY.out;omega
 rw[GY.out]at hW;obtain⟨nw,Ol⟩:∃nw:Nat,zj (nw=(wt+63)/64):=⟨_,rfl⟩;have bY:nw<=1000:=by have:=Ol.out;omega
 have jo:=Gh p;clear hle dV;refine(callsIn_wide (n:=5)).1 ?_;refine callsIn_of_wp_marks func142 rfl trivial ?_ rfl;refine wpIn_wide.2 ?_;simp only[ntmps142,yE,qu,oJ,Nat.reduceAdd,Nat.reduceSub,B4,B5,B9,BW,wX,BX]
 go_wp2_with (first|(refine Jj _ rfl _ _ rfl _ _ rfl hW ⟨λ_ _=>by kernel_rfl,λ_ _=>by kernel_rfl,λ_ _=>by kernel_rfl,λ_ _=>by kernel_rfl,λ_ _=>by kernel_rfl⟩ ?_;intro w1 ag)|(go_at_call 162;refine(zj7 wt nw Ol.out (by omega) w1).mono ?_;rintro r W2 ⟨rfl,dk⟩;have y2:vt W2 w1.heap.size nw (zg zd 0 0) (zg zd 0 0):=(by rw[dk];exact aI _ _);have ae:zm w1.heap.size w1 W2:=(by rw[dk];exact aw);clear dk))
 have jF:zm w.heap.size w W2:=ag.trans (ae.mono ag.size);have kB:0<w1.heap.size:=bA h0 ag.size;have tk2:=ji.start (B:=w1.heap.size) (aj _) kB y2 bY (hB.keep (jF.block 0 h0)) (λ_=>0) (λ_ _=>false) (λ_=>0) (λ_=>cQ);have lV:=aU.keep (.of jF) p _ hT;have gA:=jo w1.heap.size 0 nw w1.heap.size _ _ _ _ _ _ W2 _ tk2 lV (by have:=GY.out;omega) (by have:=GY.out;have:=Ol.out;omega);have aZ:w1.heap.size<W2.heap.size:=(ah.1 y2).1;clear jo tk2 lV hT hW ae y2 hB;refine gA.mono ?_;rintro r W3 ⟨n,ga,gl,e,sv,fv,mk,f,fr,F,A,L,rfl,hn,D⟩;obtain⟨fa,fc,rfl⟩:=DA D.tk.fo;have HD:zj _:=D;have k2:=(ci D.tk.box).2.2.1;have n8:n<=2000:=by have:=GY.out;omega
 have Ui:w1.heap.size<W3.heap.size:=(ah.1 D.tk.box).1;have iU:=zjo w1.heap.size ga gl nw e;obtain⟨W5,tE⟩:∃W5,(W3.alloc (zi #[ze (za ⟨w1.heap.size,0,zd⟩),.bool e,zg (za ⟨ga,0,zd⟩) nw nw,zg (za ⟨gl,0,zd⟩) nw nw,zg zd 0 0,ze zd,ze zd] 229)).alloc (zi #[ze (za ⟨W3.heap.size,0,zd⟩)] 197)=W5:=⟨_,rfl⟩;have bD:zm W3.heap.size W3 W5:=by rw[<-tE];exact(aw).alloc (by simp) _
 have x4:W5.heap[W3.heap.size]?=za (zi #[ze (za ⟨w1.heap.size,0,zd⟩),.bool e,zg (za ⟨ga,0,zd⟩) nw nw,zg (za ⟨gl,0,zd⟩) nw nw,zg zd 0 0,ze zd,ze zd] 229 (0,0)):=by rw[<-tE];exact cX (aI _ _)
 have x5:W5.heap[W3.heap.size+1]?=za (zi #[ze (za ⟨W3.heap.size,0,zd⟩)] 197 (0,0)):=by
  rw[<-tE];have:=aI (W3.alloc (zi #[ze (za ⟨w1.heap.size,0,zd⟩),.bool e,zg (za ⟨ga,0,zd⟩) nw nw,zg (za ⟨gl,0,zd⟩) nw nw,zg zd 0 0,ze zd,ze zd] 229)) (zi #[ze (za ⟨W3.heap.size,0,zd⟩)] 197)
  simpa using this
 have k5:W5.cell? ⟨w1.heap.size,2,zd⟩=za (.slice fa n fc):=(bD.cell (p:=⟨w1.heap.size,2,zd⟩) Ui).trans k2;have Y6:zj (Gy W5 W3.heap.size w1.heap.size ga gl nw e W5 0 (λ_=>0) zd 0):=⟨ap.refl _ _,x4,⟨rfl,.inl ⟨rfl,rfl⟩⟩,λp hp=>by omega,λp q hp=>by omega⟩;have GZ:zj _:=x5;clear D gA hn x4 x5 k2
 go_wp2_with (first|(refine zeg rfl 229 #[(0,.tmp 11),(1,.tmp 14)] rfl [(0,ze (za ⟨w1.heap.size,0,zd⟩)),(1,zn #[.bool e,zg (za ⟨ga,0,zd⟩) nw nw,zg (za ⟨gl,0,zd⟩) nw nw])] (by simp[Act.eval]) _ iU ?_)|(refine zfm rfl 229 (.tmp 15) rfl #[ze (za ⟨w1.heap.size,0,zd⟩),.bool e,zg (za ⟨ga,0,zd⟩) nw nw,zg (za ⟨gl,0,zd⟩) nw nw,zg zd 0 0,ze zd,ze zd] rfl ?_))
 clear iU tE
 go_loopw [22] (λi wr=>∃(k:Nat) (br:Nat->Nat) (ba:Option Addr) (bc:Nat),k<=n/\i=zh .i64 k/\Gy W5 W3.heap.size w1.heap.size ga gl nw e wr k br ba bc)
  (λi _=>n-(intOf i).toNat)
 case atStart=>exact⟨0,_,_,_,aR _,rfl,Y6.out⟩
 case round=>
  obtain⟨k,br,ba,bc,hk,rfl,hA⟩:=hrel;have Dl:W3.heap.size+1<W5.heap.size:=(ah.1 GZ.out).1;have hcs:=(hA.tc.same (W3.heap.size+1) Dl (by show ¬(W3.heap.size+1=W3.heap.size);omega)).trans GZ.out;have aD:vt wr w1.heap.size nw sv (.slice fa n fc):=(hA.tc.same w1.heap.size (by omega) (by show ¬(w1.heap.size=W3.heap.size);omega)).trans ((bD.block _ Ui).trans HD.out.tk.box);have d0:wr.cell? ⟨W3.heap.size+1,0,zd⟩=za (ze (za ⟨W3.heap.size,0,zd⟩)):=(aM _ _ _ _ _ _ hcs:_=_);have d4:=(mB hA.box).2.2.2.2.1;have dt:=(ci aD).2.2.1
  by_cases hlt:k<n
  ·have hno:=Gk nw w1.heap.size sv (.slice fa n fc) wr.drew aD bY;have rz:zj _:=λ(w6:zf) (hp:aH w6 nw wr.heap.size cQ) (hg:wr.drew.grownBy w6 zd)=>hA.next (by omega) (by omega) hcs hp hg
   clear hA hcs aD dt;go_wp2;refine wp_mono (Q:=wT _) ?_ Jm
   go_region_law ((first|(refine DN (by rfl) 164 #[.tmp 29] #[224] (by rfl) #[ze (za ⟨w1.heap.size,0,zd⟩)] (by simp[Act.eval,Act.put]) (zg (za ⟨wr.heap.size,0,zd⟩) nw nw) (λw'=>aH w' nw wr.heap.size cQ/\wr.drew.grownBy w' zd) (zjA _ _) hno ?_;intro w6 U9;obtain⟨g,c,kK,⟨e6,e6'⟩,⟨e7,e7'⟩,kV,Tq,f10,zzi,hA'⟩:=rz.out w6 U9.1 U9.2;have HA':zj _:=hA';clear U9 hA')|(refine Xz (by rfl) (.tmp 28) (.tmp 31) 227 (by rfl) _ _ (by rfl) (by rfl) _ _ kV ?_)|fail))
   all_goals
    clear hno kV e6 e6' e7 e7' Tq f10 zzi d0 d4;rw[vl];go_wp2
    go_roundw
    case rel=>exact⟨k+1,_,_,_,by omega,by go_num,HA'.out⟩
    case measure=>simp[intOf];omega
  ·have jY:n=k:=by omega
   subst jY;clear Y6 hlt d4 hk;have hs6:=hA.tc.size;have du:zj (NQ wr n nw br F wr 0 (λ_=>cQ)):=⟨ap.refl _ _,λp hp=>⟨(hA.set p hp).1,λq=>by rw[BL];simp⟩⟩;have Lm:∀p,p<n->W5.heap.size<=br p/\br p<wr.heap.size:=λp hp=>⟨(hA.set p hp).2,(hA.set p hp).1.cB⟩
   have HA:zj _:=hA;have Hcs:zj _:=hcs;have Ke:zj _:=Lm;clear hA hcs Lm;go_wp2;clear dt d0;refine wp_loop_ghost_k (λq a W=>∃(k:Nat) (G:Nat->Nat->Nat) (Ds:List Nat) (u5 u6 u7 u42 u43 u44 u45 u46 u47 u48 Ws Wt Wu Wv Ww Wx Wy Wz WA WB:zl),q=n-k/\k<=n/\zj (NQ wr n nw br F W k G)/\zj (Ds.Nodup/\∀x∈Ds,wr.heap.size<=x/\W.heap[x]?=za (.deferred (za [])))/\a={tmps:=#[.iface t x,undef,ze zd,ze (za ⟨w1.heap.size,0,zd⟩),ze (za ⟨W3.heap.size+1,0,zd⟩),u5,u6,u7,.iface t x,zh .i64 wt,ze (za ⟨w1.heap.size,0,zd⟩),ze (za ⟨w1.heap.size,0,zd⟩),ze (za ⟨w1.heap.size,0,zd⟩),.iface t x,zn #[.bool e,zg (za ⟨ga,0,zd⟩) nw nw,zg (za ⟨gl,0,zd⟩) nw nw],zn #[ze (za ⟨w1.heap.size,0,zd⟩),.bool e,zg (za ⟨ga,0,zd⟩) nw nw,zg (za ⟨gl,0,zd⟩) nw nw,zg zd 0 0,ze zd,ze zd],ze (za ⟨W3.heap.size,0,zd⟩),ze (za ⟨w1.heap.size,0,zd⟩),ze (za ⟨w1.heap.size,0,zd⟩),ze (za ⟨w1.heap.size,2,zd⟩),.slice fa n fc,zh .i64 n,zh .i64 n,.bool false,u24,u25,u26,u27,u28,u29,u30,u31,u32,u33,u34,u35,ze (za ⟨w1.heap.size,0,zd⟩),ze (za ⟨w1.heap.size,0,zd⟩),ze (za ⟨w1.heap.size,2,zd⟩),.slice fa n fc,zh .i64 n,zh .i64 k,u42,u43,u44,u45,u46,u47,u48,Ws,Wt,Wu,Wv,Ww,Wx,Wy,Wz,WA,WB,undef,undef,undef],defers:=Ds.map ztX}) n ?start ?round
   case start=>exact⟨0,_,[],_,_,_,_,_,_,_,_,_,_,_,_,_,_,_,_,_,_,_,_,rfl,aR _,du,⟨List.nodup_nil,λ_ h=>by cases h⟩,rfl⟩
   case round=>
    rintro q a W ⟨k,G,Ds,u5,u6,u7,u42,u43,u44,u45,u46,u47,u48,Ws,Wt,Wu,Wv,Ww,Wx,Wy,Wz,WA,WB,hq,jY,HB,vz,rfl⟩ J K hJ hK;have szW:=HB.out.tc.size;have wI:∀j,j<W5.heap.size->W.heap[j]?=wr.heap[j]?:=λj hj=>HB.out.tc.same j (by omega) (λ⟨p,h1,h2⟩=>by have:=(Ke.out p h1).1;omega)
    have Uj:W.heap[W3.heap.size+1]?=za (zi #[ze (za ⟨W3.heap.size,0,zd⟩)] 197 (0,0)):=(wI _ Dl).trans Hcs.out;have FH:∀j,j<W3.heap.size->W.heap[j]?=W3.heap[j]?:=λj hj=>(wI j (by omega)).trans ((HA.out.tc.same j (by omega) (by show ¬(j=W3.heap.size);omega)).trans (bD.block j hj))
    have cW:W.cell? ⟨W3.heap.size+1,0,zd⟩=za (ze (za ⟨W3.heap.size,0,zd⟩)):=(aM _ _ _ _ _ _ Uj:_=_);have En:zj _:=FH
    by_cases hlt:k<n
    ·obtain⟨gf,cf,ax,hfe,fC,EY⟩:=yl HD.out.tk.fo (by omega);have C9:gf<W3.heap.size:=(ah.1 fC).1;have cf2:W.cell? ⟨gf,k,zd⟩=za (zg (za ⟨fr k,0,zd⟩) nw nw):=(World.cell?_of_block (En.out gf C9)).trans (by rw[aM _ _ _ _ _ _ fC,EY k hlt];simp[gO,hlt]);injection hfe with h1 _ h3
     subst h3;subst h1;clear fC EY FH ax;have da:(0:Int)<=(k:Int):=by omega
     have cO:(k:Int)<(n:Int):=by omega
     obtain⟨W0,ai⟩:∃W0,W.alloc (zi #[zh .i64 k] 3)=W0:=⟨_,rfl⟩;have b0:zm W.heap.size W W0:=by rw[<-ai];exact aw
     have x0:W0.heap[W.heap.size]?=za (zi #[zh .i64 k] 3 (0,0)):=by rw[<-ai];exact aI _ _
     have kw:W.heap.size<W0.heap.size:=(ah.1 x0).1;have TH:=HD.out.tk.fol.rows k hlt;have hFl:=TH.cB;have y1:aH W0 nw (fr k) (F k):=⟨(b0.block _ (by omega)).trans ((En.out _ hFl).trans TH.row),TH.lt⟩;have yB:fS W0:=HD.out.tk.dv.keep ((b0.block 0 (by omega)).trans (En.out 0 (by omega)));go_wp2
     rename_i K2 pQ _
     clear cf2;refine(wpIn_wide (n:=5)).1 ?_;clear ai;refine Jo (by omega) (gf:=165) (fb:=#[zg (za ⟨fr k,0,zd⟩) nw nw]) (lb:=#[]) rfl (enters_of func165 (by kernel_rfl) rfl)
      (T:=[0,fr k]) (by intro j hj;simp at hj;omega)
      (Nd 4 nw (fr k) nw (F k) (by omega) bY W0 y1 yB) (λ_=>rfl)
      (λpre W'=>ap (λj=>∃p,p<n/\j=br p) W0 W'/\∃G':Nat->Nat->Nat,∀p,p<n->aH W' nw (br p) (G' p)/\∀q,au (G' p) q=true↔(q<k/\au (F q) p=true)\/(q=k/\p∈jv pre))
      (λ_ _ _=>False)
      (λs A B hs ht=>⟨hs.1.turn ht,by obtain⟨G',h1⟩:=hs.2;exact⟨G',λp hp=>⟨⟨ht.same _ _ (h1 p hp).1.row (.inr rfl),(h1 p hp).1.lt⟩,(h1 p hp).2⟩⟩⟩)
      (λc s A B hs ht=>hs)
      ⟨ap.refl _ _,G,λp hp=>⟨⟨(b0.block _ (HB.out.set p hp).1.cB).trans (HB.out.set p hp).1.row,(HB.out.set p hp).1.lt⟩,λq=>by rw[(HB.out.set p hp).2 q];simp[jv]⟩⟩
      (λz=>{tmps:=#[.iface t x,undef,ze zd,ze (za ⟨w1.heap.size,0,zd⟩),ze (za ⟨W3.heap.size+1,0,zd⟩),ze (za ⟨W.heap.size,0,zd⟩),zg (za ⟨fr k,0,zd⟩) nw nw,zh .i64 (z.1:Int),.iface t x,zh .i64 wt,ze (za ⟨w1.heap.size,0,zd⟩),ze (za ⟨w1.heap.size,0,zd⟩),ze (za ⟨w1.heap.size,0,zd⟩),.iface t x,zn #[.bool e,zg (za ⟨ga,0,zd⟩) nw nw,zg (za ⟨gl,0,zd⟩) nw nw],zn #[ze (za ⟨w1.heap.size,0,zd⟩),.bool e,zg (za ⟨ga,0,zd⟩) nw nw,zg (za ⟨gl,0,zd⟩) nw nw,zg zd 0 0,ze zd,ze zd],ze (za ⟨W3.heap.size,0,zd⟩),ze (za ⟨w1.heap.size,0,zd⟩),ze (za ⟨w1.heap.size,0,zd⟩),ze (za ⟨w1.heap.size,2,zd⟩),zg (za ⟨gf,0,zd⟩) n fc,zh .i64 n,zh .i64 n,.bool false,u24,u25,u26,u27,u28,u29,u30,u31,u32,u33,u34,u35,ze (za ⟨w1.heap.size,0,zd⟩),ze (za ⟨w1.heap.size,0,zd⟩),ze (za ⟨w1.heap.size,2,zd⟩),zg (za ⟨gf,0,zd⟩) n fc,zh .i64 n,zh .i64 k,.bool true,zh .i64 k,ze (za ⟨gf,k,zd⟩),zg (za ⟨fr k,0,zd⟩) nw nw,zg (za ⟨fr k,0,zd⟩) nw nw,.func (.func 165) #[zg (za ⟨fr k,0,zd⟩) nw nw] #[],zh .i64 (z.1:Int),Ws,Wt,Wu,Wv,Ww,Wx,Wy,Wz,WA,WB,undef,undef,undef],defers:=[]})
      ?assign ?body ?done ?stop
     case assign=>
      intro l x W K hK
      gi_wp2
      exact hK
     case stop=>
      rintro D c pre W hD _ hf;exact hf.elim
     case body=>
      clear hJ hK pQ;rintro l pre ⟨x,hx⟩ W' hl ⟨ht,G',A7⟩ hlen;have fK:x<n:=((HD.out.iS.fo k x ⟨aR _,hlt⟩ hx.2)).2;obtain⟨gb,cb,zAW,xA,iE,qG⟩:=yl HA.out.own (by omega);have sz':=ht.size;have Jb:∀j,j<W0.heap.size->(∀p,p<n->j≠br p)->W'.heap[j]?=W0.heap[j]?:=λj h1 h2=>ht.same j h1 (λ⟨p,h3,h4⟩=>h2 p h3 h4)
      have aZ:∀p,p<n->br p≠W.heap.size:=λp hp=>by have:=(HB.out.set p hp).1.cB;omega
      have zk:W'.cell? ⟨W.heap.size,0,zd⟩=za (zh .i64 k):=(World.cell?_of_block (Jb _ kw (λp hp e=>aZ p hp e.symm))).trans (aM _ _ _ _ _ _ x0:_=_);have zc:W'.cell? ⟨W3.heap.size+1,0,zd⟩=za (ze (za ⟨W3.heap.size,0,zd⟩)):=(World.cell?_of_block (Jb (W3.heap.size+1) (by omega) (λp hp e=>by have:=(Ke.out p hp).1;omega))).trans ((b0.cell (p:=⟨W3.heap.size+1,0,zd⟩) (by show W3.heap.size+1<W.heap.size;omega)).trans cW);have Vl:W.heap[W3.heap.size]?=wr.heap[W3.heap.size]?:=HB.out.tc.same _ (by omega) (λ⟨p,h1,h2⟩=>by have:=(Ke.out p h1).1;omega);have zs:W'.cell? ⟨W3.heap.size,4,zd⟩=za (zg (za ⟨gb,0,zd⟩) n cb):=by
       rw[World.cell?_of_block (Jb W3.heap.size (by omega) (λp hp e=>by have:=(Ke.out p hp).1;omega)),World.cell?_of_block ((b0.block W3.heap.size (by omega)).trans Vl),(mB HA.out.box).2.2.2.2.1,xA]
      have zzG:gb<wr.heap.size:=(ah.1 iE).1;have Uv:∀p,p<n->gb≠br p:=λp hp e=>by
       have:=(HA.out.set p hp).1.row;rw[<-e,iE]at this;exact absurd (bL this) (by decide)
      have zb:W'.cell? ⟨gb,x,zd⟩=za (zg (za ⟨br x,0,zd⟩) nw nw):=by
       rw[World.cell?_of_block (Jb gb (by omega) Uv),World.cell?_of_block ((b0.block gb (by omega)).trans (HB.out.tc.same gb zzG (λ⟨p,h1,h2⟩=>Uv p h1 h2))),aM _ _ _ _ _ _ iE,qG x fK];simp[gO,fK]
      have lX:=λnq=>Gi nw (br x) nw (G' x) k (W'.drewN nq) (A7 x fK).1.row (by have:=HD.out.tk.kE;omega) bY (A7 x fK).1.lt
      have j9:(0:Int)<=(x:Int):=by omega
      have rY:(x:Int)<(n:Int):=by omega
      have fP:prog.follows .mixedOrders=true:=by kernel_rfl
      have Zx:zj _:=aZ;have HsX:zj _:=Jb;have RO:zj _:=A7;have Ht:zj _:=ht;have zA9:br x<W'.heap.size:=(A7 x fK).1.cB;have zA6:=(Ke.out x fK).1;have zA8:br x<W.heap.size:=(HB.out.set x fK).1.cB;clear aZ Jb A7 ht xA iE qG Uv wI Uj;dsimp only
      gi_wp2
      refine zhk 8 (λw'=>∃n,w'=W'.drewN n) fP ⟨1,rfl⟩ (by rintro ⟨_,_,h⟩;exact h) (by decide) (by kernel_rfl) rfl ?_;intro os bW;simp only[nH,ue]at bW;subst bW
      repeat (go_big_quiet_step (fail))
      refine wpQuiet_nil ?_;rintro w2 ⟨nq,rfl⟩ r' bV;simp only[wV,wW]at bV;subst bV
      go_wp2_with (go_at_call 146;refine(lX nq).mono ?_;rintro e' w' ⟨rfl,tI,cZ⟩)
      gi_wp2
      have bU:W'.grownBy w' (za (br x)):=⟨cZ.os,cZ.tape,cZ.output,cZ.size,cZ.block⟩;refine⟨KeepsFrom.of_grownBy (W:=W') (row:=za (br x)) bU (λj e=>by cases e;omega),λj hj=>?_,Ht.out.grown (A:=W') (o:=za (br x)) bU (λg e=>by cases e;exact .inl ⟨x,fK,rfl⟩),λp=>if p=x then kS (G' x) k else G' p,λp hp=>?_⟩
      ·refine bU.block j ?_ (λe=>?_)
       ·simp at hj;show j<W'.heap.size;omega
       ·have e':j=br x:=by simpa using e
        simp at hj;omega
      ·by_cases PO:p=x
       ·subst PO;simp only[if_true];refine⟨⟨tI,JH _ (RO.out p hp).1.lt k⟩,λq=>?_⟩;rw[Jv,sK,(RO.out p hp).2 q,Dy];simp;constructor
        ·rintro ((h|⟨h,_⟩)|h)
         ·exact .inl h
         ·exact .inr h
         ·exact .inr h
        ·rintro (h|h)
         ·exact .inl (.inl h)
         ·exact .inr h
       ·simp only[ak PO];have hne:br p≠br x:=λe=>PO (HA.out.inj p x hp fK e)
        have h1:=RO.out p hp;refine⟨⟨(bU.block (br p) h1.1.cB (λe=>hne (by simpa using e))).trans h1.1.row,h1.1.lt⟩,λq=>?_⟩;rw[h1.2 q,Dy];simp[PO]
     case done=>
      rintro D ys W' hD iu ⟨ht,G',A7⟩ hKd;have HB1:zj (NQ wr n nw br F W' (k+1) G'):=by
       refine⟨HB.out.tc.trans ((ap.bR b0).trans ht),λp hp=>⟨(A7 p hp).1,λq=>?_⟩⟩;rw[(A7 p hp).2 q];have:=iu p;have:=HD.out.tk.kE;constructor
       ·rintro (⟨h1,h2⟩|⟨rfl,h2⟩)
        ·exact⟨by omega,h2⟩
        ·exact⟨by omega,((iu p).1 h2).2⟩
       ·rintro ⟨h1,h2⟩
        by_cases e:q=k
        ·subst e;exact .inr ⟨rfl,(iu p).2 ⟨by omega,h2⟩⟩
        ·exact .inl ⟨by omega,h2⟩
      have HD1:zj ((D::Ds).Nodup/\∀x∈D::Ds,wr.heap.size<=x/\W'.heap[x]?=za (.deferred (za []))):=by
       have hlt:∀x∈Ds,x<W.heap.size:=λx hx=>(ah.1 (vz.out.2 x hx).2).1
       refine⟨List.nodup_cons.2 ⟨λh=>by have:=hlt D h;omega,vz.out.1⟩,λx hx=>?_⟩;rcases pI.1 hx with rfl|hx
       ·exact⟨by omega,hKd⟩
       ·refine⟨(vz.out.2 x hx).1,(ht.same x (by have:=hlt x hx;omega) (λ⟨p,h1,h2⟩=>?_)).trans ((b0.block x (hlt x hx)).trans (vz.out.2 x hx).2)⟩;have h3:=(HB.out.set p h1).1.row;rw[<-h2,(vz.out.2 x hx).2]at h3;cases h3
      refine pQ _ _ ?_;clear pQ hKd A7 ht iu;dsimp only;go_wp2;exact Handed.intro (n-(k+1)) (by omega) (hJ _ _ _ ⟨k+1,G',D::Ds,_,_,_,_,_,_,_,_,_,_,_,_,_,_,_,_,_,_,_,_,rfl,by omega,HB1,HD1,rfl⟩)
    ·obtain rfl:n=k:=by omega
     obtain⟨hC,gY,hRw,qJ⟩:=zlT rfl aZ kB HD.out rfl (by omega) bD HA.out HB.out;have E2:=zjH _ _ _ _ W gY hC;have Em:zj _:=hRw;have GQ:zj _:=qJ;clear hRw qJ hC gY hJ FH wI Uj hlt
     go_wp2_with fail
     refine E2.mono ?_;rintro e' W4 ⟨rfl,a',b',O1,O2,hst,ha,hb,qM,yh⟩;have z4:W4.cell? ⟨W3.heap.size+1,0,zd⟩=za (ze (za ⟨W3.heap.size,0,zd⟩)):=(World.cell?_of_block (yh.same (W3.heap.size+1) (by omega) (by show ¬(W3.heap.size+1=W3.heap.size);omega))).trans cW;have jU:zj _:=hst;have zyq:zj _:=qM;have vE:zj _:=yh;clear hst qM yh E2 cW;go_wp2;refine zfU Ds W4 vz.out.1 (λx hx=>(vE.out.same x ((ah.1 (vz.out.2 x hx).2).1) (by have:=(vz.out.2 x hx).1;show ¬(x=W3.heap.size);omega)).trans (vz.out.2 x hx).2) (λW' db mP rS hk4 hk5=>?_);have Lv:∀x,x∈Ds->x<W.heap.size/\wr.heap.size<=x:=λx hx=>⟨(ah.1 (vz.out.2 x hx).2).1,(vz.out.2 x hx).1⟩
     have hdd:∀x,x∈Ds->W4.heap[x]?=za (.deferred (za [])):=λx hx=>(vE.out.same x (Lv x hx).1 (by have:=(Lv x hx).2;show ¬(x=W3.heap.size);omega)).trans (vz.out.2 x hx).2
     have sz4:=vE.out.size;refine⟨ze (za ⟨W3.heap.size,0,zd⟩),by simp[results,results142,go_sem],W3.heap.size,_,a',b',O1,O2,rfl,jU.out.marks (λk h=>db k (λhm=>h _ (hdd k hm))) (λk h=>db k (λhm=>by have:=zyq.out k h;have:=(Lv k hm).1;omega)) (db 0 (λhm=>by have:=(Lv 0 hm).2;omega)) (by omega),ha,hb,Em.out,GQ.out,by show w.heap.size<=w1.heap.size;exact ag.size,n8,by show nw=_;rw[GY.out,sM];exact Ol.out,?_⟩;have o9:∀k,k<w.heap.size->W'.heap[k]?=w.heap[k]?:=λk hk=>by
      have h1:=ag.size;have h2:=jF.size;rw[db k (λhm=>by have:=(Lv k hm).2;omega),vE.out.same k (by omega) (by show ¬(k=W3.heap.size);omega),En.out k (by omega),HD.out.kp.low k (by omega)];exact jF.block k hk
     exact⟨rS.trans (vE.out.os.trans (HB.out.tc.os.trans (HA.out.tc.os.trans (bD.os.trans (HD.out.kp.os.trans jF.os))))),hk4.trans (vE.out.tape.trans (HB.out.tc.tape.trans (HA.out.tc.tape.trans (bD.tape.trans (HD.out.kp.tape.trans jF.tape))))),hk5.trans (vE.out.output.trans (HB.out.tc.output.trans (HA.out.tc.output.trans (bD.output.trans (HD.out.kp.output.trans jF.output))))),by have:=ag.size;have:=jF.size;omega,o9⟩
end
section
variable {u:aJ}{i n e m k:Nat}{p q b:Pt}{l:List Up}
theorem zoH(u:aJ){i n a b:Nat}(hb:b<=n):(((u.drop i).take n).drop a).take (b-a)=(u.drop (i+a)).take (b-a):=by
 rw[List.drop_take,List.take_take,List.drop_drop,JV (by omega)]
theorem zV(hn:i+n<=u.length){p:Pt}{a b:Nat}(hb:b<=n):Lg ((u.drop i).take n) p a b↔Lg u p (i+a) (i+b):=by
 unfold Lg;rw[zoH u hb,show i+b-(i+a)=b-a from by omega];have hl:((u.drop i).take n).length=n:=by simp;omega
 rw[hl];constructor
 ·rintro ⟨h1,h2,h3⟩;exact⟨by omega,by omega,h3⟩
 ·rintro ⟨h1,h2,h3⟩;exact⟨by omega,by omega,h3⟩
def lK:Pt->Prop
 |.set _=>True
 |.seq p q=>lK p/\lK q
 |.aN p q=>lK p/\lK q
 |.az b _ _=>lK b
 |.aT _ _=>False
theorem Gs{u:aJ}:∀(p:Pt),lK p->∀(i j:Nat) (l:List Up),Pl u p i j l->l=[]
 |.set _,_,_,_,_,h=>h
 |.aT _ _,h,_,_,_,_=>h.elim
 |.seq p q,hn,i,j,_,⟨k,l1,l2,_,h1,h2,e⟩=>by
  rw[e,Gs p hn.1 i k l1 h1,Gs q hn.2 k j l2 h2];rfl
 |.aN p q,hn,i,j,l,h=>by
  rcases h with ⟨_,h⟩|⟨_,h⟩
  ·exact Gs p hn.1 i j l h
  ·exact Gs q hn.2 i j l h
 |.az b mn mx,hn,i,j,l,h=>by
  replace h:ii (Lg u b) (Pl u b) (λmn mx i j=>Lg u (.az b mn mx) i j) mn.toNat mx i j l:=h;have ih:=Gs (u:=u) b hn;clear hn;generalize mn.toNat=n at h
  induction h with
  |done=>rfl
  |pA=>rfl
  |out=>rfl
  |must _ _ i j k l1 l2 _ h1 _ xP=>rw[ih i k l1 h1,xP];rfl
  |may _ i j k l1 l2 _ _ h1 _ xP=>rw[ih i k l1 h1,xP];rfl
  |more i j k l1 l2 _ _ h1 _ xP=>rw[ih i k l1 h1,xP];rfl
abbrev Laid:=List (Pt×Nat)
inductive rD (u:aJ):Laid->Nat->List Up->Prop
 |nil (i:Nat):rD u [] i []
 |cons (q:Pt) (e:Nat) (L:Laid) (i:Nat) (l1 l2:List Up):Pl u q i e l1->rD u L e l2->rD u ((q,e)::L) i (l1++l2)
def yS(u:aJ)(j:Nat):Laid->Nat->Prop
 |[],_=>True
 |(q,e)::L,i=>Lg u q i e/\e<=j/\yS u j L e
def qh(i:Nat)(L:Laid):Laid:=L.map λx=>(x.1,i+x.2)
def sF:Pt->Nat->Nat->List Up
 |.aT _ g,i,j=>[(g,i,j)]
 |_,_,_=>[]
def zyx(u:aJ)(p:Pt)(i j:Nat)(L:Laid):Prop:=yS u j L i/\∀l,rD u L i l->Pl u p i j (sF p i j++l)
abbrev fW:=Pt×Bool
def ik(u:aJ)(n:Nat):List fW->Nat->Prop
 |[],m=>m=n
 |(q,o)::ls,m=>(∃e,ik u n ls e/\Lg u q m e)\/(o=true/\m=n)
theorem ik.le:∀{ls:List fW} {m:Nat},ik u n ls m->m<=n
 |[],_,h=>Nat.le_of_eq h
 |(_,_)::ls,_,h=>by
  rcases h with ⟨e,h1,h2⟩|⟨_,h⟩
  ·exact aW h2.1 (ik.le h1)
  ·exact Nat.le_of_eq h
inductive jx (u:aJ) (n:Nat):List fW->Nat->Laid->Prop
 |nil (i:Nat):jx u n [] i []
 |stop (q:Pt) (o:Bool) (ls:List fW) (i:Nat):(∀e,ik u n ls e->¬Lg u q i e)->jx u n ((q,o)::ls) i []
 |cons (q:Pt) (o:Bool) (ls:List fW) (i e:Nat) (L:Laid):qy (λe=>Lg u q i e/\ik u n ls e) i n e->jx u n ls e L->jx u n ((q,o)::ls) i ((q,e)::L)
theorem Ri(hn:i+n<=u.length):∀(ls:List fW) (m:Nat),m<=n->(ik ((u.drop i).take n) n ls m↔ik u (i+n) ls (i+m))
 |[],m,hm=>⟨λh=>by have h:m=n:=h;subst h;rfl,λh=>by have h:i+m=i+n:=h;show m=n;omega⟩
 |(q,o)::ls,m,hm=>by
  constructor
  ·rintro (⟨e,h1,h2⟩|⟨h1,h2⟩)
   ·have he:=h1.le;exact .inl ⟨i+e,(Ri hn ls e he).1 h1,(zV hn he).1 h2⟩
   ·exact .inr ⟨h1,by omega⟩
  ·rintro (⟨e,h1,h2⟩|⟨h1,h2⟩)
   ·have he:=h1.le;have h3:=h2.1;obtain⟨x,rfl⟩:∃x,e=i+x:=⟨e-i,by omega⟩;exact .inl ⟨x,(Ri hn ls x (by omega)).2 h1,(zV hn (by omega)).2 h2⟩
   ·exact .inr ⟨h1,by omega⟩
theorem zo8{P Q:Nat->Prop}{a:Nat}(h:qy P a n e)(hc:∀x,x<=n->(P x↔Q (i+x))):qy Q (i+a) (i+n) (i+e):=by
 refine⟨by have:=h.1;omega,by have:=h.2.1;omega,(hc e h.2.1).1 h.2.2.1,λm h1 h2 h3=>?_⟩;obtain⟨x,rfl⟩:∃x,m=i+x:=⟨m-i,by omega⟩;exact h.2.2.2 x (by omega) (by omega) ((hc x (by omega)).2 h3)
theorem zow(hn:i+n<=u.length){ls:List fW}{a:Nat}{L:Laid}(h:jx ((u.drop i).take n) n ls a L):a<=n->jx u (i+n) ls (i+a) (qh i L):=by
 induction h with
 |nil a=>intro _;exact .nil _
 |stop q o ls a h=>
  intro ha;refine .stop q o ls _ λe h1 h2=>?_
  have:=h1.le;have h3:=h2.1;obtain⟨x,rfl⟩:∃x,e=i+x:=⟨e-i,by omega⟩;exact h x ((Ri hn ls x (by omega)).2 h1) ((zV hn (by omega)).2 h2)
 |cons q o ls a e L h _ ih=>
  intro ha;exact .cons q o ls _ _ _ (zo8 h λx hx=>and_congr (zV hn hx) (Ri hn ls x hx)) (ih h.2.1)
def jO:Pt->List Pt
 |.seq l r=>l::jO r
 |p=>[p]
def ua(qs:List Pt):List fW:=qs.map λq=>(q,false)
theorem ND:ik u n [(p,false)] m↔Lg u p m n:=by
 constructor
 ·rintro (⟨e,h1,h2⟩|⟨h,_⟩)
  ·have h1:e=n:=h1;subst h1;exact h2
  ·cases h
 ·intro h;exact .inl ⟨n,rfl,h⟩
theorem NE:∀(p:Pt) (m:Nat),ik u n (ua (jO p)) m↔Lg u p m n
 |.seq l r,m=>by
  rw[YQ];constructor
  ·rintro (⟨e,h1,h2⟩|⟨h,_⟩)
   ·exact⟨e,h2,(NE r e).1 h1⟩
   ·cases h
  ·rintro ⟨e,h1,h2⟩;exact .inl ⟨e,(NE r e).2 h2,h1⟩
 |.set _,m=>ND
 |.aN _ _,m=>ND
 |.az _ _ _,m=>ND
 |.aT _ _,m=>ND
theorem YC(h:rD u [(q,e)] i l):Pl u q i e l:=by
 cases h with
 |cons _ _ _ _ l1 l2 h1 h2=>cases h2;rw[ud];exact h1
theorem NA{L:Laid}(h:jx u n [(p,false)] i L)(hp:Lg u p i n):yS u n L i/\∀l,rD u L i l->Pl u p i n l:=by
 cases h with
 |stop _ _ _ _ h=>exact absurd hp (h n rfl)
 |cons _ _ _ _ e L g h=>
  have he:e=n:=g.2.2.1.2;subst he;cases h;exact⟨⟨hp,aj _,trivial⟩,λl hl=>YC hl⟩
theorem zoz:∀(p:Pt) (i:Nat) (L:Laid),jx u n (ua (jO p)) i L->Lg u p i n->yS u n L i/\∀l,rD u L i l->Pl u p i n l
 |.seq a r,i,L,h,hp=>by
  cases h with
  |stop _ _ _ _ h=>
   obtain⟨e,h1,h2⟩:=YQ.1 hp;exact absurd h1 (h e ((NE r e).2 h2))
  |cons _ _ _ _ e L g h=>
   have g':=g.congr (Q:=λe=>Lg u a i e/\Lg u r e n) λm _ _=>and_congr Iff.rfl (NE r m)
   obtain⟨h1,h2⟩:=zoz r e L h g'.2.2.1.2;refine⟨⟨g'.2.2.1.1,g'.2.1,h1⟩,λl hl=>?_⟩;cases hl with
   |cons _ _ _ _ l1 l2 k1 k2=>exact⟨e,l1,l2,g',k1,h2 l2 k2,rfl⟩
 |.set _,i,L,h,hp=>NA h hp
 |.aN _ _,i,L,h,hp=>NA h hp
 |.az _ _ _,i,L,h,hp=>NA h hp
 |.aT _ _,i,L,h,hp=>NA h hp
def gM(b:Pt)(mn:Nat)(mx:Int):List fW:=List.replicate mn (b,false)++(List.replicate (mx-mn).toNat (b,true)++(if mx=-1 then [(.az b 0 (-1),false)] else []))
def sG(mx:Int):Int:=if 0<mx then mx-1 else mx
theorem XL(b:Pt)(mn:Nat)(mx:Int)(h:mx=-1\/(mn:Int)+1<=mx):gM b (mn+1) mx=(b,false)::gM b mn (sG mx):=by
 unfold gM sG;rcases h with rfl|h
 ·simp[List.replicate_succ];omega
 ·have e1:(if 0<mx then mx-1 else mx)=mx-1:=aC (by omega);have e2:¬mx=-1:=by omega
  have e3:¬mx-1=-1:=by omega
  rw[e1,ak e2,ak e3,show (mx-((mn+1:Nat):Int)).toNat=(mx-1-(mn:Int)).toNat from by omega];simp[List.replicate_succ]
theorem Yb(b:Pt)(k:Nat):gM b 0 ((k+1:Nat):Int)=(b,true)::gM b 0 (k:Int):=by
 unfold gM;rw[ak (by omega),ak (by omega),show (((k+1:Nat):Int)-((0:Nat):Int)).toNat=k+1 from by omega,show ((k:Int)-((0:Nat):Int)).toNat=k from by omega];simp[List.replicate_succ]
theorem Xv(b:Pt):gM b 0 0=[]:=by simp[gM]
theorem XK(b:Pt):gM b 0 (-1)=[(.az b 0 (-1),false)]:=by simp[gM]
theorem ztb(hn:n<=u.length):Lg u (.az b ((0:Nat):Int) ((0:Nat):Int)) m n↔m=n:=by
 rw[wQ];constructor
 ·rintro ⟨_,k,_,h2,h3⟩;obtain rfl:k=0:=by omega
  exact h3
 ·intro h;exact⟨hn,0,by omega,.inr (by omega),h⟩
theorem ztT(hn:n<=u.length):Lg u (.az b ((0:Nat):Int) ((k+1:Nat):Int)) m n↔(∃e,Lg u (.az b ((0:Nat):Int) (k:Int)) e n/\Lg u b m e)\/m=n:=by
 constructor
 ·intro h;rcases ztk (by omega) h with h|⟨e,h1,h2⟩
  ·exact .inr h
  ·rw[show ((k+1:Nat):Int)-1=(k:Int) from by omega]at h2;exact .inl ⟨e,h2,h1⟩
 ·rintro (⟨e,h1,h2⟩|rfl)
  ·obtain⟨h3,x,h4,h5,h6⟩:=wQ.1 h1;exact wQ.2 ⟨hn,x+1,by omega,.inr (by omega),e,h2,h6⟩
  ·exact Nw hn _ (.inr (by omega))
theorem Gl(hn:n<=u.length){b:Pt}:∀(mn:Nat) (mx:Int),(mx=-1\/(mn:Int)<=mx)->∀m,ik u n (gM b mn mx) m↔Lg u (.az b mn mx) m n
 |mn+1,mx,hb,m=>by
  rw[XL b mn mx (by omega),Yv (by omega)];constructor
  ·rintro (⟨e,h1,h2⟩|⟨h,_⟩)
   ·exact⟨e,h2,(Gl hn mn (sG mx) (by unfold sG;split<;>omega) e).1 h1⟩
   ·cases h
  ·rintro ⟨e,h1,h2⟩;exact .inl ⟨e,(Gl hn mn (sG mx) (by unfold sG;split<;>omega) e).2 h2,h1⟩
 |0,mx,hb,m=>by
  rcases hb with rfl|hb
  ·rw[XK];exact ND
  ·obtain⟨k,rfl⟩:∃k:Nat,mx=k:=⟨mx.toNat,by omega⟩;clear hb
   induction k generalizing m with
   |zero=>rw[ztb hn];show ik u n (gM b 0 0) m↔_;rw[Xv];exact Iff.rfl
   |succ k ih=>
    rw[Yb,ztT hn];show (∃e,ik u n (gM b 0 (k:Int)) e/\Lg u b m e)\/(true=true/\m=n)↔_;constructor
    ·rintro (⟨e,h1,h2⟩|⟨_,h⟩)
     ·exact .inl ⟨e,(ih e).1 h1,h2⟩
     ·exact .inr h
    ·rintro (⟨e,h1,h2⟩|h)
     ·exact .inl ⟨e,(ih e).2 h1,h2⟩
     ·exact .inr ⟨rfl,h⟩
theorem zoy(hn:n<=u.length){b:Pt}:∀(mn:Nat) (mx:Int),(mx=-1\/(mn:Int)<=mx)->∀(i:Nat) (L:Laid),jx u n (gM b mn mx) i L->Lg u (.az b mn mx) i n->yS u n L i/\∀l,rD u L i l->ii (Lg u b) (Pl u b) (λmn mx i j=>Lg u (.az b mn mx) i j) mn mx i n l
 |mn+1,mx,hb,i,L,h,hp=>by
  have C5:sG mx=-1\/(mn:Int)<=sG mx:=by unfold sG;split<;>omega
  rw[XL b mn mx (by omega)]at h;cases h with
  |stop _ _ _ _ h=>
   obtain⟨e,h1,h2⟩:=(Yv (by omega)).1 hp;exact absurd h1 (h e ((Gl hn mn (sG mx) C5 e).2 h2))
  |cons _ _ _ _ e L g h=>
   have g':=g.congr (Q:=λe=>Lg u b i e/\Lg u (.az b mn (sG mx)) e n) λm _ _=>and_congr Iff.rfl (Gl hn mn (sG mx) C5 m)
   obtain⟨h1,h2⟩:=zoy hn mn (sG mx) C5 e L h g'.2.2.1.2;refine⟨⟨g'.2.2.1.1,g'.2.1,h1⟩,λl hl=>?_⟩;cases hl with
   |cons _ _ _ _ l1 l2 k1 k2=>exact .must mn mx i n e l1 l2 g' k1 (h2 l2 k2)
 |0,mx,hb,i,L,h,hp=>by
  rcases hb with rfl|hb
  ·rw[XK]at h;exact NA h hp
  ·obtain⟨k,rfl⟩:∃k:Nat,mx=k:=⟨mx.toNat,by omega⟩;clear hb
   induction k generalizing i L with
   |zero=>
    have h:jx u n (gM b 0 0) i L:=h;rw[Xv]at h;cases h;exact⟨trivial,λl hl=>by cases hl;exact .done i n⟩
   |succ k ih=>
    rw[Yb]at h;have e0:((k+1:Nat):Int)-1=(k:Int):=by omega
    have ht:=λm=>Gl hn (b:=b) 0 (k:Int) (.inr (by omega)) m
    cases h with
    |stop _ _ _ _ h=>
     refine⟨trivial,λl hl=>?_⟩;cases hl;refine .out _ i n (by omega) λx _ _ ⟨h1,h2⟩=>h x ((ht x).2 ?_) h1
     rw[e0]at h2;exact h2
    |cons _ _ _ _ e L g h=>
     have g':=g.congr (Q:=λe=>Lg u b i e/\Lg u (.az b ((0:Nat):Int) (k:Int)) e n) λm _ _=>and_congr Iff.rfl (ht m)
     obtain⟨h1,h2⟩:=ih e L h g'.2.2.1.2;refine⟨⟨g'.2.2.1.1,g'.2.1,h1⟩,λl hl=>?_⟩;cases hl with
     |cons _ _ _ _ l1 l2 k1 k2=>exact .may _ i n e l1 l2 (by omega) (by rw[e0];exact g') k1 (by rw[e0];exact h2 l2 k2)
inductive nO (u:aJ) (n:Nat) (b:Pt):Nat->Laid->Prop
 |done:nO u n b n []
 |more (i e:Nat) (L:Laid):i<n->qy (λe=>Lg u b i e/\Lg u (.az b 0 (-1)) e n) (i+1) n e->nO u n b e L->nO u n b i ((b,e)::L)
theorem ztt(hn:i+n<=u.length){b:Pt}{a:Nat}{L:Laid}(h:nO ((u.drop i).take n) n b a L):nO u (i+n) b (i+a) (qh i L):=by
 induction h with
 |done=>exact .done
 |more a e L hi g _ ih=>exact .more _ _ _ (by omega) (zo8 (a:=a+1) g λx hx=>and_congr (zV hn hx) (zV hn (aj n))) ih
theorem zt9{L:Laid}(h:nO u n b i L):yS u n L i/\∀l,rD u L i l->ii (Lg u b) (Pl u b) (λmn mx i j=>Lg u (.az b mn mx) i j) 0 (-1) i n l:=by
 induction h with
 |done=>exact⟨trivial,λl hl=>by cases hl;exact .pA n⟩
 |more i e L hi g _ ih=>
  refine⟨⟨g.2.2.1.1,g.2.1,ih.1⟩,λl hl=>?_⟩;cases hl with
  |cons _ _ _ _ l1 l2 k1 k2=>exact .more i n e l1 l2 hi g k1 (ih.2 l2 k2)
def dA:Pt->List Pt
 |.aN l r=>dA l++dA r
 |p=>[p]
def zyf(u:aJ)(i n:Nat)(qs:List Pt)(L:Laid):Prop:=∃(k:Nat) (q:Pt),qs[k]?=za q/\(∀(j:Nat) (q':Pt),j<k->qs[j]?=za q'->¬Lg u q' i n)/\Lg u q i n/\L=[(q,n)]
theorem Np:∀(p:Pt),Lg u p i n↔∃q∈dA p,Lg u q i n
 |.aN l r=>by
  rw[YP,Np l,Np r];constructor
  ·rintro (⟨q,h1,h2⟩|⟨q,h1,h2⟩)
   ·exact⟨q,fm.2 (.inl h1),h2⟩
   ·exact⟨q,fm.2 (.inr h1),h2⟩
  ·rintro ⟨q,h1,h2⟩;rcases fm.1 h1 with h1|h1
   ·exact .inl ⟨q,h1,h2⟩
   ·exact .inr ⟨q,h1,h2⟩
 |.set _=>⟨λh=>⟨_,eK.2 rfl,h⟩,λ⟨q,h1,h2⟩=>by obtain rfl:=eK.1 h1;exact h2⟩
 |.seq _ _=>⟨λh=>⟨_,eK.2 rfl,h⟩,λ⟨q,h1,h2⟩=>by obtain rfl:=eK.1 h1;exact h2⟩
 |.az _ _ _=>⟨λh=>⟨_,eK.2 rfl,h⟩,λ⟨q,h1,h2⟩=>by obtain rfl:=eK.1 h1;exact h2⟩
 |.aT _ _=>⟨λh=>⟨_,eK.2 rfl,h⟩,λ⟨q,h1,h2⟩=>by obtain rfl:=eK.1 h1;exact h2⟩
theorem Re(h:[p][k]?=za q)(hl:Pl u q i n l):Pl u p i n l:=by
 cases k with
 |zero=>simp at h;subst h;exact hl
 |succ k=>simp at h
theorem YM:∀(p:Pt) (k:Nat),(dA p)[k]?=za q->(∀j q',j<k->(dA p)[j]?=za q'->¬Lg u q' i n)->Lg u q i n->Pl u q i n l->Pl u p i n l
 |.aN a r,k,h,hf,hq,hl=>by
  by_cases hk:k<(dA a).length
  ·have h1:(dA a)[k]?=za q:=by rw[<-h];exact(pH hk).symm
   exact .inl ⟨(Np a).2 ⟨q,B8 h1,hq⟩,YM a k h1 (λj q' hj e=>hf j q' hj (by rw[<-e];exact pH (by omega))) hq hl⟩
  ·have h1:(dA r)[k-(dA a).length]?=za q:=by rw[<-h];exact(sJ (by omega)).symm
   refine .inr ⟨λhc=>?_,YM r _ h1 (λj q' hj e=>hf ((dA a).length+j) q' (by omega) (by rw[<-e];exact(sJ (by omega)).trans (by congr 1;omega))) hq hl⟩;obtain⟨q',h2,h3⟩:=(Np a).1 hc;obtain⟨j,hj,e⟩:=DW h2;exact hf j q' (by omega) (by show (dA a++dA r)[j]?=_;rw[pH hj,dh hj,e]) h3
 |.set _,k,h,_,_,hl=>Re h hl
 |.seq _ _,k,h,_,_,hl=>Re h hl
 |.az _ _ _,k,h,_,_,hl=>Re h hl
 |.aT _ _,k,h,_,_,hl=>Re h hl
def yR(u:aJ)(i n:Nat):Pt->Laid->Prop
 |.set _,L=>L=[]
 |.aT b _,L=>L=[(b,n)]
 |.aN p q,L=>zyf u i n (dA (.aN p q)) L
 |.seq p q,L=>jx u n (ua (jO (.seq p q))) i L
 |.az b mn mx,L=>if mn=0/\mx=-1 then nO u n b i L else jx u n (gM b mn.toNat mx) i L
theorem zro(hn:i+n<=u.length):∀(p:Pt) (L:Laid),yR ((u.drop i).take n) 0 n p L->yR u i (i+n) p (qh i L)
 |.set _,L,h=>by have h:L=[]:=h;subst h;rfl
 |.aT b _,L,h=>by have h:L=[(b,n)]:=h;subst h;rfl
 |.aN p q,L,⟨k,x,h1,h2,h3,h4⟩=>⟨k,x,h1,λj q' hj e h=>h2 j q' hj e ((zV hn (aj n)).2 h),(zV hn (aj n)).1 h3,by subst h4;rfl⟩
 |.seq p q,L,h=>zow hn (a:=0) h (aR _)
 |.az b mn mx,L,h=>by
  replace h:if mn=0/\mx=-1 then nO ((u.drop i).take n) n b 0 L else jx ((u.drop i).take n) n (gM b mn.toNat mx) 0 L:=h
  show if mn=0/\mx=-1 then nO u (i+n) b i (qh i L) else jx u (i+n) (gM b mn.toNat mx) i (qh i L)
  by_cases e:mn=0/\mx=-1
  ·rw[aC e]at h ⊢;exact ztt hn (a:=0) h
  ·rw[ak e]at h ⊢;exact zow hn (a:=0) h (aR _)
theorem zta(hn:n<=u.length):∀(p:Pt) (L:Laid),oT p->(∀f,p≠.set f)->Lg u p i n->yR u i n p L->zyx u p i n L
 |.set f,L,_,hs,_,_=>absurd rfl (hs f)
 |.aT b g,L,_,_,hp,h=>by
  have h:L=[(b,n)]:=h;subst h;exact⟨⟨hp,aj _,trivial⟩,λl hl=>⟨l,rfl,YC hl⟩⟩
 |.aN p q,L,_,_,_,⟨k,x,h1,h2,h3,h4⟩=>by
  subst h4;exact⟨⟨h3,aj _,trivial⟩,λl hl=>YM (.aN p q) k h1 h2 h3 (YC hl)⟩
 |.seq p q,L,_,_,hp,h=>zoz (.seq p q) i L h hp
 |.az b mn mx,L,ho,_,hp,h=>by
  obtain⟨_,h1,h2⟩:=ho;obtain⟨m,rfl⟩:∃m:Nat,mn=m:=⟨mn.toNat,by omega⟩;replace h:if (m:Int)=0/\mx=-1 then nO u n b i L else jx u n (gM b m mx) i L:=h
  by_cases e:(m:Int)=0/\mx=-1
  ·rw[aC e]at h;obtain⟨e1,rfl⟩:=e;obtain rfl:m=0:=by omega
   exact zt9 h
  ·rw[ak e]at h;exact zoy hn m mx h2 i L h hp
end
section
attribute [local go_sem ↓] wp_at_zero wp_at_succ
section
variable {O O1 O2:Nat -> Prop}{w:zf}{r nw bt ga gl gm gv m s:Nat}{lv sS sP:zl}{L gx:Nat -> Nat}{Ts:Nat -> Nat -> Nat}{es:List (Int×Int)}{a b:cz}{v:eE}
def OA(r gm gv:Nat)(sS sP:zl)(gx:Nat->Nat)(m:Nat)(k:Nat):Prop:=k=r\/k=gm\/k=gv\/sS.ownBlock=za k\/sP.ownBlock=za k\/∃i,i<m/\k=gx i
theorem fF.least(h:fF O w r nw bt ga gl lv L gm gv sS sP gx Ts m es):fF (OA r gm gv sS sP gx m) w r nw bt ga gl lv L gm gv sS sP gx Ts m es:=
 ⟨h.box,h.nm,h.mv,h.so,h.po,h.set,h.AV,.inl rfl,.inr (.inl rfl),.inr (.inr (.inl rfl)),λ_ e=>.inr (.inr (.inr (.inl e))),λ_ e=>.inr (.inr (.inr (.inr (.inl e)))),λi hi=>.inr (.inr (.inr (.inr (.inr ⟨i,hi,rfl⟩)))),h.nd⟩
theorem fF.VS(h:fF O w r nw bt ga gl lv L gm gv sS sP gx Ts m es){k:Nat}(hk:OA r gm gv sS sP gx m k):O k:=by
 rcases hk with rfl|rfl|rfl|e|e|⟨i,hi,rfl⟩
 ·exact h.or
 ·exact h.om
 ·exact h.ov
 ·exact h.os k e
 ·exact h.op k e
 ·exact h.ox i hi
theorem fF.noM(h:fF O w r nw bt ga gl lv L gm gv sS sP gx Ts m es){k:Nat}(hk:OA r gm gv sS sP gx m k){cs:Array zl}:w.heap[k]?≠za (zi cs 293 (0,0)):=λe=>by
 rcases hk with rfl|rfl|rfl|e2|e2|⟨i,hi,rfl⟩
 ·rw[h.box]at e;exact absurd (bL e) (by decide)
 ·rw[h.nm]at e;cases e
 ·rw[h.mv]at e;cases e
 ·obtain⟨-,ax,e3⟩:=ke h.so e2;rw[e3]at e;exact absurd (bL e) (by decide)
 ·obtain⟨-,ax,e3⟩:=ke h.po e2;rw[e3]at e;exact absurd (bL e) (by decide)
 ·rw[(h.set i hi).row]at e;exact absurd (bL e) (by decide)
theorem zmE{B:Nat}{n:Nat}{sv fv:zl}{lr mk:Nat->Nat}{Lk:Nat->Nat->Nat}{A:Nat->Nat}{f:Nat->Nat->Bool}(C:pN B w n nw bt ga gl lv sv fv lr mk Lk A L f)(hO:∀k,O k->B<=k/\k<w.heap.size)(h:fF O w r nw bt ga gl lv L gm gv sS sP gx Ts m es)(hM:uk nw f Lk A Ts m es)(hS:Gv n nw Ts m)(i c:Nat)(b:Bool)(hi:i<m)(hc:c<256)(hm:m<=100000000):
  zo prog 147 #[ze (za ⟨r,0,zd⟩),zh .i64 i,.int .u8 c,.bool b] w λe w'=>JS O w n r nw bt ga gl lv f Lk A L gm gv gx Ts m i c b e w'/\bJ w w':=by
 refine(ztp C (O:=OA r gm gv sS sP gx m) (λk hk=>hO k (h.VS hk)) h.least hM hS i c b hi hc hm).mono ?_;rintro e w' ⟨t,m',FG,FF,pO,iR,es',h1,h2,h3,h4,h5,h6,h7,h8,h9,tc⟩;exact⟨⟨t,m',FG,FF,pO,iR,es',h1,h2.mono λk hk=>hk.elim (λx=>.inl (h.VS x)) .inr,h3,h4,h5,h6,h7,h8,h9,tc.mono λk _ hk=>h.VS hk⟩,λmg f e=>(tc.same mg (ah.1 e).1 (λho=>h.noM ho e)).trans e⟩
structure rH(a a':cz):Prop where
 r:a'.r=a.r
 lo:a.m<=a'.m
 old:∀j,j<a.m->a'.gx j=a.gx j/\a'.Ts j=a.Ts j
theorem rH.refl(a:cz):rH a a:=⟨rfl,aj _,λ_ _=>⟨rfl,rfl⟩⟩
theorem rH.trans{c:cz}(h:rH a b)(k:rH b c):rH a c:=⟨k.r.trans h.r,aW h.lo k.lo,λj hj=>by
 have h1:=h.old j hj;have h2:=k.old j (bA hj h.lo);exact⟨h2.1.trans h1.1,h2.2.trans h1.2⟩⟩
def news(O:Nat->Prop)(w w':zf)(k:Nat):Prop:=O k\/(w.heap.size<=k/\k<w'.heap.size)
def zyA(O1 O2:Nat->Prop)(w:zf)(s:Nat)(v:eE)(a b:cz)(i c:Nat)(bg:Bool)(e:Ending)(w':zf):Prop:=
 ∃(t:Nat) (b':cz),e=.returned (zh .i64 t)/\t<b'.m/\b'.m<=b.m+1/\rH b b'/\yv v.nw v.f v.G v.L (b.Ts i) c bg (b'.Ts t)/\gW O1 (news O2 w w') w' s v a b'/\ap O2 w w'/\bJ w w'
theorem zmD(h:gW O1 O2 w s v a b)(i c:Nat)(bg:Bool)(hi:i<b.m)(hc:c<256)(hm:b.m<=100000000):
  zo prog 147 #[ze (za ⟨b.r,0,zd⟩),zh .i64 i,.int .u8 c,.bool bg] w λe w'=>zyA O1 O2 w s v a b i c bg e w':=by
 refine(zmE h.c.c2 h.o2 h.rb.s h.rb.mv h.rb.FJ i c bg hi hc hm).mono ?_;rintro e w' ⟨⟨t,m',sS,sP,pO,iR,es',rfl,hR,ht,dw,dG,hold,hst,UW,wv,tc⟩,km⟩;have hle:=h.c.c1.le;have hsz:=tc.size;have wD:∀k,k<v.B->w'.heap[k]?=w.heap[k]?:=λk hk=>tc.same k (by omega) (λho=>by have:=(h.o2 k ho).1;omega)
 refine⟨t,⟨b.r,b.gm,b.gv,sS,sP,pO,iR,m',es'⟩,rfl,ht,dG,⟨rfl,dw,hold⟩,hst,⟨(wD s h.c.s1).trans h.box,⟨h.c.c1.keep wD (by omega),h.c.c2.keep wD (by omega),h.c.p0,h.c.s0,h.c.s1,h.c.tb,h.c.ab,h.c.lb,h.c.sb,h.c.fb,h.c.bb,h.c.Ia,h.c.HH,h.c.ne⟩,h.ra.keep (λk h1 _=>tc.same k (h.o1 k h1).2 (h.FA k h1)),⟨hR,UW,wv,λx hx=>?_,by show 0<m';omega⟩,λk hk=>⟨(h.o1 k hk).1,bA (h.o1 k hk).2 hsz⟩,λk hk=>?_,λk h1 h2=>?_⟩,tc,km⟩
 ·show iR 0 x=0;rw[(hold 0 h.rb.pos).2];exact h.rb.zero x hx
 ·rcases hk with hk|hk
  ·exact⟨(h.o2 k hk).1,bA (h.o2 k hk).2 hsz⟩
  ·exact⟨by omega,hk.2⟩
 ·rcases h2 with h2|h2
  ·exact h.FA k h1 h2
  ·have:=(h.o1 k h1).2;omega
def zyz(O1 O2:Nat->Prop)(w:zf)(s:Nat)(v:eE)(a b:cz)(i c:Nat)(bg:Bool)(e:Ending)(w':zf):Prop:=
 ∃(t:Nat) (a':cz),e=.returned (zh .i64 t)/\t<a'.m/\a'.m<=a.m+1/\rH a a'/\yv v.nw v.f v.F v.A (a.Ts i) c bg (a'.Ts t)/\gW (news O1 w w') O2 w' s v a' b/\ap O1 w w'/\bJ w w'
theorem zrX(h:gW O1 O2 w s v a b)(i c:Nat)(bg:Bool)(hi:i<a.m)(hc:c<256)(hm:a.m<=100000000):
  zo prog 147 #[ze (za ⟨a.r,0,zd⟩),zh .i64 i,.int .u8 c,.bool bg] w λe w'=>zyz O1 O2 w s v a b i c bg e w':=by
 refine(zmE h.c.c1 h.o1 h.ra.s h.ra.mv h.ra.FJ i c bg hi hc hm).mono ?_;rintro e w' ⟨⟨t,m',sS,sP,pO,iR,es',rfl,hR,ht,dw,dG,hold,hst,UW,wv,tc⟩,km⟩;have hle:=h.c.c1.le;have hsz:=tc.size;have wD:∀k,k<v.B->w'.heap[k]?=w.heap[k]?:=λk hk=>tc.same k (by omega) (λho=>by have:=(h.o1 k ho).1;omega)
 refine⟨t,⟨a.r,a.gm,a.gv,sS,sP,pO,iR,m',es'⟩,rfl,ht,dG,⟨rfl,dw,hold⟩,hst,⟨(wD s h.c.s1).trans h.box,⟨h.c.c1.keep wD (by omega),h.c.c2.keep wD (by omega),h.c.p0,h.c.s0,h.c.s1,h.c.tb,h.c.ab,h.c.lb,h.c.sb,h.c.fb,h.c.bb,h.c.Ia,h.c.HH,h.c.ne⟩,⟨hR,UW,wv,λx hx=>?_,by show 0<m';omega⟩,h.rb.keep (λk h1 _=>tc.same k (h.o2 k h1).2 (λho=>h.FA k ho h1)),λk hk=>?_,λk hk=>⟨(h.o2 k hk).1,bA (h.o2 k hk).2 hsz⟩,λk h1 h2=>?_⟩,tc,km⟩
 ·show iR 0 x=0;rw[(hold 0 h.ra.pos).2];exact h.ra.zero x hx
 ·rcases hk with hk|hk
  ·exact⟨(h.o1 k hk).1,bA (h.o1 k hk).2 hsz⟩
  ·exact⟨by omega,hk.2⟩
 ·rcases h1 with h1|h1
  ·exact h.FA k h1 h2
  ·have:=(h.o2 k h2).2;omega
theorem gW.other{w':zf}(h:gW O1 O2 w s v a b){S:Nat->Prop}(tc:ap S w w')(hB:∀k,S k->v.B<=k)(h1:∀k,S k->¬O1 k)(h2:∀k,S k->¬O2 k):gW O1 O2 w' s v a b:=by
 have hle:=h.c.c1.le;have hsz:=tc.size;have wD:∀k,k<v.B->w'.heap[k]?=w.heap[k]?:=λk hk=>tc.same k (by omega) (λho=>by have:=hB k ho;omega)
 exact⟨(wD s h.c.s1).trans h.box,⟨h.c.c1.keep wD (by omega),h.c.c2.keep wD (by omega),h.c.p0,h.c.s0,h.c.s1,h.c.tb,h.c.ab,h.c.lb,h.c.sb,h.c.fb,h.c.bb,h.c.Ia,h.c.HH,h.c.ne⟩,h.ra.keep (λk g _=>tc.same k (h.o1 k g).2 (λx=>h1 k x g)),h.rb.keep (λk g _=>tc.same k (h.o2 k g).2 (λx=>h2 k x g)),λk hk=>⟨(h.o1 k hk).1,bA (h.o1 k hk).2 hsz⟩,λk hk=>⟨(h.o2 k hk).1,bA (h.o2 k hk).2 hsz⟩,h.FA⟩
end
def vp(ps:List Nat):List zl:=ps.map λ(i:Nat)=>Value.int .i64 (i:Int)
theorem zld(ps:List Nat)(i:Nat):vp (ps++[i])=vp ps++[zh .i64 (i:Int)]:=by simp[vp]
theorem qm{w:zf}{g:Nat}{a0 a1 a2 a3:zl}{t:zp}(h:w.heap[g]?=za (zi #[a0,a1,a2,a3] t (0,0))):w.cell? ⟨g,0,zd⟩=za a0/\w.cell? ⟨g,1,zd⟩=za a1/\w.cell? ⟨g,2,zd⟩=za a2/\w.cell? ⟨g,3,zd⟩=za a3:=by
 have:∀o,w.cell? ⟨g,o,zd⟩=#[a0,a1,a2,a3][o]?:=λ_=>aM _ _ _ _ _ _ h
 exact⟨this 0,this 1,this 2,this 3⟩
structure gV(w:zf)(O1 O2:Nat->Prop)(s:Nat)(v:eE)(a b:cz)(ne:Nat)(u:aJ)(M:PA)(E:Nat->Prop)(high t gs:Nat)(W:zf)(lo at' ur now:Nat)(b':cz)(O:Nat->Prop)(S:Nat->Nat)(pv:zl)(ps:List Nat):Prop where
 tc:ap O2 w W
 km:bJ w W
 st:gW O1 O W s v a b'
 rn:rH b b'
 mb:b'.m+at'<=b.m+high
 o2:∀k,O2 k->O k
 zI:∀k,O k->O2 k\/w.heap.size<=k
 nt:¬O t
 ng:¬O gs
 np:∀k,pv.ownBlock=za k->¬O k
 box:W.heap[t]?=za (zi #[ze (za ⟨b.r,0,zd⟩),zg (za ⟨gs,0,zd⟩) ne ne,zh .i64 high,pv] 195 (0,0))
 sp:aH W ne gs S
 pa:W.ownsRow w.heap.size 3 1 pv ps.length (vp ps)
 tw:w.heap.size<=t
 gw:w.heap.size<=gs
 le:at'<=high
 len:ps.length+ur=high
 nw:now<b'.m
 bk:sD v.nw (b'.Ts now) (gU u M E at')
 ix:∀j,j<ps.length->ps.getD j 0<b'.m/\sD v.nw (b'.Ts (ps.getD j 0)) (gU u M E (high-1-j))
 ss:∀q,au S q=true↔lo<=q/\AB u M E q
section
variable {w:zf} {O1 O2:Nat->Prop} {s:Nat} {v:eE} {a b:cz} {ne:Nat} {u:aJ} {M:PA} {E:Nat->Prop} {high t gs:Nat} {W:zf} {lo at' ur now:Nat} {b':cz} {O:Nat->Prop} {S:Nat->Nat} {pv:zl} {ps:List Nat}
theorem gV.tg(h:gV w O1 O2 s v a b ne u M E high t gs W lo at' ur now b' O S pv ps):t≠gs:=λe=>by
 have h1:=h.box;have h2:=h.sp.row;rw[e,h2]at h1;exact absurd (bL h1) (by decide)
theorem gV.FD(h:gV w O1 O2 s v a b ne u M E high t gs W lo at' ur now b' O S pv ps){k:Nat}(hk:pv.ownBlock=za k):k≠t/\k≠gs/\w.heap.size<=k:=by
 obtain⟨h1,ax,h2⟩:=ke h.pa hk;refine⟨λe=>?_,λe=>?_,h1⟩
 ·rw[e,h.box]at h2;exact absurd (bL h2) (by decide)
 ·rw[e,h.sp.row]at h2;exact absurd (bL h2) (by decide)
theorem gV.VW(h:gV w O1 O2 s v a b ne u M E high t gs W lo at' ur now b' O S pv ps){T:Nat->Prop}{W':zf}(tc:ap T W W')(hT:∀k,T k->k=t\/k=gs\/pv.ownBlock=za k)(hB:v.B<=w.heap.size)(h1:∀k,O1 k->k<w.heap.size):ap O2 w W'/\bJ w W'/\gW O1 O W' s v a b':=by
 have hw:∀k,T k->w.heap.size<=k:=λk hk=>by
  rcases hT k hk with e|e|e
  ·rw[e];exact h.tw
  ·rw[e];exact h.gw
  ·exact(h.FD e).2.2
 refine⟨⟨tc.os.trans h.tc.os,tc.tape.trans h.tc.tape,tc.output.trans h.tc.output,aW h.tc.size tc.size,λk hk hn=>(tc.same k (by have:=h.tc.size;omega) (λe=>by have:=hw k e;omega)).trans (h.tc.same k hk hn)⟩,h.km.trans λmg f e=>(tc.same mg (ah.1 e).1 (λe2=>?_)).trans e,h.st.other tc (λk e=>by have:=hw k e;omega) (λk e ho=>by have:=hw k e;have:=h1 k ho;omega) (λk e ho=>?_)⟩
 ·rcases hT mg e2 with e3|e3|e3
  ·rw[e3,h.box]at e;exact absurd (bL e) (by decide)
  ·rw[e3,h.sp.row]at e;exact absurd (bL e) (by decide)
  ·obtain⟨-,ax,e4⟩:=ke h.pa e3;rw[e4]at e;exact absurd (bL e) (by decide)
 ·rcases hT k e with e3|e3|e3
  ·rw[e3]at ho;exact h.nt ho
  ·rw[e3]at ho;exact h.ng ho
  ·exact h.np k e3 ho
theorem gV.add(h:gV w O1 O2 s v a b ne u M E high t gs W (at'+1) at' ur now b' O S pv ps){W':zf}(hr:W'.heap[gs]?=za (zi (kQ ne (kS S at')) 236 (0,0)))(hg:W.grownBy W' (za gs))(hs:AB u M E at')(hB:v.B<=w.heap.size)(h1:∀k,O1 k->k<w.heap.size):gV w O1 O2 s v a b ne u M E high t gs W' at' at' ur now b' O (kS S at') pv ps:=by
 have tc:ap (· = gs) W W':=(ap.refl _ W).grown hg (λk e=>by cases e;exact .inl rfl);obtain⟨m1,m2,m3⟩:=h.VW tc (λk e=>.inr (.inl e)) hB h1;refine⟨m1,m2,m3,h.rn,h.mb,h.o2,h.zI,h.nt,h.ng,h.np,(tc.same t (ah.1 h.box).1 h.tg).trans h.box,⟨hr,JH S h.sp.lt at'⟩,gR h.pa λk e=>?_,h.tw,h.gw,h.le,h.len,h.nw,h.bk,h.ix,λq=>?_⟩
 ·obtain⟨-,ax,e4⟩:=ke h.pa e;exact tc.same k (ah.1 e4).1 (h.FD e).2.1
 ·rw[Jv,sK,h.ss q];constructor
  ·rintro (⟨h2,h3⟩|h2)
   ·exact⟨by omega,h3⟩
   ·have e:q=at':=by simpa using h2
    subst e;exact⟨aj _,hs⟩
  ·rintro ⟨h2,h3⟩
   by_cases e:q=at'
   ·exact .inr (by simpa using e)
   ·exact .inl ⟨by omega,h3⟩
theorem gV.skip(h:gV w O1 O2 s v a b ne u M E high t gs W (at'+1) at' ur now b' O S pv ps)(hs:¬AB u M E at'):gV w O1 O2 s v a b ne u M E high t gs W at' at' ur now b' O S pv ps:=
 ⟨h.tc,h.km,h.st,h.rn,h.mb,h.o2,h.zI,h.nt,h.ng,h.np,h.box,h.sp,h.pa,h.tw,h.gw,h.le,h.len,h.nw,h.bk,h.ix,λq=>(h.ss q).trans ⟨λ⟨h2,h3⟩=>⟨by omega,h3⟩,λ⟨h2,h3⟩=>⟨by
  rcases ig at' q with e|e
  ·exact e
  ·obtain rfl:q=at':=by omega
   exact absurd h3 hs,h3⟩⟩⟩
theorem gV.drewN(n:Nat)(h:gV w O1 O2 s v a b ne u M E high t gs W lo at' ur now b' O S pv ps)(hB:v.B<=w.heap.size)(h1:∀k,O1 k->k<w.heap.size):gV w O1 O2 s v a b ne u M E high t gs (W.drewN n) lo at' ur now b' O S pv ps:=by
 obtain⟨m1,m2,m3⟩:=h.VW (T:=λ_=>False) (W':=W.drewN n) ⟨rfl,rfl,rfl,aj _,λ_ _ _=>rfl⟩ (λk e=>e.elim) hB h1;exact⟨m1,m2,m3,h.rn,h.mb,h.o2,h.zI,h.nt,h.ng,h.np,h.box,⟨h.sp.row,h.sp.lt⟩,h.pa,h.tw,h.gw,h.le,h.len,h.nw,h.bk,h.ix,h.ss⟩
theorem gV.read{p:Nat}(hR:pF M v.n v.nw v.f v.F v.G v.A v.L)(h:gV w O1 O2 s v a b ne u M E high t gs W lo (p+1) ur now b' O S pv ps){c:UInt8}(hc:u[p]?=za c){bg:Bool}(Lj:bg=true↔E (p+1)){x:Nat}{b2:cz}{W':zf}(hx:x<b2.m)(hm:b2.m<=b'.m+1)(hn:rH b' b2)(hs:yv v.nw v.f v.G v.L (b'.Ts now) c.toNat bg (b2.Ts x))(st:gW O1 (news O W W') W' s v a b2)(tc:ap O W W')(km:bJ W W'):gV w O1 O2 s v a b ne u M E high t gs W' lo p ur x b2 (news O W W') S pv ps:=by
 have hsz:=h.tc.size;have lt:∀k,k<W.heap.size->¬O k->¬news O W W' k:=λk h1 h2 h3=>h3.elim h2 λh4=>by omega
 have mZ:=(ah.1 h.box).1;have dC:∀k,pv.ownBlock=za k->k<W.heap.size:=λk e=>by obtain⟨-,ax,e4⟩:=ke h.pa e;exact(ah.1 e4).1
 refine⟨⟨tc.os.trans h.tc.os,tc.tape.trans h.tc.tape,tc.output.trans h.tc.output,aW h.tc.size tc.size,λk hk hn=>(tc.same k (by omega) (λe=>(h.zI k e).elim hn λe=>by omega)).trans (h.tc.same k hk hn)⟩,h.km.trans km,st,h.rn.trans hn,by have:=h.mb;omega,λk hk=>.inl (h.o2 k hk),λk hk=>hk.elim (h.zI k) λe=>.inr (by omega),lt t mZ h.nt,lt gs h.sp.cB h.ng,λk e=>lt k (dC k e) (h.np k e),(tc.same t mZ h.nt).trans h.box,⟨(tc.same gs h.sp.cB h.ng).trans h.sp.row,h.sp.lt⟩,gR h.pa λk e=>tc.same k (dC k e) (h.np k e),h.tw,h.gw,by have:=h.le;omega,h.len,hx,?_,λj hj=>?_,h.ss⟩
 ·exact zop hR hc Lj (λq h1 h2=>h.st.rb.FJ now q h.nw h1 h2) (λq h1 h2=>st.rb.FJ x q hx h1 h2) h.bk hs
 ·obtain⟨h1,h2⟩:=h.ix j hj;have:=hn.lo;exact⟨by omega,by rw[(hn.old _ h1).2];exact h2⟩
theorem gV.push(h:gV w O1 O2 s v a b ne u M E high t gs W lo at' (at'+1) now b' O S pv ps){W8:zf}{g cap:Nat}(aB:W8.ownsRow w.heap.size 3 1 (zg (za ⟨g,0,zd⟩) (ps.length+1) cap) (ps.length+1) (vp ps++[zh .i64 (now:Int)]))(hg:W.grownBy W8 pv.ownBlock)(dF:pv.ownBlock=za g\/W.heap.size<=g)(hB:v.B<=w.heap.size)(h1:∀k,O1 k->k<w.heap.size):gV w O1 O2 s v a b ne u M E high t gs (W8.setCell ⟨t,3,zd⟩ (zg (za ⟨g,0,zd⟩) (ps.length+1) cap)) lo at' at' now b' O S (zg (za ⟨g,0,zd⟩) (ps.length+1) cap) (ps++[now]):=by
 have nj:ap (λk=>k=t\/pv.ownBlock=za k) W W8:=(ap.refl _ W).grown hg (λk e=>.inl (.inr e));have mZ:=(ah.1 h.box).1;have b8:W8.heap[t]?=_:=(hg.block t mZ (λe=>(h.FD e.symm).1 rfl)).trans h.box;have b9:=dE W8 t 3 _ _ (zg (za ⟨g,0,zd⟩) (ps.length+1) cap) b8;have ot:∀k,k≠t->(W8.setCell ⟨t,3,zd⟩ (zg (za ⟨g,0,zd⟩) (ps.length+1) cap)).heap[k]?=W8.heap[k]?:=λk e=>cH _ _ _ _ (show k≠t from e)
 have tc:ap (λk=>k=t\/pv.ownBlock=za k) W (W8.setCell ⟨t,3,zd⟩ (zg (za ⟨g,0,zd⟩) (ps.length+1) cap)):=⟨nj.os,nj.tape,nj.output,by simpa using nj.size,λk hk hn=>(ot k (λe=>hn (.inl e))).trans (nj.same k hk hn)⟩;obtain⟨m1,m2,m3⟩:=h.VW tc (λk e=>e.elim .inl λe=>.inr (.inr e)) hB h1;have hOl:∀k,O k->k<W.heap.size:=λk hk=>(h.st.o2 k hk).2
 refine⟨m1,m2,m3,h.rn,h.mb,h.o2,h.zI,h.nt,h.ng,λk e ho=>?_,b9,⟨(ot gs (λe=>h.tg e.symm)).trans ((hg.block gs h.sp.cB (λe=>(h.FD e.symm).2.1 rfl)).trans h.sp.row),h.sp.lt⟩,?_,h.tw,h.gw,h.le,by rw[nG,List.length_singleton];have:=h.len;omega,h.nw,h.bk,λj hj=>?_,h.ss⟩
 ·have e:g=k:=by simpa [Value.ownBlock]using e
  subst e;rcases dF with e2|e2
  ·exact h.np g e2 ho
  ·have:=hOl g ho;omega
 ·rw[nG,List.length_singleton,zld];refine gR aB λk e=>?_
  have e:g=k:=by simpa [Value.ownBlock]using e
  subst e;refine ot g (λe2=>?_);rcases dF with e3|e3
  ·exact(h.FD e3).1 e2
  ·omega
 ·rw[nG,List.length_singleton]at hj
  by_cases e:j<ps.length
  ·rw[bP,pH e,<-bP];exact h.ix j e
  ·obtain rfl:j=ps.length:=by omega
   rw[bP,sJ (aj _),Aa];have e2:high-1-ps.length=at':=by have:=h.len;omega
   rw[e2];exact⟨h.nw,h.bk⟩
end
structure NL(w:zf)(O1 O2:Nat->Prop)(s:Nat)(v:eE)(a b:cz)(ne:Nat)(u:aJ)(M:PA)(E:Nat->Prop)(high t gs:Nat)(W:zf)(b':cz)(O:Nat->Prop)(S:Nat->Nat)(pv:zl)(ps:List Nat):Prop where
 tc:ap O2 w W
 km:bJ w W
 st:gW O1 O W s v a b'
 rn:rH b b'
 mb:b'.m<=b.m+high
 o2:∀k,O2 k->O k
 zI:∀k,O k->O2 k\/w.heap.size<=k
 nt:¬O t
 ng:¬O gs
 np:∀k,pv.ownBlock=za k->¬O k
 box:W.heap[t]?=za (zi #[ze (za ⟨b'.r,0,zd⟩),zg (za ⟨gs,0,zd⟩) ne ne,zh .i64 high,pv] 195 (0,0))
 sp:aH W ne gs S
 pa:W.ownsRow w.heap.size 3 1 pv ps.length (vp ps)
 tw:w.heap.size<=t
 gw:w.heap.size<=gs
 len:ps.length<=high
 ix:∀j,j<ps.length->ps.getD j 0<b'.m/\sD v.nw (b'.Ts (ps.getD j 0)) (gU u M E (high-1-j))
 off:∀i p,i+ps.length<high->¬gU u M E i p
 ss:∀q,au S q=true↔AB u M E q
theorem gV.bottom{w:zf}{O1 O2:Nat->Prop}{s:Nat}{v:eE}{a b:cz}{ne:Nat}{u:aJ}{M:PA}{E:Nat->Prop}{high t gs:Nat}{W:zf}{now:Nat}{b':cz}{O:Nat->Prop}{S:Nat->Nat}{pv:zl}{ps:List Nat}(h:gV w O1 O2 s v a b ne u M E high t gs W 0 0 0 now b' O S pv ps):NL w O1 O2 s v a b ne u M E high t gs W b' O S pv ps:=
 ⟨h.tc,h.km,h.st,h.rn,by have:=h.mb;omega,h.o2,h.zI,h.nt,h.ng,h.np,by rw[h.rn.r];exact h.box,h.sp,h.pa,h.tw,h.gw,by have:=h.len;omega,h.ix,λi p hi=>by have:=h.len;omega,λq=>(h.ss q).trans ⟨λx=>x.2,λx=>⟨aR _,x⟩⟩⟩
theorem gV.early{w:zf}{O1 O2:Nat->Prop}{s:Nat}{v:eE}{a b:cz}{ne:Nat}{u:aJ}{M:PA}{E:Nat->Prop}{high t gs:Nat}{W:zf}{at':Nat}{b':cz}{O:Nat->Prop}{S:Nat->Nat}{pv:zl}{ps:List Nat}(hR:pF M v.n v.nw v.f v.F v.G v.A v.L)(h:gV w O1 O2 s v a b ne u M E high t gs W at' at' at' 0 b' O S pv ps)(hE:∀m,m<=at'->¬E m):NL w O1 O2 s v a b ne u M E high t gs W b' O S pv ps:=by
 have af:∀p,¬gU u M E at' p:=λp hb=>by
  have hp:=gU.lt hR hb;have hn:=hR.kE;have h1:=(h.bk p (by omega)).2 hb;have h2:=h.st.rb.zero (p/64) (by omega);unfold au at h1;rw[h2]at h1;simp at h1
 have pi:∀i p,gU u M E i p->at'<i:=λi p hb=>zqK hE af hb
 refine⟨h.tc,h.km,h.st,h.rn,by have:=h.mb;omega,h.o2,h.zI,h.nt,h.ng,h.np,by rw[h.rn.r];exact h.box,h.sp,h.pa,h.tw,h.gw,by have:=h.len;omega,h.ix,λi p hi hb=>by have:=h.len;have:=pi i p hb;omega,λq=>(h.ss q).trans ⟨λx=>x.2,λx=>⟨?_,x⟩⟩⟩;rcases x with ⟨h1,_⟩|⟨p,_,h1⟩
 ·rcases ig q at' with e|e
  ·exact absurd h1 (hE q (by omega))
  ·exact e
 ·have:=pi q p h1;omega
theorem Ye{a b:Array zl}{t u:zp}{f g:Nat×Nat}(h:za (Obj.cells a t f)=za (Obj.cells b u g)):a=b:=by cases h;rfl
structure um(w:zf)(s:Nat)(p:Pt)(X:Nat->Prop)(v:eE)(a b:cz)(O1 O2:Nat->Prop):Prop where
 st:gW O1 O2 w s v a b
 rw:pF (cj p 0) v.n v.nw v.f v.F v.G v.A v.L
 em:v.e=true↔(cj p 0).e
 nl:v.n<=2000
 I5:v.nw=((aE p).toNat+63)/64
 lo:∀k,v.b0<=k->k<v.B->X k
 x1:∀k,O1 k->X k
 x2:∀k,O2 k->X k
theorem um.keep{w w':zf}{s:Nat}{p:Pt}{X:Nat->Prop}{v:eE}{a b:cz}{O1 O2:Nat->Prop}(h:um w s p X v a b O1 O2)(hk:∀k,X k->w'.heap[k]?=w.heap[k]?)(hm:bJ w w')(hz:w'.heap[0]?=w.heap[0]?)(hs:w.heap.size<=w'.heap.size):um w' s p X v a b O1 O2:=
 ⟨h.st.keep (λk xH=>hk k (xH.elim (λx=>h.lo k x.1 x.2) λx=>x.elim (h.x1 k) (h.x2 k))) hm hz hs,h.rw,h.em,h.nl,h.I5,h.lo,h.x1,h.x2⟩
theorem um.sX{w:zf}{s:Nat}{p:Pt}{X:Nat->Prop}{v:eE}{a b:cz}{O1 O2:Nat->Prop}(h:um w s p X v a b O1 O2):X s:=h.lo s h.st.c.s0 h.st.c.s1
def Ku(w:zf)(p:Pt)(X:Nat->Prop)(k:zl):Prop:=k=ze zd\/∃s v a b O1 O2,k=ze (za ⟨s,0,zd⟩)/\um w s p X v a b O1 O2/\a.m<=50000000/\b.m<=50000000
theorem Ku.keep{w w':zf}{p:Pt}{X:Nat->Prop}{k:zl}(h:Ku w p X k)(hk:∀k,X k->w'.heap[k]?=w.heap[k]?)(hm:bJ w w')(hz:w'.heap[0]?=w.heap[0]?)(hs:w.heap.size<=w'.heap.size):Ku w' p X k:=by
 rcases h with h|⟨s,v,a,b,O1,O2,h1,h2,h3⟩
 ·exact .inl h
 ·exact .inr ⟨s,v,a,b,O1,O2,h1,h2.keep hk hm hz hs,h3⟩
structure cF(w0:zf)(pl:Nat)(Q:Nat->Option Pt)(Ow:Nat->Nat->Prop)(w:zf):Prop where
 os:w.os=w0.os
 tape:w.tape=w0.tape
 output:w.output=w0.output
 size:w0.heap.size<=w.heap.size
 old:∀k,k<w0.heap.size->Q k=zd->k≠pl->w.heap[k]?=w0.heap[k]?
 q0:Q 0=zd
 p0:pl≠0
 dv:fS w0
 vf:∃(x0 x1 x2:zl) (r0 room:Nat),w0.heap[pl]?=za (zi #[x0,x1,x2,zh .i64 r0] 189 (0,0))/\w.heap[pl]?=za (zi #[x0,x1,x2,zh .i64 room] 189 (0,0))/\room<=1048576
 pc:∀a p,Q a=za p->∃v f k,w0.heap[a]?=za (zi #[ze (za ⟨pl,0,zd⟩),v,f,ze zd] 222 (0,0))/\w.heap[a]?=za (zi #[ze (za ⟨pl,0,zd⟩),v,f,k] 222 (0,0))/\aU w0 v p/\aE p<=2000/\Ku w p (λk=>Ow k a) k
 ow:∀k a,Ow k a->w0.heap.size<=k/\k<w.heap.size
 dj:∀k a b,Ow k a->Ow k b->a=b
section
variable {w0:zf} {pl:Nat} {Q:Nat->Option Pt} {Ow:Nat->Nat->Prop} {w:zf}
theorem cF.zK(h:cF w0 pl Q Ow w):pl<w0.heap.size:=by
 obtain⟨x0,x1,x2,r0,room,h1,_⟩:=h.vf;exact(ah.1 h1).1
theorem cF.pos(h:cF w0 pl Q Ow w):0<w0.heap.size:=by have:=h.zK;omega
theorem cF.aN(h:cF w0 pl Q Ow w){a:Nat}{p:Pt}(ha:Q a=za p):a<w0.heap.size:=by
 obtain⟨v,f,k,h1,_⟩:=h.pc a p ha;exact(ah.1 h1).1
theorem cF.zero(h:cF w0 pl Q Ow w):w.heap[0]?=w0.heap[0]?:=h.old 0 h.pos h.q0 (λe=>h.p0 e.symm)
theorem cF.dO(h:cF w0 pl Q Ow w){k:Nat}{cs:Array zl}{t:zp}(hk:w0.heap[k]?=za (zi cs t (0,0)))(h1:t≠222)(h2:t≠189):w.heap[k]?=za (zi cs t (0,0)):=by
 refine(h.old k (ah.1 hk).1 ?_ ?_).trans hk
 ·cases hq:Q k with
  |none=>rfl
  |some p=>
   obtain⟨v,f,x,h3,_⟩:=h.pc k p hq;rw[hk]at h3;exact absurd (bL h3) h1
 ·rintro rfl;obtain⟨x0,x1,x2,r0,room,h3,_⟩:=h.vf;rw[hk]at h3;exact absurd (bL h3) h2
theorem cF.marks(h:cF w0 pl Q Ow w):bJ w0 w:=λmg f e=>h.dO e (by decide) (by decide)
theorem cF.ne(h:cF w0 pl Q Ow w){a:Nat}{p:Pt}(ha:Q a=za p):a≠pl:=by
 rintro rfl;obtain⟨v,f,x,h3,_⟩:=h.pc a p ha;obtain⟨x0,x1,x2,r0,room,h4,_⟩:=h.vf;rw[h3]at h4;exact absurd (bL h4) (by decide)
theorem cF.turn(h:cF w0 pl Q Ow w){a:Nat}{p:Pt}(ha:Q a=za p){X X':Nat->Prop}{w':zf}(hX:∀k,X k->w0.heap.size<=k/\(Ow k a\/∀b,¬Ow k b))(tc:ap (λk=>k=pl\/k=a\/X k) w w')(hm:bJ w w')
  (dC:∃(x0 x1 x2:zl) (r room:Nat),w.heap[pl]?=za (zi #[x0,x1,x2,zh .i64 r] 189 (0,0))/\w'.heap[pl]?=za (zi #[x0,x1,x2,zh .i64 room] 189 (0,0))/\room<=1048576)
  (zD:∃v f k k',w.heap[a]?=za (zi #[ze (za ⟨pl,0,zd⟩),v,f,k] 222 (0,0))/\w'.heap[a]?=za (zi #[ze (za ⟨pl,0,zd⟩),v,f,k'] 222 (0,0))/\Ku w' p X' k')
  (dJ:∀k,X' k->w0.heap.size<=k/\k<w'.heap.size/\(Ow k a\/w.heap.size<=k\/∀b,¬Ow k b)):cF w0 pl Q (λk b=>(b=a/\X' k)\/(b≠a/\Ow k b)) w':=by
 have pS:=h.aN ha;have Vc:=h.zK;have hsz:=h.size;have hsz':=tc.size;have kV:=h.ne ha;have Df:∀k,k<w0.heap.size->¬X k:=λk hk hx=>by have:=(hX k hx).1;omega
 have hold:∀k,k<w0.heap.size->k≠pl->k≠a->w'.heap[k]?=w.heap[k]?:=λk h1 h2 h3=>tc.same k (by omega) (λe=>e.elim h2 λe=>e.elim h3 (Df k h1))
 have hz:w'.heap[0]?=w.heap[0]?:=hold 0 h.pos (λe=>h.p0 e.symm) (λe=>by have:=h.q0;rw[e,ha]at this;cases this);refine⟨tc.os.trans h.os,tc.tape.trans h.tape,tc.output.trans h.output,by omega,λk h1 h2 h3=>(hold k h1 h3 (λe=>by rw[e,ha]at h2;cases h2)).trans (h.old k h1 h2 h3),h.q0,h.p0,h.dv,?_,λb q hb=>?_,λk b hk=>?_,λk b c hb hc=>?_⟩
 ·obtain⟨x0,x1,x2,r0,room,h1,h2,h3⟩:=h.vf;obtain⟨y0,y1,y2,s0,zAC,k1,k2,k3⟩:=dC;rw[h2]at k1;have e:=Ye k1;simp only[Array.mk.injEq,List.cons.injEq,and_true]at e;obtain⟨rfl,rfl,rfl,-⟩:=e;exact⟨_,_,_,r0,zAC,h1,k2,k3⟩
 ·obtain⟨v,f,k,h1,h2,h3,h4,h5⟩:=h.pc b q hb
  by_cases e:b=a
  ·subst e;rw[ha]at hb;cases hb;obtain⟨v',f',k',k2,g1,g2,g3⟩:=zD;rw[h2]at g1;have e:=Ye g1;simp only[Array.mk.injEq,List.cons.injEq,and_true,true_and]at e;obtain⟨rfl,rfl,-⟩:=e;refine⟨_,_,k2,h1,g2,h3,h4,?_⟩;have:(λk=>(b=b/\X' k)\/(b≠b/\Ow k b))=X':=funext λk=>propext ⟨λx=>x.elim (λy=>y.2) (λy=>absurd rfl y.1),λx=>.inl ⟨rfl,x⟩⟩
   rw[this];exact g3
  ·have aZ:=h.aN hb;refine⟨v,f,k,h1,(hold b aZ (h.ne hb) e).trans h2,h3,h4,?_⟩;have:(λk=>(b=a/\X' k)\/(b≠a/\Ow k b))=λk=>Ow k b:=funext λk=>propext ⟨λx=>x.elim (λy=>absurd y.1 e) (λy=>y.2),λx=>.inr ⟨e,x⟩⟩
   rw[this];refine h5.keep (λk hk=>?_) hm hz hsz';have gZ:=h.ow k b hk;refine tc.same k gZ.2 ?_;rintro (rfl|rfl|hx)
   ·omega
   ·omega
   ·rcases(hX k hx).2 with h6|h6
    ·exact e (h.dj k b a hk h6)
    ·exact h6 b hk
 ·rcases hk with ⟨rfl,hk⟩|⟨-,hk⟩
  ·exact⟨(dJ k hk).1,(dJ k hk).2.1⟩
  ·have:=h.ow k b hk;omega
 ·have key:∀d,d≠a->Ow k d->¬X' k:=λd hd ho hx=>by
   rcases(dJ k hx).2.2 with h6|h6|h6
   ·exact hd (h.dj k d a ho h6)
   ·have:=h.ow k d ho;omega
   ·exact h6 d ho
  rcases hb with ⟨rfl,hb⟩|⟨h1,hb⟩<;>rcases hc with ⟨rfl,hc⟩|⟨h2,hc⟩
  ·rfl
  ·exact absurd hb (key c h2 hc)
  ·exact absurd hc (key b h1 hb)
  ·exact h.dj k b c hb hc
end
structure nI(pl a:Nat)(Ow:Nat->Nat->Prop)(w:zf)(aF:Nat->Nat->Prop)(w':zf)(X:Nat->Prop):Prop where
 tc:ap (λk=>k=pl\/k=a\/Ow k a) w w'
 km:bJ w w'
 V8:∀k b,b≠a->(aF k b↔Ow k b)
 own:∀k,aF k a->Ow k a\/w.heap.size<=k
 xs:∀k,X k->Ow k a\/w.heap.size<=k
theorem nI.refl(pl a:Nat)(Ow:Nat->Nat->Prop)(w:zf):nI pl a Ow w Ow w (λk=>Ow k a):=⟨ap.refl _ _,λ_ _ e=>e,λ_ _ _=>Iff.rfl,λ_ h=>.inl h,λ_ h=>.inl h⟩
structure lS(w0:zf)(pl:Nat)(Q:Nat->Option Pt)(a:Nat)(p:Pt)(Ow:Nat->Nat->Prop)(w:zf)(s:Nat)(X:Nat->Prop)(v:eE)(ra rb:cz)(O1 O2:Nat->Prop):Prop where
 inv:cF w0 pl Q Ow w
 q:Q a=za p
 st:um w s p X v ra rb O1 O2
 x0:∀k,X k->w0.heap.size<=k/\k<w.heap.size
 x1:((∀k,X k↔Ow k a)/\w.cell? ⟨a,3,zd⟩=za (ze (za ⟨s,0,zd⟩)))\/∀k b,X k->¬Ow k b
theorem lS.step{w0:zf}{pl:Nat}{Q:Nat->Option Pt}{a:Nat}{p:Pt}{Ow:Nat->Nat->Prop}{w:zf}{s:Nat}{X:Nat->Prop}{v:eE}{ra rb:cz}{O1 O2:Nat->Prop}(h:lS w0 pl Q a p Ow w s X v ra rb O1 O2){w':zf}{X':Nat->Prop}{v':eE}{wH zN:cz}{Ax xj:Nat->Prop}(tc:ap X w w')(hm:bJ w w')(st:um w' s p X' v' wH zN Ax xj)(ha:wH.m<=50000000)(hb:zN.m<=50000000)(dJ:∀k,X' k->X k\/w.heap.size<=k)(hl:∀k,X' k->k<w'.heap.size):
  ∃aF,lS w0 pl Q a p aF w' s X' v' wH zN Ax xj/\(∀k b,aF k b->Ow k b\/X' k)/\∀iC lh,nI pl a iC lh Ow w X->nI pl a iC lh aF w' X':=by
 have Vc:=h.inv.zK;have pS:=h.inv.aN h.q;have hsz:=h.inv.size;have dC:=h.inv.vf;have zD:=h.inv.pc a p h.q;have Df:∀k,k<w0.heap.size->¬X k:=λk hk hx=>by have:=(h.x0 k hx).1;omega
 obtain⟨x0,x1,x2,r0,room,-,h2,h3⟩:=dC;obtain⟨v0,f0,k0,-,g2,-,-,-⟩:=zD;have p2:w'.heap[pl]?=_:=(tc.same pl (by omega) (Df pl Vc)).trans h2;have a2:w'.heap[a]?=_:=(tc.same a (by omega) (Df a pS)).trans g2;have PY:∀k,X' k->w0.heap.size<=k/\k<w'.heap.size:=λk hk=>⟨(dJ k hk).elim (λh1=>(h.x0 k h1).1) (λh1=>by omega),hl k hk⟩
 have BH:ap (λk=>k=pl\/k=a\/X k) w w':=tc.mono λk _ hk=>.inr (.inr hk)
 have chg:∀aF,(∀k b,b≠a->(aF k b↔Ow k b))->(∀k,aF k a->Ow k a\/X' k)->∀iC lh,nI pl a iC lh Ow w X->nI pl a iC lh aF w' X':=λaF h1 h2 iC lh c=>by
  have Vs:∀k,X' k->iC k a\/lh.heap.size<=k:=λk hk=>by
   rcases dJ k hk with h5|h5
   ·exact c.xs k h5
   ·have:=c.tc.size;exact .inr (by omega)
  refine⟨⟨tc.os.trans c.tc.os,tc.tape.trans c.tc.tape,tc.output.trans c.tc.output,aW c.tc.size tc.size,λk hk hn=>?_⟩,c.km.trans hm,λk b hb=>(h1 k b hb).trans (c.V8 k b hb),λk hk=>?_,Vs⟩
  ·refine(tc.same k (by have:=c.tc.size;omega) (λhx=>?_)).trans (c.tc.same k hk hn);rcases c.xs k hx with h5|h5
   ·exact hn (.inr (.inr h5))
   ·omega
  ·rcases h2 k hk with h5|h5
   ·exact c.own k h5
   ·exact Vs k h5
 rcases h.x1 with ⟨x1,jp⟩|x1
 ·have gZ:k0=ze (za ⟨s,0,zd⟩):=by
   have:w.cell? ⟨a,3,zd⟩=za k0:=(aM _ _ _ _ _ _ g2:_=_);rw[this]at jp;exact Option.some.inj jp
  subst gZ;refine⟨_,⟨h.inv.turn h.q (X:=X) (X':=X') (λk hk=>⟨(h.x0 k hk).1,.inl ((x1 k).1 hk)⟩) BH hm ⟨_,_,_,_,_,h2,p2,h3⟩ ⟨_,_,_,_,g2,a2,.inr ⟨s,v',wH,zN,Ax,xj,rfl,st,ha,hb⟩⟩ (λk hk=>⟨(PY k hk).1,(PY k hk).2,?_⟩),h.q,st,PY,.inl ⟨λk=>⟨λhk=>.inl ⟨rfl,hk⟩,λhk=>hk.elim (λx=>x.2) (λx=>absurd rfl x.1)⟩,(aM _ _ _ _ _ _ a2:_=_)⟩⟩,λk b hk=>hk.elim (λy=>.inr y.2) (λy=>.inl y.2),chg _ (λk b hb=>⟨λx=>x.elim (λy=>absurd y.1 hb) (λy=>y.2),λx=>.inr ⟨hb,x⟩⟩) (λk hk=>hk.elim (λy=>.inr y.2) (λy=>absurd rfl y.1))⟩;rcases dJ k hk with h5|h5
  ·exact .inl ((x1 k).1 h5)
  ·exact .inr (.inl h5)
 ·have hz:w'.heap[0]?=w.heap[0]?:=tc.same 0 (by have:=h.inv.pos;omega) (Df 0 h.inv.pos);refine⟨Ow,⟨⟨tc.os.trans h.inv.os,tc.tape.trans h.inv.tape,tc.output.trans h.inv.output,aW hsz tc.size,λk g1 g2 g3=>(tc.same k (by omega) (Df k g1)).trans (h.inv.old k g1 g2 g3),h.inv.q0,h.inv.p0,h.inv.dv,?_,λb q hb=>?_,λk b hk=>?_,h.inv.dj⟩,h.q,st,PY,.inr λk b hk ho=>?_⟩,λ_ _ hk=>.inl hk,chg Ow (λ_ _ _=>Iff.rfl) (λk hk=>.inl hk)⟩
  ·obtain⟨y0,y1,y2,r0,room,k1,k2,k3⟩:=h.inv.vf;exact⟨_,_,_,_,_,k1,(tc.same pl (by omega) (Df pl Vc)).trans k2,k3⟩
  ·obtain⟨v1,f1,k1,q1,q2,q3,q4,q5⟩:=h.inv.pc b q hb;have aZ:=h.inv.aN hb;exact⟨v1,f1,k1,q1,(tc.same b (by omega) (Df b aZ)).trans q2,q3,q4,q5.keep (λk hk=>tc.same k (h.inv.ow k b hk).2 (λhx=>x1 k b hx hk)) hm hz tc.size⟩
  ·have:=h.inv.ow k b hk;have:=tc.size;omega
  ·rcases dJ k hk with h5|h5
   ·exact x1 k b h5 ho
   ·have:=h.inv.ow k b ho;omega
theorem lS.below{w0:zf}{pl:Nat}{Q:Nat->Option Pt}{a:Nat}{p:Pt}{Ow:Nat->Nat->Prop}{w:zf}{s:Nat}{X:Nat->Prop}{v:eE}{ra rb:cz}{O1 O2:Nat->Prop}(h:lS w0 pl Q a p Ow w s X v ra rb O1 O2){w':zf}(hi:cF w0 pl Q Ow w')(hb:zm w.heap.size w w'):lS w0 pl Q a p Ow w' s X v ra rb O1 O2:=by
 have pS:=h.inv.aN h.q;have hsz:=h.inv.size;have gz:=h.inv.pos;refine⟨hi,h.q,h.st.keep (λk hk=>hb.block k (h.x0 k hk).2) (bJ.of hb) (hb.block 0 (by omega)) hb.size,λk hk=>⟨(h.x0 k hk).1,bA (h.x0 k hk).2 hb.size⟩,?_⟩;rcases h.x1 with ⟨h1,h2⟩|h1
 ·exact .inl ⟨h1,(hb.cell (p:=⟨a,3,zd⟩) (by show a<w.heap.size;omega)).trans h2⟩
 ·exact .inr h1
theorem nI.below{pl a:Nat}{Ow dX:Nat->Nat->Prop}{w w1 w2:zf}{X:Nat->Prop}(c:nI pl a Ow w dX w1 X)(hb:zm w1.heap.size w1 w2):nI pl a Ow w dX w2 X:=⟨c.tc.trans (.bR hb),c.km.trans (bJ.of hb),c.V8,c.own,c.xs⟩
structure cY(w0:zf)(pl:Nat)(Q:Nat->Option Pt)(Ow:Nat->Nat->Prop)(w:zf)(aF:Nat->Nat->Prop)(w':zf):Prop where
 inv:cF w0 pl Q aF w'
 size:w.heap.size<=w'.heap.size
 eG:∀k,w0.heap.size<=k->k<w.heap.size->(∀b,¬Ow k b)->w'.heap[k]?=w.heap[k]?/\∀b,¬aF k b
 km:bJ w w'
theorem cY.trans{w0:zf}{pl:Nat}{Q:Nat->Option Pt}{Ow dX nM:Nat->Nat->Prop}{w w1 w2:zf}(h:cY w0 pl Q Ow w dX w1)(k:cY w0 pl Q dX w1 nM w2):cY w0 pl Q Ow w nM w2:=
 ⟨k.inv,aW h.size k.size,λj h1 h2 h3=>by
  obtain⟨e1,f1⟩:=h.eG j h1 h2 h3;obtain⟨e2,f2⟩:=k.eG j h1 (bA h2 h.size) f1;exact⟨e2.trans e1,f2⟩,h.km.trans k.km⟩
theorem cF.below{w0:zf}{pl:Nat}{Q:Nat->Option Pt}{Ow:Nat->Nat->Prop}{w w':zf}(h:cF w0 pl Q Ow w)(hb:zm w.heap.size w w'):cF w0 pl Q Ow w':=by
 have hsz:=h.size;have iU:=hb.size;refine⟨hb.os.trans h.os,hb.tape.trans h.tape,hb.output.trans h.output,by omega,λk h1 h2 h3=>(hb.block k (by omega)).trans (h.old k h1 h2 h3),h.q0,h.p0,h.dv,?_,λb q hq=>?_,λk b hk=>?_,h.dj⟩
 ·obtain⟨x0,x1,x2,r0,room,h1,h2,h3⟩:=h.vf;exact⟨_,_,_,_,_,h1,(hb.block pl (by have:=h.zK;omega)).trans h2,h3⟩
 ·obtain⟨v1,f1,k1,q1,q2,q3,q4,q5⟩:=h.pc b q hq;exact⟨v1,f1,k1,q1,(hb.block b (by have:=h.aN hq;omega)).trans q2,q3,q4,q5.keep (λk hk=>hb.block k (h.ow k b hk).2) (bJ.of hb) (hb.block 0 (by have:=h.pos;omega)) iU⟩
 ·have:=h.ow k b hk;omega
theorem cY.bR{w0:zf}{pl:Nat}{Q:Nat->Option Pt}{Ow:Nat->Nat->Prop}{w w':zf}(h:cF w0 pl Q Ow w)(hb:zm w.heap.size w w'):cY w0 pl Q Ow w Ow w':=
 ⟨h.below hb,hb.size,λk _ h2 h3=>⟨hb.block k h2,h3⟩,.of hb⟩
theorem cY.below{w0:zf}{pl:Nat}{Q:Nat->Option Pt}{Ow dX:Nat->Nat->Prop}{w w1 w2:zf}(h:cY w0 pl Q Ow w dX w1)(hb:zm w1.heap.size w1 w2):cY w0 pl Q Ow w dX w2:=h.trans (.bR h.inv hb)
theorem lS.zL{w0:zf}{pl:Nat}{Q:Nat->Option Pt}{a:Nat}{p:Pt}{Ow:Nat->Nat->Prop}{w:zf}{s:Nat}{X:Nat->Prop}{v:eE}{ra rb:cz}{O1 O2:Nat->Prop}(h:lS w0 pl Q a p Ow w s X v ra rb O1 O2){iC:Nat->Nat->Prop}{lh:zf}(c:nI pl a iC lh Ow w X):cY w0 pl Q iC lh Ow w:=
 ⟨h.inv,c.tc.size,λk h1 h2 h3=>⟨c.tc.same k h2 (λe=>by
  have:=h.inv.zK;have:=h.inv.aN h.q;rcases e with e|e|e
  ·omega
  ·omega
  ·exact h3 a e),λb hb=>by
  by_cases e:b=a
  ·subst e;rcases c.own k hb with h5|h5
   ·exact h3 b h5
   ·omega
  ·exact h3 b ((c.V8 k b e).1 hb)⟩,c.km⟩
end
end Go.Proofs.YtdimhpfiieepiaaGreatDoor
