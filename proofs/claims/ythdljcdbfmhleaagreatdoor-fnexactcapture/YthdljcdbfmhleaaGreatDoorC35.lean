import Derived.Test.YthdljcdbfmhleaaGreatDoorC34
import Derived.WalkMore
import Derived.Deep.QuietTactic
import Derived.Deep.DrawnRows
namespace Go.Proofs.YthdljcdbfmhleaaGreatDoor
set_option maxHeartbeats 2000000
set_option maxRecDepth 100000
open Go.RowKit
section
variable {p:Pt}
attribute [local go_sem ↓] Go.wp_at_zero Go.wp_at_succ
def zk1:List Lnk->Prop
 |[]=>True
 |(_,o)::ls=>(o=true->∀(u:Word) (N:Nat),N<=u.length->TlP u N ls N)/\zk1 ls
theorem zkJ{u:Word}{N:Nat}(hN:N<=u.length):∀(ls:List Lnk) (m:Nat),zk1 ls->TlP u N ls m->∀k,k<=ls.length->∃m',TlP u N (ls.drop k) m'
 |ls,m,_,h,0,_=>⟨m,h⟩
 |[],m,_,h,k+1,hk=>by simp at hk
 |(q,o)::ls,m,ho,h,k+1,hk=>by
  have:∃e,TlP u N ls e:=by
   rcases h with ⟨e,h1,_⟩|⟨h1,_⟩
   ·exact⟨e,h1⟩
   ·exact⟨N,ho.1 h1 u N hN⟩
  obtain⟨e,he⟩:=this;exact zkJ hN ls e ho.2 he k (by simpa using hk)
theorem zfQ:∀(qs:List Pt),zk1 (zd9 qs)
 |[]=>trivial
 |_::qs=>⟨fun e=>(by cases e),zfQ qs⟩
theorem zit(b:Pt):∀(mn:Nat) (mx:Int),(mx=-1\/(mn:Int)<=mx)->zk1 (repL b mn mx)
 |mn+1,mx,h=>by
  rw[zf0 b mn mx (by omega)];exact⟨fun e=>(by cases e),zit b mn (zdM mx) (by unfold zdM;split<;>omega)⟩
 |0,mx,h=>by
  rcases h with rfl|h
  ·rw[zfZ];exact⟨fun e=>(by cases e),trivial⟩
  ·obtain⟨k,rfl⟩:∃k:Nat,mx=k:=⟨mx.toNat,by omega⟩;clear h
   induction k with
   |zero=>show zk1 (repL b 0 0);rw[zf1];trivial
   |succ k ih=>
    rw[zhs];refine⟨fun _ u N hN=>?_,ih⟩;rw[zdV hN 0 (k:Int) (.inr (by omega))];exact zfB hN _ (.inr (by omega))
theorem zoj(ho:OkP p)(h1:∀l r,p≠.alt l r)(h2:∀b g,p≠.grp b g)(h0:∀f,p≠.set f){u:Word}{N m:Nat}(hN:N<=u.length):zk1 (zba p)/\(TlP u N (zba p) m↔Lg u p m N):=by
 cases p with
 |set f=>exact absurd rfl (h0 f)
 |alt l r=>exact absurd rfl (h1 l r)
 |grp b g=>exact absurd rfl (h2 b g)
 |seq l r=>exact⟨zfQ _,zgd (.seq l r) m⟩
 |rep b mn mx=>
  obtain⟨_,h3,h4⟩:=ho;have e:((mn.toNat:Nat):Int)=mn:=by omega
  refine⟨zit b mn.toNat mx (by omega),?_⟩;have:=zdV (u:=u) hN (b:=b) mn.toNat mx (by omega) m;rw[e] at this;exact this
theorem zle(h1:∀l r,p≠.alt l r)(h2:∀b g,p≠.grp b g)(h3:∀b,p≠.rep b 0 (-1))(h0:∀f,p≠.set f){u:Word}{i N:Nat}{L:Laid}(h:ChR u N (zba p) i L):LayC u i N p L:=by
 cases p with
 |set f=>exact absurd rfl (h0 f)
 |alt l r=>exact absurd rfl (h1 l r)
 |grp b g=>exact absurd rfl (h2 b g)
 |seq l r=>exact h
 |rep b mn mx=>
  show if mn=0/\mx=-1 then RoR u N b i L else ChR u N (repL b mn.toNat mx) i L
  rw[zss (fun e=>by obtain⟨rfl,rfl⟩:=e;exact h3 b rfl)];exact h
theorem zlk(xs:Array Value)(w:World):(callFunc 157 xs).run Tryz.prog w=.ok (.enter 157 xs) w:=by kernel_rfl
theorem zi7{w0:World}{pl:Nat}{Q:Nat->Option Pt}{Ow:Nat->Nat->Prop}(w:World)(h:PnI w0 pl Q Ow w)(lo go cap:Nat)(p:Pt)(xs:List (Nat×Lnk))(hr:w0.ownsRow lo 155 2 (.slice (some ⟨go,0,none⟩) xs.length cap) xs.length (lkL xs))(hf:xs.map Prod.snd=zba p)(h1:∀l r,p≠.alt l r)(h2:∀b g,p≠.grp b g)(h3:∀b,p≠.rep b 0 (-1))(hp:∀x,x∈xs->PcAt lo w0 pl Q x.1 x.2.1)(hQ:∀x,x∈xs->Q x.1=some x.2.1)(ho:OkP p)(hl0:∀f,p≠.set f)(hn9:xs.length<=100000)(t:ByteArray)(ht:t.size<=4096)(hL:Lg t.data.toList p 0 t.size):
  Calls Tryz.prog 155 #[.agg #[.slice (some ⟨go,0,none⟩) xs.length cap],.string t] w fun e w'=>LayA w0 pl Q Ow w lo t.data.toList t.size p e w':=by
 obtain⟨i0,hi,hz0,hz1,hz2⟩:=info_parts Tryz.infoPlaced;have hul:t.data.toList.length=t.size:=by simp
 have hls:(zba p).length=xs.length:=by rw[<-hf];simp
 obtain⟨hopt,htl⟩:=zoj ho h1 h2 hl0 (u:=t.data.toList) (N:=t.size) (m:=0) (by omega);have htl0:=htl.2 hL;have hnz:=zkJ (by omega) _ 0 hopt htl0;have hta:=fun W (hI:PnI w0 pl Q Ow W)=>zpq (Ow:=Ow) W hI lo go cap xs hr hQ hn9 t ht (fun k hk=>by rw[hf];exact hnz k (by omega))
 obtain⟨n,Hn⟩:∃n,Hid (xs.length=n):=⟨_,rfl⟩;obtain⟨ne,Hne⟩:∃ne,Hid (t.size/64+1=ne):=⟨_,rfl⟩;have hne9:ne<=100:=by have:=Hne.out;omega
 have hnt:t.size<64*ne:=by have:=Hne.out;omega
 have hws:=h.size;have Hcell:Hid (∀W Ow1,PnI w0 pl Q Ow1 W->∀i,i<n->W.cell? ⟨go,i*2,none⟩=some (.pointer (some ⟨lkA xs i,0,none⟩))/\W.cell? ⟨go,i*2+1,none⟩=some (.bool (lkO xs i))):=fun W Ow1 hI i hi=>zm8 hr hI (zeS (by have:=Hn.out;omega))
 have HQ:Hid (∀i,i<n->Q (lkA xs i)=some (lkQ xs i)/\PcAt lo w0 pl Q (lkA xs i) (lkQ xs i)):=fun i hi=>by
  have hx:=zrW (zeS (xs:=xs) (i:=i) (by have:=Hn.out;omega));exact⟨hQ _ hx,hp _ hx⟩
 have Hdr:Hid (∀i,i<n->(xs.map Prod.snd).drop i=(lkQ xs i,lkO xs i)::(xs.map Prod.snd).drop (i+1)):=fun i hi=>zm9 (by have:=Hn.out;omega)
 have Hnil:Hid ((xs.map Prod.snd).drop n=[]):=by show _=_;rw[<-Hn.out];simp
 have Hfin:Hid (∀L,ChR t.data.toList t.size (xs.map Prod.snd) 0 L->LayC t.data.toList 0 t.size p L):=fun L hc=>zle h1 h2 h3 hl0 (by rw[<-hf];exact hc)
 have Hst:Hid (TlP t.data.toList t.size (xs.map Prod.snd) 0):=by rw[hf];exact htl0
 have Hnz:Hid (∀k,k<=n->∃m,TlP t.data.toList t.size ((xs.map Prod.snd).drop k) m):=fun k hk=>by rw[hf];exact hnz k (by have:=Hn.out;omega)
 have hb0:Below w.heap.size w (w.alloc (.cells #[.slice (some ⟨go,0,none⟩) xs.length cap] 161)):=(Below.refl _ _).alloc (zsa _) _;have x0:(w.alloc (.cells #[.slice (some ⟨go,0,none⟩) xs.length cap] 161)).heap[w.heap.size]?=some (.cells #[.slice (some ⟨go,0,none⟩) xs.length cap] 161 (0,0)):=zsp _ _;have HT0:=hidF (PnT.of_below h hb0);have ht0:=hta _ (h.below hb0);have hfr:∀k,w.heap.size<=k->∀c,¬Ow k c:=fun k hk c ho=>by have:=(h.ow _ c ho).2;omega
 rw[Hn.out] at hn9 hb0 x0 HT0 ht0 ⊢;rw[Hne.out] at ht0;generalize xs.map Prod.snd=ls at *;generalize lkA xs=pa at *;generalize lkO xs=po at *;generalize lkQ xs=pq at *;clear hr hQ hnz h Hn hf hp hta htl htl0 hopt h1 h2 h3 hL hls
 go_enter Tryz.func155,Tryz.ntmps155
 obtain⟨W0,hW0⟩:∃W0,w.alloc (.cells #[.slice (some ⟨go,0,none⟩) n cap] 161)=W0:=⟨_,rfl⟩;rw[hW0] at x0 HT0 ht0;have c00:W0.cell? ⟨w.heap.size,0,none⟩=some (.slice (some ⟨go,0,none⟩) n cap):=(zsm _ _ _ _ _ _ x0:_=_);have hs0:w.heap.size<W0.heap.size:=(zrc.1 x0).1;go_wp2
 go_step3
 go_wp2_with fail
 refine ht0.mono ?_;rintro e W1 ⟨Ow1,gt,gx,TT,rfl,hT1,hgt,hgtf,hgtc,hset⟩;obtain⟨W2,hW2⟩:∃W2,W1.alloc (.cells #[] 141)=W2:=⟨_,rfl⟩;have hb2:Below W1.heap.size W1 W2:=by rw[<-hW2];exact(Below.refl _ _).alloc (zsa _) _
 have own2:W2.ownsRow w.heap.size 141 2 (.slice (some ⟨W1.heap.size,0,none⟩) 0 0) 0 []:=by rw[<-hW2];exact zbD _ _ 2 _ _ (by have:=hT1.size;omega) rfl
 have hs12:W1.heap.size<W2.heap.size:=by rw[<-hW2];simp
 have hT2:=(HT0.out.trans hT1).below hb2;have hf0:=hT1.fre w.heap.size hws hs0 (hfr _ (zsa _));have x2:W2.heap[w.heap.size]?=_:=(hb2.block _ (by have:=hT1.size;omega)).trans (hf0.1.trans x0);have c2:W2.cell? ⟨w.heap.size,0,none⟩=some (.slice (some ⟨go,0,none⟩) n cap):=(zsm _ _ _ _ _ _ x2:_=_)
 -- what must stay
 obtain⟨Pr,HPr⟩:∃Pr:Nat->Prop,Hid (∀k,Pr k↔k=w.heap.size\/(k=gt/\0<n)\/∃j,j<n/\k=gx j):=⟨_,fun _=>Iff.rfl⟩;have HPl:Hid (∀k,Pr k->w.heap.size<=k/\k<W1.heap.size/\∀b,¬Ow1 k b):=fun k hk=>by
  have h01:=hT1.size;rcases(HPr.out k).1 hk with rfl|⟨rfl,h0⟩|⟨j,hj,rfl⟩
  ·exact⟨zsa _,by omega,hf0.2⟩
  ·exact⟨by omega,block_lt_of_cell (hgtc 0 h0),hgtf⟩
  ·obtain⟨q1,q2,q3,_⟩:=hset j hj;exact⟨by omega,q1.glt,q3⟩
 have Hgt:Hid (∀W:World,(∀k,Pr k->W.heap[k]?=W1.heap[k]?)->∀j,j<n->W.cell? ⟨gt,j,none⟩=some (.slice (some ⟨gx j,0,none⟩) ne ne)/\zal W ne (gx j) (TT j)/\∀q,zae (TT j) q=true↔TlP t.data.toList t.size (ls.drop (j+1)) q):=fun W hW j hj=>by
  obtain⟨q1,q2,q3,q4⟩:=hset j hj;exact⟨(World.cell?_of_block (hW gt ((HPr.out _).2 (.inr (.inl ⟨rfl,by omega⟩))))).trans (hgtc j hj),⟨(hW _ ((HPr.out _).2 (.inr (.inr ⟨j,hj,rfl⟩)))).trans q1.row,q1.lt⟩,q4⟩
 have HT2:=hidF hT2;have Hown2:=hidF own2;have Hs2:Hid (∀k,Pr k->W2.heap[k]?=W1.heap[k]?):=fun k hk=>hb2.block k (HPl.out k hk).2.1
 have Hf1:Hid (∀b,¬Ow1 W1.heap.size b):=fun b hb=>by have:=(hT1.inv.ow _ b hb).2;omega
 clear ht0 hT1 hT2 own2 hb2 hgt hgtf hgtc hset hf0 x0 x2 HT0;go_wp2
 go_step3
 go_wp2;clear hW0 hW2 c00 c2
 go_loopw [6,7,19] (fun lv av iv wr=>∃(k fr:Nat) (ys:List Pld) (vL:Value) (OwW:Nat->Nat->Prop),lv=vL/\av=.int .i64 fr/\iv=.int .i64 k/\k<=n/\fr<=t.size/\ys.length<=k/\Hid (PnT w0 pl Q Ow w OwW wr)/\Hid (∀k,Pr k->wr.heap[k]?=W1.heap[k]?/\∀b,¬OwW k b)/\W1.heap.size<=wr.heap.size/\Hid (TlP t.data.toList t.size (ls.drop k) fr)/\Hid (∀L,ChR t.data.toList t.size (ls.drop k) fr L->ChR t.data.toList t.size ls 0 (lyL ys++L))/\Hid (wr.ownsRow w.heap.size 141 2 vL ys.length (pdL ys))/\Hid (∀k,vL.ownBlock=some k->(∀c,¬OwW k c)/\W1.heap.size<=k)/\Hid (∀y,y∈ys->PcAt lo w0 pl Q y.1 y.2.1))
  (fun _ _ iv _=>n-(intOf iv).toNat)
 case atStart=>exact⟨0,0,[],_,Ow1,rfl,rfl,rfl,zsj _,zsj _,zsa _,HT2,fun k hk=>⟨Hs2.out k hk,(HPl.out k hk).2.2⟩,by omega,Hst,fun L hL=>hL,Hown2,fun k e=>by
   have e:W1.heap.size=k:=by simpa [Value.ownBlock] using e
   subst e;exact⟨Hf1.out,zsa _⟩,fun y hy=>by cases hy⟩
 case round=>
  clear HT2 Hown2 Hs2 Hf1 Hst;obtain⟨k,fr,ys,vL,OwW,hlv,rfl,rfl,hkn,hfrn,hyk,HT,HS,hsz,HTl,HCh,HO,Hob,HPc⟩:=hrel;have hlv':=hlv.symm;subst hlv';have hx0:=(HS.out w.heap.size ((HPr.out _).2 (.inl rfl)))
  by_cases hlt:k<n
  ·have hd:decide ((k:Int)<(n:Int))=true:=by simp;omega
   obtain⟨l0,l1⟩:=Hcell.out wr OwW HT.out.inv k hlt;obtain⟨hQk,hPk⟩:=HQ.out k hlt;have hk0:(0:Int)<=(k:Int):=by omega
   have hk1:(k:Int)<(n:Int):=by omega
   obtain⟨V,hV⟩:∃V,wr.alloc (.cells #[.pointer (some ⟨pa k,0,none⟩),.bool (po k)] 155)=V:=⟨_,rfl⟩;have hbV:Below wr.heap.size wr V:=by rw[<-hV];exact(Below.refl _ _).alloc (zsa _) _
   have xV:V.heap[wr.heap.size]?=some (.cells #[.pointer (some ⟨pa k,0,none⟩),.bool (po k)] 155 (0,0)):=by rw[<-hV];exact zsp _ _
   have hsV:wr.heap.size<V.heap.size:=(zrc.1 xV).1;have v0:=(zay xV).1;have hTV:=HT.out.below hbV;have HSV:∀k,Pr k->V.heap[k]?=W1.heap[k]?:=fun k hk=>(hbV.block k (by have:=(HPl.out k hk).2.1;omega)).trans (HS.out k hk).1
   obtain⟨g0,g1,g2⟩:=Hgt.out V HSV k hlt;have hPg:=(HPr.out (gx k)).2 (.inr (.inr ⟨k,hlt,rfl⟩));have hpl:=HPl.out (gx k) hPg;obtain⟨q0,hq0⟩:=Hnz.out (k+1) (by omega);have hdr:=Hdr.out k hlt;have htlk:=HTl.out;rw[hdr] at htlk;have hrc:=fun nq=>zo7 (V.drewN nq) (hTV.inv.below ⟨rfl,rfl,rfl,zsa _,fun _ _=>rfl⟩) hQk t ht ne (gx k) ne fr (TT k) ⟨g1.row,g1.lt⟩ hne9 (by omega) (HS.out _ hPg).2 ⟨q0,by have:=hq0.le;omega,(g2 q0).2 hq0⟩ (fun q _ hb=>((g2 q).1 hb).le) hfrn (by omega) (by
    rcases htlk with ⟨e,e1,e2⟩|⟨_,e⟩
    ·exact .inl ⟨e,by have:=e1.le;omega,(g2 e).2 e1,e2⟩
    ·exact .inr e)
   have hcc:Calls Tryz.prog 157 #[.pointer (some ⟨pa k,0,none⟩),.string t,.int .i64 fr,.slice (some ⟨gx k,0,none⟩) ne ne] V.drew fun e w'=>∃v,e=.returned v/\∃(Ow':Nat->Nat->Prop) (end':Nat) (ok:Bool),v=.tuple #[.int .i64 end',.bool ok]/\RchP t.data.toList (pq k) (fun q=>q<64*ne/\zae (TT k) q=true) fr end' ok/\PnT w0 pl Q OwW V Ow' w':=(hrc 1).mono fun e w' ⟨Ow',end',ok,e1,e2,e3⟩=>⟨_,e1,Ow',end',ok,rfl,e2,(PnT.of_below hTV.inv (Below.refl V.heap.size V).drew).trans (e3:PnT w0 pl Q OwW V.drew Ow' w')⟩
   have Hg2:=hidF g2;have Hdrk:=hidF hdr;have HTV:=hidF hTV;have HxV:=hidF xV;clear hrc g1 g2 hTV xV hdr htlk hpl
   go_upto_region 7 with fail
   clear hV
   go_region_law ((refine zb9 (by rfl) 157 #[.tmp 26,.tmp 27,.tmp 28,.tmp 32] #[86,9,3,129] (by rfl) #[.pointer (some ⟨pa k,0,none⟩),.string t,.int .i64 fr,.slice (some ⟨gx k,0,none⟩) ne ne] (by simp[Act.eval]) _ (zlk _ _) hcc ?_;rintro v2 W3 ⟨Ow3,end',ok,rfl,hR,hT3'⟩;clear hcc))
   all_goals (
    have HT3:=hidF (HTV.out.trans hT3');have HS3:Hid (∀k,Pr k->W3.heap[k]?=W1.heap[k]?/\∀b,¬Ow3 k b):=fun k hk=>by
     have:=HPl.out k hk;obtain⟨f1,f2⟩:=hT3'.fre k (by omega) (by omega) (HS.out k hk).2;exact⟨f1.trans (HSV k hk),f2⟩
    have hlkf:∀b,¬OwW wr.heap.size b:=fun b hb=>by have:=(HT.out.inv.ow _ b hb).2;omega
    have hwr:=HT.out.size;have hlk3:=(hT3'.fre wr.heap.size (by omega) hsV hlkf).1.trans HxV.out;have y0:=(zay hlk3).1;have hs3:W1.heap.size<=W3.heap.size:=by have:=hT3'.size;omega
    have HO3:Hid (W3.ownsRow w.heap.size 141 2 vL ys.length (pdL ys)):=zaO HO.out fun k e=>by
     obtain⟨e3,cur,e4⟩:=zaR HO.out e;have hkl:=(zrc.1 e4).1;exact(hT3'.fre k (by omega) (by omega) (Hob.out k e).1).1.trans (hbV.block k hkl)
    have Hob3:Hid (∀k,vL.ownBlock=some k->w.heap.size<=k/\(∀c,¬Ow3 k c)/\W1.heap.size<=k/\∃cur,W3.heap[k]?=some (.cells cur 141 (0,0))):=fun k e=>by
     obtain⟨e3,cur,e4⟩:=zaR HO.out e;have hkl:=(zrc.1 e4).1;obtain⟨f1,f2⟩:=hT3'.fre k (by omega) (by omega) (Hob.out k e).1;exact⟨e3,f2,(Hob.out k e).2,cur,f1.trans ((hbV.block k hkl).trans e4)⟩
    have HR:=hidF hR;clear hR hT3' HSV v0 hbV hlk3 HT HS HO Hob HTV HxV g0 l0 l1;cases ok with
    |false=>
     have HF:Hid (LayA w0 pl Q Ow w lo t.data.toList t.size p (.returned vL) W3):=by
      refine⟨Ow3,ys,vL,rfl,HT3.out,HO3.out,fun k e=>(Hob3.out k e).2.1,Hfin.out _ ?_,HPc.out⟩;have:=HCh.out [] (by
       rw[Hdrk.out];refine .stop _ _ _ _ fun e he hl=>?_
       rcases HR.out with ⟨e1,_⟩|⟨_,e1⟩
       ·cases e1
       ·exact e1 e ⟨by have:=he.le;omega,(Hg2.out e).2 he⟩ hl)
      rw[zrm] at this;exact this
     clear HR HT3 HS3 HO3 Hob3 HCh HTl;go_wp2;go_ret;exact HF.out
    |true=>
     have hres:(end'<64*ne/\zae (TT k) end'=true)/\Lg t.data.toList (pq k) fr end'/\∀x,(x<64*ne/\zae (TT k) x=true)->Lg t.data.toList (pq k) fr x->x<=end':=by
      rcases HR.out with ⟨_,e1⟩|⟨e1,_⟩
      ·exact e1
      ·cases e1
     have hte:=(Hg2.out end').1 hres.1.2;have hen:=hte.le;have HCh2:Hid (∀L,ChR t.data.toList t.size (ls.drop (k+1)) end' L->ChR t.data.toList t.size ls 0 (lyL (ys++[(pa k,pq k,end')])++L)):=fun L hL=>by
      have:=HCh.out ((pq k,end')::L) (by
       rw[Hdrk.out];exact .cons _ _ _ _ _ _ ⟨hres.2.1.1,hen,⟨hres.2.1,hte⟩,fun m h1 h2 h3=>by have:=hres.2.2 m ⟨by omega,(Hg2.out m).2 h3.2⟩ h3.1;omega⟩ hL)
      simpa [lyL] using this
     have HTe:=hidF hte;have own3:=HO3.out;have hys:ys.length<=2000000:=by omega
     have hbs:w.heap.size<=W3.heap.size:=HT3.out.size;obtain⟨va,vn,vc,hvf⟩:∃(va:Option Addr) (vn vc:Nat),vL=.slice va vn vc:=by
      rcases own3.2 with ⟨e,_⟩|⟨g,c,_,e,_⟩
      ·exact⟨_,_,_,e⟩
      ·exact⟨_,_,_,e⟩
     subst hvf;clear HR hres hte HTl HCh HO3
     go_wp2_with (at_builtin;refine zaS rfl (.tmp 38) (.tmp 43) 138 rfl W3 #[.pointer (some ⟨pa k,0,none⟩),.int .i64 (end':Int)] 141 rfl W3.heap.size rfl w.heap.size i0 _ 2 16 Tryz.underlying138 hi hz0 hz1 hz2 rfl (by omega) (.slice va vn vc) ys.length (pdL ys) rfl own3 rfl rfl (by intro u hu;simp at hu;rcases hu with rfl|rfl<;>rfl) hys (by omega) hbs ?_;intro g7 cap7 W7 own7 grow7 at7)
     have tc7:zan (fun k=>(Value.slice va vn vc).ownBlock=some k) W3 W7:=(zan.refl _ W3).grown grow7 (fun k e=>.inl e);have km7:zaJ W3 W7:=fun mg f e=>(tc7.same mg (zrc.1 e).1 (fun e2=>by
      obtain⟨_,_,_,cur,h5⟩:=Hob3.out mg e2;rw[h5] at e;exact absurd (zad e) (by decide))).trans e
     have HT7:=hidF (HT3.out.free tc7 km7 (fun k e=>⟨by have:=(Hob3.out k e).1;omega,(Hob3.out k e).2.1,(Hob3.out k e).1⟩));have HS7:Hid (∀k,Pr k->W7.heap[k]?=W1.heap[k]?/\∀b,¬Ow3 k b):=fun k hk=>by
      have:=HPl.out k hk;exact⟨(tc7.same k (by omega) (fun e=>by have:=(Hob3.out k e).2.2.1;omega)).trans (HS3.out k hk).1,(HS3.out k hk).2⟩
     have hs7:W1.heap.size<=W7.heap.size:=zsb hs3 tc7.size
     go_roundw
     case rel=>exact⟨k+1,end',ys++[(pa k,pq k,end')],_,Ow3,rfl,rfl,by go_num,by omega,hen,by simp;omega,HT7,HS7,hs7,HTe,HCh2,by show World.ownsRow _ _ _ _ _ _ _;rw[zrK,zeF];exact own7,fun k e=>by
       have e:g7=k:=by simpa [Value.ownBlock] using e
       subst e;rcases at7 with f|f
       ·obtain⟨z1,z2,z3,_⟩:=Hob3.out g7 f;exact⟨z2,z3⟩
       ·exact⟨fun c hc=>by have:=(HT3.out.inv.ow _ c hc).2;omega,by omega⟩,fun y hy=>by
       rcases zrR.1 hy with hy|hy
       ·exact HPc.out y hy
       ·rw[zrY.1 hy];exact hPk⟩
     case measure=>simp[intOf];omega)
  ·obtain rfl:k=n:=by omega
   have hd:decide ((k:Int)<(k:Int))=false:=by simp
   have HF:Hid (LayA w0 pl Q Ow w lo t.data.toList t.size p (.returned vL) wr):=by
    refine⟨OwW,ys,vL,rfl,HT.out,HO.out,fun k e=>(Hob.out k e).1,Hfin.out _ ?_,HPc.out⟩;have:=HCh.out [] (by rw[Hnil.out];exact .nil _);rw[zrm] at this;exact this
   clear HT HS HO Hob HPc HTl HCh;go_wp2;go_ret;exact HF.out
end
section
variable {w w0:World}{pl:Nat}{Q:Nat -> Option Pt}{Ow:Nat -> Nat -> Prop}
attribute [local go_sem ↓] Go.wp_at_zero Go.wp_at_succ
theorem zdZ:∀(p:Pt) (v:Value),zai w v p->wPt p<=2000->((zaW p).length:Int)<=wPt p
 |.set _,_,_,_=>by simp[zaW,wPt]
 |.seq l r,v,h,_=>by have:=(za8 (.seq l r) v h).1;simp[zaW];omega
 |.rep b mn mx,v,h,_=>by have:=(za8 (.rep b mn mx) v h).1;simp[zaW];omega
 |.grp b g,v,h,_=>by have:=(za8 (.grp b g) v h).1;simp[zaW];omega
 |.alt l r,v,⟨lv,rv,h1,h2,h3⟩,hw=>by
  have hk:=zeh (v:=v) (.inr ⟨lv,rv,h1,h2,h3⟩) hw;have i1:=zdZ l lv h2 hk.1;have i2:=zdZ r rv h3 hk.2;have:wPt (.alt l r)=wPt l+wPt r:=by
   show capW _=_;have hw:capW (wPt l+wPt r)<=2000:=hw;unfold capW at hw ⊢;split
   ·rfl
   ·rename_i e;rw[zss e] at hw;omega
  rw[this];simp[zaW];omega
theorem zc2:∀(p:Pt),0<(zaW p).length
 |.set _=>by simp[zaW]
 |.seq _ _=>by simp[zaW]
 |.rep _ _ _=>by simp[zaW]
 |.grp _ _=>by simp[zaW]
 |.alt l r=>by have:=zc2 l;simp[zaW];omega
theorem zhZ:∀(p:Pt) (v:Value),zai w v p->wPt p<=2000->((zbU p).length:Int)<=wPt p
 |.set _,_,_,_=>by simp[zbU,wPt]
 |.alt l r,v,h,_=>by have:=(za8 (.alt l r) v h).1;simp[zbU];omega
 |.rep b mn mx,v,h,_=>by have:=(za8 (.rep b mn mx) v h).1;simp[zbU];omega
 |.grp b g,v,h,_=>by have:=(za8 (.grp b g) v h).1;simp[zbU];omega
 |.seq l r,v,⟨lv,rv,h1,h2,h3⟩,hw=>by
  have hk:=zeh (v:=v) (.inl ⟨lv,rv,h1,h2,h3⟩) hw;have i1:=(za8 l lv h2).1;have i2:=zhZ r rv h3 hk.2;have:wPt (.seq l r)=wPt l+wPt r:=by
   show capW _=_;have hw:capW (wPt l+wPt r)<=2000:=hw;unfold capW at hw ⊢;split
   ·rfl
   ·rename_i e;rw[zss e] at hw;omega
  rw[this];simp[zbU];omega
theorem zid(p:Pt)(v:Value)(h:zai w v p)(hw:wPt p<=2000):(zba p).length<=2000:=by
 cases p with
 |set f=>simp[zba]
 |alt l r=>simp[zba]
 |grp b g=>simp[zba]
 |seq l r=>have:=zhZ (.seq l r) v h hw;simp[zba,zd9];omega
 |rep b mn mx=>
  obtain⟨_,_,_,hb⟩:=h;simp[zaD] at hb;simp only[zba,repL,zrK,List.length_replicate];split<;>simp<;>omega
def LayB(w0:World)(pl:Nat)(Q:Nat->Option Pt)(Ow:Nat->Nat->Prop)(w:World)(lo:Nat)(u:Word)(n:Nat)(p:Pt)(e:Ending)(w':World):Prop:=
 (noG p/\e=.returned (.slice none 0 0)/\w'=w)\/((∀f,p≠.set f)/\LayA w0 pl Q Ow w lo u n p e w')
theorem PnI.form(h:PnI w0 pl Q Ow w){lo a:Nat}{p:Pt}{f:Value}(hb:PcB lo w0 pl Q a p f):w.cell? ⟨a,2,none⟩=some f/\∃v,zai w0 v p/\wPt p<=2000:=by
 obtain⟨v,f',k,h1,h2,h3,h4,_⟩:=h.pc a p hb.q;obtain⟨v',h5,h6⟩:=hb.box;rw[h1] at h5;have e:f'=f:=by injection h5 with h5;injection h5 with h5;simp at h5;exact h5.2
 subst e;exact⟨(zsm _ _ _ _ _ _ h2:_=_),v,h3,h4⟩
theorem PcAt.q{lo:Nat}{a:Nat}{p:Pt}(h:PcAt lo w pl Q a p):Q a=some p:=by
 obtain⟨f,h1,_⟩:=h.blk;exact h1.q
theorem zhI{P:Program}{o:Oper}{a:Act}{K:Act->World->Prop}{Q:Exit->Act->World->Prop}{r:Result Next}(r':Result Next)(e:r=r')(h:Oper.upon P o a K Q r'):Oper.upon P o a K Q r:=e ▸ h
theorem zjP(w:World)(h:PnI w0 pl Q Ow w)(lo a:Nat)(p:Pt)(hp:PcAt lo w0 pl Q a p)(t:ByteArray)(ht:t.size<=4096)(hL:Lg t.data.toList p 0 t.size):
  Calls Tryz.prog 69 #[.pointer (some ⟨a,0,none⟩),.string t] w fun e w'=>LayB w0 pl Q Ow w lo t.data.toList t.size p e w':=by
 have ho:=h.okP hp.q;cases hp with
 |leaf _ _ hb hn=>
  obtain⟨c2,-⟩:=h.form hb;have Hn:=hidF hn;clear hb hn h ho hL
  go_enter Tryz.func69,Tryz.ntmps69
  go_wp2;go_ret;exact .inl ⟨Hn.out,rfl,rfl⟩
 |group _ a' b g hb hk=>
  obtain⟨c2,-⟩:=h.form hb;have hc:=zjk w h lo a' b g hk t;clear hb h ho hL hk
  go_enter Tryz.func69,Tryz.ntmps69
  go_wp2_with fail
  refine zhI (.ok (.enter 153 #[.agg #[.int .i64 g,.pointer (some ⟨a',0,none⟩)],.string t]) w) (by kernel_rfl) ?_;rw[Oper.upon_enter];refine hc.mono ?_;rintro e w' ⟨Ow',ys,v,rfl,hT⟩;have HF:Hid (LayA w0 pl Q Ow w lo t.data.toList t.size (.grp b g) (.returned v) w'):=⟨Ow',ys,v,rfl,hT⟩;clear hc hT;go_wp2;go_ret;exact .inr ⟨fun f e=>(by cases e),HF.out⟩
 |choice _ l r go cap xs hb hr hf hk=>
  obtain⟨c2,v,hv,hw⟩:=h.form hb;have hl:=zdZ _ v hv hw;have hl1:(zaW (.alt l r)).length=xs.length:=by rw[<-hf];simp
  have hl2:0<(zaW (.alt l r)).length:=zc2 _;have hc:=zhR w h lo go cap l r xs hr hf hk (fun x hx=>(hk x hx).q) t ht hL (by omega) (by omega);clear hb h ho hL hk hr hf hv hw hl hl1 hl2
  go_enter Tryz.func69,Tryz.ntmps69
  go_wp2_with fail
  refine zhI (.ok (.enter 161 #[.agg #[.slice (some ⟨go,0,none⟩) xs.length cap],.string t]) w) (by kernel_rfl) ?_;rw[Oper.upon_enter];refine hc.mono ?_;rintro e w' ⟨Ow',ys,v,rfl,hT⟩;have HF:Hid (LayA w0 pl Q Ow w lo t.data.toList t.size (.alt l r) (.returned v) w'):=⟨Ow',ys,v,rfl,hT⟩;clear hc hT;go_wp2;go_ret;exact .inr ⟨fun f e=>(by cases e),HF.out⟩
 |chain _ _ go cap xs hb hr hf h1 h2 h3 h0 hk=>
  obtain⟨c2,v,hv,hw⟩:=h.form hb;have hl:=zid _ v hv hw;have hl1:(zba p).length=xs.length:=by rw[<-hf];simp
  have hc:=zi7 w h lo go cap p xs hr hf h1 h2 h3 hk (fun x hx=>(hk x hx).q) ho h0 (by omega) t ht hL;have hs:=h0;clear hb h ho hL hk hr hf hv hw hl hl1 h1 h2 h3
  go_enter Tryz.func69,Tryz.ntmps69
  go_wp2_with fail
  refine zhI (.ok (.enter 155 #[.agg #[.slice (some ⟨go,0,none⟩) xs.length cap],.string t]) w) (by kernel_rfl) ?_;rw[Oper.upon_enter];refine hc.mono ?_;rintro e w' ⟨Ow',ys,v,rfl,hT⟩;have HF:Hid (LayA w0 pl Q Ow w lo t.data.toList t.size p (.returned v) w'):=⟨Ow',ys,v,rfl,hT⟩;clear hc hT;go_wp2;go_ret;exact .inr ⟨hs,HF.out⟩
 |rounds _ a' b hb hk=>
  obtain⟨c2,-⟩:=h.form hb;have hc:=ziB w h lo a a' b hb.q hk.q hk t ht hL;clear hb h ho hL hk
  go_enter Tryz.func69,Tryz.ntmps69
  go_wp2_with fail
  refine zhI (.ok (.enter 162 #[.agg #[.pointer (some ⟨a,0,none⟩),.pointer (some ⟨a',0,none⟩)],.string t]) w) (by kernel_rfl) ?_;rw[Oper.upon_enter];refine hc.mono ?_;rintro e w' ⟨Ow',ys,v,rfl,hT⟩;have HF:Hid (LayA w0 pl Q Ow w lo t.data.toList t.size (.rep b 0 (-1)) (.returned v) w'):=⟨Ow',ys,v,rfl,hT⟩;clear hc hT;go_wp2;go_ret;exact .inr ⟨fun f e=>(by cases e),HF.out⟩
end
theorem Tryz.infoBoolE:(Tryz.prog.info? 4).map (fun i=>(i.zero,i.size,i.bytes))=some (some (.bool false),1,1):=by kernel_rfl
def zbe(w:World)(g:Nat)(S:List Bool):Prop:=g<w.heap.size/\∀i,i<S.length->w.cell? ⟨g,i,none⟩=some (.bool (S.getD i false))
theorem zbe.below{w w':World}{g:Nat}{S:List Bool}(h:zbe w g S)(hb:Below w.heap.size w w'):zbe w' g S:=
 ⟨zsc h.1 hb.size,fun i hi=>(hb.cell (p:=⟨g,i,none⟩) h.1).trans (h.2 i hi)⟩
theorem zp6{xs:List Value}{k:Nat}{f:Nat->List Value}{a:Value}(h:zbG xs 1 k f)(hl:k<xs.length)(hk:f k=[a]):zbG (xs.set k a) 1 (k+1) f:=by
 intro j hj c hc;obtain rfl:c=0:=by omega
 rw[Nat.mul_one,zr9,zrH]
 by_cases e:j=k
 ·subst e;rw[hk];simp;omega
 ·rw[zss (by omega)];have:=h j (by omega) 0 (by omega)
  simpa using this
theorem zmT(rs:List (Int×Int))(c k:Nat)(hk:k<rs.length)(a b:Int)(h:rs.getD k (0,0)=(a,b)):hasF (rs.drop k) c=(btw c a b || hasF (rs.drop (k+1)) c):=by
 rw[zrp hk];have:rs[k]=(a,b):=by rw[<-h];simp[List.getD,hk]
 unfold hasF;rw[List.any_cons,this]
 rfl
theorem zqH{lo:Nat}(v:Value)(rs:List (Int×Int))(c:Nat)(w:World)(hs:zag lo w v rs)(hc8:c<256):
  Calls Tryz.prog 52 #[v,.int .u8 c] w fun e w'=>e=.returned (.bool (hasF rs c))/\Below w.heap.size w w':=by
 obtain⟨ao,cap,rfl,hm,hc⟩:=hs;have hc0:(0:Int)<=(c:Int):=by omega
 have hc1:(c:Int)<256:=by omega
 go_enter Tryz.func52,Tryz.ntmps52
 go_wp2
 go_loopw [9] (fun i wr=>∃k:Nat,k<=rs.length/\i=.int .i64 k/\Hid (hasF rs c=hasF (rs.drop k) c)/\Below w.heap.size w wr)
  (fun i _=>rs.length-(intOf i).toNat)
 case atStart=>exact⟨0,zsj _,rfl,rfl,Below.refl _ _⟩
 case round=>
  obtain⟨k,hk,rfl,HS,hb⟩:=hrel
  by_cases hlt:k<rs.length
  ·obtain⟨b,o,x,y,rfl,Hn,hbl,c0,c1⟩:=hc.elem hb hlt;have hba:Below w.heap.size w (wr.alloc (.cells #[.int .i64 x,.int .i64 y] 149)):=hb.alloc hb.size _;have HD:Hid (hasF (rs.drop k) c=(btw c x y || hasF (rs.drop (k+1)) c)):=zmT rs c k hlt x y Hn.out
   go_wp2_with fail
   refine(zax _ _ _ _).mono ?_;rintro e w2 ⟨rfl,rfl⟩;cases hq:btw c x y
   ·go_wp2
    go_roundw
    case rel=>exact⟨k+1,by omega,by go_num,by show _=_;rw[HS.out,HD.out,hq,Bool.false_or],hba⟩
    case measure=>simp[intOf];omega
   ·go_wp2;go_ret;exact⟨zam (by rw[HS.out,HD.out,hq,Bool.true_or]),hba⟩
  ·go_wp2;go_ret;exact⟨zam (by rw[HS.out,zrq (by omega)];rfl),hb⟩
def orL(X Y:List Bool):List Bool:=(List.range X.length).map fun i=>X.getD i false || Y.getD i false
theorem zeD(X Y:List Bool):(orL X Y).length=X.length:=by simp[orL]
theorem zho(X Y:List Bool){i:Nat}(h:i<X.length):(orL X Y).getD i false=(X.getD i false || Y.getD i false):=by simp[orL,List.getD_eq_getElem?_getD,h]
theorem zks{n:Nat}{X Y:List Bool}{P Q:Nat->Prop}(hx:zcn n X P)(hy:zcn n Y Q):zcn n (orL X Y) (fun j=>P j\/Q j):=by
 refine⟨by rw[zeD];exact hx.len,fun j=>?_⟩
 by_cases hj:j<X.length
 ·rw[zho _ _ hj,zrg,hx.iff,hy.iff]
 ·have e1:(orL X Y).getD j false=false:=by rw[zrw,zrE (by rw[zeD];omega)];rfl
  rw[e1];constructor
  ·intro h;cases h
  ·rintro (h|h)
   ·exact absurd (hx.le j h) (by have:=hx.len;omega)
   ·exact absurd (hy.le j h) (by have:=hx.len;omega)
theorem zqQ(n:Nat)(X Y:List Bool)(g g2 cap cap2:Nat)(w:World)(hX:zbe w g X)(hY:zbe w g2 Y)(hxn:X.length=n)(hyn:Y.length=n)(hn:n<=1048576):
  Calls Tryz.prog 53 #[.slice (some ⟨g,0,none⟩) n cap,.slice (some ⟨g2,0,none⟩) n cap2] w fun e w'=>e=.returned (.slice (some ⟨w.heap.size,0,none⟩) n n)/\zbe w' w.heap.size (orL X Y)/\Below w.heap.size w w':=by
 have Hx:Hid _:=hxn;have Hy:Hid _:=hyn;clear hxn hyn;obtain⟨i0,hi,hz0,hz1,hz2⟩:=info_parts Tryz.infoBoolE
 go_enter Tryz.func53,Tryz.ntmps53
 go_wp2_with (refine wpList_make_full _ rfl _ _ 67 rfl w.heap.size 4 i0 _ 1 Tryz.underlying67 hi hz0 hz1 _ _ _ _ n rfl rfl rfl rfl (by rw[hz2];omega) (by unfold maxLen;omega) (zsa _) ?_;intro w1 hown hgrow)
 have hbw:Below w.heap.size w w1:=(Below.refl _ _).grown hgrow (zsa _) (by intro k h;cases h);clear hgrow
 go_loopw [12] (fun i wr=>∃k:Nat,k<=n/\i=.int .i64 k/\Below w.heap.size w wr/\∃zs:List Value,wr.ownsRow w.heap.size 4 1 (.slice (some ⟨w.heap.size,0,none⟩) n n) n zs/\
   zbG zs 1 k (fun j=>[.bool ((orL X Y).getD j false)]))
  (fun i _=>n-(intOf i).toNat)
 case atStart=>exact⟨0,zsj _,rfl,hbw,_,hown,fun j hj=>absurd hj (zsg _)⟩
 case round=>
  obtain⟨k,hk,rfl,hb,zs,hown,hfill⟩:=hrel
  by_cases hlt:k<n
  ·have c0:=(hb.cell (p:=⟨g,k,none⟩) hX.1).trans (hX.2 k (by rw[Hx.out];exact hlt));have c1:=(hb.cell (p:=⟨g2,k,none⟩) hY.1).trans (hY.2 k (by rw[Hy.out];exact hlt));have Ho:Hid ((orL X Y).getD k false=(X.getD k false || Y.getD k false)):=zho X Y (by rw[Hx.out];exact hlt);generalize X.getD k false=a at *;generalize Y.getD k false=b at *;obtain⟨u0,d0⟩:=zbk hown (j:=k) (by omega);have f0:=hown.frozenAt k;have hg1:=hX.1;have hg2:=hY.1;have hi0:(0:Int)<=(k:Int):=by omega
   have hi1:(k:Int)<(n:Int):=by omega
   cases a
   all_goals
    go_wp2
    go_roundw
    case rel=>exact⟨k+1,by omega,by go_num,hb.setCell (by simp) _,_,(hown.stored _ _).1,zp6 hfill (by have:=hown.1;omega) (by rw[Ho.out];rfl)⟩
    case measure=>simp[intOf];omega
  ·go_wp2;have hkk:k=n:=by omega
   refine zsl (v:=.slice (some ⟨w.heap.size,0,none⟩) n n) (by simp[results,Tryz.results53,go_sem]) rfl ⟨rfl,⟨zb0 hown,fun i hi=>?_⟩,hb⟩;rw[hkk] at hfill;have e0:=zaw hown hfill (i:=i) (c:=0) (by rw[zeD,Hx.out] at hi;exact hi) (by omega)
   simpa using e0
def zer(X Y:List Bool)(k:Nat):Bool:=(List.range k).any fun i=>Y.getD i false && !X.getD i false
theorem zk3(X Y:List Bool)(k:Nat):zer X Y (k+1)=(zer X Y k || (Y.getD k false && !X.getD k false)):=by simp[zer,List.range_succ]
theorem zpQ(n:Nat)(X Y:List Bool)(g g2 cap cap2:Nat)(w:World)(hX:zbe w g X)(hY:zbe w g2 Y)(hxn:X.length=n)(hyn:Y.length=n)(hn:n<=1048576):
  Calls Tryz.prog 74 #[.slice (some ⟨g,0,none⟩) n cap,.slice (some ⟨g2,0,none⟩) n cap2] w fun e w'=>e=.returned (.bool (zer X Y n))/\Below w.heap.size w w':=by
 have Hx:Hid _:=hxn;have Hy:Hid _:=hyn;clear hxn hyn
 go_enter Tryz.func74,Tryz.ntmps74
 go_wp2
 go_loopw [8] (fun i wr=>∃k:Nat,k<=n/\i=.int .i64 k/\Below w.heap.size w wr/\Hid (zer X Y k=false))
  (fun i _=>n-(intOf i).toNat)
 case atStart=>exact⟨0,zsj _,rfl,Below.refl _ _,rfl⟩
 case round=>
  obtain⟨k,hk,rfl,hb,HF⟩:=hrel
  by_cases hlt:k<n
  ·have c0:=(hb.cell (p:=⟨g,k,none⟩) hX.1).trans (hX.2 k (by rw[Hx.out];exact hlt));have c1:=(hb.cell (p:=⟨g2,k,none⟩) hY.1).trans (hY.2 k (by rw[Hy.out];exact hlt));have Ho:Hid (zer X Y (k+1)=(Y.getD k false && !X.getD k false)):=by show _=_;rw[zk3,HF.out,Bool.false_or]
   have Hm:Hid (zer X Y (k+1)=true->zer X Y n=true):=by
    intro h;unfold zer at h ⊢;obtain⟨i,hi,h2⟩:=zrk.1 h;exact zrk.2 ⟨i,by simp at hi ⊢;omega,h2⟩
   generalize X.getD k false=a at *;generalize Y.getD k false=b at *;have hi0:(0:Int)<=(k:Int):=by omega
   have hi1:(k:Int)<(n:Int):=by omega
   cases b<;>cases a
   case true.false=>
    go_wp2;go_ret;exact⟨zam (Hm.out (by rw[Ho.out];rfl)).symm,hb⟩
   all_goals
    go_wp2
    go_roundw
    case rel=>exact⟨k+1,by omega,by go_num,hb,by show _=_;rw[Ho.out];rfl⟩
    case measure=>simp[intOf];omega
  ·have hkk:k=n:=by omega
   subst hkk;go_wp2;go_ret;exact⟨zam HF.out.symm,hb⟩
theorem zgK(N:Nat):(madeCells (Value.bool false).cells (N*1)).toList=List.replicate N (.bool false):=by
 apply List.ext_getElem
 ·simp[madeCells]
 ·intro i h1 h2;simp[madeCells,Value.cells,Nat.mod_one]
def zdu(n a:Nat):List Bool:=(List.replicate (n+1) false).set a true
theorem zeA(n a:Nat)(h:a<=n):zcn n (zdu n a) (· = a):=by
 refine⟨by simp[zdu],fun j=>?_⟩;unfold zdu;rw[zrw,zrH]
 by_cases e:a=j
 ·subst e;rw[zst rfl,zst (by simp;omega)];simp
 ·rw[zss e];have:(List.replicate (n+1) false)[j]?.getD false=false:=by
   rw[List.getElem?_replicate];split<;>rfl
  rw[this];constructor
  ·intro h;cases h
  ·intro h;exact absurd h.symm e
theorem zjO(n a:Nat)(w:World)(ha:a<=n)(hn:n<=1048576):
  Calls Tryz.prog 31 #[.int .i64 n,.int .i64 a] w fun e w'=>e=.returned (.slice (some ⟨w.heap.size,0,none⟩) (n+1) (n+1))/\zbe w' w.heap.size (zdu n a)/\Below w.heap.size w w':=by
 obtain⟨i0,hi,hz0,hz1,hz2⟩:=info_parts Tryz.infoBoolE
 go_enter Tryz.func31,Tryz.ntmps31
 go_wp2_with (refine wpList_make_full _ rfl _ _ 67 rfl w.heap.size 4 i0 _ 1 Tryz.underlying67 hi hz0 hz1 _ _ _ _ (n+1) rfl rfl (by first|rfl|omega) (by first|rfl|omega) (by rw[hz2];omega) (by unfold maxLen;omega) (zsa _) ?_;intro w1 hown hgrow;rw[zgK] at hown;obtain⟨u0,d0⟩:=zbk hown (j:=a) (by omega);have f0:=hown.frozenAt a)
 have hbw:Below w.heap.size w w1:=(Below.refl _ _).grown hgrow (zsa _) (by intro k h;cases h);obtain⟨s1,s2⟩:=hown.stored a (.bool true);refine zsl (v:=.slice (some ⟨w.heap.size,0,none⟩) (n+1) (n+1)) (by simp[results,Tryz.results31,go_sem]) rfl ⟨rfl,⟨zb0 s1,fun i hi=>?_⟩,hbw.setCell (by simp) _⟩;rw[s1.cellAt i (by simp[zdu] at hi;omega)];rw[show (List.replicate (n+1) (Value.bool false)).set a (.bool true)=(zdu n a).map Value.bool by simp[zdu,List.map_set]];rw[zrG,zrw,zrD hi]
 rfl
end Go.Proofs.YthdljcdbfmhleaaGreatDoor
