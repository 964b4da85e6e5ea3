import Derived.Test.YtdimhpfiieepiaaGreatDoorC40
import Derived.WalkMore
namespace Go.Proofs.YtdimhpfiieepiaaGreatDoor
set_option maxHeartbeats 2000000
set_option maxRecDepth 100000
open Go.RowKit
section
variable{p:Pt}
attribute [local go_sem ↓] Go.wp_at_zero Go.wp_at_succ
def znl:List Lnk->Prop
 |[]=>True
 |(_,o)::ls=>(o=true->∀(u:Word) (N:Nat),N<=u.length->TlP u N ls N)/\znl ls
theorem zmX{u:Word}{N:Nat}(hN:N<=u.length):∀(ls:List Lnk) (m:Nat),znl ls->TlP u N ls m->∀k,k<=ls.length->∃m',TlP u N (ls.drop k) m'
 |ls,m,_,h,0,_=>⟨m,h⟩
 |[],m,_,h,k+1,hk=>by simp at hk
 |(q,o)::ls,m,ho,h,k+1,hk=>by
  have:∃e,TlP u N ls e:=by
   rcases h with ⟨e,h1,_⟩|⟨h1,_⟩
   ·exact⟨e,h1⟩
   ·exact⟨N,ho.1 h1 u N hN⟩
  obtain⟨e,he⟩:=this;exact zmX hN ls e ho.2 he k (by simpa using hk)
theorem zha:∀(qs:List Pt),znl (zfc qs)
 |[]=>trivial
 |_::qs=>⟨fun e=>(by cases e),zha qs⟩
theorem zku(b:Pt):∀(mn:Nat) (mx:Int),(mx=-1\/(mn:Int)<=mx)->znl (repL b mn mx)
 |mn+1,mx,h=>by
  rw[zhj b mn mx (by omega)];exact⟨fun e=>(by cases e),zku b mn (zeL mx) (by unfold zeL;split<;>omega)⟩
 |0,mx,h=>by
  rcases h with rfl|h
  ·rw[zhi];exact⟨fun e=>(by cases e),trivial⟩
  ·obtain⟨k,rfl⟩:∃k:Nat,mx=k:=⟨mx.toNat,by omega⟩;clear h
   induction k with
   |zero=>show znl (repL b 0 0);rw[zhk];trivial
   |succ k ih=>
    rw[zjn];refine⟨fun _ u N hN=>?_,ih⟩;rw[zeT hN 0 (k:Int) (.inr (by omega))];exact zgU hN _ (.inr (by omega))
theorem zre(ho:OkP p)(h1:∀l r,p≠.alt l r)(h2:∀b g,p≠.grp b g)(h0:∀f,p≠.set f){u:Word}{N m:Nat}(hN:N<=u.length):znl (zby p)/\(TlP u N (zby p) m↔Lg u p m N):=by
 cases p with
 |set f=>exact absurd rfl (h0 f)
 |alt l r=>exact absurd rfl (h1 l r)
 |grp b g=>exact absurd rfl (h2 b g)
 |seq l r=>exact⟨zha _,zhz (.seq l r) m⟩
 |rep b mn mx=>
  obtain⟨_,h3,h4⟩:=ho;have e:((mn.toNat:Nat):Int)=mn:=by omega
  refine⟨zku b mn.toNat mx (by omega),?_⟩;have:=zeT (u:=u) hN (b:=b) mn.toNat mx (by omega) m;rw[e] at this;exact this
theorem znx(h1:∀l r,p≠.alt l r)(h2:∀b g,p≠.grp b g)(h3:∀b,p≠.rep b 0 (-1))(h0:∀f,p≠.set f){u:Word}{i N:Nat}{L:Laid}(h:ChR u N (zby p) i L):LayC u i N p L:=by
 cases p with
 |set f=>exact absurd rfl (h0 f)
 |alt l r=>exact absurd rfl (h1 l r)
 |grp b g=>exact absurd rfl (h2 b g)
 |seq l r=>exact h
 |rep b mn mx=>
  show if mn=0/\mx=-1 then RoR u N b i L else ChR u N (repL b mn.toNat mx) i L
  rw[zv2 (fun e=>by obtain⟨rfl,rfl⟩:=e;exact h3 b rfl)];exact h
theorem znE(xs:Array Value)(w:World):(callFunc 229 xs).run Tryz.prog w=.ok (.enter 229 xs) w:=by kernel_rfl
theorem zlf{w0:World}{pl:Nat}{Q:Nat->Option Pt}{Ow:Nat->Nat->Prop}(w:World)(h:PnI w0 pl Q Ow w)(lo go cap:Nat)(p:Pt)(xs:List (Nat×Lnk))(hr:w0.ownsRow lo 299 2 (.slice (some ⟨go,0,none⟩) xs.length cap) xs.length (lkL xs))(hf:xs.map Prod.snd=zby p)(h1:∀l r,p≠.alt l r)(h2:∀b g,p≠.grp b g)(h3:∀b,p≠.rep b 0 (-1))(hp:∀x,x∈xs->PcAt lo w0 pl Q x.1 x.2.1)(hQ:∀x,x∈xs->Q x.1=some x.2.1)(ho:OkP p)(hl0:∀f,p≠.set f)(hn9:xs.length<=100000)(t:ByteArray)(ht:t.size<=4096)(hL:Lg t.data.toList p 0 t.size):
  Calls Tryz.prog 227 #[.agg #[.slice (some ⟨go,0,none⟩) xs.length cap],.string t] w fun e w'=>LayA w0 pl Q Ow w lo t.data.toList t.size p e w':=by
 obtain⟨i0,hi,hz0,hz1,hz2⟩:=info_parts Tryz.infoPlaced;have hul:t.data.toList.length=t.size:=by simp
 have hls:(zby p).length=xs.length:=by rw[<-hf];simp
 obtain⟨hopt,htl⟩:=zre ho h1 h2 hl0 (u:=t.data.toList) (N:=t.size) (m:=0) (by omega);have htl0:=htl.2 hL;have hnz:=zmX (by omega) _ 0 hopt htl0;have hta:=fun W (hI:PnI w0 pl Q Ow W)=>zsw (Ow:=Ow) W hI lo go cap xs hr hQ hn9 t ht (fun k hk=>by rw[hf];exact hnz k (by omega))
 obtain⟨n,Hn⟩:∃n,Hid (xs.length=n):=⟨_,rfl⟩;obtain⟨ne,Hne⟩:∃ne,Hid (t.size/64+1=ne):=⟨_,rfl⟩;have hne9:ne<=100:=by have:=Hne.out;omega
 have hnt:t.size<64*ne:=by have:=Hne.out;omega
 have hws:=h.size;have Hcell:Hid (∀W Ow1,PnI w0 pl Q Ow1 W->∀i,i<n->W.cell? ⟨go,i*2,none⟩=some (.pointer (some ⟨lkA xs i,0,none⟩))/\W.cell? ⟨go,i*2+1,none⟩=some (.bool (lkO xs i))):=fun W Ow1 hI i hi=>zpN hr hI (zf7 (by have:=Hn.out;omega))
 have HQ:Hid (∀i,i<n->Q (lkA xs i)=some (lkQ xs i)/\PcAt lo w0 pl Q (lkA xs i) (lkQ xs i)):=fun i hi=>by
  have hx:=zvt (zf7 (xs:=xs) (i:=i) (by have:=Hn.out;omega));exact⟨hQ _ hx,hp _ hx⟩
 have Hdr:Hid (∀i,i<n->(xs.map Prod.snd).drop i=(lkQ xs i,lkO xs i)::(xs.map Prod.snd).drop (i+1)):=fun i hi=>zpO (by have:=Hn.out;omega)
 have Hnil:Hid ((xs.map Prod.snd).drop n=[]):=by show _=_;rw[<-Hn.out];simp
 have Hfin:Hid (∀L,ChR t.data.toList t.size (xs.map Prod.snd) 0 L->LayC t.data.toList 0 t.size p L):=fun L hc=>znx h1 h2 h3 hl0 (by rw[<-hf];exact hc)
 have Hst:Hid (TlP t.data.toList t.size (xs.map Prod.snd) 0):=by rw[hf];exact htl0
 have Hnz:Hid (∀k,k<=n->∃m,TlP t.data.toList t.size ((xs.map Prod.snd).drop k) m):=fun k hk=>by rw[hf];exact hnz k (by have:=Hn.out;omega)
 have hb0:Below w.heap.size w (w.alloc (.cells #[.slice (some ⟨go,0,none⟩) xs.length cap] 305)):=(Below.refl _ _).alloc (zvJ _) _;have x0:(w.alloc (.cells #[.slice (some ⟨go,0,none⟩) xs.length cap] 305)).heap[w.heap.size]?=some (.cells #[.slice (some ⟨go,0,none⟩) xs.length cap] 305 (0,0)):=zvZ _ _;have HT0:=hidF (PnT.of_below h hb0);have ht0:=hta _ (h.below hb0);have hfr:∀k,w.heap.size<=k->∀c,¬Ow k c:=fun k hk c ho=>by have:=(h.ow _ c ho).2;omega
 rw[Hn.out] at hn9 hb0 x0 HT0 ht0 ⊢;rw[Hne.out] at ht0;generalize xs.map Prod.snd=ls at *;generalize lkA xs=pa at *;generalize lkO xs=po at *;generalize lkQ xs=pq at *;clear hr hQ hnz h Hn hf hp hta htl htl0 hopt h1 h2 h3 hL hls
 go_enter Tryz.func227,Tryz.ntmps227
 obtain⟨W0,hW0⟩:∃W0,w.alloc (.cells #[.slice (some ⟨go,0,none⟩) n cap] 305)=W0:=⟨_,rfl⟩;rw[hW0] at x0 HT0 ht0;have c00:W0.cell? ⟨w.heap.size,0,none⟩=some (.slice (some ⟨go,0,none⟩) n cap):=(zvW _ _ _ _ _ _ x0:_=_);have hs0:w.heap.size<W0.heap.size:=(zuH.1 x0).1;go_wp2
 go_step3
 go_wp2_with fail
 refine ht0.mono ?_;rintro e W1 ⟨Ow1,gt,gx,TT,rfl,hT1,hgt,hgtf,hgtc,hset⟩;obtain⟨W2,hW2⟩:∃W2,W1.alloc (.cells #[] 247)=W2:=⟨_,rfl⟩;have hb2:Below W1.heap.size W1 W2:=by rw[<-hW2];exact(Below.refl _ _).alloc (zvJ _) _
 have own2:W2.ownsRow w.heap.size 247 2 (.slice (some ⟨W1.heap.size,0,none⟩) 0 0) 0 []:=by rw[<-hW2];exact zcF _ _ 2 _ _ (by have:=hT1.size;omega) rfl
 have hs12:W1.heap.size<W2.heap.size:=by rw[<-hW2];simp
 have hT2:=(HT0.out.trans hT1).below hb2;have hf0:=hT1.fre w.heap.size hws hs0 (hfr _ (zvJ _));have x2:W2.heap[w.heap.size]?=_:=(hb2.block _ (by have:=hT1.size;omega)).trans (hf0.1.trans x0);have c2:W2.cell? ⟨w.heap.size,0,none⟩=some (.slice (some ⟨go,0,none⟩) n cap):=(zvW _ _ _ _ _ _ x2:_=_)
 -- what must stay
 obtain⟨Pr,HPr⟩:∃Pr:Nat->Prop,Hid (∀k,Pr k↔k=w.heap.size\/(k=gt/\0<n)\/∃j,j<n/\k=gx j):=⟨_,fun _=>Iff.rfl⟩;have HPl:Hid (∀k,Pr k->w.heap.size<=k/\k<W1.heap.size/\∀b,¬Ow1 k b):=fun k hk=>by
  have h01:=hT1.size;rcases(HPr.out k).1 hk with rfl|⟨rfl,h0⟩|⟨j,hj,rfl⟩
  ·exact⟨zvJ _,by omega,hf0.2⟩
  ·exact⟨by omega,block_lt_of_cell (hgtc 0 h0),hgtf⟩
  ·obtain⟨q1,q2,q3,_⟩:=hset j hj;exact⟨by omega,q1.glt,q3⟩
 have Hgt:Hid (∀W:World,(∀k,Pr k->W.heap[k]?=W1.heap[k]?)->∀j,j<n->W.cell? ⟨gt,j,none⟩=some (.slice (some ⟨gx j,0,none⟩) ne ne)/\zar W ne (gx j) (TT j)/\∀q,zai (TT j) q=true↔TlP t.data.toList t.size (ls.drop (j+1)) q):=fun W hW j hj=>by
  obtain⟨q1,q2,q3,q4⟩:=hset j hj;exact⟨(World.cell?_of_block (hW gt ((HPr.out _).2 (.inr (.inl ⟨rfl,by omega⟩))))).trans (hgtc j hj),⟨(hW _ ((HPr.out _).2 (.inr (.inr ⟨j,hj,rfl⟩)))).trans q1.row,q1.lt⟩,q4⟩
 have HT2:=hidF hT2;have Hown2:=hidF own2;have Hs2:Hid (∀k,Pr k->W2.heap[k]?=W1.heap[k]?):=fun k hk=>hb2.block k (HPl.out k hk).2.1
 have Hf1:Hid (∀b,¬Ow1 W1.heap.size b):=fun b hb=>by have:=(hT1.inv.ow _ b hb).2;omega
 clear ht0 hT1 hT2 own2 hb2 hgt hgtf hgtc hset hf0 x0 x2 HT0;go_wp2
 go_step3
 go_wp2;clear hW0 hW2 c00 c2
 go_loopw [6,7,19] (fun lv av iv wr=>∃(k fr:Nat) (ys:List Pld) (vL:Value) (OwW:Nat->Nat->Prop),lv=vL/\av=.int .i64 fr/\iv=.int .i64 k/\k<=n/\fr<=t.size/\ys.length<=k/\Hid (PnT w0 pl Q Ow w OwW wr)/\Hid (∀k,Pr k->wr.heap[k]?=W1.heap[k]?/\∀b,¬OwW k b)/\W1.heap.size<=wr.heap.size/\Hid (TlP t.data.toList t.size (ls.drop k) fr)/\Hid (∀L,ChR t.data.toList t.size (ls.drop k) fr L->ChR t.data.toList t.size ls 0 (lyL ys++L))/\Hid (wr.ownsRow w.heap.size 247 2 vL ys.length (pdL ys))/\Hid (∀k,vL.ownBlock=some k->(∀c,¬OwW k c)/\W1.heap.size<=k)/\Hid (∀y,y∈ys->PcAt lo w0 pl Q y.1 y.2.1))
  (fun _ _ iv _=>n-(intOf iv).toNat)
 case atStart=>exact⟨0,0,[],_,Ow1,rfl,rfl,rfl,zvT _,zvT _,zvJ _,HT2,fun k hk=>⟨Hs2.out k hk,(HPl.out k hk).2.2⟩,by omega,Hst,fun L hL=>hL,Hown2,fun k e=>by
   have e:W1.heap.size=k:=by simpa [Value.ownBlock] using e
   subst e;exact⟨Hf1.out,zvJ _⟩,fun y hy=>by cases hy⟩
 case round=>
  clear HT2 Hown2 Hs2 Hf1 Hst;obtain⟨k,fr,ys,vL,OwW,hlv,rfl,rfl,hkn,hfrn,hyk,HT,HS,hsz,HTl,HCh,HO,Hob,HPc⟩:=hrel;have hlv':=hlv.symm;subst hlv';have hx0:=(HS.out w.heap.size ((HPr.out _).2 (.inl rfl)))
  by_cases hlt:k<n
  ·have hd:decide ((k:Int)<(n:Int))=true:=by simp;omega
   obtain⟨l0,l1⟩:=Hcell.out wr OwW HT.out.inv k hlt;obtain⟨hQk,hPk⟩:=HQ.out k hlt;have hk0:(0:Int)<=(k:Int):=by omega
   have hk1:(k:Int)<(n:Int):=by omega
   obtain⟨V,hV⟩:∃V,wr.alloc (.cells #[.pointer (some ⟨pa k,0,none⟩),.bool (po k)] 299)=V:=⟨_,rfl⟩;have hbV:Below wr.heap.size wr V:=by rw[<-hV];exact(Below.refl _ _).alloc (zvJ _) _
   have xV:V.heap[wr.heap.size]?=some (.cells #[.pointer (some ⟨pa k,0,none⟩),.bool (po k)] 299 (0,0)):=by rw[<-hV];exact zvZ _ _
   have hsV:wr.heap.size<V.heap.size:=(zuH.1 xV).1;have v0:=(zaO xV).1;have hTV:=HT.out.below hbV;have HSV:∀k,Pr k->V.heap[k]?=W1.heap[k]?:=fun k hk=>(hbV.block k (by have:=(HPl.out k hk).2.1;omega)).trans (HS.out k hk).1
   obtain⟨g0,g1,g2⟩:=Hgt.out V HSV k hlt;have hPg:=(HPr.out (gx k)).2 (.inr (.inr ⟨k,hlt,rfl⟩));have hpl:=HPl.out (gx k) hPg;obtain⟨q0,hq0⟩:=Hnz.out (k+1) (by omega);have hdr:=Hdr.out k hlt;have htlk:=HTl.out;rw[hdr] at htlk;have hrc:=fun nq=>zsc (V.drewN nq) (hTV.inv.below ⟨rfl,rfl,rfl,zvJ _,fun _ _=>rfl⟩) hQk t ht ne (gx k) ne fr (TT k) ⟨g1.row,g1.lt⟩ hne9 (by omega) (HS.out _ hPg).2 ⟨q0,by have:=hq0.le;omega,(g2 q0).2 hq0⟩ (fun q _ hb=>((g2 q).1 hb).le) hfrn (by omega) (by
    rcases htlk with ⟨e,e1,e2⟩|⟨_,e⟩
    ·exact .inl ⟨e,by have:=e1.le;omega,(g2 e).2 e1,e2⟩
    ·exact .inr e)
   have hcc:Calls Tryz.prog 229 #[.pointer (some ⟨pa k,0,none⟩),.string t,.int .i64 fr,.slice (some ⟨gx k,0,none⟩) ne ne] V.drew fun e w'=>∃v,e=.returned v/\∃(Ow':Nat->Nat->Prop) (end':Nat) (ok:Bool),v=.tuple #[.int .i64 end',.bool ok]/\RchP t.data.toList (pq k) (fun q=>q<64*ne/\zai (TT k) q=true) fr end' ok/\PnT w0 pl Q OwW V Ow' w':=(hrc 1).mono fun e w' ⟨Ow',end',ok,e1,e2,e3⟩=>⟨_,e1,Ow',end',ok,rfl,e2,(PnT.of_below hTV.inv (Below.refl V.heap.size V).drew).trans (e3:PnT w0 pl Q OwW V.drew Ow' w')⟩
   have Hg2:=hidF g2;have Hdrk:=hidF hdr;have HTV:=hidF hTV;have HxV:=hidF xV;clear hrc g1 g2 hTV xV hdr htlk hpl
   go_upto_region 7 with fail
   clear hV
   go_region_law ((refine zcQ (by rfl) 229 #[.tmp 26,.tmp 27,.tmp 28,.tmp 32] #[198,9,3,193] (by rfl) #[.pointer (some ⟨pa k,0,none⟩),.string t,.int .i64 fr,.slice (some ⟨gx k,0,none⟩) ne ne] (by simp[Act.eval]) _ (znE _ _) hcc ?_;rintro v2 W3 ⟨Ow3,end',ok,rfl,hR,hT3'⟩;clear hcc))
   all_goals (
    have HT3:=hidF (HTV.out.trans hT3');have HS3:Hid (∀k,Pr k->W3.heap[k]?=W1.heap[k]?/\∀b,¬Ow3 k b):=fun k hk=>by
     have:=HPl.out k hk;obtain⟨f1,f2⟩:=hT3'.fre k (by omega) (by omega) (HS.out k hk).2;exact⟨f1.trans (HSV k hk),f2⟩
    have hlkf:∀b,¬OwW wr.heap.size b:=fun b hb=>by have:=(HT.out.inv.ow _ b hb).2;omega
    have hwr:=HT.out.size;have hlk3:=(hT3'.fre wr.heap.size (by omega) hsV hlkf).1.trans HxV.out;have y0:=(zaO hlk3).1;have hs3:W1.heap.size<=W3.heap.size:=by have:=hT3'.size;omega
    have HO3:Hid (W3.ownsRow w.heap.size 247 2 vL ys.length (pdL ys)):=zav HO.out fun k e=>by
     obtain⟨e3,cur,e4⟩:=zaD HO.out e;have hkl:=(zuH.1 e4).1;exact(hT3'.fre k (by omega) (by omega) (Hob.out k e).1).1.trans (hbV.block k hkl)
    have Hob3:Hid (∀k,vL.ownBlock=some k->w.heap.size<=k/\(∀c,¬Ow3 k c)/\W1.heap.size<=k/\∃cur,W3.heap[k]?=some (.cells cur 247 (0,0))):=fun k e=>by
     obtain⟨e3,cur,e4⟩:=zaD HO.out e;have hkl:=(zuH.1 e4).1;obtain⟨f1,f2⟩:=hT3'.fre k (by omega) (by omega) (Hob.out k e).1;exact⟨e3,f2,(Hob.out k e).2,cur,f1.trans ((hbV.block k hkl).trans e4)⟩
    have HR:=hidF hR;clear hR hT3' HSV v0 hbV hlk3 HT HS HO Hob HTV HxV g0 l0 l1;cases ok with
    |false=>
     have HF:Hid (LayA w0 pl Q Ow w lo t.data.toList t.size p (.returned vL) W3):=by
      refine⟨Ow3,ys,vL,rfl,HT3.out,HO3.out,fun k e=>(Hob3.out k e).2.1,Hfin.out _ ?_,HPc.out⟩;have:=HCh.out [] (by
       rw[Hdrk.out];refine .stop _ _ _ _ fun e he hl=>?_
       rcases HR.out with ⟨e1,_⟩|⟨_,e1⟩
       ·cases e1
       ·exact e1 e ⟨by have:=he.le;omega,(Hg2.out e).2 he⟩ hl)
      rw[zuS] at this;exact this
     clear HR HT3 HS3 HO3 Hob3 HCh HTl;go_wp2;go_ret;exact HF.out
    |true=>
     have hres:(end'<64*ne/\zai (TT k) end'=true)/\Lg t.data.toList (pq k) fr end'/\∀x,(x<64*ne/\zai (TT k) x=true)->Lg t.data.toList (pq k) fr x->x<=end':=by
      rcases HR.out with ⟨_,e1⟩|⟨e1,_⟩
      ·exact e1
      ·cases e1
     have hte:=(Hg2.out end').1 hres.1.2;have hen:=hte.le;have HCh2:Hid (∀L,ChR t.data.toList t.size (ls.drop (k+1)) end' L->ChR t.data.toList t.size ls 0 (lyL (ys++[(pa k,pq k,end')])++L)):=fun L hL=>by
      have:=HCh.out ((pq k,end')::L) (by
       rw[Hdrk.out];exact .cons _ _ _ _ _ _ ⟨hres.2.1.1,hen,⟨hres.2.1,hte⟩,fun m h1 h2 h3=>by have:=hres.2.2 m ⟨by omega,(Hg2.out m).2 h3.2⟩ h3.1;omega⟩ hL)
      simpa [lyL] using this
     have HTe:=hidF hte;have own3:=HO3.out;have hys:ys.length<=2000000:=by omega
     have hbs:w.heap.size<=W3.heap.size:=HT3.out.size;obtain⟨va,vn,vc,hvf⟩:∃(va:Option Addr) (vn vc:Nat),vL=.slice va vn vc:=by
      rcases own3.2 with ⟨e,_⟩|⟨g,c,_,e,_⟩
      ·exact⟨_,_,_,e⟩
      ·exact⟨_,_,_,e⟩
     subst hvf;clear HR hres hte HTl HCh HO3
     go_wp2_with (at_builtin;refine za9 rfl (.tmp 38) (.tmp 43) 244 rfl W3 #[.pointer (some ⟨pa k,0,none⟩),.int .i64 (end':Int)] 247 rfl W3.heap.size rfl w.heap.size i0 _ 2 16 Tryz.underlying244 hi hz0 hz1 hz2 rfl (by omega) (.slice va vn vc) ys.length (pdL ys) rfl own3 rfl rfl (by intro u hu;simp at hu;rcases hu with rfl|rfl<;>rfl) hys (by omega) hbs ?_;intro g7 cap7 W7 own7 grow7 at7)
     have tc7:zam (fun k=>(Value.slice va vn vc).ownBlock=some k) W3 W7:=(zam.refl _ W3).grown grow7 (fun k e=>.inl e);have km7:zaT W3 W7:=fun mg f e=>(tc7.same mg (zuH.1 e).1 (fun e2=>by
      obtain⟨_,_,_,cur,h5⟩:=Hob3.out mg e2;rw[h5] at e;exact absurd (zad e) (by decide))).trans e
     have HT7:=hidF (HT3.out.free tc7 km7 (fun k e=>⟨by have:=(Hob3.out k e).1;omega,(Hob3.out k e).2.1,(Hob3.out k e).1⟩));have HS7:Hid (∀k,Pr k->W7.heap[k]?=W1.heap[k]?/\∀b,¬Ow3 k b):=fun k hk=>by
      have:=HPl.out k hk;exact⟨(tc7.same k (by omega) (fun e=>by have:=(Hob3.out k e).2.2.1;omega)).trans (HS3.out k hk).1,(HS3.out k hk).2⟩
     have hs7:W1.heap.size<=W7.heap.size:=zvK hs3 tc7.size
     go_roundw
     case rel=>exact⟨k+1,end',ys++[(pa k,pq k,end')],_,Ow3,rfl,rfl,by go_num,by omega,hen,by simp;omega,HT7,HS7,hs7,HTe,HCh2,by show World.ownsRow _ _ _ _ _ _ _;rw[zvh,zfP];exact own7,fun k e=>by
       have e:g7=k:=by simpa [Value.ownBlock] using e
       subst e;rcases at7 with f|f
       ·obtain⟨z1,z2,z3,_⟩:=Hob3.out g7 f;exact⟨z2,z3⟩
       ·exact⟨fun c hc=>by have:=(HT3.out.inv.ow _ c hc).2;omega,by omega⟩,fun y hy=>by
       rcases zvo.1 hy with hy|hy
       ·exact HPc.out y hy
       ·rw[zvv.1 hy];exact hPk⟩
     case measure=>simp[intOf];omega)
  ·obtain rfl:k=n:=by omega
   have hd:decide ((k:Int)<(k:Int))=false:=by simp
   have HF:Hid (LayA w0 pl Q Ow w lo t.data.toList t.size p (.returned vL) wr):=by
    refine⟨OwW,ys,vL,rfl,HT.out,HO.out,fun k e=>(Hob.out k e).1,Hfin.out _ ?_,HPc.out⟩;have:=HCh.out [] (by rw[Hnil.out];exact .nil _);rw[zuS] at this;exact this
   clear HT HS HO Hob HPc HTl HCh;go_wp2;go_ret;exact HF.out
end
section
variable{w w0:World}{pl:Nat}{Q:Nat -> Option Pt}{Ow:Nat -> Nat -> Prop}
attribute [local go_sem ↓] Go.wp_at_zero Go.wp_at_succ
theorem ze0:∀(p:Pt) (v:Value),zan w v p->wPt p<=2000->((zbf p).length:Int)<=wPt p
 |.set _,_,_,_=>by simp[zbf,wPt]
 |.seq l r,v,h,_=>by have:=(zbw (.seq l r) v h).1;simp[zbf];omega
 |.rep b mn mx,v,h,_=>by have:=(zbw (.rep b mn mx) v h).1;simp[zbf];omega
 |.grp b g,v,h,_=>by have:=(zbw (.grp b g) v h).1;simp[zbf];omega
 |.alt l r,v,⟨lv,rv,h1,h2,h3⟩,hw=>by
  have hk:=zfm (v:=v) (.inr ⟨lv,rv,h1,h2,h3⟩) hw;have i1:=ze0 l lv h2 hk.1;have i2:=ze0 r rv h3 hk.2;have:wPt (.alt l r)=wPt l+wPt r:=by
   show capW _=_;have hw:capW (wPt l+wPt r)<=2000:=hw;unfold capW at hw ⊢;split
   ·rfl
   ·rename_i e;rw[zv2 e] at hw;omega
  rw[this];simp[zbf];omega
theorem zdW:∀(p:Pt),0<(zbf p).length
 |.set _=>by simp[zbf]
 |.seq _ _=>by simp[zbf]
 |.rep _ _ _=>by simp[zbf]
 |.grp _ _=>by simp[zbf]
 |.alt l r=>by have:=zdW l;simp[zbf];omega
theorem zjY:∀(p:Pt) (v:Value),zan w v p->wPt p<=2000->((zcy p).length:Int)<=wPt p
 |.set _,_,_,_=>by simp[zcy,wPt]
 |.alt l r,v,h,_=>by have:=(zbw (.alt l r) v h).1;simp[zcy];omega
 |.rep b mn mx,v,h,_=>by have:=(zbw (.rep b mn mx) v h).1;simp[zcy];omega
 |.grp b g,v,h,_=>by have:=(zbw (.grp b g) v h).1;simp[zcy];omega
 |.seq l r,v,⟨lv,rv,h1,h2,h3⟩,hw=>by
  have hk:=zfm (v:=v) (.inl ⟨lv,rv,h1,h2,h3⟩) hw;have i1:=(zbw l lv h2).1;have i2:=zjY r rv h3 hk.2;have:wPt (.seq l r)=wPt l+wPt r:=by
   show capW _=_;have hw:capW (wPt l+wPt r)<=2000:=hw;unfold capW at hw ⊢;split
   ·rfl
   ·rename_i e;rw[zv2 e] at hw;omega
  rw[this];simp[zcy];omega
theorem zkd(p:Pt)(v:Value)(h:zan w v p)(hw:wPt p<=2000):(zby p).length<=2000:=by
 cases p with
 |set f=>simp[zby]
 |alt l r=>simp[zby]
 |grp b g=>simp[zby]
 |seq l r=>have:=zjY (.seq l r) v h hw;simp[zby,zfc];omega
 |rep b mn mx=>
  obtain⟨_,_,_,hb⟩:=h;simp[zaM] at hb;simp only[zby,repL,zvh,List.length_replicate];split<;>simp<;>omega
def LayB(w0:World)(pl:Nat)(Q:Nat->Option Pt)(Ow:Nat->Nat->Prop)(w:World)(lo:Nat)(u:Word)(n:Nat)(p:Pt)(e:Ending)(w':World):Prop:=
 (noG p/\e=.returned (.slice none 0 0)/\w'=w)\/((∀f,p≠.set f)/\LayA w0 pl Q Ow w lo u n p e w')
theorem PnI.form(h:PnI w0 pl Q Ow w){lo a:Nat}{p:Pt}{f:Value}(hb:PcB lo w0 pl Q a p f):w.cell? ⟨a,2,none⟩=some f/\∃v,zan w0 v p/\wPt p<=2000:=by
 obtain⟨v,f',k,h1,h2,h3,h4,_⟩:=h.pc a p hb.q;obtain⟨v',h5,h6⟩:=hb.box;rw[h1] at h5;have e:f'=f:=by injection h5 with h5;injection h5 with h5;simp at h5;exact h5.2
 subst e;exact⟨(zvW _ _ _ _ _ _ h2:_=_),v,h3,h4⟩
theorem PcAt.q{lo:Nat}{a:Nat}{p:Pt}(h:PcAt lo w pl Q a p):Q a=some p:=by
 obtain⟨f,h1,_⟩:=h.blk;exact h1.q
theorem zjC{P:Program}{o:Oper}{a:Act}{K:Act->World->Prop}{Q:Exit->Act->World->Prop}{r:Result Next}(r':Result Next)(e:r=r')(h:Oper.upon P o a K Q r'):Oper.upon P o a K Q r:=e ▸ h
theorem zlY(w:World)(h:PnI w0 pl Q Ow w)(lo a:Nat)(p:Pt)(hp:PcAt lo w0 pl Q a p)(t:ByteArray)(ht:t.size<=4096)(hL:Lg t.data.toList p 0 t.size):
  Calls Tryz.prog 151 #[.pointer (some ⟨a,0,none⟩),.string t] w fun e w'=>LayB w0 pl Q Ow w lo t.data.toList t.size p e w':=by
 have ho:=h.okP hp.q;cases hp with
 |leaf _ _ hb hn=>
  obtain⟨c2,-⟩:=h.form hb;have Hn:=hidF hn;clear hb hn h ho hL
  go_enter Tryz.func151,Tryz.ntmps151
  go_wp2;go_ret;exact .inl ⟨Hn.out,rfl,rfl⟩
 |group _ a' b g hb hk=>
  obtain⟨c2,-⟩:=h.form hb;have hc:=zlr w h lo a' b g hk t;clear hb h ho hL hk
  go_enter Tryz.func151,Tryz.ntmps151
  go_wp2_with fail
  refine zjC (.ok (.enter 220 #[.agg #[.int .i64 g,.pointer (some ⟨a',0,none⟩)],.string t]) w) (by kernel_rfl) ?_;rw[Oper.upon_enter];refine hc.mono ?_;rintro e w' ⟨Ow',ys,v,rfl,hT⟩;have HF:Hid (LayA w0 pl Q Ow w lo t.data.toList t.size (.grp b g) (.returned v) w'):=⟨Ow',ys,v,rfl,hT⟩;clear hc hT;go_wp2;go_ret;exact .inr ⟨fun f e=>(by cases e),HF.out⟩
 |choice _ l r go cap xs hb hr hf hk=>
  obtain⟨c2,v,hv,hw⟩:=h.form hb;have hl:=ze0 _ v hv hw;have hl1:(zbf (.alt l r)).length=xs.length:=by rw[<-hf];simp
  have hl2:0<(zbf (.alt l r)).length:=zdW _;have hc:=zjK w h lo go cap l r xs hr hf hk (fun x hx=>(hk x hx).q) t ht hL (by omega) (by omega);clear hb h ho hL hk hr hf hv hw hl hl1 hl2
  go_enter Tryz.func151,Tryz.ntmps151
  go_wp2_with fail
  refine zjC (.ok (.enter 233 #[.agg #[.slice (some ⟨go,0,none⟩) xs.length cap],.string t]) w) (by kernel_rfl) ?_;rw[Oper.upon_enter];refine hc.mono ?_;rintro e w' ⟨Ow',ys,v,rfl,hT⟩;have HF:Hid (LayA w0 pl Q Ow w lo t.data.toList t.size (.alt l r) (.returned v) w'):=⟨Ow',ys,v,rfl,hT⟩;clear hc hT;go_wp2;go_ret;exact .inr ⟨fun f e=>(by cases e),HF.out⟩
 |chain _ _ go cap xs hb hr hf h1 h2 h3 h0 hk=>
  obtain⟨c2,v,hv,hw⟩:=h.form hb;have hl:=zkd _ v hv hw;have hl1:(zby p).length=xs.length:=by rw[<-hf];simp
  have hc:=zlf w h lo go cap p xs hr hf h1 h2 h3 hk (fun x hx=>(hk x hx).q) ho h0 (by omega) t ht hL;have hs:=h0;clear hb h ho hL hk hr hf hv hw hl hl1 h1 h2 h3
  go_enter Tryz.func151,Tryz.ntmps151
  go_wp2_with fail
  refine zjC (.ok (.enter 227 #[.agg #[.slice (some ⟨go,0,none⟩) xs.length cap],.string t]) w) (by kernel_rfl) ?_;rw[Oper.upon_enter];refine hc.mono ?_;rintro e w' ⟨Ow',ys,v,rfl,hT⟩;have HF:Hid (LayA w0 pl Q Ow w lo t.data.toList t.size p (.returned v) w'):=⟨Ow',ys,v,rfl,hT⟩;clear hc hT;go_wp2;go_ret;exact .inr ⟨hs,HF.out⟩
 |rounds _ a' b hb hk=>
  obtain⟨c2,-⟩:=h.form hb;have hc:=zkB w h lo a a' b hb.q hk.q hk t ht hL;clear hb h ho hL hk
  go_enter Tryz.func151,Tryz.ntmps151
  go_wp2_with fail
  refine zjC (.ok (.enter 234 #[.agg #[.pointer (some ⟨a,0,none⟩),.pointer (some ⟨a',0,none⟩)],.string t]) w) (by kernel_rfl) ?_;rw[Oper.upon_enter];refine hc.mono ?_;rintro e w' ⟨Ow',ys,v,rfl,hT⟩;have HF:Hid (LayA w0 pl Q Ow w lo t.data.toList t.size (.rep b 0 (-1)) (.returned v) w'):=⟨Ow',ys,v,rfl,hT⟩;clear hc hT;go_wp2;go_ret;exact .inr ⟨fun f e=>(by cases e),HF.out⟩
end
def mz:Pt->Nat
 |.rep b mn mx=>2*(szT b+1)+(if mn=0/\mx=-1 then 0 else 1)
 |p=>2*szT p+1
theorem zuf(p:Pt):2*szT p<=mz p/\mz p<=2*szT p+1:=by
 cases p with
 |rep b mn mx=>simp only[mz,szT];split<;>omega
 |_=>simp[mz]
theorem zeN{p q:Pt}(h:szT q<szT p):mz q<mz p:=by have:=zuf p;have:=zuf q;omega
theorem zeo:∀(p q:Pt),q∈zbf p->szT q<=szT p
 |.alt l r,q,h=>by
  rcases zvo.1 (show q∈zbf l++zbf r from h) with h|h
  ·have:=zeo l q h;simp[szT];omega
  ·have:=zeo r q h;simp[szT];omega
 |.set _,q,h=>by rw[zvv.1 (show q∈[_] from h)];exact zvJ _
 |.seq _ _,q,h=>by rw[zvv.1 (show q∈[_] from h)];exact zvJ _
 |.rep _ _ _,q,h=>by rw[zvv.1 (show q∈[_] from h)];exact zvJ _
 |.grp _ _,q,h=>by rw[zvv.1 (show q∈[_] from h)];exact zvJ _
theorem zmB:∀(p q:Pt),q∈zcy p->szT q<=szT p
 |.seq l r,q,h=>by
  rcases zvp.1 (show q∈l::zcy r from h) with h|h
  ·subst h;simp[szT];omega
  ·have:=zmB r q h;simp[szT];omega
 |.set _,q,h=>by rw[zvv.1 (show q∈[_] from h)];exact zvJ _
 |.alt _ _,q,h=>by rw[zvv.1 (show q∈[_] from h)];exact zvJ _
 |.rep _ _ _,q,h=>by rw[zvv.1 (show q∈[_] from h)];exact zvJ _
 |.grp _ _,q,h=>by rw[zvv.1 (show q∈[_] from h)];exact zvJ _
theorem zsj{b q:Pt}{mn:Nat}{mx:Int}{o:Bool}(h:(q,o)∈repL b mn mx):q=b\/(mx=-1/\q=.rep b 0 (-1)):=by
 unfold repL at h;rcases zvo.1 h with h|h
 ·have:=(List.mem_replicate.1 h).2;injection this with h1;exact .inl h1
 ·rcases zvo.1 h with h|h
  ·have:=(List.mem_replicate.1 h).2;injection this with h1;exact .inl h1
  ·by_cases e:mx=-1
   ·rw[zv3 e] at h;have:=zvv.1 h;injection this with h1;exact .inr ⟨e,h1⟩
   ·rw[zv2 e] at h;cases h
theorem zmO{p q:Pt}{o:Bool}(h3:∀b,p≠.rep b 0 (-1))(h:(q,o)∈zby p):mz q<mz p:=by
 cases p with
 |set f=>cases h
 |alt l r=>cases h
 |grp b g=>cases h
 |seq l r=>
  obtain⟨x,h1,h2⟩:=zvs.1 (show (q,o)∈(zcy (.seq l r)).map fun q=>(q,false) from h);injection h2 with h2
  subst h2;rcases zvp.1 (show x∈l::zcy r from h1) with e|e
  ·subst e;exact zeN (by simp[szT];omega)
  ·have:=zmB r x e;exact zeN (by simp[szT];omega)
 |rep b mn mx=>
  rcases zsj (show (q,o)∈repL b mn.toNat mx from h) with rfl|⟨rfl,rfl⟩
  ·exact zeN (by simp[szT])
  ·have:¬mn=0:=fun e=>h3 b (by rw[e])
   simp[mz,this]
theorem zoT{u:Word}{n:Nat}{ls:List Lnk}{i:Nat}{L:Laid}(h:ChR u n ls i L):∀x,x∈L->∃o,(x.1,o)∈ls:=by
 induction h with
 |nil i=>intro x hx;cases hx
 |stop q o ls i h=>intro x hx;cases hx
 |cons q o ls i e L g _ ih=>
  intro x hx;rcases zvp.1 hx with rfl|hx
  ·exact⟨o,zvr ..⟩
  ·obtain⟨o',h1⟩:=ih x hx;exact⟨o',zvq _ h1⟩
theorem ztD{u:Word}{n:Nat}{b:Pt}{i:Nat}{L:Laid}(h:RoR u n b i L):∀x,x∈L->x.1=b:=by
 induction h with
 |done=>intro x hx;cases hx
 |more i e L hi g _ ih=>
  intro x hx;rcases zvp.1 hx with rfl|hx
  ·rfl
  ·exact ih x hx
theorem ztn{u:Word}{i n:Nat}:∀(p:Pt) (L:Laid),LayC u i n p L->∀x,x∈L->mz x.1<mz p
 |.set _,L,h,x,hx=>by have h:L=[]:=h;subst h;cases hx
 |.grp b g,L,h,x,hx=>by
  have h:L=[(b,n)]:=h;subst h;rw[zvv.1 hx];exact zeN (by simp[szT])
 |.alt p q,L,⟨k,y,h1,_,_,h4⟩,x,hx=>by
  subst h4;rw[zvv.1 hx];rcases zvo.1 (show y∈zbf p++zbf q from zvt h1) with h|h
  ·have:=zeo p y h;exact zeN (by simp[szT];omega)
  ·have:=zeo q y h;exact zeN (by simp[szT];omega)
 |.seq p q,L,h,x,hx=>by
  obtain⟨o,h1⟩:=zoT (show ChR u n (zfc (zcy (.seq p q))) i L from h) x hx;exact zmO (p:=.seq p q) (fun b e=>(by cases e)) h1
 |.rep b mn mx,L,h,x,hx=>by
  replace h:if mn=0/\mx=-1 then RoR u n b i L else ChR u n (repL b mn.toNat mx) i L:=h
  by_cases e:mn=0/\mx=-1
  ·rw[zv3 e] at h;rw[ztD h x hx];exact zeN (by simp[szT])
  ·rw[zv2 e] at h;obtain⟨o,h1⟩:=zoT h x hx;exact zmO (p:=.rep b mn mx) (fun b' e2=>by injection e2 with _ e3 e4;exact e ⟨e3,e4⟩) h1
theorem zmM{u:Word}{j:Nat}:∀(L:Laid) (i:Nat),LdOk u j L i->(∀x,x∈L->OkP x.1)->∃l,LdR u L i l
 |[],i,_,_=>⟨[],.nil i⟩
 |(q,e)::L,i,⟨h1,_,h3⟩,ho=>by
  obtain⟨l1,k1⟩:=zc4 q (ho _ (zvr ..)) i e h1;obtain⟨l2,k2⟩:=zmM L e h3 (fun x hx=>ho x (zvq _ hx));exact⟨l1++l2,.cons q e L i l1 l2 k1 k2⟩
theorem zj3{p:Pt}(h:noG p)(i j:Nat):zeK p i j=[]:=by
 cases p with
 |grp b g=>exact h.elim
 |_=>rfl
structure PlW(w0:World)(pl:Nat)(Q:Nat->Option Pt)(bs bt bp gs m cap:Nat)(t:ByteArray)(Ow:Nat->Nat->Prop)(w:World)(sp:List (Int×Int)):Prop where
 inv:PnI w0 pl Q Ow w
 xs:w.heap[bs]?=some (.cells #[.slice (some ⟨gs,0,none⟩) m cap] 33 (0,0))
 xt:w.heap[bt]?=some (.cells #[.string t] 9 (0,0))
 xp:w.heap[bp]?=some (.cells #[.func (.func 150) #[] #[.pointer (some ⟨bs,0,none⟩),.pointer (some ⟨bt,0,none⟩),.pointer (some ⟨bp,0,none⟩)]] 205 (0,0))
 row:w.ownsRow w0.heap.size 71 2 (.slice (some ⟨gs,0,none⟩) m cap) m (pv sp)
 len:sp.length=m
 fs:w0.heap.size<=bs/\∀b,¬Ow bs b
 ft:w0.heap.size<=bt/\∀b,¬Ow bt b
 fp:w0.heap.size<=bp/\∀b,¬Ow bp b
 fg:w0.heap.size<=gs/\∀b,¬Ow gs b
structure PlT(w0:World)(gs:Nat)(Ow:Nat->Nat->Prop)(w:World)(Ow':Nat->Nat->Prop)(w':World):Prop where
 size:w.heap.size<=w'.heap.size
 fre:∀k,w0.heap.size<=k->k<w.heap.size->k≠gs->(∀b,¬Ow k b)->w'.heap[k]?=w.heap[k]?/\∀b,¬Ow' k b
theorem PlT.trans{w0:World}{gs:Nat}{Ow Ow1 Ow2:Nat->Nat->Prop}{w w1 w2:World}(h:PlT w0 gs Ow w Ow1 w1)(k:PlT w0 gs Ow1 w1 Ow2 w2):PlT w0 gs Ow w Ow2 w2:=
 ⟨zvK h.size k.size,fun j h1 h2 h3 h4=>by
  obtain⟨e1,f1⟩:=h.fre j h1 h2 h3 h4;obtain⟨e2,f2⟩:=k.fre j h1 (zvL h2 h.size) h3 f1;exact⟨e2.trans e1,f2⟩⟩
section
variable {w0:World} {pl:Nat} {Q:Nat->Option Pt} {bs bt bp gs m cap:Nat} {t:ByteArray} {Ow Ow':Nat->Nat->Prop} {w w':World} {sp:List (Int×Int)}
theorem PlW.glt(h:PlW w0 pl Q bs bt bp gs m cap t Ow w sp):gs<w.heap.size:=by
 rcases h.row.2 with ⟨e,_⟩|⟨g,c,cur,e,_,h2,_⟩
 ·cases e
 ·cases e;exact(zuH.1 h2).1
theorem PlW.pnt(h:PlW w0 pl Q bs bt bp gs m cap t Ow w sp)(k:PnT w0 pl Q Ow w Ow' w'):PlW w0 pl Q bs bt bp gs m cap t Ow' w' sp/\PlT w0 gs Ow w Ow' w':=by
 have ls:=(zuH.1 h.xs).1;have lt:=(zuH.1 h.xt).1;have lp:=(zuH.1 h.xp).1;obtain⟨s1,s2⟩:=k.fre bs h.fs.1 ls h.fs.2;obtain⟨t1,t2⟩:=k.fre bt h.ft.1 lt h.ft.2;obtain⟨p1,p2⟩:=k.fre bp h.fp.1 lp h.fp.2;obtain⟨g1,g2⟩:=k.fre gs h.fg.1 h.glt h.fg.2;exact⟨⟨k.inv,s1.trans h.xs,t1.trans h.xt,p1.trans h.xp,zav h.row (fun b e=>by
  have e:gs=b:=by simpa [Value.ownBlock] using e
  subst e;exact g1),h.len,⟨h.fs.1,s2⟩,⟨h.ft.1,t2⟩,⟨h.fp.1,p2⟩,⟨h.fg.1,g2⟩⟩,⟨k.size,fun j h1 h2 _ h4=>k.fre j h1 h2 h4⟩⟩
theorem PlW.store(h:PlW w0 pl Q bs bt bp gs m cap t Ow w sp)(g:Nat)(hg:g<m)(i j:Int):PlW w0 pl Q bs bt bp gs m cap t Ow ((w.setCell ⟨gs,g*2,none⟩ (.int .i64 i)).setCell ⟨gs,g*2+1,none⟩ (.int .i64 j)) (sp.set g (i,j))/\PlT w0 gs Ow w Ow ((w.setCell ⟨gs,g*2,none⟩ (.int .i64 i)).setCell ⟨gs,g*2+1,none⟩ (.int .i64 j)):=by
 obtain⟨o1,k1⟩:=h.row.stored (g*2) (.int .i64 i);obtain⟨o2,k2⟩:=o1.stored (g*2+1) (.int .i64 j);rw[zqk _ _ _ _ (by rw[h.len];exact hg)] at o2;obtain⟨W,hW⟩:∃W,(w.setCell ⟨gs,g*2,none⟩ (.int .i64 i)).setCell ⟨gs,g*2+1,none⟩ (.int .i64 j)=W:=⟨_,rfl⟩;rw[hW] at o2 k2 ⊢;have tc:zam (· = gs) w W:=((zam.refl _ w).grown k1 (fun k e=>.inl (Option.some.inj e).symm)).grown k2 (fun k e=>.inl (Option.some.inj e).symm);have hc:∃cur,w.heap[gs]?=some (.cells cur 71 (0,0)):=by
  rcases h.row.2 with ⟨e,_⟩|⟨g,c,cur,e,_,h2,_⟩
  ·cases e
  ·cases e;exact⟨cur,h2⟩
 have ne:∀{k:Nat} {cs:Array Value} {ty:TypeId},w.heap[k]?=some (.cells cs ty (0,0))->ty≠71->k≠gs:=fun e1 e2 e3=>by
  obtain⟨cur,h2⟩:=hc;rw[e3,h2] at e1;exact e2 (zad e1).symm
 have sm:∀{k:Nat} {cs:Array Value} {ty:TypeId},w.heap[k]?=some (.cells cs ty (0,0))->ty≠71->W.heap[k]?=some (.cells cs ty (0,0)):=fun e1 e2=>(tc.same _ (zuH.1 e1).1 (ne e1 e2)).trans e1
 have km:zaT w W:=fun mg f e=>sm e (by decide)
 exact⟨⟨h.inv.free tc km (fun k e=>by have e:k=gs:=e;subst e;exact h.fg),sm h.xs (by decide),sm h.xt (by decide),sm h.xp (by decide),o2,by rw[List.length_set];exact h.len,h.fs,h.ft,h.fp,h.fg⟩,⟨tc.size,fun k h1 h2 h3 h4=>⟨tc.same k h2 h3,h4⟩⟩⟩
end
end Go.Proofs.YtdimhpfiieepiaaGreatDoor
