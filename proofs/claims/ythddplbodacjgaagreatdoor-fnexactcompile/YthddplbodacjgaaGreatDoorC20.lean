import Derived.Test.YthddplbodacjgaaGreatDoorC19
import Derived.Laws.CopyOwn
namespace Go.Proofs.YthddplbodacjgaaGreatDoor
set_option maxHeartbeats 4000000
set_option maxRecDepth 100000
open Go.RowKit
section
variable {b c:Bool}{g nw n bt ga gl ha hl:Nat}{w W:World}{T fr A L A' L':Nat -> Nat}{sv fv:Value}{F:Nat -> Nat -> Nat}
theorem zak{a b:Array Value}{t u:TypeId}{f g:Nat×Nat}(h:some (Obj.cells a t f)=some (Obj.cells b u g)):t=u:=by
 injection h with h
 injection h
theorem zrv{k:Nat}(hB:zbj w)(h:zaB w nw k T):k≠0:=by
 rintro rfl;have h1:=hB 0 (by omega);rw[zuO _ _ _ _ _ _ h.row] at h1
 by_cases hn:0<nw
 ·rw[zew _ _ hn] at h1;cases h1
 ·rw[zto (by simp[zcW];omega)] at h1;cases h1
theorem zbz(hB:zbj w):0<w.heap.size:=block_lt_of_cell (hB 0 (by omega))
structure TrkL(w:World)(n nw bt:Nat)(sv fv:Value)(fr:Nat->Nat)(F:Nat->Nat->Nat):Prop where
 box:zeb w bt nw sv fv
 fv:0<n->∃(gf cf:Nat) (cur:Array Value),fv=.slice (some ⟨gf,0,none⟩) n cf/\w.heap[gf]?=some (.cells cur 105 (0,0))/\∀p,p<n->cur[p]?=some (.slice (some ⟨fr p,0,none⟩) nw nw)
 fol:Fol w n nw fr F
 n64:n<=64*nw
 nwl:nw<=1000
 bru:zbj w
theorem TrkL.turn{S:Nat->Prop}{F':Nat->Nat->Nat}(h:TrkL w n nw bt sv fv fr F)(t:zaM S w W)(hS:∀k,k<w.heap.size->S k->∃m T,zaB w m k T)(hf:Fol W n nw fr F'):TrkL W n nw bt sv fv fr F':=by
 have hkeep:∀(k:Nat) (o:Obj),w.heap[k]?=some o->(∀m T,¬zaB w m k T)->W.heap[k]?=some o:=fun k o hk hn=>by
  have hlt:=(ztp.1 hk).1;refine(t.same k hlt (fun hs=>?_)).trans hk;obtain⟨m,T,hp⟩:=hS k hlt hs;exact hn m T hp
 refine⟨?_,fun hn=>?_,hf,h.n64,h.nwl,?_⟩
 ·exact hkeep _ _ h.box (fun m T hp=>by have:=hp.row;rw[h.box] at this;exact absurd (zak this) (by decide))
 ·obtain⟨gf,cf,cur,h1,h2,h3⟩:=h.fv hn;exact⟨gf,cf,cur,h1,hkeep _ _ h2 (fun m T hp=>by have:=hp.row;rw[h2] at this;exact absurd (zak this) (by decide)),h3⟩
 ·refine h.bru.keep (t.same 0 (zbz h.bru) (fun hs=>?_));obtain⟨m,T,hp⟩:=hS 0 (zbz h.bru) hs;exact zrv h.bru hp rfl
theorem zme(n nw bt g1 c1 g2 c2:Nat)(sv fv:Value)(fr:Nat->Nat)(F:Nat->Nat->Nat)(T1 T2:Nat->Nat)(w:World)(h:TrkL w n nw bt sv fv fr F)(h1:zaB w nw g1 T1)(h2:zaB w nw g2 T2)
  (hd1:∀p,p<n->fr p≠g1) (hd2:∀p,p<n->fr p≠g2) (hm:∀p,p<64*nw->zaA T1 p=true->p<n):
  Calls Tryz.prog 104 #[.pointer (some ⟨bt,0,none⟩),.slice (some ⟨g1,0,none⟩) nw c1,.slice (some ⟨g2,0,none⟩) nw c2] w fun e w'=>e=.returned (.tuple #[])/\TrkL w' n nw bt sv fv fr (fun p=>if zaA T1 p=true then orT (F p) T2 else F p)/\zaM (fun k=>∃p,p<n/\k=fr p) w w':=by
 refine(zso n nw bt g1 c1 g2 c2 sv fv fr F T1 T2 w h.box (fun hn=>?_) h.fol h1 h2 hd1 hd2 (fun p hp=>zrv h.bru (h.fol.rows p hp)) (fun p hp e=>?_) hm h.n64 h.nwl h.bru (zbz h.bru)).mono fun e w' hw=>⟨hw.1,h.turn hw.2.2 (fun k _ ⟨p,hp,e⟩=>⟨nw,F p,e ▸ h.fol.rows p hp⟩) hw.2.1,hw.2.2⟩
 ·obtain⟨gf,cf,cur,k1,k2,k3⟩:=h.fv hn;refine⟨gf,cf,k1,(ztp.1 k2).1,fun p hp=>by rw[zuO _ _ _ _ _ _ k2];exact k3 p hp,fun p hp e=>?_⟩;have:=(h.fol.rows p hp).row;rw[e,k2] at this;exact absurd (zak this) (by decide)
 ·have:=(h.fol.rows p hp).row;rw[e,h.box] at this;exact absurd (zak this) (by decide)
def zrT(w:World)(n nw bt:Nat)(sv fv:Value)(fr:Nat->Nat)(F:Nat->Nat->Nat)(ga hl:Nat)(b:Bool)(A L:Nat->Nat)(e:Ending)(w':World):Prop:=
 e=.returned (.agg #[.bool b,.slice (some ⟨ga,0,none⟩) nw nw,.slice (some ⟨hl,0,none⟩) nw nw])/\FrAt w' nw ga hl A L/\TrkL w' n nw bt sv fv fr F/\zaM (fun k=>k=ga\/k=hl\/∃p,p<n/\k=fr p) w w'
theorem TrkL.join(h:TrkL w n nw bt sv fv fr F)(hg:w.grownBy W (some g))(hp:zaB w nw g T)(hd:∀p,p<n->fr p≠g):TrkL W n nw bt sv fv fr F:=
 h.turn ((zaM.refl (fun k=>k=g) w).grown hg (fun k e=>by cases e;exact .inl rfl)) (fun k _ e=>⟨nw,T,e ▸ hp⟩) ⟨fun p hp'=>(h.fol.rows p hp').grown hg (by simpa using hd p hp'),h.fol.inj⟩
theorem TrkL.below(h:TrkL w n nw bt sv fv fr F)(hb:Below w.heap.size w W):TrkL W n nw bt sv fv fr F:=
 h.turn (zaM.of_below (S:=fun _=>False) hb) (fun _ _ e=>e.elim) ⟨fun p hp=>(h.fol.rows p hp).below hb,h.fol.inj⟩
theorem TrkL.put{b o:Nat}{v:Value}{cs:Array Value}{t:TypeId}(h:TrkL w n nw bt sv fv fr F)(hb:w.heap[b]?=some (.cells cs t (0,0)))(h1:t≠159)(h2:t≠105)(h3:t≠180)(h4:b≠0):TrkL (w.setCell ⟨b,o,none⟩ v) n nw bt sv fv fr F:=by
 have hk:∀(k:Nat) (a:Array Value) (u:TypeId),w.heap[k]?=some (.cells a u (0,0))->t≠u->(w.setCell ⟨b,o,none⟩ v).heap[k]?=some (.cells a u (0,0)):=fun k a u hk hne=>
  ((zaN w b o v).block k (ztp.1 hk).1 (fun e=>by cases e;rw[hb] at hk;exact hne (zak hk))).trans hk
 refine⟨hk _ _ _ h.box h1,fun hn=>?_,⟨fun p hp=>⟨hk _ _ _ (h.fol.rows p hp).row h3,(h.fol.rows p hp).lt⟩,h.fol.inj⟩,h.n64,h.nwl,h.bru.keep ((zaN w b o v).block 0 (zbz h.bru) (fun e=>h4 (by cases e;rfl)))⟩;obtain⟨gf,cf,cur,k1,k2,k3⟩:=h.fv hn;exact⟨gf,cf,cur,k1,hk _ _ _ k2 h2,k3⟩
structure SqS(w W:World)(n nw bt ga gl ha hl:Nat)(b c:Bool)(sv fv:Value)(fr:Nat->Nat)(F:Nat->Nat->Nat)(A L A' L':Nat->Nat):Prop where
 r4:W.heap[w.heap.size]?=some (.cells #[.bool b,.slice (some ⟨ga,0,none⟩) nw nw,.slice (some ⟨gl,0,none⟩) nw nw] 115 (0,0))
 r5:W.heap[w.heap.size+1]?=some (.cells #[.bool c,.slice (some ⟨ha,0,none⟩) nw nw,.slice (some ⟨hl,0,none⟩) nw nw] 115 (0,0))
 r6:W.heap[w.heap.size+1+1]?=some (.cells #[.bool false,.slice none 0 0,.slice none 0 0] 115 (0,0))
 fa:zaB W nw ga A
 la:zaB W nw gl L
 fb:zaB W nw ha A'
 lb:zaB W nw hl L'
 tk:TrkL W n nw bt sv fv fr F
 t:zaM (fun k=>k=ga\/k=hl\/∃p,p<n/\k=fr p) w W
theorem SqS.join{W2:World}{A2 L2:Nat->Nat}(h:SqS w W n nw bt ga gl ha hl b c sv fv fr F A L A' L')(hg:W.grownBy W2 (some g))(hl1:ga<w.heap.size)(hl2:hl<w.heap.size)(hg1:g=ga\/g=hl)
  (ngl:g≠gl) (nha:g≠ha) (hfr:∀p,p<n->fr p≠g) (ha2:zaB W2 nw ga A2) (hl2':zaB W2 nw hl L2):SqS w W2 n nw bt ga gl ha hl b c sv fv fr F A2 L A' L2:=by
 have hk:∀(k:Nat) (o:Obj),W.heap[k]?=some o->k≠g->W2.heap[k]?=some o:=fun k o hk hne=>(hg.block k (ztp.1 hk).1 (by simpa using hne)).trans hk
 have hgp:∃T,zaB W nw g T:=by rcases hg1 with e|e<;>subst e;exact⟨_,h.fa⟩;exact⟨_,h.lb⟩
 obtain⟨T,hT⟩:=hgp;exact⟨hk _ _ h.r4 (by omega),hk _ _ h.r5 (by omega),hk _ _ h.r6 (by omega),ha2,h.la.grown hg (by simpa using ngl.symm),h.fb.grown hg (by simpa using nha.symm),hl2',h.tk.join hg hT hfr,h.t.grown hg (fun k e=>by cases e;rcases hg1 with e|e;exact .inl (.inl e);exact .inl (.inr (.inl e)))⟩
theorem SqS.done{v:Bool}(h:SqS w W n nw bt ga gl ha hl b c sv fv fr F A L A' L')(hl1:ga<w.heap.size)(hl2:hl<w.heap.size)(hne:ga≠hl)(v0 v1 v2:Value):
  zrT w n nw bt sv fv fr F ga hl v A L' (.returned (.agg #[.bool v,.slice (some ⟨ga,0,none⟩) nw nw,.slice (some ⟨hl,0,none⟩) nw nw])) (((W.setCell ⟨w.heap.size+1+1,0,none⟩ v0).setCell ⟨w.heap.size+1+1,1,none⟩ v1).setCell ⟨w.heap.size+1+1,2,none⟩ v2):=by
 have hs:∀(X:World) (o:Nat) (u:Value) (cs:Array Value),X.heap[w.heap.size+1+1]?=some (.cells cs 115 (0,0))->∃cs',(X.setCell ⟨w.heap.size+1+1,o,none⟩ u).heap[w.heap.size+1+1]?=some (.cells cs' 115 (0,0)):=fun X o u cs hx=>⟨_,zuT X _ o _ _ u hx⟩
 obtain⟨c1,k1⟩:=hs W 0 v0 _ h.r6;obtain⟨c2,k2⟩:=hs _ 1 v1 _ k1;have t0:=h.tk.put (o:=0) (v:=v0) h.r6 (by decide) (by decide) (by decide) (by omega);have t1:=t0.put (o:=1) (v:=v1) k1 (by decide) (by decide) (by decide) (by omega);have t2:=t1.put (o:=2) (v:=v2) k2 (by decide) (by decide) (by decide) (by omega);exact⟨rfl,⟨((h.fa.put (by omega)).put (by omega)).put (by omega),((h.lb.put (by omega)).put (by omega)).put (by omega),hne⟩,t2,
  ((h.t.grown (zaN _ _ _ _) (fun g e=>.inr (by cases e;omega))).grown (zaN _ _ _ _) (fun g e=>.inr (by cases e;omega))).grown (zaN _ _ _ _) (fun g e=>.inr (by cases e;omega))⟩
theorem zlB(n nw bt ga gl ha hl:Nat)(b c:Bool)(sv fv:Value)(fr:Nat->Nat)(F:Nat->Nat->Nat)(A L A' L':Nat->Nat)(w:World)(h:TrkL w n nw bt sv fv fr F)(h1:FrAt w nw ga gl A L)(h2:FrAt w nw ha hl A' L')
  (d1:ga≠ha) (d2:ga≠hl) (d4:gl≠hl) (e1:∀p,p<n->fr p≠ga) (e2:∀p,p<n->fr p≠gl) (e3:∀p,p<n->fr p≠ha) (e4:∀p,p<n->fr p≠hl) (hm:∀p,p<64*nw->zaA L p=true->p<n):
  Calls Tryz.prog 83 #[.pointer (some ⟨bt,0,none⟩),.agg #[.bool b,.slice (some ⟨ga,0,none⟩) nw nw,.slice (some ⟨gl,0,none⟩) nw nw],.agg #[.bool c,.slice (some ⟨ha,0,none⟩) nw nw,.slice (some ⟨hl,0,none⟩) nw nw]] w fun e w'=>
   zrT w n nw bt sv fv fr (fun p=>if zaA L p=true then orT (F p) A' else F p) ga hl (b&&c) (if b=true then orT A A' else A) (if c=true then orT L' L else L') e w':=by
 obtain⟨F2,hF2⟩:∃F2,(fun p=>if zaA L p=true then orT (F p) A' else F p)=F2:=⟨_,rfl⟩;rw[hF2];have hnw:=h.nwl;obtain⟨W0,hW0⟩:∃W0,((w.alloc (.cells #[.bool b,.slice (some ⟨ga,0,none⟩) nw nw,.slice (some ⟨gl,0,none⟩) nw nw] 115)).alloc (.cells #[.bool c,.slice (some ⟨ha,0,none⟩) nw nw,.slice (some ⟨hl,0,none⟩) nw nw] 115)).alloc (.cells #[.bool false,.slice none 0 0,.slice none 0 0] 115)=W0:=⟨_,rfl⟩;have hb0:Below w.heap.size w W0:=by rw[<-hW0];exact(((Below.refl _ _).alloc (zuz _) _).alloc (by simp) _).alloc (by simp;omega) _
 have x4:W0.heap[w.heap.size]?=some (.cells #[.bool b,.slice (some ⟨ga,0,none⟩) nw nw,.slice (some ⟨gl,0,none⟩) nw nw] 115 (0,0)):=by rw[<-hW0];exact zao (zao (zuR _ _))
 have x5:W0.heap[w.heap.size+1]?=some (.cells #[.bool c,.slice (some ⟨ha,0,none⟩) nw nw,.slice (some ⟨hl,0,none⟩) nw nw] 115 (0,0)):=by
  rw[<-hW0];refine zao ?_;have:=zuR (w.alloc (.cells #[.bool b,.slice (some ⟨ga,0,none⟩) nw nw,.slice (some ⟨gl,0,none⟩) nw nw] 115)) (.cells #[.bool c,.slice (some ⟨ha,0,none⟩) nw nw,.slice (some ⟨hl,0,none⟩) nw nw] 115)
  simpa using this
 have x6:W0.heap[w.heap.size+1+1]?=some (.cells #[.bool false,.slice none 0 0,.slice none 0 0] 115 (0,0)):=by
  rw[<-hW0];have:=zuR ((w.alloc (.cells #[.bool b,.slice (some ⟨ga,0,none⟩) nw nw,.slice (some ⟨gl,0,none⟩) nw nw] 115)).alloc (.cells #[.bool c,.slice (some ⟨ha,0,none⟩) nw nw,.slice (some ⟨hl,0,none⟩) nw nw] 115)) (.cells #[.bool false,.slice none 0 0,.slice none 0 0] 115)
  simpa using this
 have l1:=h1.fi.glt;have l2:=h1.la.glt;have l3:=h2.fi.glt;have l4:=h2.la.glt;have hfl:∀p,p<n->fr p<w.heap.size:=fun p hp=>(h.fol.rows p hp).glt
 have hsz:W0.heap.size=w.heap.size+1+1+1:=by rw[<-hW0];simp
 have hpw:=zbz h.bru;have y:=h.below hb0;have y1:=h1.below hb0;have y2:=h2.below hb0;have hlk:=zme n nw bt gl nw ha nw sv fv fr F L A' W0 y y1.la y2.fi e2 e3 hm;rw[hF2] at hlk;clear hF2;have T0:zaM (fun k=>k=ga\/k=hl\/∃p,p<n/\k=fr p) w W0:=zaM.of_below hb0;clear hb0;obtain⟨a0,a1,a2,-,-,-⟩:=zac x4;obtain⟨b0,b1,b2,-,-,-⟩:=zac x5
 go_enter Tryz.func83,Tryz.ntmps83
 go_wp2_with fail
 clear a0 a1 a2 b0 b1 b2 hW0;refine hlk.mono ?_;rintro e w1 ⟨rfl,q,t1⟩;have hn:∀k,w.heap.size<=k->¬∃p,p<n/\k=fr p:=fun k hk ⟨p,hp,e⟩=>by have:=hfl p hp;omega
 have u4:=(t1.same (w.heap.size) (by omega) (hn _ (by omega))).trans x4;have u5:=(t1.same (w.heap.size+1) (by omega) (hn _ (by omega))).trans x5;have u6:=(t1.same (w.heap.size+1+1) (by omega) (hn _ (by omega))).trans x6;have z1:=y1.fi.touch t1 (fun⟨p,hp,e⟩=>e1 p hp e.symm);have z2:=y1.la.touch t1 (fun⟨p,hp,e⟩=>e2 p hp e.symm);have z3:=y2.fi.touch t1 (fun⟨p,hp,e⟩=>e3 p hp e.symm);have z4:=y2.la.touch t1 (fun⟨p,hp,e⟩=>e4 p hp e.symm);have T1:=T0.trans (t1.mono (fun k _ hk=>.inr (.inr hk)));have s1:=t1.size;have hga:=h1.ne;have hha:=h2.ne;clear hlk x4 x5 x6 y y1 y2 T0 t1 h h1 h2;have hS:SqS w w1 n nw bt ga gl ha hl b c sv fv fr F2 A L A' L':=⟨u4,u5,u6,z1,z2,z3,z4,q,T1⟩;clear u4 u5 u6 z1 z2 z3 z4 q T1;have hfin:∀(W:World) (A2 L2:Nat->Nat),SqS w W n nw bt ga gl ha hl b c sv fv fr F2 A2 L A' L2->∃c0 c1 c2,W.cell? ⟨w.heap.size,0,none⟩=some (.bool b)/\W.cell? ⟨w.heap.size,1,none⟩=some (.slice (some ⟨ga,0,none⟩) nw nw)/\W.cell? ⟨w.heap.size+1,0,none⟩=some (.bool c)/\W.cell? ⟨w.heap.size+1,2,none⟩=some (.slice (some ⟨hl,0,none⟩) nw nw)/\W.cell? ⟨w.heap.size,2,none⟩=some (.slice (some ⟨gl,0,none⟩) nw nw)/\W.cell? ⟨w.heap.size+1,1,none⟩=some (.slice (some ⟨ha,0,none⟩) nw nw)/\W.cell? ⟨w.heap.size+1+1,0,none⟩=some c0/\W.cell? ⟨w.heap.size+1+1,1,none⟩=some c1/\W.cell? ⟨w.heap.size+1+1,2,none⟩=some c2/\W.frozen? ⟨w.heap.size+1+1,0,none⟩=false/\W.frozen? ⟨w.heap.size+1+1,1,none⟩=false/\W.frozen? ⟨w.heap.size+1+1,2,none⟩=false:=fun W A2 L2 hq=>by
  obtain⟨a0,a1,a2,-,-,-⟩:=zac hq.r4;obtain⟨b0,b1,b2,-,-,-⟩:=zac hq.r5;obtain⟨k0,k1,k2,f0,f1,f2⟩:=zac hq.r6;exact⟨_,_,_,a0,a1,b0,b2,a2,b1,k0,k1,k2,f0,f1,f2⟩
 cases b<;>cases c
 ·obtain⟨p0,p1,p2,a0,a1,b0,b2,a2,b1,k0,k1,k2,f0,f1,f2⟩:=hfin _ _ _ hS;go_wp2;refine zuN (v:=.agg #[.bool false,.slice (some ⟨ga,0,none⟩) nw nw,.slice (some ⟨hl,0,none⟩) nw nw]) (by simp[results,Tryz.results83,go_sem,k0,k1,k2]) rfl ?_;exact hS.done l1 l4 d2 _ _ _
 ·obtain⟨p0,p1,p2,a0,a1,b0,b2,a2,b1,k0,k1,k2,f0,f1,f2⟩:=hfin _ _ _ hS;have hj:=zdx nw hl gl nw nw L' L w1 hS.lb hS.la d4.symm hnw
  go_wp2_with fail
  refine hj.mono ?_;rintro e w2 ⟨rfl,hp2,hg2⟩;have hS2:=hS.join (A2:=A) hg2 l1 l4 (.inr rfl) d4.symm hha.symm e4 (hS.fa.grown hg2 (by simpa using d2)) hp2;clear a0 a1 b0 b2 a2 b1 k0 k1 k2 f0 f1 f2;obtain⟨p0,p1,p2,a0,a1,b0,b2,a2,b1,k0,k1,k2,f0,f1,f2⟩:=hfin _ _ _ hS2;go_wp2;refine zuN (v:=.agg #[.bool false,.slice (some ⟨ga,0,none⟩) nw nw,.slice (some ⟨hl,0,none⟩) nw nw]) (by simp[results,Tryz.results83,go_sem,k0,k1,k2]) rfl ?_;exact hS2.done l1 l4 d2 _ _ _
 ·obtain⟨p0,p1,p2,a0,a1,b0,b2,a2,b1,k0,k1,k2,f0,f1,f2⟩:=hfin _ _ _ hS;have hj:=zdx nw ga ha nw nw A A' w1 hS.fa hS.fb d1 hnw
  go_wp2_with fail
  refine hj.mono ?_;rintro e w2 ⟨rfl,hp2,hg2⟩;have hS2:=hS.join (L2:=L') hg2 l1 l4 (.inl rfl) hga d1 e1 hp2 (hS.lb.grown hg2 (by simpa using d2.symm));clear a0 a1 b0 b2 a2 b1 k0 k1 k2 f0 f1 f2;obtain⟨p0,p1,p2,a0,a1,b0,b2,a2,b1,k0,k1,k2,f0,f1,f2⟩:=hfin _ _ _ hS2;go_wp2;refine zuN (v:=.agg #[.bool false,.slice (some ⟨ga,0,none⟩) nw nw,.slice (some ⟨hl,0,none⟩) nw nw]) (by simp[results,Tryz.results83,go_sem,k0,k1,k2]) rfl ?_;exact hS2.done l1 l4 d2 _ _ _
 ·obtain⟨p0,p1,p2,a0,a1,b0,b2,a2,b1,k0,k1,k2,f0,f1,f2⟩:=hfin _ _ _ hS;have hj:=zdx nw ga ha nw nw A A' w1 hS.fa hS.fb d1 hnw
  go_wp2_with fail
  refine hj.mono ?_;rintro e w2 ⟨rfl,hp2,hg2⟩;have hS2:=hS.join (L2:=L') hg2 l1 l4 (.inl rfl) hga d1 e1 hp2 (hS.lb.grown hg2 (by simpa using d2.symm));clear a0 a1 b0 b2 a2 b1 k0 k1 k2 f0 f1 f2;obtain⟨p0,p1,p2,a0,a1,b0,b2,a2,b1,k0,k1,k2,f0,f1,f2⟩:=hfin _ _ _ hS2;have hj2:=zdx nw hl gl nw nw L' L w2 hS2.lb hS2.la d4.symm hnw
  go_wp2_with fail
  refine hj2.mono ?_;rintro e w3 ⟨rfl,hp3,hg3⟩;have hS3:=hS2.join (A2:=orT A A') hg3 l1 l4 (.inr rfl) d4.symm hha.symm e4 (hS2.fa.grown hg3 (by simpa using d2)) hp3;clear a0 a1 b0 b2 a2 b1 k0 k1 k2 f0 f1 f2;obtain⟨p0,p1,p2,a0,a1,b0,b2,a2,b1,k0,k1,k2,f0,f1,f2⟩:=hfin _ _ _ hS3;go_wp2;refine zuN (v:=.agg #[.bool true,.slice (some ⟨ga,0,none⟩) nw nw,.slice (some ⟨hl,0,none⟩) nw nw]) (by simp[results,Tryz.results83,go_sem,k0,k1,k2]) rfl ?_;exact hS3.done l1 l4 d2 _ _ _
end
section
variable {mk fr:Nat -> Nat}{n nw base B bt:Nat}{w W:World}{v sv fv:Value}{xs:List Value}{f:Nat -> Nat -> Bool}{F:Nat -> Nat -> Nat}
def ptrL(mk:Nat->Nat)(n:Nat):List Value:=(List.range n).map fun p=>.pointer (some ⟨mk p,0,none⟩)
def slcL(fr:Nat->Nat)(nw n:Nat):List Value:=(List.range n).map fun p=>.slice (some ⟨fr p,0,none⟩) nw nw
theorem zo9(mk:Nat->Nat)(n:Nat):ptrL mk (n+1)=ptrL mk n++[.pointer (some ⟨mk n,0,none⟩)]:=by simp[ptrL,List.range_succ]
theorem zhc(fr:Nat->Nat)(nw n:Nat):slcL fr nw (n+1)=slcL fr nw n++[.slice (some ⟨fr n,0,none⟩) nw nw]:=by simp[slcL,List.range_succ]
theorem znx{mk':Nat->Nat}(h:∀p,p<n->mk p=mk' p):ptrL mk n=ptrL mk' n:=zua fun p hp=>by rw[h p (by simpa using hp)]
theorem zfG{fr':Nat->Nat}(h:∀p,p<n->fr p=fr' p):slcL fr nw n=slcL fr' nw n:=zua fun p hp=>by rw[h p (by simpa using hp)]
theorem zas{e:TypeId}{sz:Nat}(h:w.ownsRow base e sz v n xs)(hk:∀(k:Nat) (cs:Array Value),w.heap[k]?=some (.cells cs e (0,0))->W.heap[k]?=some (.cells cs e (0,0))):W.ownsRow base e sz v n xs:=by
 refine⟨h.1,?_⟩;rcases h.2 with h0|⟨g,cap,cur,hv,hg,hh,r⟩
 ·exact .inl h0
 ·exact .inr ⟨g,cap,cur,hv,hg,hk g cur hh,r⟩
theorem zh6{e:TypeId}(h:w.ownsRow base e 1 v n xs)(hn:0<n):∃(g cap:Nat) (cur:Array Value),v=.slice (some ⟨g,0,none⟩) n cap/\w.heap[g]?=some (.cells cur e (0,0))/\∀p,p<n->cur[p]?=xs[p]?:=by
 rcases h.2 with ⟨_,h0⟩|⟨g,cap,cur,hv,hg,hh,hnc,_,hsz,ht⟩
 ·omega
 ·refine⟨g,cap,cur,hv,hh,fun p hp=>?_⟩;rw[<-ht,ztY,zuV (by omega),Array.getElem?_toList]
structure Trk(B:Nat)(w:World)(n nw bt:Nat)(sv fv:Value)(mk:Nat->Nat)(f:Nat->Nat->Bool)(fr:Nat->Nat)(F:Nat->Nat->Nat):Prop where
 box:zeb w bt nw sv fv
 so:w.ownsRow B 163 1 sv n (ptrL mk n)
 fo:w.ownsRow B 105 1 fv n (slcL fr nw n)
 fol:Fol w n nw fr F
 mks:∀p,p<n->w.heap[mk p]?=some (.cells (zaz (f p)) 213 (0,0))
 n64:n<=64*nw
 nwl:nw<=1000
 bru:zbj w
 bb:B<=bt
 b0:0<B
theorem Trk.l(h:Trk B w n nw bt sv fv mk f fr F):TrkL w n nw bt sv fv fr F:=
 ⟨h.box,fun hn=>by
  obtain⟨g,cap,cur,h1,h2,h3⟩:=zh6 h.fo hn;exact⟨g,cap,cur,h1,h2,fun p hp=>by rw[h3 p hp];simp[slcL,hp]⟩,h.fol,h.n64,h.nwl,h.bru⟩
theorem Trk.setsAt(h:Trk B w n nw bt sv fv mk f fr F)(hn:0<n):∃gs cs:Nat,sv=.slice (some ⟨gs,0,none⟩) n cs/\gs<w.heap.size/\∀p,p<n->w.cell? ⟨gs,p,none⟩=some (.pointer (some ⟨mk p,0,none⟩)):=by
 obtain⟨g,cap,cur,h1,h2,h3⟩:=zh6 h.so hn;exact⟨g,cap,h1,(ztp.1 h2).1,fun p hp=>by rw[zuO _ _ _ _ _ _ h2,h3 p hp];simp[ptrL,hp]⟩
theorem Trk.turn{S:Nat->Prop}{F':Nat->Nat->Nat}(h:Trk B w n nw bt sv fv mk f fr F)(t:zaM S w W)(hS:∀k,k<w.heap.size->S k->∃m T,zaB w m k T)(hf:Fol W n nw fr F'):Trk B W n nw bt sv fv mk f fr F':=by
 have hk:∀(k:Nat) (cs:Array Value) (u:TypeId),w.heap[k]?=some (.cells cs u (0,0))->u≠180->W.heap[k]?=some (.cells cs u (0,0)):=fun k cs u hk hu=>by
  have hlt:=(ztp.1 hk).1;refine(t.same k hlt (fun hs=>?_)).trans hk;obtain⟨m,T,hp⟩:=hS k hlt hs;have:=hp.row;rw[hk] at this;exact hu (zak this)
 have q:=h.l.turn t hS hf;exact⟨q.box,zas h.so fun k cs e=>hk k cs _ e (by decide),zas h.fo fun k cs e=>hk k cs _ e (by decide),hf,fun p hp=>hk _ _ _ (h.mks p hp) (by decide),h.n64,h.nwl,q.bru,h.bb,h.b0⟩
theorem Trk.below(h:Trk B w n nw bt sv fv mk f fr F)(hb:Below w.heap.size w W):Trk B W n nw bt sv fv mk f fr F:=
 h.turn (zaM.of_below (S:=fun _=>False) hb) (fun _ _ e=>e.elim) ⟨fun p hp=>(h.fol.rows p hp).below hb,h.fol.inj⟩
theorem zfK{P:Program}{ops:Array Oper}{rest:List Oper}{o:Oper}{a:Act}{Q:Exit->Act->World->Prop}(w:World)(H:Nat)(hH:w.heap.size=H)(hgd:o.guard=none)(s x:Operand)(t:TypeId)
  (ho:o.op=.call {callee:=.builtin .append,args:=#[s,x],argTypes:=#[t,t]})
  (base:Nat) (e:TypeId) (i:TypeInfo) (z:Value) (bytes:Nat) (ht:P.underlying t=some (.slice e)) (hi:P.info? e=some i) (hz:i.zero=some z)
  (hsize:i.size=1) (hby:i.bytes=bytes) (hzs:z.cells.size=1)
  (v:Value) (n:Nat) (xs:List Value) (u:Value) (hs:a.eval s=v) (hown:w.ownsRow base e 1 v n xs)
  (hx:a.eval x=.slice (some ⟨H,0,none⟩) 1 1) (h1:u.oneCell'=true) (hn:n<=2000000) (hbytes:bytes<=64) (hbase:base<=w.heap.size)
  (h:∀g' cap' w',w'.ownsRow base e 1 (.slice (some ⟨g',0,none⟩) (n+1) cap') (n+1) (xs++[u])->w.grownBy w' v.ownBlock->(v.ownBlock=some g'\/H<g')->wpList P ops Q rest (a.put o.dst (.slice (some ⟨g',0,none⟩) (n+1) cap')) w'):
  wpList P ops Q (o::rest) a (w.alloc (.cells #[u] e)):=by
 subst hH;refine wpList_append_lies _ hgd s x t ho base e i z 1 bytes ht hi hz hsize hby hzs (by omega) v n xs hs (zas hown fun k cs e=>zao e) ⟨w.heap.size,0,none⟩ 1 1 [u] hx rfl ?_ ?_ (by omega) (by unfold maxLen;omega) ?_ (by simp;omega) (w.heap.size+1) (by simp) ?_
 ·intro j v hv
  match j,hv with
  |0,hv=>simp at hv;subst hv;simp[Addr.add]
 ·intro v hv;simp at hv;subst hv;exact h1
 ·have:(n+1)*bytes<=2000001*64:=zuG (by omega) hbytes;omega
 ·intro g' cap' w' ho2 hgr hat hlt;refine h g' cap' w' ho2 ⟨hgr.os,hgr.tape,hgr.output,zuA (by simp) hgr.size,fun k hk hne=>?_⟩ ?_
  ·rw[hgr.block k (by simp;omega) hne,Below.heap_alloc _ _ _ hk]
  ·rcases hat with hat|hat
   ·exact .inl hat
   ·exact .inr (by omega)
end
section
variable {lo T b:Nat}{w W:World}{cs:Array Value}{v:Value}
attribute [local go_sem ↓] Go.wp_at_zero Go.wp_at_succ
def slB:Option Value->Bool
 |some (.slice _ _ _)=>true
 |_=>false
structure MkR(lo T:Nat)(w W:World):Prop where
 os:W.os=w.os
 tape:W.tape=w.tape
 output:W.output=w.output
 size:w.heap.size<=W.heap.size
 out:∀b,b<w.heap.size->(b<lo\/T<=b)->W.heap[b]?=w.heap[b]?
 row:∀(b:Nat) (cs:Array Value) (t:TypeId),w.heap[b]?=some (.cells cs t (0,0))->∃cs':Array Value,W.heap[b]?=some (.cells cs' t (0,0))/\cs'.size=cs.size/\(∀(i:Nat),slB cs[i]?=true->cs'[i]?=cs[i]?)/\∀(i:Nat),slB cs[i]?=false->slB cs'[i]?=false
theorem MkR.refl(lo T:Nat)(w:World):MkR lo T w w:=⟨rfl,rfl,rfl,zuz _,fun _ _ _=>rfl,fun _ cs _ h=>⟨cs,h,rfl,fun _ _=>rfl,fun _ h=>h⟩⟩
theorem MkR.trans{a b c:World}(h:MkR lo T a b)(k:MkR lo T b c):MkR lo T a c:=
 ⟨k.os.trans h.os,k.tape.trans h.tape,k.output.trans h.output,zuA h.size k.size,fun i hi ho=>(k.out i (zuB hi h.size) ho).trans (h.out i hi ho),fun i cs t e=>by
  obtain⟨cs1,e1,s1,p1,q1⟩:=h.row i cs t e;obtain⟨cs2,e2,s2,p2,q2⟩:=k.row i cs1 t e1;refine⟨cs2,e2,s2.trans s1,fun i hi=>?_,fun i hi=>q2 i (q1 i hi)⟩;have:=p1 i hi;rw[p2 i (by rw[this];exact hi),this]⟩
theorem MkR.put{o:Nat}{t:TypeId}(hb:w.heap[b]?=some (.cells cs t (0,0)))(h1:lo<=b)(h2:b<T)(hn:slB cs[o]?=false)(u:Value)(hu:slB (some u)=false):MkR lo T w (w.setCell ⟨b,o,none⟩ u):=by
 refine⟨rfl,rfl,rfl,by simp[World.setCell],fun i hi ho=>zuS _ _ _ _ (by show i≠b;omega),fun i cs' t' e=>?_⟩
 by_cases hib:i=b
 ·subst hib;rw[hb] at e;cases e;refine⟨_,zuT w i o _ _ u hb,by simp,fun j hj=>?_,fun j hj=>?_⟩
  ·rw[ztq]
   by_cases e:o=j
   ·subst e;rw[hn] at hj;cases hj
   ·rw[zuU e]
  ·rw[ztq]
   by_cases e:o=j
   ·rw[zuV e];split
    ·exact hu
    ·rfl
   ·rw[zuU e];exact hj
 ·exact⟨cs',(zuS _ _ _ _ (by exact hib)).trans e,rfl,fun _ _=>rfl,fun _ h=>h⟩
def RngW(lo T:Nat)(w:World)(v:Value)(n:Nat):Prop:=∃ao cap,v=.slice ao n cap/\(0<n->∃(b o:Nat) (cs:Array Value),ao=some ⟨b,o,none⟩/\lo<=b/\b<T/\w.heap[b]?=some (.cells cs 150 (0,0))/\o+n*2<=cs.size/\∀i,i<n*2->slB cs[o+i]?=false)
def NodW(lo T:Nat)(w:World)(v:Value)(ns:List zau):Prop:=∃ao cap,v=.slice ao ns.length cap/\(0<ns.length->∃(b o:Nat) (cs:Array Value),ao=some ⟨b,o,none⟩/\lo<=b/\b<T/\w.heap[b]?=some (.cells cs 144 (0,0))/\o+ns.length*5<=cs.size/\∀i,i<ns.length->(∀j,j<5->j≠1->slB cs[o+i*5+j]?=false)/\∃sv,cs[o+i*5+1]?=some sv/\RngW lo T w sv (ns.getD i .zero).set.length)
def BraW(lo T:Nat)(w:World)(v:Value)(bs:List zai):Prop:=∃ao cap,v=.slice ao bs.length cap/\(0<bs.length->∃(b o:Nat) (cs:Array Value),ao=some ⟨b,o,none⟩/\lo<=b/\b<T/\w.heap[b]?=some (.cells cs 76 (0,0))/\o+bs.length*3<=cs.size/\∀i,i<bs.length->(∀j,j<2->slB cs[o+i*3+j]?=false)/\∃sv,cs[o+i*3+2]?=some sv/\NodW lo T w sv (bs.getD i .zero).nodes)
def RulW(lo T:Nat)(w:World)(v:Value)(rs:List za0):Prop:=∃ao cap,v=.slice ao rs.length cap/\(0<rs.length->∃(b o:Nat) (cs:Array Value),ao=some ⟨b,o,none⟩/\lo<=b/\b<T/\w.heap[b]?=some (.cells cs 57 (0,0))/\o+rs.length*2<=cs.size/\∀i,i<rs.length->slB cs[o+i*2+1]?=false/\∃sv,cs[o+i*2]?=some sv/\BraW lo T w sv (rs.getD i .zero).branches)
theorem RngW.mk{n:Nat}(h:RngW lo T w v n)(k:MkR lo T w W):RngW lo T W v n:=by
 obtain⟨ao,cap,rfl,h⟩:=h;refine⟨ao,cap,rfl,fun h0=>?_⟩;obtain⟨b,o,cs,rfl,h1,h2,h3,h4,h5⟩:=h h0;obtain⟨cs',e,s,p,q⟩:=k.row b cs _ h3;exact⟨b,o,cs',rfl,h1,h2,e,by omega,fun i hi=>q _ (h5 i hi)⟩
theorem NodW.mk{ns:List zau}(h:NodW lo T w v ns)(k:MkR lo T w W):NodW lo T W v ns:=by
 obtain⟨ao,cap,rfl,h⟩:=h;refine⟨ao,cap,rfl,fun h0=>?_⟩;obtain⟨b,o,cs,rfl,h1,h2,h3,h4,h5⟩:=h h0;obtain⟨cs',e,s,p,q⟩:=k.row b cs _ h3;refine⟨b,o,cs',rfl,h1,h2,e,by omega,fun i hi=>?_⟩;obtain⟨g1,sv,g2,g3⟩:=h5 i hi;have hsl:slB cs[o+i*5+1]?=true:=by obtain⟨a,c,rfl,_⟩:=g3;rw[g2];rfl
 exact⟨fun j hj hne=>q _ (g1 j hj hne),sv,(p _ hsl).trans g2,g3.mk k⟩
theorem BraW.mk{bs:List zai}(h:BraW lo T w v bs)(k:MkR lo T w W):BraW lo T W v bs:=by
 obtain⟨ao,cap,rfl,h⟩:=h;refine⟨ao,cap,rfl,fun h0=>?_⟩;obtain⟨b,o,cs,rfl,h1,h2,h3,h4,h5⟩:=h h0;obtain⟨cs',e,s,p,q⟩:=k.row b cs _ h3;refine⟨b,o,cs',rfl,h1,h2,e,by omega,fun i hi=>?_⟩;obtain⟨g1,sv,g2,g3⟩:=h5 i hi;have hsl:slB cs[o+i*3+2]?=true:=by obtain⟨a,c,rfl,_⟩:=g3;rw[g2];rfl
 exact⟨fun j hj=>q _ (g1 j hj),sv,(p _ hsl).trans g2,g3.mk k⟩
theorem zkJ{t:TypeId}(h:w.heap[b]?=some (.cells cs t (0,0))){i:Nat}(hi:i<cs.size):∃u,w.cell? ⟨b,i,none⟩=some u:=⟨cs[i],by rw[zuO _ _ _ _ _ _ h];simp[hi]⟩
theorem ziF(v:Value)(n:Nat)(k:Int)(w:World)(h:RngW lo T w v n)(hk:0<=k/\k+2*(n:Int)<=100000000):
  Calls Tryz.prog 95 #[v,.int .i64 k] w fun e W=>e=.returned (.int .i64 (k+2*(n:Int)))/\MkR lo T w W:=by
 obtain⟨ao,cap,rfl,h⟩:=h;have hk0:=hk.1;have hk1:=hk.2;have H:Hid _:=h;clear h hk
 go_enter Tryz.func95,Tryz.ntmps95
 go_wp2
 go_loopw [1,5] (fun kv iv wr=>∃i:Nat,i<=n/\iv=.int .i64 i/\kv=.int .i64 (k+2*(i:Int))/\Hid (MkR lo T w wr)) (fun _ iv _=>n-(intOf iv).toNat)
 case atStart=>exact⟨0,zuL _,rfl,by simp,MkR.refl _ _ _⟩
 case round=>
  obtain⟨i,hi,rfl,rfl,HM⟩:=hrel
  by_cases hlt:i<n
  ·obtain⟨b,o,cs,rfl,h1,h2,h3,h4,h5⟩:=H.out (by omega);obtain⟨cs1,e1,s1,p1,q1⟩:=HM.out.row b cs _ h3;obtain⟨u0,c0⟩:=zkJ e1 (i:=o+i*2) (by omega);have f0:=zuQ _ _ (o+i*2) _ _ e1;have m1:=MkR.put e1 h1 h2 (q1 _ (h5 (i*2) (by omega))) (.int .i64 (k+2*(i:Int))) rfl;obtain⟨cs2,e2,s2,p2,q2⟩:=m1.row b cs1 _ e1;obtain⟨u1,c1⟩:=zkJ e2 (i:=o+i*2+1) (by omega);have f1:=zuQ _ _ (o+i*2+1) _ _ e2;have m2:=MkR.put e2 h1 h2 (q2 _ (q1 _ (h5 (i*2+1) (by omega)))) (.int .i64 (k+2*(i:Int)+1)) rfl;have HM2:Hid _:=HM.out.trans (m1.trans m2);have hi0:(0:Int)<=(i:Int):=by omega
   have hi1:(i:Int)<(n:Int):=by omega
   obtain⟨c1',hc1'⟩:∃c1',wr.cell? ⟨b,o+i*2+1,none⟩=some c1':=⟨u1,by rw[World.cell?_setCell_other _ _ _ _ (by simp)] at c1;exact c1⟩;have f1':=zuQ _ _ (o+i*2+1) _ _ e1;obtain⟨kk,hkk⟩:∃kk:Int,k+2*(i:Int)=kk:=⟨_,rfl⟩;have hkb:0<=kk/\kk<=100000000:=by omega
   have hkb0:=hkb.1;have hkb1:=hkb.2;rw[hkk] at HM2 ⊢;have Hkk:Hid _:=hkk;clear m1 m2 e1 e2 p1 p2 q1 q2 s1 s2 h3 h4 h5 c1 f1 hkb hkk HM;go_wp2
   go_roundw
   case rel=>exact⟨i+1,by omega,by go_num,by rw[show k+2*((i+1:Nat):Int)=kk+1+1 by have:=Hkk.out;omega],HM2⟩
   case measure=>simp[intOf];omega
  ·have hii:i=n:=by omega
   subst hii;go_wp2;go_ret;exact⟨rfl,HM.out⟩
end
section
variable {lo T b:Nat}{w W:World}{cs:Array Value}
attribute [local go_sem ↓] Go.wp_at_zero Go.wp_at_succ
theorem MkR.slot{t:TypeId}(M:MkR lo T w W)(h3:w.heap[b]?=some (.cells cs t (0,0))){i:Nat}(hi:i<cs.size)(hn:slB cs[i]?=false)(h1:lo<=b)(h2:b<T):
  (∃u,W.cell? ⟨b,i,none⟩=some u)/\W.frozen? ⟨b,i,none⟩=false/\∀u,slB (some u)=false->MkR lo T w (W.setCell ⟨b,i,none⟩ u):=by
 obtain⟨cs',e,s,p,q⟩:=M.row b cs _ h3;exact⟨zkJ e (by omega),zuQ _ _ _ _ _ e,fun u hu=>M.trans (MkR.put e h1 h2 (q i hn) u hu)⟩
theorem MkR.stay{t:TypeId}(M:MkR lo T w W)(h3:w.heap[b]?=some (.cells cs t (0,0))){i:Nat}{v:Value}(hi:cs[i]?=some v)(hn:slB (some v)=true):W.cell? ⟨b,i,none⟩=some v:=by
 obtain⟨cs',e,s,p,q⟩:=M.row b cs _ h3;rw[zuO _ _ _ _ _ _ e,p i (by rw[hi];exact hn),hi]
def cNd(n:zau):Nat:=4+2*n.set.length
def cNs(ns:List zau):Nat:=(ns.map cNd).sum
def cBr(b:zai):Nat:=2+cNs b.nodes
def cBs(bs:List zai):Nat:=(bs.map cBr).sum
def cRl(r:za0):Nat:=cBs r.branches+1
def cRs(rs:List za0):Nat:=(rs.map cRl).sum
theorem zi2{α:Type}(f:α->Nat)(d:α)(l:List α){i:Nat}(h:i<l.length):((l.take (i+1)).map f).sum=((l.take i).map f).sum+f (l.getD i d):=by
 rw[List.take_add_one,ztT h,Option.toList_some,zt9,List.sum_append];simp[List.getD,h]
theorem zeU{α:Type}(f:α->Nat)(l:List α):∀i,((l.take i).map f).sum<=(l.map f).sum:=by
 induction l with
 |nil=>intro i;simp
 |cons a l ih=>
  intro i;cases i with
  |zero=>simp
  |succ i=>have:=ih i;simp only[zus,zub,zup];omega
theorem ziD{α:Type}(f:α->Nat)(h:∀a,1<=f a):∀l:List α,l.length<=(l.map f).sum
 |[]=>by simp
 |a::l=>by have:=ziD f h l;have:=h a;simp only[zt2,zub,zup];omega
theorem zjK(v:Value)(ns:List zau)(k:Nat)(w:World)(h:NodW lo T w v ns)(hk:k+cNs ns<=90000000):
  Calls Tryz.prog 66 #[v,.int .i64 (k:Int)] w fun e W=>e=.returned (.int .i64 ((k+cNs ns:Nat):Int))/\MkR lo T w W:=by
 obtain⟨ao,cap,rfl,h⟩:=h;have H:Hid _:=h;have hlen:(ns.length:Int)<=90000000:=by have:=ziD cNd (fun a=>by unfold cNd;omega) ns;unfold cNs at hk;omega
 have HK:Hid (∀i,k+((ns.take i).map cNd).sum<=90000000):=fun i=>by have:=zeU cNd ns i;unfold cNs at hk;omega
 clear h
 go_enter Tryz.func66,Tryz.ntmps66
 go_wp2
 go_loopw [1,5] (fun kv iv wr=>∃i K:Nat,i<=ns.length/\iv=.int .i64 i/\kv=.int .i64 (K:Int)/\Hid (K=k+((ns.take i).map cNd).sum)/\Hid (MkR lo T w wr)) (fun _ iv _=>ns.length-(intOf iv).toNat)
 case atStart=>exact⟨0,k,zuL _,rfl,rfl,by show _=_;simp,MkR.refl _ _ _⟩
 case round=>
  obtain⟨i,K,hi,rfl,rfl,HKK,HM⟩:=hrel
  by_cases hlt:i<ns.length
  ·obtain⟨b,o,cs,rfl,h1,h2,h3,h4,h5⟩:=H.out (by omega);obtain⟨g1,sv,g2,g3⟩:=h5 i hlt;obtain⟨a,c,rfl,g4⟩:=id g3;have hs:=zi2 cNd .zero ns hlt;have HS1:Hid (k+((ns.take (i+1)).map cNd).sum=K+(4+2*(ns.getD i .zero).set.length)):=by show _=_;rw[hs,HKK.out];unfold cNd;omega
   have hK1:=HK.out (i+1);rw[HS1.out] at hK1;obtain⟨sn,hsn⟩:∃sn,(ns.getD i .zero).set.length=sn:=⟨_,rfl⟩;rw[hsn] at g3 g2 HS1 hK1;have hz0:o+i*5<cs.size:=by omega
   have hz1:o+i*5+4<cs.size:=by omega
   obtain⟨⟨u0,c0⟩,f0,M1⟩:=HM.out.slot h3 hz0 (g1 0 (by omega) (by omega)) h1 h2;have y1:wr.cell? ⟨b,o+i*5+1,none⟩=some (.slice a sn c):=HM.out.stay h3 g2 rfl;have HM1:Hid _:=M1 (.int .i64 (K:Int)) rfl;have hC:=ziF (.slice a sn c) sn ((K:Int)+1) (wr.setCell ⟨b,o+i*5,none⟩ (.int .i64 (K:Int))) (g3.mk HM1.out) (by omega);have hi0:(0:Int)<=(i:Int):=by omega
   have hi1:(i:Int)<(ns.length:Int):=by omega
   have hKi:(K:Int)<=90000000:=by omega
   have hKn:(K:Int)+1+2*(sn:Int)<=90000000:=by omega
   have hsi:(0:Int)<=(sn:Int):=by omega
   have H3:Hid _:=h3;have G1:Hid _:=g1;clear h3 h5 g1 g2 g3 g4 M1 hs hsn HM hK1
   go_wp2_with fail
   refine hC.mono ?_;rintro e w5 ⟨rfl,m5⟩;have M5:=HM1.out.trans m5;obtain⟨⟨u2,c2⟩,f2,M6⟩:=M5.slot H3.out (show o+i*5+2<cs.size by omega) (G1.out 2 (by omega) (by omega)) h1 h2;obtain⟨⟨u3,c3⟩,f3,-⟩:=M5.slot H3.out (show o+i*5+3<cs.size by omega) (G1.out 3 (by omega) (by omega)) h1 h2;obtain⟨⟨u4,c4⟩,f4,-⟩:=M5.slot H3.out (show o+i*5+4<cs.size by omega) (G1.out 4 (by omega) (by omega)) h1 h2;have HM8:Hid (∀x y z:Int,MkR lo T w (((w5.setCell ⟨b,o+i*5+2,none⟩ (.int .i64 x)).setCell ⟨b,o+i*5+3,none⟩ (.int .i64 y)).setCell ⟨b,o+i*5+4,none⟩ (.int .i64 z))):=fun x y z=>
    (((M6 (.int .i64 x) rfl).slot H3.out (show o+i*5+3<cs.size by omega) (G1.out 3 (by omega) (by omega)) h1 h2).2.2 (.int .i64 y) rfl).slot H3.out (show o+i*5+4<cs.size by omega) (G1.out 4 (by omega) (by omega)) h1 h2 |>.2.2 (.int .i64 z) rfl
   obtain⟨q,hq⟩:∃q:Int,(K:Int)+1+2*(sn:Int)=q:=⟨_,rfl⟩;have Hq:Hid _:=hq;have hq1:q<=90000000:=by omega
   have hq0:0<=q:=by omega
   rw[hq];clear hC m5 M5 M6 c0 f0 y1 hq hKn HM1 H3 G1;go_wp2
   go_roundw
   case rel=>exact⟨i+1,K+(4+2*sn),by omega,by go_num,by rw[show ((K+(4+2*sn):Nat):Int)=q+1+1+1 by have:=Hq.out;omega],HS1.out.symm,HM8.out _ _ _⟩
   case measure=>simp[intOf];omega
  ·have hii:i=ns.length:=by omega
   have e1:K=k+cNs ns:=by have:=HKK.out;rw[hii,zuq] at this;exact this
   rw[e1] at *;clear hii e1 HKK;go_wp2;go_ret;exact⟨rfl,HM.out⟩
theorem zhA(v:Value)(bs:List zai)(k:Nat)(w:World)(h:BraW lo T w v bs)(hk:k+cBs bs<=90000000):
  Calls Tryz.prog 29 #[v,.int .i64 (k:Int)] w fun e W=>e=.returned (.int .i64 ((k+cBs bs:Nat):Int))/\MkR lo T w W:=by
 obtain⟨ao,cap,rfl,h⟩:=h;have H:Hid _:=h;have hlen:(bs.length:Int)<=90000000:=by have:=ziD cBr (fun a=>by unfold cBr;omega) bs;unfold cBs at hk;omega
 have HK:Hid (∀i,k+((bs.take i).map cBr).sum<=90000000):=fun i=>by have:=zeU cBr bs i;unfold cBs at hk;omega
 clear h
 go_enter Tryz.func29,Tryz.ntmps29
 go_wp2
 go_loopw [1,5] (fun kv iv wr=>∃i K:Nat,i<=bs.length/\iv=.int .i64 i/\kv=.int .i64 (K:Int)/\Hid (K=k+((bs.take i).map cBr).sum)/\Hid (MkR lo T w wr)) (fun _ iv _=>bs.length-(intOf iv).toNat)
 case atStart=>exact⟨0,k,zuL _,rfl,rfl,by show _=_;simp,MkR.refl _ _ _⟩
 case round=>
  obtain⟨i,K,hi,rfl,rfl,HKK,HM⟩:=hrel
  by_cases hlt:i<bs.length
  ·obtain⟨b,o,cs,rfl,h1,h2,h3,h4,h5⟩:=H.out (by omega);obtain⟨g1,sv,g2,g3⟩:=h5 i hlt;have hs:=zi2 cBr .zero bs hlt;obtain⟨nd,hnd⟩:∃nd,(bs.getD i .zero).nodes=nd:=⟨_,rfl⟩;have HS1:Hid (k+((bs.take (i+1)).map cBr).sum=K+2+cNs nd):=by show _=_;rw[hs,HKK.out,<-hnd];unfold cBr;omega
   have hK1:=HK.out (i+1);rw[HS1.out] at hK1;rw[hnd] at g3;obtain⟨a,c,rfl,g4⟩:=id g3;have y2:wr.cell? ⟨b,o+i*3+2,none⟩=some (.slice a nd.length c):=HM.out.stay h3 g2 rfl;obtain⟨⟨u0,c0⟩,f0,M1⟩:=HM.out.slot h3 (show o+i*3<cs.size by omega) (g1 0 (by omega)) h1 h2;obtain⟨⟨u1,c1⟩,f1,-⟩:=HM.out.slot h3 (show o+i*3+1<cs.size by omega) (g1 1 (by omega)) h1 h2;have HM2:Hid (∀x y:Bool,MkR lo T w ((wr.setCell ⟨b,o+i*3,none⟩ (.bool x)).setCell ⟨b,o+i*3+1,none⟩ (.bool y))):=fun x y=>((M1 (.bool x) rfl).slot h3 (show o+i*3+1<cs.size by omega) (g1 1 (by omega)) h1 h2).2.2 (.bool y) rfl
   have HC:Hid (∀W,MkR lo T w W->Calls Tryz.prog 66 #[.slice a nd.length c,.int .i64 ((K+2:Nat):Int)] W fun e W'=>e=.returned (.int .i64 ((K+2+cNs nd:Nat):Int))/\MkR lo T w W'):=fun W hW=>(zjK _ nd (K+2) W (g3.mk hW) (by omega)).mono fun e W' hh=>⟨hh.1,hW.trans hh.2⟩
   have hi0:(0:Int)<=(i:Int):=by omega
   have hi1:(i:Int)<(bs.length:Int):=by omega
   have hKi:(K:Int)<=90000000:=by omega
   obtain⟨n3,hn3⟩:∃n3,nd.length=n3:=⟨_,rfl⟩;rw[hn3] at y2 HC;obtain⟨q,hq⟩:∃q:Nat,K+2+cNs nd=q:=⟨_,rfl⟩;rw[hq] at HC HS1;clear h3 h5 g1 g2 g3 g4 M1 hs hnd HM hK1 hn3 hq
   go_wp2_with fail
   have e2:(K:Int)+1+1=((K+2:Nat):Int):=by omega
   rw[e2];refine(HC.out _ (HM2.out _ _)).mono ?_;rintro e w5 ⟨rfl,m5⟩;have HM5:Hid _:=m5;clear m5 c0 c1 f0 f1 y2 HM2 HC e2;go_wp2
   go_roundw
   case rel=>exact⟨i+1,q,by omega,by go_num,rfl,HS1.out.symm,HM5⟩
   case measure=>simp[intOf];omega
  ·have hii:i=bs.length:=by omega
   have e1:K=k+cBs bs:=by have:=HKK.out;rw[hii,zuq] at this;exact this
   rw[e1] at *;clear hii e1 HKK;go_wp2;go_ret;exact⟨rfl,HM.out⟩
theorem zjL(v:Value)(rs:List za0)(k:Nat)(w:World)(h:RulW lo T w v rs)(hk:k+cRs rs<=90000000):
  Calls Tryz.prog 10 #[v,.int .i64 (k:Int)] w fun e W=>e=.returned (.int .i64 ((k+cRs rs:Nat):Int))/\MkR lo T w W:=by
 obtain⟨ao,cap,rfl,h⟩:=h;have H:Hid _:=h;have hlen:(rs.length:Int)<=90000000:=by have:=ziD cRl (fun a=>by unfold cRl;omega) rs;unfold cRs at hk;omega
 have HK:Hid (∀i,k+((rs.take i).map cRl).sum<=90000000):=fun i=>by have:=zeU cRl rs i;unfold cRs at hk;omega
 clear h
 go_enter Tryz.func10,Tryz.ntmps10
 go_wp2
 go_loopw [1,5] (fun kv iv wr=>∃i K:Nat,i<=rs.length/\iv=.int .i64 i/\kv=.int .i64 (K:Int)/\Hid (K=k+((rs.take i).map cRl).sum)/\Hid (MkR lo T w wr)) (fun _ iv _=>rs.length-(intOf iv).toNat)
 case atStart=>exact⟨0,k,zuL _,rfl,rfl,by show _=_;simp,MkR.refl _ _ _⟩
 case round=>
  obtain⟨i,K,hi,rfl,rfl,HKK,HM⟩:=hrel
  by_cases hlt:i<rs.length
  ·obtain⟨b,o,cs,rfl,h1,h2,h3,h4,h5⟩:=H.out (by omega);obtain⟨g1,sv,g2,g3⟩:=h5 i hlt;have hs:=zi2 cRl .zero rs hlt;obtain⟨bd,hbd⟩:∃bd,(rs.getD i .zero).branches=bd:=⟨_,rfl⟩;have HS1:Hid (k+((rs.take (i+1)).map cRl).sum=K+cBs bd+1):=by show _=_;rw[hs,HKK.out,<-hbd];unfold cRl;omega
   have hK1:=HK.out (i+1);rw[HS1.out] at hK1;rw[hbd] at g3;obtain⟨a,c,rfl,g4⟩:=id g3;have y2:wr.cell? ⟨b,o+i*2,none⟩=some (.slice a bd.length c):=HM.out.stay h3 g2 rfl;have hC:=zhA _ bd K wr (g3.mk HM.out) (by omega);have hi0:(0:Int)<=(i:Int):=by omega
   have hi1:(i:Int)<(rs.length:Int):=by omega
   obtain⟨n3,hn3⟩:∃n3,bd.length=n3:=⟨_,rfl⟩;rw[hn3] at y2 hC;obtain⟨q,hq⟩:∃q:Nat,K+cBs bd=q:=⟨_,rfl⟩;rw[hq] at hC HS1 hK1;have hqi:(q:Int)<=90000000:=by omega
   have H3:Hid _:=h3;have G1:Hid _:=g1;clear h3 h5 g1 g2 g3 g4 hs hbd hn3 hq hK1
   go_wp2_with fail
   refine hC.mono ?_;rintro e w5 ⟨rfl,m5⟩;have M5:=HM.out.trans m5;obtain⟨⟨u2,c2⟩,f2,M6⟩:=M5.slot H3.out (show o+i*2+1<cs.size by omega) G1.out h1 h2;have HM6:Hid _:=M6 (.int .i64 (q:Int)) rfl;clear hC m5 M5 M6 y2 H3 G1 HM;go_wp2
   go_roundw
   case rel=>exact⟨i+1,q+1,by omega,by go_num,by go_num,HS1.out.symm,HM6⟩
   case measure=>simp[intOf];omega
  ·have hii:i=rs.length:=by omega
   have e1:K=k+cRs rs:=by have:=HKK.out;rw[hii,zuq] at this;exact this
   rw[e1] at *;clear hii e1 HKK;go_wp2;go_ret;exact⟨rfl,HM.out⟩
end
attribute [local go_sem ↓] Go.wp_at_zero Go.wp_at_succ
theorem zkz(n:Nat)(h:n<4294967296):bits BinOp.and IntKind.u64 (n:Int) 4294967295=(n:Int):=by
 have h1:(BitVec.ofInt 64 (n:Int) &&& BitVec.ofInt 64 (4294967295:Int)).toNat=n:=by
  rw[show (4294967295:Int)=((4294967295:Nat):Int) from rfl,BitVec.ofInt_natCast,BitVec.ofInt_natCast,BitVec.toNat_and,BitVec.toNat_ofNat,BitVec.toNat_ofNat,zuF (by omega),zuF (by omega)];have:=Nat.and_two_pow_sub_one_eq_mod n 32;rw[show (2 ^ 32-1:Nat)=4294967295 from rfl] at this;rw[this];exact zuF (by omega)
 show IntKind.u64.wrap ((BitVec.ofInt 64 (n:Int) &&& BitVec.ofInt 64 (4294967295:Int)).toNat:Int)=_;rw[h1];simp[IntKind.wrap,IntKind.bits,IntKind.signed];omega
theorem zq1(n:Nat)(w:World)(hn:n<=4000):
  Calls Tryz.prog 102 #[.int .u64 1,.int .u64 (n:Int)] w fun e w'=>e=.returned (.tuple #[.int .u64 0,.int .u64 (n:Int)])/\w'=w:=by
 have h1:=zkz n (by omega);have h2:bits BinOp.and IntKind.u64 1 4294967295=1:=zkz 1 (by omega);have h3:bits BinOp.and IntKind.u64 0 4294967295=0:=zkz 0 (by omega);have hi:(n:Int)<=4000:=by omega
 go_enter Tryz.func102,Tryz.ntmps102
 have h4:(n:Int)/4294967296=0:=by omega
 go_wp2;refine zuN (v:=.tuple #[.int .u64 0,.int .u64 (n:Int)]) (by simp[results,Tryz.results102,go_sem]) rfl ⟨rfl,rfl⟩
theorem zrF(n:Nat)(w:World)(hn:n<=4000):
  Calls Tryz.prog 79 #[.int .u64 1,.int .u64 (n:Int)] w fun e w'=>e=.returned (.tuple #[.int .u64 0,.int .u64 (n:Int)])/\w'=w:=by
 have hm:=zq1 n w hn
 go_enter Tryz.func79,Tryz.ntmps79
 go_wp2_with (go_at_call 102;refine hm.mono ?_;rintro e w' ⟨rfl,hw'⟩;subst w')
 refine zuN (v:=.tuple #[.int .u64 0,.int .u64 (n:Int)]) (by simp[results,Tryz.results79,go_sem]) rfl ⟨rfl,rfl⟩
def repL(x:Int)(n j:Nat):List Value:=(List.range n).map fun i=>.int .i64 (if i<j then x else 0)
theorem zc2(x:Int)(n j:Nat):(repL x n j).length=n:=by simp[repL]
theorem zc1(x:Int){n j i:Nat}(h:i<n):(repL x n j)[i]?=some (.int .i64 (if i<j then x else 0)):=by simp[repL,h]
theorem zlu(x:Int){n j c:Nat}(h:j+c<=n):splice (repL x n j) j (List.replicate c (.int .i64 x))=repL x n (j+c):=by
 apply ztL
 intro i;unfold splice;have hl:=zc2 x n j;rw[zt6]
 by_cases h1:i<j
 ·rw[ztQ (by rw[zt8];omega),ztY,zuV h1,zc1 x (by omega),zc1 x (by omega),zuV h1,zuV (by omega)]
 ·rw[ztR (by rw[zt8];omega),zt8,hl,zuE (by omega)]
  by_cases h2:i<j+c
  ·rw[ztQ (by rw[zt6];omega),zc1 x (by omega),zuV h2,List.getElem?_replicate,zuV (by omega)]
  ·rw[ztR (by rw[zt6];omega),zt6,ztS,show j+c+(i-j-c)=i by omega]
   by_cases h3:i<n
   ·rw[zc1 x h3,zc1 x h3,zuU h1,zuU h2]
   ·rw[ztU (by rw[zc2];omega),ztU (by rw[zc2];omega)]
theorem zqX(x:Int)(n:Nat):(madeCells (Value.int .i64 0).cells (n*1)).toList=repL x n 0:=by
 apply ztL
 intro i
 by_cases h:i<n
 ·rw[zc1 x h];simp[madeCells,Value.cells,Nat.mod_one,h]
 ·rw[ztU (by simp[madeCells];omega),ztU (by rw[zc2];omega)]
theorem zb8{w:World}{base:Nat}{e:TypeId}{g n sz:Nat}{xs:List Value}(h:w.ownsRow base e sz (.slice (some ⟨g,0,none⟩) n n) n xs):w.heap[g]?=some (.cells xs.toArray e (0,0)):=by
 rcases h.2 with ⟨h,_⟩|⟨g',cap,cr,h,_,hrow,_,_,hsz,htk⟩
 ·cases h
 ·cases h
  rw[hrow]
  congr 2
  apply Array.ext'
  rw[zur (by simp[hsz])] at htk;rw[htk]
theorem Tryz.sizeInt:(Tryz.prog.info? 3).map (·.size)=some 1:=by kernel_rfl
def cpyD(ats:Array TypeId)(ty:TypeId)(args:Array Value):Sem Value:=Builtin.copy_ ats ty args
theorem zog(ty:TypeId)(args:Array Value):Builtin.copy_ #[24,24] ty args=cpyD #[24,24] ty args:=rfl
attribute [local go_sem ↓] zog
theorem zl3(x:Int){n j c g dc sl sc:Nat}{a:Addr}{W:World}(hR:W.heap[g]?=some (.cells (repL x n j).toArray 3 (0,0)))(hj:j<=n)(hc:c=min sl (n-j))(hs:∀i,i<c->W.cell? (a.add i)=some (.int .i64 x))(ty:TypeId)(dl:Nat)(hdl:dl=n-j):
  ∃W',(cpyD #[24,24] ty #[.slice (some ⟨g,j,none⟩) dl dc,.slice (some a) sl sc]).run Tryz.prog W=.ok (.int .i64 (c:Int)) W'/\W'.heap[g]?=some (.cells (repL x n (j+c)).toArray 3 (0,0))/\W.grownBy W' (some g):=by
 have h:=run_copy_row (P:=Tryz.prog) W 24 24 ty 3 g j dl dc a sl sc (repL x n j).toArray 3 (List.replicate c (.int .i64 x)) Tryz.underlying24 Tryz.sizeInt hR (by rw[zt6,hdl];exact hc)
  (fun i v hv=>by
   by_cases hi:i<c
   ·rw[List.getElem?_replicate,zuV hi] at hv;cases hv;exact hs i hi
   ·rw[List.getElem?_replicate,zuU hi] at hv;cases hv) (by rw[zt6,zuo,zc2];omega) (by intro v hv;rw[List.mem_replicate] at hv;rw[hv.2];rfl)
 rw[zt6] at h;refine⟨_,h,?_,⟨rfl,rfl,rfl,by simp[World.setRow],fun k _ hk=>setRow_other W g k _ (fun e=>hk (by rw[e]))⟩⟩;rw[setRow_heap W g _ _ _ _ hR];have e:=zlu x (n:=n) (j:=j) (c:=c) (by omega);unfold splice at e;rw[zt6] at e;rw[ztD,e]
theorem zpl(x:Int)(g0 n:Nat)(w:World)(hx:w.cell? ⟨g0,0,none⟩=some (.int .i64 x))(hg0:g0<w.heap.size)(hn1:1<=n)(hn:n<=4000):
  Calls Tryz.prog 93 #[.slice (some ⟨g0,0,none⟩) 1 1,.int .i64 (n:Int)] w fun e w'=>e=.returned (.slice (some ⟨w.heap.size,0,none⟩) n n)/\w'.heap[w.heap.size]?=some (.cells (repL x n n).toArray 3 (0,0))/\Below w.heap.size w w':=by
 obtain⟨i0,hi,hz0,hz1,hz2⟩:=info_parts Tryz.infoInt;have hm:=zrF n w hn;have hi1:(1:Int)<=n:=by omega
 have hi2:(n:Int)<=4000:=by omega
 go_enter Tryz.func93,Tryz.ntmps93
 go_wp2_with (first|(go_at_call 79;refine hm.mono ?_;rintro e w' ⟨rfl,hw'⟩;subst w')|(refine wpList_make_full _ rfl _ _ 24 rfl w.heap.size 3 i0 _ 1 Tryz.underlying24 hi hz0 hz1 _ _ _ _ n rfl rfl rfl rfl (by rw[hz2];omega) (by unfold maxLen;omega) (zuz _) ?_;intro w1 hown1 hgrow1;have hb1:Below w.heap.size w w1:=(Below.refl _ _).grown hgrow1 (zuz _) (by intro k h;cases h);have HR:Hid (w1.heap[w.heap.size]?=some (.cells (repL x n 0).toArray 3 (0,0))):=(by have h:=zb8 hown1;rw[zqX x] at h;exact h);clear hown1 hgrow1;obtain⟨w2,hcp,hR2,hg2⟩:=zl3 x (sc:=1) (a:=⟨g0,0,none⟩) (dc:=n) HR.out (zuL _) (c:=1) (sl:=1) (by omega) (fun i hi=>by have e:i=0:=(by omega);subst e;exact(hb1.cell (p:=⟨g0,0,none⟩) hg0).trans hx) 3 n rfl;have HR2:Hid _:=hR2;have hB2:Hid (Below w.heap.size w w2):=hb1.grown hg2 hb1.size (fun q e=>by cases e;exact zuz _);clear hR2 hg2))
 clear hx hcp hb1 hm HR
 go_loopw [8] (fun i wr=>∃(j:Nat),1<=j/\j<=n/\i=.int .i64 j/\Hid (wr.heap[w.heap.size]?=some (.cells (repL x n j).toArray 3 (0,0)))/\Hid (Below w.heap.size w wr))
  (fun i _=>n-(intOf i).toNat)
 case atStart=>exact⟨1,zuz _,hn1,rfl,HR2,hB2⟩
 case round=>
  obtain⟨j,hj1,hj,rfl,HR,HB⟩:=hrel
  by_cases hj2:j<n
  ·have hi3:(j:Int)<(n:Int):=by omega
   have hi4:¬n=j:=by omega
   obtain⟨c,hc⟩:∃c,c=min j (n-j):=⟨_,rfl⟩;obtain⟨w5,hcp,hR5,hg5⟩:=zl3 x (W:=wr.drew) (sc:=n) (a:=⟨w.heap.size,0,none⟩) (dc:=n-j) HR.out hj (c:=c) (sl:=j) hc (fun i hi=>by
    have e:(⟨w.heap.size,0,none⟩:Addr).add i=⟨w.heap.size,i,none⟩:=by unfold Addr.add;split<;>simp_all
    have hr:wr.drew.heap[w.heap.size]?=some (.cells (repL x n j).toArray 3 (0,0)):=HR.out;rw[e,zuO _ _ _ _ _ _ hr,ztZ,zc1 x (by omega),zuV (by omega)]) 3 (n-j) rfl
   have HR5:Hid _:=hR5;have HB5:Hid (Below w.heap.size w w5):=by
    have hB1:Below w.heap.size w wr.drew:=HB.out.trans ⟨rfl,rfl,rfl,zuz _,fun _ _=>rfl⟩;exact hB1.grown hg5 hB1.size (fun q e=>by cases e;exact zuz _)
   have hc1:1<=c:=by omega
   have hc2:j+c<=n:=by omega
   have hc3:(j:Int)+(c:Int)<=4000:=by omega
   clear hR5 hg5 hc;go_wp2
   go_big_region
   go_wp2
   go_roundw
   case rel=>exact⟨j+c,by omega,hc2,by simp,HR5,HB5⟩
   case measure=>simp[intOf];omega
  ·have hjj:j=n:=by omega
   subst hjj;go_wp2;refine zuN (v:=.slice (some ⟨w.heap.size,0,none⟩) j j) (by simp[results,Tryz.results93,go_sem]) rfl ⟨rfl,HR.out,HB.out⟩
end Go.Proofs.YthddplbodacjgaaGreatDoor
