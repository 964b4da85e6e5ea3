import Derived.Test.YthddplbodacjgaaGreatDoorC39
namespace Go.Proofs.YthddplbodacjgaaGreatDoor
set_option maxHeartbeats 8000000
set_option maxRecDepth 100000
open Go.RowKit
attribute [local go_sem ↓] Go.wp_at_zero Go.wp_at_succ
variable {V w3 w:World}{nw g1 c1 mT gs n:Nat}{bs:List BrG}{t0 e0:Int}{gt:Nat -> Nat}{X:Nat -> Nat -> Nat}
def zmN(bs:List BrG):List Int:=(List.range 256).map fun c=>(clsG bs c:Int)
noncomputable def exL (bs:List BrG) (a b:Nat) (nx:List Nat):Nat->List Int:=fun i=>if i=0 then zmN bs else if i=1 then nx.map (fun(x:Nat)=>(x:Int)) else if i=2 then tagL bs false a else if i=3 then tagL bs true b else []
theorem zsc(bs:List BrG)(a b:Nat)(nx:List Nat){x:Int}(hx:x=ansG bs (a==0) (setI bs a) false):updL (exL bs a b nx) 2 (tagL bs false a++[x])=exL bs (a+1) b nx:=by
 funext i
 unfold updL exL
 by_cases h:i=2
 ·subst h;simp[zfi,hx]
 ·simp[h]
theorem zsb(bs:List BrG)(a b:Nat)(nx:List Nat){x:Int}(hx:x=ansG bs (b==0) (setI bs b) true):updL (exL bs a b nx) 3 (tagL bs true b++[x])=exL bs a (b+1) nx:=by
 funext i
 unfold updL exL
 by_cases h:i=3
 ·subst h;simp[zfi,hx]
 ·simp[h]
theorem zqu(bs:List BrG)(a b:Nat)(nx:List Nat){x:Nat}:updL (exL bs a b nx) 1 (nx.map (fun(x:Nat)=>(x:Int))++[(x:Int)])=exL bs a b (nx++[x]):=by
 funext i
 unfold updL exL
 by_cases h:i=1
 ·subst h;simp
 ·simp[h]
def exV(cv:Value):Nat->Value:=fun i=>if i=0 then cv else .slice none 0 0
theorem ExS.start{W1:World}{g0 c0 gN:Nat}(hb:Below V.heap.size V W1)(res:W1.heap[V.heap.size]?=some (.cells zbf 26 (0,0)))(oC:W1.ownsRow (V.heap.size+1) 3 1 (.slice (some ⟨g0,0,none⟩) 256 c0) 256 (intL (zmN bs)))(tr:W1.ownsRow (V.heap.size+1) 105 1 (.slice (some ⟨g1,0,none⟩) mT c1) mT (slcL gt nw mT))(tk:∀j,j<mT->zaB W1 nw (gt j) (X j))(width:Int)
  (hb3:Below (W1.alloc (.cells (rowD width (exV (.slice (some ⟨g0,0,none⟩) 256 c0))) 26)).heap.size (W1.alloc (.cells (rowD width (exV (.slice (some ⟨g0,0,none⟩) 256 c0))) 26)) w3) (hp:zaB w3 nw gN zbm):
  ExS V (((w3.alloc (.cells #[.slice (some ⟨gN,0,none⟩) nw nw] 105)).alloc (.map #[] 0)).alloc (.cells #[.slice (some ⟨gs,0,none⟩) nw nw,.int .i64 t0,.int .i64 e0] 108)) W1.heap.size (w3.heap.size+1) (w3.heap.size+1+1) nw width (exV (.slice (some ⟨g0,0,none⟩) 256 c0)) (exL bs 0 0 []) w3.heap.size 1 1 (fun _=>gN) (fun _=>zbm) [] gs t0 e0 g1 c1 mT gt X:=by
 have hl:=zae res;have b2:Below W1.heap.size W1 (W1.alloc (.cells (rowD width (exV (.slice (some ⟨g0,0,none⟩) 256 c0))) 26)):=(Below.refl _ _).alloc (zuz _) _;have b3:Below W1.heap.size W1 w3:=b2.trans (hb3.mono b2.size);have s3:W1.heap.size+1<=w3.heap.size:=by have:=hb3.size;simpa using this
 have b4:Below w3.heap.size w3 (((w3.alloc (.cells #[.slice (some ⟨gN,0,none⟩) nw nw] 105)).alloc (.map #[] 0)).alloc (.cells #[.slice (some ⟨gs,0,none⟩) nw nw,.int .i64 t0,.int .i64 e0] 108)):=(((Below.refl _ _).alloc (zuz _) _).alloc (by simp) _).alloc (by simp;omega) _;have b14:=b3.trans (b4.mono b3.size);obtain⟨q1,q2,-,-⟩:=zaV tr;refine⟨hb.trans (b14.mono hb.size),zab res b14,?_,zab (zab (zuR _ _) hb3) b4,?_,fun i _=>hp.below b4,zao (zbD (by simp)),zbD (by simp),zad tr b14,fun j hj=>(tk j hj).below b14,by omega,by omega,by omega,by omega⟩
 ·refine Fam.below (W:=W1) ⟨fun i hi=>?_,fun i j hi hj hne b hb=>?_⟩ b14
  ·unfold Owns
   match i,hi with
   |0,_=>
    have e0:exL bs 0 0 [] 0=zmN bs:=zuV rfl;have e1:exV (.slice (some ⟨g0,0,none⟩) 256 c0) 0=.slice (some ⟨g0,0,none⟩) 256 c0:=zuV rfl;have e2:(zmN bs).length=256:=by unfold zmN;rw[zt3,zt5]
    rw[e0,e1,e2];exact oC
   |1,_=>exact⟨rfl,.inl ⟨rfl,rfl⟩⟩
   |2,_=>exact⟨rfl,.inl ⟨rfl,rfl⟩⟩
   |3,_=>exact⟨rfl,.inl ⟨rfl,rfl⟩⟩
  ·intro e;unfold exV at hb e
   by_cases hi0:i=0
   ·rw[zuU (by omega)] at e;cases e
   ·rw[zuU hi0] at hb;cases hb
 ·exact⟨rfl,.inr ⟨w3.heap.size,1,#[.slice (some ⟨gN,0,none⟩) nw nw],rfl,by omega,zao (zao (zuR _ _)),zuz _,by unfold maxLen;omega,rfl,rfl⟩⟩
theorem ExS.num{W:World}{pd r pO:Nat}{width:Int}{v:Nat->Value}{ls:Nat->List Int}{gv cv m:Nat}{gx:Nat->Nat}{Ts:Nat->Nat->Nat}{keys:List ByteArray}{gO:Nat}{tO eO:Int}(h:ExS V W pd r pO nw width v ls gv cv m gx Ts keys gO tO eO g1 c1 mT gt X)(i:Nat)(hi:i<4)(off:Nat)(ho:offD i=off)(hof:(rowD width v)[off]?=some (v i))(xs:List Int)(hxs:ls i=xs)(q:Nat)(hq:xs.length=q)(hl:q<=2000000)(y:Int):
  ∃(a:Option Addr) (p g c:Nat) (w':World),W.cell? ⟨pd,off,none⟩=some (.slice a q p)/\(appD #[24,24] 24 #[.slice a q p,.slice (some ⟨W.heap.size,0,none⟩) 1 1]).run Tryz.prog (W.alloc (.cells #[.int .i64 y] 3))=.ok (.slice (some ⟨g,0,none⟩) (q+1) c) w'/\w'.cell? ⟨pd,off,none⟩=some (.slice a q p)/\w'.frozen? ⟨pd,off,none⟩=false/\Hid (ExS V (w'.setCell ⟨pd,off,none⟩ (.slice (some ⟨g,0,none⟩) (q+1) c)) pd r pO nw width (upd v i (.slice (some ⟨g,0,none⟩) (q+1) c)) (updL ls i (xs++[y])) gv cv m gx Ts keys gO tO eO g1 c1 mT gt X)/\W.heap.size<=w'.heap.size/\(∀(b:Nat) (cs:Array Value) (t:TypeId),t≠3->t≠26->W.heap[b]?=some (.cells cs t (0,0))->(w'.setCell ⟨pd,off,none⟩ (.slice (some ⟨g,0,none⟩) (q+1) c)).heap[b]?=some (.cells cs t (0,0))):=by
 obtain⟨⟨a,p⟩,e⟩:=zaj (h.fam.own i hi);rw[hxs,hq] at e;dsimp only at e;obtain⟨g,c,w',hap,hF,hg⟩:=zdo h.fam i hi xs hxs q hq _ e y hl (by have:=zae h.res;omega) 24;obtain⟨bx,hE⟩:=h.field hi ho hF hg;refine⟨a,p,g,c,w',?_,hap,?_,zuQ _ _ _ _ _ bx,hE,hg.size,fun b cs t h1 h2 hb=>?_⟩
 ·rw[zuO _ _ _ _ _ _ h.bd,hof,e]
 ·rw[zuO _ _ _ _ _ _ bx,hof,e]
 ·have hb1:=h.fam.others hi hg h1 hb;exact(zuS _ _ _ _ (by show b≠pd;rintro rfl;rw[bx] at hb1;exact h2 (zak hb1).symm)).trans hb1
theorem zn4(g c:Nat)(k:Int):Tryz.prog.built 26 [(0,.slice (some ⟨g,0,none⟩) 256 c),(1,.int .i64 k)]=some #[.slice (some ⟨g,0,none⟩) 256 c,.int .i64 k,.slice none 0 0,.slice none 0 0,.slice none 0 0]:=by kernel_rfl
theorem zmL:Tryz.prog.built 26 []=some #[.slice none 0 0,.int .i64 0,.slice none 0 0,.slice none 0 0,.slice none 0 0]:=by kernel_rfl
def bldX(t:TypeId)(parts:Array (Nat×Value)):Sem Value:=Instr.build t parts
theorem zhN(parts:Array (Nat×Value)):Instr.build 26 parts=bldX 26 parts:=rfl
theorem zsx(g c:Nat)(k:Int)(W:World):(bldX 26 #[(0,.slice (some ⟨g,0,none⟩) 256 c),(1,.int .i64 k)]).run Tryz.prog W=.ok (.agg #[.slice (some ⟨g,0,none⟩) 256 c,.int .i64 k,.slice none 0 0,.slice none 0 0,.slice none 0 0]) W:=run_build W _ _ _ (zn4 g c k)
theorem ziW(W:World):(bldX 26 #[]).run Tryz.prog W=.ok (.agg #[.slice none 0 0,.int .i64 0,.slice none 0 0,.slice none 0 0,.slice none 0 0]) W:=run_build W _ _ _ zmL
attribute [local go_sem ↓] zhN zdU zfL
theorem zlo{C:Array Value}{t:TypeId}(hb:Below (w.alloc (.cells C t)).drew.heap.size (w.alloc (.cells C t)).drew w3):w3.heap[w.heap.size]?=some (.cells C t (0,0)):=(hb.block w.heap.size (by show w.heap.size<(w.alloc (.cells C t)).heap.size;simp)).trans (zuR _ _)
structure OpG(V:World)(nw:Nat)(bs:List BrG)(φ:Nat->Nat->Nat)(fst:Bool)(gO:Nat)(tO eO:Int)(AO:Nat->Nat):Prop where
 pos:zaB V nw gO AO
 bit:OpnB bs φ fst AO
 tag:zbF (EmpR bs fst false) tO
 fin:zbF (EmpR bs fst true) eO
def ExI(V:World)(pd r pO nw:Nat)(bs:List BrG)(n:Nat)(f:Nat->Nat->Bool)(φ:Nat->Nat->Nat)(g1 c1:Nat)(gt:Nat->Nat)(fst:Bool)(a b:Nat)(L:List St)(nx:List Nat)(gv cv:Nat)(W:World):Prop:=
 ∃(v:Nat->Value) (gx:Nat->Nat) (Ts:Nat->Nat->Nat) (gO:Nat) (tO eO:Int) (AO:Nat->Nat),ExS V W pd r pO nw ((hdsG bs).length:Int) v (exL bs a b nx) gv cv L.length gx Ts (zed nw Ts L.length) gO tO eO g1 c1 (hdsG bs).length gt (fun j=>zcn n f ((hdsG bs).getD j 0))/\(∀i,i<L.length->SetP bs φ (L.getD i zaZ) (Ts i))/\OpG V nw bs φ fst gO tO eO AO
def ExR(V:World)(bs:List BrG)(most:Nat)(e:Ending)(W:World):Prop:=
 Below V.heap.size V W/\(((∃k0,RefG bs most k0)/\e=.returned (.tuple #[.agg zbf,.bool false]))\/∃K v,EndG bs most K/\e=.returned (.tuple #[.agg (rowD ((hdsG bs).length:Int) v),.bool true])/\Fam V.heap.size 4 W v (exL bs K K (runG bs K).2))
theorem zfD{base:Nat}{e:TypeId}{g cap:Nat}{xs:List Value}(h:w.ownsRow base e 1 (.slice (some ⟨g,0,none⟩) n cap) n xs):∃cur:Array Value,w.heap[g]?=some (.cells cur e (0,0))/\∀p,p<n->cur[p]?=xs[p]?:=by
 rcases h.2 with ⟨h0,_⟩|⟨g',cap',cur,hv,hg,hh,hnc,_,hsz,ht⟩
 ·cases h0
 ·cases hv
  refine⟨cur,hh,fun p hp=>?_⟩;rw[<-ht,ztY,zuV (by omega),Array.getElem?_toList]
theorem zmV{s bt gl gf wt:Nat}{sv fv:Value}{mk:Nat->Nat}{f:Nat->Nat->Bool}{fr:Nat->Nat}{F:Nat->Nat->Nat}{φ:Nat->Nat->Nat}{A0 A1:Nat->Nat}{t1 e1:Int}{tg fn:Nat->Int}(h:NsI w V s bt nw gs gl gf wt bs n sv fv mk f fr F φ A0 A1 t0 e0 t1 e1 tg fn)(hnw:n<=wt)(hw64:wt<=64*nw)(hrl:∀(k:Nat) (b:BrG),bs[k]?=some b->b.rule<=99)(most:Nat)(hm1:1<=most)(hm4:most<=4000):
  Calls Tryz.prog 25 #[.pointer (some ⟨s,0,none⟩),.int .i64 (most:Int)] V (ExR V bs most):=by
 obtain⟨iI,hjI,hyI0,hyI1,hyI2⟩:=info_parts Tryz.infoInt;obtain⟨iP,hjP,hyP0,hyP1,hyP2⟩:=info_parts Tryz.infoPos;have hnwl:=h.tk.nwl;have hhl:=zgE bs;have hhp:=zoB bs;have H:=hdn h;have HRL:=hdn hrl;have hmm:=@run_makeMap Tryz.prog;obtain⟨V1,hV1⟩:∃V1,V.alloc (.cells zbf 26)=V1:=⟨_,rfl⟩;have hb1:Below V.heap.size V V1:=by rw[<-hV1];exact(Below.refl _ _).alloc (zuz _) _
 have hz1:V1.heap.size=V.heap.size+1:=by rw[<-hV1];simp
 have HX1:=hdn (show V1.heap[V.heap.size]?=some (.cells zbf 26 (0,0)) by rw[<-hV1];exact zuR _ _);have hbc:=zhv (h.below hb1);have HZ1:=hdn hz1;have HB1:=hdn hb1;unfold zbf at hV1;clear h hb1 hz1 hrl
 go_enter Tryz.func25,Tryz.ntmps25
 go_wp2_with fail
 refine hbc.mono ?_;rintro e W1 ⟨g0,c0,g1,c1,gt,rfl,hbW,oC,oT,tk⟩;rw[HZ1.out] at oC oT;have HBW:=hdn (HB1.out.trans (hbW.mono HB1.out.size));have HX2:=hdn (zab HX1.out hbW);have HOC:Hid (W1.ownsRow (V.heap.size+1) 3 1 (.slice (some ⟨g0,0,none⟩) 256 c0) 256 (intL (zmN bs))):=oC;have HOT:=hdn oT;have HTK:=hdn tk;clear hbc hV1 hbW oC oT tk HX1 HB1 HZ1;generalize hwd:(hdsG bs).length=wd at *;have HWD:=hdn hwd;clear hwd;have hbd:=zsx g0 c0 (wd:Int);obtain⟨W2,hW2⟩:∃W2,W1.alloc (.cells #[.slice (some ⟨g0,0,none⟩) 256 c0,.int .i64 (wd:Int),.slice none 0 0,.slice none 0 0,.slice none 0 0] 26)=W2:=⟨_,rfl⟩;have hb2:Below W1.heap.size W1 W2:=by rw[<-hW2];exact(Below.refl _ _).alloc (zuz _) _
 have hV2:Below V.heap.size V W2:=HBW.out.trans (hb2.mono HBW.out.size);have hN2:=H.out.below hV2;have qs:W2.cell? ⟨s,0,none⟩=some (.pointer (some ⟨bt,0,none⟩)):=(zuO _ _ _ _ _ _ hN2.box:W2.cell? ⟨s,0,none⟩=_);have hno:=zeq nw bt _ _ W2 hN2.tk.box hnwl;have HW2:=hdn hW2;have HV2:=hdn hV2;clear hb2 hV2 hN2;clear hW2
 go_upto_region 3 with fail
 rw[HW2.out];clear hbd
 go_wp2_with fail
 refine hno.mono ?_;rintro e w3 ⟨rfl,hp3,hg3⟩;have hb3:Below W2.heap.size W2 w3:=(Below.refl _ _).grown hg3 (zuz _) (fun k e=>by cases e);have hV3:Below V.heap.size V w3:=HV2.out.trans (hb3.mono HV2.out.size);have hN3:=H.out.below hV3;have k1:w3.cell? ⟨s,1,none⟩=some (.slice (some ⟨gs,0,none⟩) nw nw):=(zuO _ _ _ _ _ _ hN3.box:w3.cell? ⟨s,1,none⟩=_);have k2:w3.cell? ⟨s,1+1,none⟩=some (.int .i64 t0):=(zuO _ _ _ _ _ _ hN3.box:w3.cell? ⟨s,2,none⟩=_);have k3:w3.cell? ⟨s,1+2,none⟩=some (.int .i64 e0):=(zuO _ _ _ _ _ _ hN3.box:w3.cell? ⟨s,3,none⟩=_);have hsl:=zae hN3.box;have hS0:=ExS.start (gs:=gs) (t0:=t0) (e0:=e0) HBW.out HX2.out HOC.out HOT.out HTK.out (wd:Int) (by have e:W1.alloc (.cells (rowD (wd:Int) (exV (.slice (some ⟨g0,0,none⟩) 256 c0))) 26)=W2:=HW2.out;rw[e];exact hb3) hp3;obtain⟨gN,hgN⟩:∃gN,W2.heap.size=gN:=⟨_,rfl⟩;rw[hgN] at hS0 ⊢;clear hgN;obtain⟨W4,HW4⟩:∃W4,Hid (((w3.alloc (.cells #[.slice (some ⟨gN,0,none⟩) nw nw] 105)).alloc (.map #[] 0)).alloc (.cells #[.slice (some ⟨gs,0,none⟩) nw nw,.int .i64 t0,.int .i64 e0] 108)=W4):=⟨_,rfl⟩;rw[HW4.out] at hS0;have HI0:Hid (ExI V W1.heap.size (w3.heap.size+1) (w3.heap.size+1+1) nw bs n f φ g1 c1 gt true 0 0 (runG bs 0).1 (runG bs 0).2 w3.heap.size 1 W4):=by
  refine⟨exV (.slice (some ⟨g0,0,none⟩) 256 c0),fun _=>gN,fun _=>zbm,gs,t0,e0,A0,?_,fun i hi=>?_,⟨H.out.p0,H.out.o0,H.out.l0,H.out.m0⟩⟩
  ·rw[HWD.out];exact hS0
  ·have:i=0:=by have:i<1:=hi;omega
   subst this;exact zpA bs φ
 clear hS0 hno qs hN3 hp3 hg3 hb3 HX2 HOC HOT HTK HBW HW2 HV2
 go_wp2_with fail
 rw[HW4.out];clear HW4 k1 k2 k3 hmm;generalize W1.heap.size=pd at *;obtain⟨gv0,Hgv0⟩:∃gv0,w3.heap.size=gv0:=⟨_,rfl⟩;rw[Hgv0] at HI0 ⊢;obtain⟨pO,hpO⟩:∃pO,gv0+1+1=pO:=⟨_,rfl⟩;rw[hpO] at HI0 ⊢;obtain⟨r,hr⟩:∃r,gv0+1=r:=⟨_,rfl⟩;rw[hr] at HI0 ⊢;clear Hgv0 hpO hr hsl hV3
 go_loopw [9,12] (fun sv i wr=>∃(k gv cv m:Nat),i=.int .i64 k/\sv=.slice (some ⟨gv,0,none⟩) m cv/\k<=m/\m<=most/\Hid ((runG bs k).1.length=m)/\Hid (∀j,j<k->j<(runG bs j).1.length/\(runG bs (j+1)).1.length<=most)/\Hid (ExI V pd r pO nw bs n f φ g1 c1 gt (k==0) k k (runG bs k).1 (runG bs k).2 gv cv wr)) (fun _ i _=>4001-(intOf i).toNat)
 case atStart=>exact⟨0,gv0,1,1,rfl,rfl,by omega,hm1,rfl,fun j hj=>absurd hj (zuI _),HI0⟩
 case round=>
  clear HI0;obtain⟨k,gv,cv,m,rfl,rfl,hkm,hmm4,Hm,Hgo,HI⟩:=hrel
  by_cases hlt:k<m
  ·obtain⟨v,gx,Ts,gO,tO,eO,AO,hE,hSP,hOp⟩:=HI.out;rw[Hm.out] at hE hSP;have hst:=hE.st k hlt;obtain⟨cu,hcu,hcx⟩:=zfD hE.so;have zv:∀X,Below wr.heap.size wr X->X.cell? ⟨gv,k,none⟩=some (.slice (some ⟨gx k,0,none⟩) nw nw):=fun X hX=>by
    rw[zuO _ _ _ _ _ _ (zab hcu hX),hcx k hlt];simp[slcL,hlt]
   have zo:∀X,Below wr.heap.size wr X->X.cell? ⟨pO,0,none⟩=some (.slice (some ⟨gO,0,none⟩) nw nw)/\X.cell? ⟨pO,1,none⟩=some (.int .i64 tO)/\X.cell? ⟨pO,2,none⟩=some (.int .i64 eO):=fun X hX=>by
    obtain⟨a,b,c,-,-,-⟩:=zac (zab hE.bo hX);exact⟨a,b,c⟩
   obtain⟨tagv,Htag⟩:∃tagv,Hid (tagv=ansG bs (k==0) (setI bs k) false):=⟨_,rfl⟩;obtain⟨finv,Hfin⟩:∃finv,Hid (finv=ansG bs (k==0) (setI bs k) true):=⟨_,rfl⟩;have hfa:Hid (∀X,Below wr.heap.size wr X->Calls Tryz.prog 55 #[.pointer (some ⟨s,0,none⟩),.slice (some ⟨gx k,0,none⟩) nw nw,.agg #[.slice (some ⟨gO,0,none⟩) nw nw,.int .i64 tO,.int .i64 eO]] X fun e w'=>e=.returned (.agg #[.int .i64 tagv,.int .i64 finv])/\Below X.heap.size X w'/\Below wr.heap.size wr w'):=fun X hX=>by
    have hVX:Below V.heap.size V X:=hE.bel.trans (hX.mono hE.bel.size);have hN:=H.out.below hVX;have hsp:=hSP k hlt;refine(zmW s bt nw gs gl gf wt (gx k) nw gO t0 e0 t1 e1 (Ts k) tg fn (EmpR bs (k==0) false) (EmpR bs (k==0) true) tO eO X hN.box hN.row (hst.below hX) (fun p hp=>by have:=hsp.lt hN.nm hp;omega) hOp.tag hOp.fin (fun p _=>hN.top p) hnwl hw64 hN.tk.bru).mono ?_;rintro e w' ⟨tt,te,l1,l2,rfl,hb⟩;have f1:=zjt (l1.congr fun r=>(zjz hsp hN.gt HRL.out r).symm) HRL.out;have f2:=zjt (l2.congr fun r=>(zjz hsp hN.gn HRL.out r).symm) HRL.out;rw[f1,f2,Htag.out,Hfin.out];exact⟨rfl,hb,hX.trans (hb.mono hX.size)⟩
   have HH:Hid (∀X,Below wr.heap.size wr X->X.cell? ⟨gv,k,none⟩=some (.slice (some ⟨gx k,0,none⟩) nw nw)/\X.cell? ⟨pO,0,none⟩=some (.slice (some ⟨gO,0,none⟩) nw nw)/\X.cell? ⟨pO,1,none⟩=some (.int .i64 tO)/\X.cell? ⟨pO,2,none⟩=some (.int .i64 eO)):=fun X hX=>⟨zv X hX,zo X hX⟩
   have HS:Hid (∀(wx:World) (g:Nat) (u0 u1:Value),wr.heap.size<=g->Below wr.heap.size wr wx->((wx.setCell ⟨g,0,none⟩ u0).setCell ⟨g,1,none⟩ u1).cell? ⟨gv,k,none⟩=some (.slice (some ⟨gx k,0,none⟩) nw nw)/\((wx.setCell ⟨g,0,none⟩ u0).setCell ⟨g,1,none⟩ u1).cell? ⟨pO,0,none⟩=some (.slice (some ⟨gO,0,none⟩) nw nw)/\((wx.setCell ⟨g,0,none⟩ u0).setCell ⟨g,1,none⟩ u1).cell? ⟨pO,1,none⟩=some (.int .i64 tO)/\((wx.setCell ⟨g,0,none⟩ u0).setCell ⟨g,1,none⟩ u1).cell? ⟨pO,2,none⟩=some (.int .i64 eO)):=fun wx g u0 u1 hg hb=>HH.out _ ((hb.setCell (p:=⟨g,0,none⟩) hg _).setCell (p:=⟨g,1,none⟩) hg _)
   have hi0:(0:Int)<=(k:Int):=by omega
   have hi1:(k:Int)<(m:Int):=by omega
   have HE:=hdn hE;have HSP:=hdn hSP;have HOP:=hdn hOp;have HST:=hdn hst;clear hE hSP hOp hst hcu hcx zv zo HI
   go_upto_region 9 with fail
   go_cut [13] from 46 to 52 (fun tv wx=>∃pA:Nat,tv=.pointer (some ⟨pA,0,none⟩)/\wr.heap.size<=pA/\Below wr.heap.size wr wx/\wx.heap[pA]?=some (.cells #[.int .i64 tagv,.int .i64 finv] 103 (0,0)))
   case first=>
    clear HE HSP HOP HST H HRL Hm Hgo Htag Hfin HWD
    go_region_held3 (fun wx=>wx.cell? ⟨gv,k,none⟩=some (.slice (some ⟨gx k,0,none⟩) nw nw)/\wx.cell? ⟨pO,0,none⟩=some (.slice (some ⟨gO,0,none⟩) nw nw)/\wx.cell? ⟨pO,1,none⟩=some (.int .i64 tO)/\wx.cell? ⟨pO,2,none⟩=some (.int .i64 eO)) ((first|((with_reducible refine HS.out _ _ _ _ ?_ (by first|exact BA|exact BA.alloc BA.size _));first|exact zuz _|exact BA.size)|with_reducible exact HH.out _ (Below.refl _ _)|with_reducible exact HH.out _ (Below.refl _ _).drew|with_reducible exact HH.out _ ((Below.refl _ _).alloc (zuz _) _)|with_reducible exact HH.out _ ((Below.refl _ _).drew.alloc (zuz _) _)|with_reducible exact HH.out _ ((Below.refl _ _).alloc (zuz _) _).drew|with_reducible exact HH.out _ BA|with_reducible exact HH.out _ (BA.alloc BA.size _)|fail)) ((go_at_call 55;(with_reducible refine(hfa.out _ (by first|exact(Below.refl _ _).drew|exact(Below.refl _ _)|exact(Below.refl _ _).alloc (zuz _) _|exact(Below.refl _ _).drew.alloc (zuz _) _|exact((Below.refl _ _).alloc (zuz _) _).drew)).mono ?_);rintro e wa ⟨rfl,Ba,BA⟩;(first|((with_reducible have zr:=zlo Ba);(have zf0:=zuQ _ _ 0 _ _ zr);(have zf1:=zuQ _ _ 1 _ _ zr);(obtain⟨z0,z1⟩:=zal zr))|skip)))
    ·go_wp2_with fail
     go_meet
     exact⟨_,rfl,BA.size,BA.alloc BA.size _,zuR _ _⟩
    ·go_wp2_with fail
     go_meet
     exact⟨_,rfl,zuz _,(BA.setCell (p:=⟨wr.heap.size,0,none⟩) (zuz _) _).setCell (p:=⟨wr.heap.size,1,none⟩) (zuz _) _,zuT _ _ _ _ _ _ (zuT _ _ _ _ _ _ zr)⟩
   case rest=>
    obtain⟨pA,rfl,hpA,hbA,xA⟩:=hcut;clear hfa HH HS;obtain⟨qa0,qa1⟩:=zal xA;have hE1:=HE.out.on hbA;obtain⟨a2,p2,g2,c2,w5,y3,hap5,y35,f35,HE5,-,hk5⟩:=hE1.num 2 (by omega) 3 rfl rfl (tagL bs false k) rfl k (zdu _ _ _) (by omega) tagv;have xA5:=hk5 _ _ _ (by decide) (by decide) xA;obtain⟨W5,HW5⟩:∃W5,Hid (w5.setCell ⟨pd,3,none⟩ (.slice (some ⟨g2,0,none⟩) (k+1) c2)=W5):=⟨_,rfl⟩;rw[HW5.out] at HE5 xA5;rw[zsc bs k k _ Htag.out] at HE5;have HXA5:=hdn xA5;clear hE1 hk5 xA5 xA HE
    go_upto_region 11 with fail
    rw[HW5.out];clear HW5 hap5 y3 y35 f35 qa0 qa1;obtain⟨qb0,qb1⟩:=zal HXA5.out;obtain⟨a3,p3,g3,c3,w6,y4,hap6,y46,f46,HE6,-,-⟩:=HE5.out.num 3 (by omega) 4 rfl rfl (tagL bs true k) rfl k (zdu _ _ _) (by omega) finv;obtain⟨W6,HW6⟩:∃W6,Hid (w6.setCell ⟨pd,4,none⟩ (.slice (some ⟨g3,0,none⟩) (k+1) c3)=W6):=⟨_,rfl⟩;rw[HW6.out] at HE6;rw[zsb bs (k+1) k _ Hfin.out] at HE6;clear HE5 HXA5
    go_upto_region 12 with fail
    rw[HW6.out];clear HW6 hap6 y4 y46 f46 qb0 qb1;have hV6:=HE6.out.bel;have hN6:=H.out.below hV6;have hsp:=HSP.out k hlt;have zs6:W6.cell? ⟨s,0,none⟩=some (.pointer (some ⟨bt,0,none⟩)):=(zuO _ _ _ _ _ _ hN6.box:W6.cell? ⟨s,0,none⟩=_);obtain⟨cu6,hcu6,hcx6⟩:=zfD HE6.out.so;have zv6:W6.cell? ⟨gv,k,none⟩=some (.slice (some ⟨gx k,0,none⟩) nw nw):=by
     rw[zuO _ _ _ _ _ _ hcu6,hcx6 k hlt];simp[slcL,hlt]
    have hst6:=HE6.out.st k hlt;have haf:Hid (Calls Tryz.prog 56 #[.pointer (some ⟨bt,0,none⟩),.slice (some ⟨gx k,0,none⟩) nw nw] W6.drew fun e w'=>∃(gR:Nat) (U:Nat->Nat),e=.returned (.slice (some ⟨gR,0,none⟩) nw nw)/\W6.heap.size<=gR/\zaB w' nw gR U/\Hid (∀q,zaA U q=true↔∃p,zaA (Ts k) p=true/\zaA (F p) q=true)/\Below W6.heap.size W6 w'):=by
     have hbd:Below W6.heap.size W6 W6.drew:=(Below.refl _ _).drew;have hNd:=hN6.below hbd;refine(zqh n nw bt (gx k) nw _ _ fr F (Ts k) W6.drew hNd.tk.box (fun hn=>?_) hNd.tk.fol (hst6.below hbd) (fun p _ hb=>hsp.lt hNd.nm hb) hnwl hNd.tk.bru (zbz hNd.tk.bru)).mono ?_
     ·obtain⟨gf',cf,cur,k1,k2,k3⟩:=hNd.tk.l.fv hn;refine⟨gf',cf,k1,(ztp.1 k2).1,fun p hp=>by rw[zuO _ _ _ _ _ _ k2];exact k3 p hp,fun p hp e=>?_⟩;have:=(hNd.tk.fol.rows p hp).row;rw[e,k2] at this;exact absurd (zak this) (by decide)
     ·rintro e w' ⟨gR,U,rfl,h2,h3,h4,h5⟩;refine⟨gR,U,rfl,h2,h3,fun q=>(h4 q).trans ⟨fun⟨p,_,a,b⟩=>⟨p,a,b⟩,fun⟨p,a,b⟩=>⟨p,?_,a,b⟩⟩,⟨h5.os,h5.tape,h5.output,h5.size,h5.block⟩⟩;have:=hsp.lt hNd.nm a;have:=hNd.tk.n64;omega
    clear hN6 hcu6 hcx6 hst6 hV6
    go_cut [14] from 67 to 75 (fun tv wx=>∃(gR:Nat) (U:Nat->Nat),tv=.slice (some ⟨gR,0,none⟩) nw nw/\W6.heap.size<=gR/\zaB wx nw gR U/\Hid (∀q,zaA U q=true↔∃p,zaA (Ts k) p=true/\zaA (F p) q=true)/\Below W6.heap.size W6 wx)
    case first=>
     clear HE6 HSP HOP HST H HRL Hm Hgo Htag Hfin HWD hsp;have lgv:gv<W6.heap.size:=block_lt_of_cell zv6;have lss:s<W6.heap.size:=block_lt_of_cell zs6
     go_region_held3 (fun w'=>w'.cell? ⟨s,0,none⟩=some (.pointer (some ⟨bt,0,none⟩))/\w'.cell? ⟨gv,k,none⟩=some (.slice (some ⟨gx k,0,none⟩) nw nw)) ((first|exact⟨zs6,zv6⟩|exact⟨zs7,zv7⟩|go_keep)) ((go_at_call 56;refine haf.out.mono ?_;rintro e w7 ⟨gR,U,rfl,hgR,hpR,hUb,hb7⟩;have zs7:=(hb7.cell (p:=⟨s,0,none⟩) lss).trans zs6;have zv7:=(hb7.cell (p:=⟨gv,k,none⟩) lgv).trans zv6))
     go_wp2_with fail
     go_meet
     exact⟨gR,U,rfl,hgR,hpR,hUb,hb7⟩
    case rest=>
     obtain⟨gR,U,rfl,hgR,hpR,HUb,hb7⟩:=hcut;clear haf zs6 zv6;have hE7:=HE6.out.on hb7;obtain⟨o0,o1,o2,-,-,-⟩:=zac hE7.bo;have hgOl:gO<V.heap.size:=HOP.out.pos.glt;have hV7:=hE7.bel;have hgOR:gR≠gO:=by have:=HE6.out.bel.size;omega
     have hjn:=zdx nw gR gO nw nw U AO wc hpR (HOP.out.pos.below hV7) hgOR hnwl;have HE7:=hdn hE7;have Hb7:=hdn hb7;have hpl:=hpR.glt;clear hE7 hb7 hpR o1 o2
     go_wp2_with fail
     refine hjn.mono ?_;rintro e w8 ⟨rfl,hp8,hg8⟩;have hb8:Below W6.heap.size W6 w8:=Hb7.out.grown hg8 Hb7.out.size (fun q e=>by cases e;exact hgR);have HE8:=hdn (HE6.out.on hb8);clear hjn o0 HE7 Hb7 hg8 HE6 hb8;have hc3:=@zj1 bs (k==0) (setI bs k) (runG bs k);have HI8:Hid (ExI V pd r pO nw bs n f φ g1 c1 gt (k==0) (k+1) (k+1) (zb6 bs (k==0) (setI bs k) (runG bs k) 0).1 (zb6 bs (k==0) (setI bs k) (runG bs k) 0).2 gv cv w8):=by
      rw[hc3];have hE8':=HE8.out;rw[<-Hm.out] at hE8';exact⟨_,gx,Ts,gO,tO,eO,AO,hE8',by rw[Hm.out];exact HSP.out,HOP.out⟩
     have HSk:Hid (SetP bs φ (setI bs k) (Ts k)):=HSP.out k hlt;have HOB:=hdn HOP.out.bit;obtain⟨R,HR⟩:∃R,Hid (orT U AO=R):=⟨_,rfl⟩;rw[HR.out] at hp8;have HRB:Hid (∀q,zaA R q=true↔((∃p,zaA (Ts k) p=true/\zaA (F p) q=true)\/zaA AO q=true)):=fun q=>by rw[<-HR.out,zg3,ztw,HUb.out q]
     clear hc3 HE8 HSP HOP HST HR HUb Htag Hfin hsp;obtain⟨st0,Hst0⟩:∃st0,Hid (runG bs k=st0):=⟨_,rfl⟩;obtain⟨Sk,HSK⟩:∃Sk,Hid (setI bs k=Sk):=⟨_,rfl⟩;rw[HSK.out] at HSk HI8;have HR0:=hdn (zfE bs k)
     go_wp2_with fail
     go_loopw [9,82] (fun sv i wr=>∃(j gv cv m2:Nat),j<=wd/\i=.int .i64 j/\sv=.slice (some ⟨gv,0,none⟩) m2 cv/\m2<=m+j/\m<=m2/\Hid ((zb6 bs (k==0) Sk (runG bs k) j).1.length=m2)/\zaB wr nw gR R/\Hid (ExI V pd r pO nw bs n f φ g1 c1 gt (k==0) (k+1) (k+1) (zb6 bs (k==0) Sk (runG bs k) j).1 (zb6 bs (k==0) Sk (runG bs k) j).2 gv cv wr)) (fun _ i _=>wd-(intOf i).toNat)
     case atStart=>exact⟨0,gv,cv,m,zuL _,rfl,rfl,by omega,zuz _,by show _=_;rw[zj1];exact Hm.out,hp8,HI8⟩
     case round=>
      clear HI8 hp8;obtain⟨j,gv2,cv2,m2,hj,rfl,rfl,hma,hmb,Hm2,hpR,HI2⟩:=hrel
      by_cases hjt:j<wd
      ·obtain⟨v2,gx2,Ts2,gO2,tO2,eO2,AO2,hE,hSP2,hOp2⟩:=HI2.out;have hjt':j<(hdsG bs).length:=by rw[HWD.out];exact hjt
       have HPS:=hdn (zes bs (k==0) Sk (runG bs k) hjt');have hcl:=zrC bs hjt';have hri:=(HR0.out.part (bs:=bs) (fst:=k==0) (S:=Sk) j (Nat.le_of_lt hjt')).nl;have hm20:0<m2:=by omega
       have hLm0:=Hm2.out;obtain⟨L,nx,HPJ⟩:∃L nx,Hid (zb6 bs (k==0) Sk (runG bs k) j=(L,nx)):=by
        cases hst:zb6 bs (k==0) Sk (runG bs k) j with
        |mk L nx=>exact⟨L,nx,rfl⟩
       rw[HPJ.out] at HPS hE hSP2 hri hLm0;dsimp only at hE hSP2 hri hLm0;rw[hLm0] at hE hSP2;have HLm:=hdn hLm0;clear hLm0;have hnl:nx.length<=1100000:=by
        have e1:nx.length=k*(hdsG bs).length+j:=hri;have e2:k*(hdsG bs).length<=4000*256:=zuG (by omega) (zgE bs);omega
       obtain⟨q,Hq⟩:∃q,Hid (nx.length=q):=⟨_,rfl⟩;have hql:q<=2000000:=by have:=Hq.out;omega
       obtain⟨X,HX⟩:∃X,Hid (zcn n f ((hdsG bs).getD j 0)=X):=⟨_,rfl⟩;have htk:zaB wr nw (gt j) X:=by rw[<-HX.out];exact hE.tk j hjt'
       obtain⟨cut,hcut,hcutx⟩:=zfD hE.tr;have zt:wr.cell? ⟨g1,j,none⟩=some (.slice (some ⟨gt j,0,none⟩) nw nw):=by
        rw[zuO _ _ _ _ _ _ hcut,hcutx j hjt'];simp[slcL,hjt']
       have hcm:=zod nw gR (gt j) nw nw R X wr hpR htk hnwl;obtain⟨S',HS'⟩:∃S',Hid (stpG bs (k==0) Sk ((hdsG bs).getD j 0)=S'):=⟨_,rfl⟩;have hXb:∀q,zaA X q=true↔q<n/\f q ((hdsG bs).getD j 0)=true:=fun q=>by
        have h9:=zhh n f ((hdsG bs).getD j 0) q;rw[HX.out] at h9;exact h9
       have hUb2:∀q,zaA (andT R X) q=true↔((∃p,zaA (Ts k) p=true/\zaA (F p) q=true)\/zaA AO q=true)/\zaA X q=true:=fun q=>by
        rw[zql,ztt];exact and_congr (HRB.out q) Iff.rfl
       have hSS:=SetP.step (c:=(hdsG bs).getD j 0) HSk.out H.out.nm HOB.out hcl hXb hUb2;rw[HS'.out] at hSS;have HSS:=hdn hSS;clear hXb hUb2 hSS;have HTL:Hid (∀i,andT R X i<18446744073709551616):=znZ hpR.lt;have HIX:Hid (1+idxR (zed nw Ts2 m2) (keyB nw (andT R X))=nxtI L S'):=by
        have:=zoJ (nw:=nw) (L:=L) (Ts:=Ts2) H.out.nm H.out.tk.n64 (fun i hi=>⟨hSP2 i (by rw[<-HLm.out];exact hi),(hE.st i (by rw[<-HLm.out];exact hi)).lt⟩) HSS.out HTL.out;rw[HLm.out] at this;exact this
       have hnle:=zrI L S' (by rw[HLm.out];exact hm20);rw[HLm.out] at hnle;have HE:=hdn hE;have HSP2:=hdn hSP2;have HOP2:=hdn hOp2;have HPR:=hdn hpR;have hi0:(0:Int)<=(j:Int):=by omega
       have hi1:(j:Int)<(wd:Int):=by omega
       clear hE hSP2 hOp2 hpR htk hcut hcutx hri HI2 hcl hjt' HX
       go_wp2_with fail
       refine hcm.mono ?_;rintro e w5 ⟨rfl,hp5,hb5⟩;obtain⟨gN,hgN⟩:∃gN,wr.heap.size=gN:=⟨_,rfl⟩;rw[hgN] at hp5 ⊢;have hky:=zoI nw gN nw (andT R X) w5 hp5 hnwl;obtain⟨T',HT'⟩:∃T',Hid (andT R X=T'):=⟨_,rfl⟩;rw[HT'.out] at hp5 hky HSS HTL HIX;clear hcm zt;have hE5:=HE.out.on hb5;have HPN5:=hdn hp5;have HPR5:=hdn (HPR.out.below hb5);have HE5:=hdn hE5;clear hE5 hp5 hb5 hgN HE HPR
       go_wp2_with fail
       refine hky.mono ?_;rintro e w6 ⟨rfl,hb6⟩;have hE6:=HE5.out.on hb6;have HPN6:=hdn (HPN5.out.below hb6);have HPR6:=hdn (HPR5.out.below hb6);have hnum:=zfC r (zed nw Ts2 m2) (keyB nw T') w6 hE6.mp;have HE6:=hdn hE6;obtain⟨ix,Hix⟩:∃ix,Hid (idxR (zed nw Ts2 m2) (keyB nw T')=ix):=⟨_,rfl⟩;obtain⟨key,Hkey⟩:∃key,Hid (keyB nw T'=key):=⟨_,rfl⟩;obtain⟨keys,Hkeys⟩:∃keys,Hid (zed nw Ts2 m2=keys):=⟨_,rfl⟩;have HIN:Hid (key∈keys↔nxtI L S'<m2):=by
        have h9:=zcr (ks:=zed nw Ts2 m2) (k:=keyB nw T');rw[zjB] at h9;rw[<-Hkey.out,<-Hkeys.out];show _↔_;rw[<-h9];have:=HIX.out;omega
       have HNI:Hid ((1:Int)+(ix:Int)=((nxtI L S':Nat):Int)):=by
        have h9:=HIX.out;rw[Hix.out] at h9;show _=_;omega
       have hixl:ix<=5000:=by
        have h9:=HIX.out;rw[Hix.out] at h9;omega
       unfold NumR at hnum;rw[Hkeys.out,Hkey.out] at hnum Hix;rw[Hkey.out];rw[Hkeys.out] at HE6;rw[Hix.out] at hnum;have hixi:(ix:Int)<=5000:=by omega
       clear hE6 hky HE5 HPN5 HPR5 hb6;have fin:∀(W:World) (gv' cv' m':Nat) (gx':Nat->Nat) (Ts':Nat->Nat->Nat) (L':List St),ExS V W pd r pO nw ((hdsG bs).length:Int) v2 (exL bs (k+1) (k+1) nx) gv' cv' m' gx' Ts' (zed nw Ts' m') gO2 tO2 eO2 g1 c1 (hdsG bs).length gt (fun j=>zcn n f ((hdsG bs).getD j 0))->zaB W nw gR R->L'.length=m'->(∀i,i<m'->SetP bs φ (L'.getD i zaZ) (Ts' i))->zb6 bs (k==0) Sk (runG bs k) (j+1)=(L',nx++[nxtI L S'])->
         ∃(a:Option Addr) (p g c:Nat) (w':World),W.cell? ⟨pd,2,none⟩=some (.slice a q p)/\(appD #[24,24] 24 #[.slice a q p,.slice (some ⟨W.heap.size,0,none⟩) 1 1]).run Tryz.prog (W.alloc (.cells #[.int .i64 (1+(ix:Int))] 3))=.ok (.slice (some ⟨g,0,none⟩) (q+1) c) w'/\w'.cell? ⟨pd,2,none⟩=some (.slice a q p)/\w'.frozen? ⟨pd,2,none⟩=false/\Hid (zaB (w'.setCell ⟨pd,2,none⟩ (.slice (some ⟨g,0,none⟩) (q+1) c)) nw gR R/\ExI V pd r pO nw bs n f φ g1 c1 gt (k==0) (k+1) (k+1) (zb6 bs (k==0) Sk (runG bs k) (j+1)).1 (zb6 bs (k==0) Sk (runG bs k) (j+1)).2 gv' cv' (w'.setCell ⟨pd,2,none⟩ (.slice (some ⟨g,0,none⟩) (q+1) c))/\(zb6 bs (k==0) Sk (runG bs k) (j+1)).1.length=m'):=by
        intro W gv' cv' m' gx' Ts' L' hE hpR hLm hSP hpj;obtain⟨a,p,g,c,w',y2,hap,y22,f22,HEn,-,hk⟩:=hE.num 1 (by omega) 2 rfl rfl (nx.map (fun(x:Nat)=>(x:Int))) rfl q (by rw[zt3];exact Hq.out) hql (1+(ix:Int));rw[HNI.out,zqu] at HEn;refine⟨a,p,g,c,w',y2,hap,y22,f22,⟨hk _ _ _ (by decide) (by decide) hpR.row,hpR.lt⟩,?_,?_⟩
        ·rw[hpj];dsimp only;have hEn:=HEn.out;rw[<-hLm] at hEn;exact⟨_,gx',Ts',gO2,tO2,eO2,AO2,hEn,by rw[hLm];exact hSP,HOP2.out⟩
        ·rw[hpj];exact hLm
       by_cases hq:nxtI L S'<m2
       ·have hin:=HIN.out.2 hq;have ead:addR keys key=keys:=zuV hin;rw[ead] at hnum;have hnum:=hnum.mono (R':=fun e w'=>e=.returned (.tuple #[.int .i64 (ix:Int),.bool false])/\w'.heap[r]?=some (.map (regE Value.string keys) keys.length)/\w6.grownBy w' (some r)) (by rintro e w' ⟨a,b,c⟩;exact⟨by rw[a];simp[hin],b,c⟩);have hpj:zb6 bs (k==0) Sk (runG bs k) (j+1)=(L,nx++[nxtI L S']):=by
         rw[HPS.out];exact zpS (by rw[HS'.out]) (by rw[HLm.out];exact hq)
        have Hpj:=hdn hpj;clear hin ead hpj hq HIN HPS HIX
        go_wp2_with fail
        refine hnum.mono ?_;rintro e w7 ⟨rfl,hm7,hg7⟩;have hE7:=HE6.out.reg hg7 hm7;rw[<-Hkeys.out] at hE7;have hpR7:zaB w7 nw gR R:=⟨(hg7.block _ HPR6.out.glt (fun e=>by have e2:=Option.some.inj e;have q1:=HPR6.out.row;rw[e2] at q1;exact za7 (q1.symm.trans HE6.out.mp))).trans HPR6.out.row,HPR6.out.lt⟩;obtain⟨a,p,g,c,w8,y2,hap,y22,f22,HF⟩:=fin w7 gv2 cv2 m2 gx2 Ts2 L hE7 hpR7 HLm.out HSP2.out Hpj.out;clear fin hnum hE7 hpR7 hm7 hg7 HE6 HPR6 HPN6 HSP2 HSS HTL HOP2 Hpj HPJ;go_wp2
        go_roundw
        case rel=>exact⟨j+1,gv2,cv2,m2,by omega,by go_num,rfl,by omega,hmb,HF.out.2.2,HF.out.1,HF.out.2.1⟩
        case measure=>simp[intOf];omega
       ·have hin:¬key∈keys:=fun h=>hq (HIN.out.1 h)
        have hnx:nxtI L S'=L.length:=by rw[HLm.out];omega
        have ead:addR keys key=zed nw (fun i=>if i=m2 then T' else Ts2 i) (m2+1):=by
         unfold addR;rw[zuU hin,<-Hkeys.out,<-Hkey.out];exact zm5 nw Ts2 T' hm20
        rw[ead] at hnum;have hnum:=hnum.mono (R':=fun e w'=>e=.returned (.tuple #[.int .i64 (ix:Int),.bool true])/\w'.heap[r]?=some (.map (regE Value.string (zed nw (fun i=>if i=m2 then T' else Ts2 i) (m2+1))) (zed nw (fun i=>if i=m2 then T' else Ts2 i) (m2+1)).length)/\w6.grownBy w' (some r)) (by rintro e w' ⟨a,b,c⟩;exact⟨by rw[a];simp only[hin,not_false_eq_true,decide_true],b,c⟩);have hpj:zb6 bs (k==0) Sk (runG bs k) (j+1)=(L++[S'],nx++[nxtI L S']):=by
         rw[HPS.out,hnx];have h9:=zpU (bs:=bs) (fst:=k==0) (S:=Sk) (L:=L) (nx:=nx) (c:=(hdsG bs).getD j 0) (by rw[HS'.out];exact hnx);rw[HS'.out] at h9;exact h9
        have Hpj:=hdn hpj;clear hin ead hpj hq HIN HPS HIX hnx
        go_wp2_with fail
        refine hnum.mono ?_;rintro e w7 ⟨rfl,hm7,hg7⟩;have hkc:∀(b:Nat) (cs:Array Value) (t:TypeId),w6.heap[b]?=some (.cells cs t (0,0))->w7.heap[b]?=some (.cells cs t (0,0)):=fun b cs t hb=>(hg7.block _ (zae hb) (fun e=>by have e2:=Option.some.inj e;rw[e2] at hb;exact za7 (hb.symm.trans HE6.out.mp))).trans hb
        have hE7:=HE6.out.reg hg7 hm7;have hpN7:zaB w7 nw gN T':=⟨hkc _ _ _ HPN6.out.row,HPN6.out.lt⟩;obtain⟨g9,c9,w9,hap9,ho9,hg9,hat9⟩:=zkC Tryz.underlying119 hjP hyP0 hyP1 hyP2 rfl (by omega) hE7.so (by have:=zae hE7.res;omega) (by omega) (.slice (some ⟨gN,0,none⟩) nw nw) rfl 119;have hE9:=hE7.push ho9 hg9 hat9 hpN7;obtain⟨cuv,hcuv⟩:=zdf hE7.so;have hpR9:zaB w9 nw gR R:=⟨(hg9.block _ (zae (hkc _ _ _ HPR6.out.row)) (fun e=>by have e2:=Option.some.inj e;have q1:=hkc _ _ _ HPR6.out.row;rw[e2,hcuv] at q1;exact absurd (zak q1) (by decide))).trans (hkc _ _ _ HPR6.out.row),HPR6.out.lt⟩;obtain⟨a,p,g,c,w8,y2,hap,y22,f22,HF⟩:=fin w9 g9 c9 (m2+1) _ _ (L++[S']) hE9 hpR9 (by simp[HLm.out]) (fun i hi=>by
         by_cases e:i=m2
         ·subst e;simp only[zuV];have e2:(L++[S']).getD i zaZ=S':=by rw[<-HLm.out];simp[List.getD]
          rw[e2];exact HSS.out
         ·simp only[zuU e];rw[zjw (by rw[HLm.out];omega)];exact HSP2.out i (by omega)) Hpj.out
        clear fin hnum hE7 hm7 hg7 HE6 HPR6 HPN6 HSP2 HSS HTL HOP2 Hpj HPJ hE9 hpR9 ho9 hg9 hat9 hpN7 hkc hcuv;go_wp2
        go_roundw
        case rel=>exact⟨j+1,g9,c9,m2+1,by omega,by go_num,rfl,by omega,by omega,HF.out.2.2,HF.out.1,HF.out.2.1⟩
        case measure=>simp[intOf];omega
      ·have hjj:j=(hdsG bs).length:=by have:=HWD.out;omega
       have er:zb6 bs (k==0) Sk (runG bs k) j=runG bs (k+1):=by
        rw[hjj,<-HSK.out,zfe]
        rfl
       have HLk:Hid ((runG bs (k+1)).1.length=m2):=by rw[<-er];exact Hm2
       have HIk:Hid (ExI V pd r pO nw bs n f φ g1 c1 gt (k==0) (k+1) (k+1) (runG bs (k+1)).1 (runG bs (k+1)).2 gv2 cv2 wr):=by rw[<-er];exact HI2
       obtain⟨v2,gx2,Ts2,gO2,tO2,eO2,AO2,hE,hSP2,hOp2⟩:=HIk.out;have hi1:¬(j:Int)<(wd:Int):=by omega
       by_cases hbig:most<m2
       ·have hbi:(most:Int)<(m2:Int):=by omega
        have HRf:Hid (∃k0,RefG bs most k0):=⟨k,Hgo.out,by rw[Hm.out];exact hlt,by rw[HLk.out];exact hbig⟩;have hvd:=ziW;have z:=hE.res;have fz:∀o,wr.frozen? ⟨V.heap.size,o,none⟩=false:=fun _=>zuQ _ _ _ _ _ z
        unfold zbf at z;obtain⟨y0,y1,y2,y3,y4⟩:=zaq z;have HBL:=hdn hE.bel;clear hE hSP2 hOp2 HIk HI2 er hjj HLk HSk HOB HRB HSK Hst0 HR0 hpR z Hm2 Hm Hgo HRL H hbig;go_wp2;refine zuN (v:=.tuple #[.agg #[.slice none 0 0,.int .i64 0,.slice none 0 0,.slice none 0 0,.slice none 0 0],.bool false]) (by simp[results,Tryz.results25,go_sem,y0,y1,y2,y3,y4]) rfl ?_;exact⟨zbn HBL.out (zuz _) _ _ _ _ _,.inl ⟨HRf.out,rfl⟩⟩
       ·have hbi:¬(most:Int)<(m2:Int):=by omega
        have hNr:=H.out.below hE.bel;have k4:wr.cell? ⟨s,4,none⟩=some (.slice (some ⟨gl,0,none⟩) nw nw):=(zuO _ _ _ _ _ _ hNr.box:wr.cell? ⟨s,4,none⟩=_);have k5:wr.cell? ⟨s,4+1,none⟩=some (.int .i64 t1):=(zuO _ _ _ _ _ _ hNr.box:wr.cell? ⟨s,5,none⟩=_);have k6:wr.cell? ⟨s,4+2,none⟩=some (.int .i64 e1):=(zuO _ _ _ _ _ _ hNr.box:wr.cell? ⟨s,6,none⟩=_);obtain⟨o0,o1,o2,fo0,fo1,fo2⟩:=zac hE.bo;have HEo:Hid (ExI V pd r pO nw bs n f φ g1 c1 gt (k+1==0) (k+1) (k+1) (runG bs (k+1)).1 (runG bs (k+1)).2 gv2 cv2 (((wr.setCell ⟨pO,0,none⟩ (.slice (some ⟨gl,0,none⟩) nw nw)).setCell ⟨pO,1,none⟩ (.int .i64 t1)).setCell ⟨pO,2,none⟩ (.int .i64 e1))):=⟨v2,gx2,Ts2,gl,t1,e1,A1,hE.opn gl t1 e1,hSP2,⟨H.out.p1,H.out.o1,H.out.l1,H.out.m1⟩⟩;have HGo2:Hid (∀i,i<k+1->i<(runG bs i).1.length/\(runG bs (i+1)).1.length<=most):=fun i hi=>by
         by_cases e:i<k
         ·exact Hgo.out i e
         ·obtain rfl:i=k:=by omega
          exact⟨by rw[Hm.out];exact hlt,by rw[HLk.out];omega⟩
        clear hE hSP2 hOp2 HIk HI2 er hjj HSk HOB HRB HSK Hst0 HR0 hpR hNr Hm2 Hm Hgo HRL H;go_wp2
        go_roundw
        case rel=>exact⟨k+1,gv2,cv2,m2,by go_num,rfl,by omega,by omega,HLk,HGo2,HEo⟩
        case measure=>simp[intOf];omega
  ·have hkk:k=m:=by omega
   obtain⟨v,gx,Ts,gO,tO,eO,AO,hE,hSP,hOp⟩:=HI.out;have HEG:Hid (EndG bs most k):=⟨by rw[Hm.out,hkk],Hgo.out⟩;have z:=hE.res;have fz:∀o,wr.frozen? ⟨V.heap.size,o,none⟩=false:=fun _=>zuQ _ _ _ _ _ z
   unfold zbf at z;obtain⟨y0,y1,y2,y3,y4⟩:=zaq z;obtain⟨⟨a0,p0⟩,d0⟩:=zaj (hE.fam.own 0 (by omega));obtain⟨⟨a1,p1⟩,d1⟩:=zaj (hE.fam.own 1 (by omega));obtain⟨⟨a2,p2⟩,d2⟩:=zaj (hE.fam.own 2 (by omega));obtain⟨⟨a3,p3⟩,d3⟩:=zaj (hE.fam.own 3 (by omega));obtain⟨n0,hn0⟩:∃n0,(exL bs k k (runG bs k).2 0).length=n0:=⟨_,rfl⟩;obtain⟨n1,hn1⟩:∃n1,(exL bs k k (runG bs k).2 1).length=n1:=⟨_,rfl⟩;obtain⟨n2,hn2⟩:∃n2,(exL bs k k (runG bs k).2 2).length=n2:=⟨_,rfl⟩;obtain⟨n3,hn3⟩:∃n3,(exL bs k k (runG bs k).2 3).length=n3:=⟨_,rfl⟩;rw[hn0] at d0;rw[hn1] at d1;rw[hn2] at d2;rw[hn3] at d3;dsimp only at d0 d1 d2 d3;have hbd:=hE.bd;have Hrow:Hid (rowD ((hdsG bs).length:Int) v=#[.slice a0 n0 p0,.int .i64 (wd:Int),.slice a1 n1 p1,.slice a2 n2 p2,.slice a3 n3 p3]):=by
    show _=_;unfold rowD;rw[d0,d1,d2,d3,HWD.out]
   rw[Hrow.out] at hbd;obtain⟨b0,b1,b2,b3,b4⟩:=zaq hbd;have HF:=hdn hE.fam;have HBL:=hdn hE.bel;have hi1:¬(k:Int)<(m:Int):=by omega
   clear hE hSP hOp HI z d0 d1 d2 d3 hn0 hn1 hn2 hn3 hbd Hgo HRL H hkk;go_wp2;refine zuN (v:=.tuple #[.agg #[.slice a0 n0 p0,.int .i64 (wd:Int),.slice a1 n1 p1,.slice a2 n2 p2,.slice a3 n3 p3],.bool true]) (by simp[results,Tryz.results25,go_sem,y0,y1,y2,y3,y4]) rfl ?_;exact⟨zbn HBL.out (zuz _) _ _ _ _ _,.inr ⟨k,v,HEG.out,by rw[Hrow.out],HF.out.set5 (zuz _) _ _ _ _ _⟩⟩
end Go.Proofs.YthddplbodacjgaaGreatDoor
