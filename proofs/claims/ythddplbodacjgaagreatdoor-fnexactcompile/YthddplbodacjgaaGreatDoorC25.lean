import Derived.Test.YthddplbodacjgaaGreatDoorC24
namespace Go.Proofs.YthddplbodacjgaaGreatDoor
set_option maxHeartbeats 8000000
set_option maxRecDepth 100000
open Go.RowKit
section
attribute [local go_sem] Oper.semAt_some
def SeqN(n:Nat)(P:Program)(g:Nat)(encs:Nat->Array Value)(N:Nat):Prop:=
 ∀(l:Nat) (J:Nat->World->Prop) (W:World),
  (∀k W1,J k W1->k<N->YieldAt Fence.wide (n-1) P l (encs k) W1 fun e W'=>e=.returned (.bool true)/\J (k+1) W')->
  J 0 W->CallsIn Fence.wide n P g (#[.func (.yield l) #[] #[]]++#[]) W fun e W'=>(∃v,e=.returned v)/\J N W'
def zsz(B:Nat)(I:Nat->World->Prop)(k:Nat)(W:World):Exit->Act->World->Prop
 |.normal,_,W'=>KeepsFrom B W W'/\I k W'
 |_,_,_=>False
theorem zfr{n:Nat}{P:Program}{g:Operand}{ps:Array Tmp}{assign body:Code}{Q:Exit->Act->World->Prop}{a:Act}{w:World}(h1:1<=n)
  {gf:Nat} (hg:a.eval g=.func (.func gf) #[] #[]) (eg:∀args w,(callFunc gf args).run P w=.ok (.enter gf args) w)
  {encs:Nat->Array Value} {N:Nat} (hseq:SeqN (n-1) P gf encs N) (hps:∀k,(encs k).size=ps.size)
  (I:Nat->World->Prop) (hI:OwnFrom w.heap.size I) (h0:I 0 w) (a₁:Nat->Act)
  (hassign:∀(l k:Nat) (W:World) (K:Act->World->Prop),K (a₁ k) W->
   assign.wpIn (Fence.wide.inRound l) (n-1-1) P (Exit.then K (fun _ _ _=>False)) {tmps:=(ps.zip (encs k)).foldl (fun t (p,v)=>t.setIfInBounds p v) a.tmps,defers:=[]} W)
  (hbody:∀(l k:Nat) (W:World),w.heap.size<=l->I k W->k<N->body.wpIn (Fence.wide.inRound l) (n-1-1) P (zsz w.heap.size I (k+1) W) (a₁ k) W)
  (hdone:∀(D:Nat) (W:World),D=w.heap.size->I N W->W.heap[D]?=some (.deferred (some []))->Q .normal {a with defers:={target:=.collected D,args:=#[]} :: a.defers} W):
  (Code.rangeFunc g ps assign body).wpIn Fence.wide n P Q a w:=by
 refine wpIn_rangeFunc fun fn hfn=>?_
 let rc:LoopState->Option Code->Loop:=fun st pe=>{state:=st,pending:=pe,fn,tmps:=a.tmps,params:=ps,assign,body,defers:=w.heap.size}
 obtain⟨W1,hW1⟩:∃W1,(w.alloc (.deferred (some []))).alloc (.loop (rc .ready none))=W1:=⟨_,rfl⟩;have rec1:W1.heap[w.heap.size+1]?=some (.loop (rc .ready none)):=by
  rw[<-hW1];have:=World.alloc_heap_new (w.alloc (.deferred (some []))) (.loop (rc .ready none));rwa[World.size_alloc] at this
 have def1:W1.heap[w.heap.size]?=some (.deferred (some [])):=by rw[<-hW1,Below.heap_alloc _ _ _ (by simp),World.alloc_heap_new]
 have i1:I 0 W1:=by rw[<-hW1];exact hI.alloc _ (hI.alloc _ h0)
 refine⟨w.heap.size+1,[{target:=.collected w.heap.size,args:=#[]}],W1,{target:=.fn (.func gf) #[],args:=#[.func (.yield (w.heap.size+1)) #[] #[]]},W1,gf,
  #[.func (.yield (w.heap.size+1)) #[] #[]]++#[],W1,?_,?_,fun _ _=>trivial,?_,fun _=>h1,?_⟩
 ·rw[<-hW1];exact run_enterLoop_outer _ _ _ _ _
 ·simp only[resolve,hg];simp[go_sem]
 ·simp[invoke,go_sem,eg]
 refine(hseq (w.heap.size+1)
  (fun k W=>I k W/\W.heap[w.heap.size+1]?=some (.loop (rc .ready none))/\W.heap[w.heap.size]?=some (.deferred (some [])))
  W1 ?_ ⟨i1,rec1,def1⟩).mono ?_
 ·rintro k W ⟨hi,hl,hk⟩ hlen;have hlt:=(ztp.1 hl).1;refine⟨fn,_,assign,body,run_yield (P:=P) (args:=encs k) hl (hps k),roundIn_of_wpIn hfn (hassign _ k W _ ⟨_,run_beginRound hl rfl,?_⟩)⟩;have busy:(W.putObj (w.heap.size+1) (.loop (rc .busy none))).heap[w.heap.size+1]?=some (.loop (rc .busy none)):=World.putObj_heap_same hlt;have held:(W.putObj (w.heap.size+1) (.loop (rc .busy none))).heap[w.heap.size]?=some (.deferred (some [])):=(World.putObj_heap_other (by omega)).trans hk;refine wpIn_mono (hbody _ k _ (by omega) (hI.putObj _ hi (by omega) hl rfl) hlen) ?_;rintro e a3 W3 hp;cases e with
  |normal=>
   obtain⟨k3,i3⟩:=hp;have l3:=k3.same _ _ (by omega) busy rfl;exact⟨_,_,run_endRound (P:=P) none l3,rfl,hI.putObj _ i3 (by omega) l3 rfl,World.putObj_heap_same (ztp.1 l3).1,(World.putObj_heap_other (by omega)).trans (k3.same _ _ (zuz _) held rfl)⟩
  |ret=>exact hp.elim
  |exit id=>exact hp.elim
  |goto t=>exact hp.elim
  |panic ch=>exact hp.elim
  |outgrown=>exact hp.elim
 ·rintro e W2 ⟨⟨v,rfl⟩,hi,hl,hk⟩;exact⟨none,_,run_endLoop (P:=P) hl (by simp[rc]),hdone _ _ rfl (hI.putObj _ hi (by omega) hl rfl) ((World.putObj_heap_other (by omega)).trans hk)⟩
def zhw(k:Nat):Array Value:=#[.int .i64 (k:Int)]
theorem zdn(n:Nat)(hn:1<=n):SeqN n Tryz.prog 63 zhw 256:=by
 intro l J W hY h0;refine callsIn_of_wp Tryz.func63 rfl trivial ?_ rfl;simp only[Tryz.ntmps63,zuo,zt2,zt4,Nat.reduceAdd,Nat.reduceSub,ztr,zts,zum,ztE,zuj,ztF]
 gi_wp2
 gi_loopw [3] (fun p wr=>∃k:Nat,p=.int .i64 k/\k<=256/\Hid (J k wr))
  (fun p _=>256-(intOf p).toNat)
 case atStart=>exact⟨0,rfl,zuL _,h0⟩
 case round=>
  obtain⟨k,rfl,hk,HJ⟩:=hrel
  by_cases hlt:k<256
  ·have hi:(k:Int)<256:=by omega
   have hYw:=hY _ wr HJ.out hlt;unfold zhw at hYw;clear hY;obtain⟨fn,tmps,assign,body,hy,hR⟩:=hYw
   gi_wp2
   refine hR.mono ?_;rintro e W3 ⟨rfl,hJ3⟩;have HJ3:Hid _:=hJ3;clear hJ3
   gi_wp2
   go_roundw
   case rel=>exact⟨k+1,by go_num,by omega,HJ3.out⟩
   case measure=>simp[intOf];omega
  ·have hkk:k=256:=by omega
   gi_wp2
   go_end0
   have hq:=HJ.out;rw[hkk] at hq;exact⟨⟨_,rfl⟩,hq⟩
end
theorem zo1{β:Type}{I:β->World->Prop}(h:∀s W W',I s W->(∀(b:Nat) (cs:Array Value) (t:TypeId),W.heap[b]?=some (.cells cs t (0,0))->W'.heap[b]?=some (.cells cs t (0,0)))->W.heap.size<=W'.heap.size->I s W'):Own I:=fun s X Y row hs hg hrow=>
 h s X Y hs (fun b cs t hb=>(hg.block b (ztp.1 hb).1 (fun e'=>by obtain⟨o,ho,hc⟩:=hrow b e'.symm;rw[hb] at ho;cases ho;cases hc)).trans hb) hg.size
theorem zgH{β:Type}(b:Nat)(c:β->Array Value)(t:TypeId):Own (fun s W=>W.heap[b]?=some (.cells (c s) t (0,0))):=zo1 fun _ _ _ h k _=>k _ _ _ h
def markD(D:Nat):Deferred:={target:=.collected D,args:=#[]}
theorem zfR{n:Nat}{P:Program}{fn:Func}{tmps:Array Value}{R:Ending->World->Prop}:∀(Ds:List Nat) (W:World),Ds.Nodup->(∀D∈Ds,W.heap[D]?=some (.deferred (some [])))->
  (∀W',(∀k,k∉Ds->W'.heap[k]?=W.heap[k]?)->W'.heap.size=W.heap.size->W'.os=W.os->W'.tape=W.tape->W'.output=W.output->LeavesInM Fence.wide n P fn tmps R [] .returning W')->
  LeavesInM Fence.wide n P fn tmps R (Ds.map markD) .returning W
 |[],W,_,_,h=>h W (fun _ _=>rfl) rfl rfl rfl rfl
 |D::Ds,W,hnd,hd,h=>by
  have h1:=hd D (by simp);refine⟨by simp,.inl ⟨D,_,rfl,run_takeDeferred h1,?_⟩⟩;have hn:=zul.1 hnd;refine zfR Ds _ hn.2 (fun D' hD'=>?_) (fun W' hk hsz ho ht hu=>h W' (fun k hkn=>?_) (hsz.trans (by simp)) (ho.trans rfl) (ht.trans rfl) (hu.trans rfl))
  ·exact(World.putObj_heap_other (fun e:D'=D=>hn.1 (e ▸ hD'))).trans (hd D' (by simp[hD']))
  ·rw[hk k (fun e=>hkn (by simp[e])),World.putObj_heap_other (fun e:k=D=>hkn (by simp[e]))]
variable {gt n g p m N gmv cm:Nat}{W w W':World}{v:Nat -> Value}{l:Nat -> List Int}{mv:Value}{mi:Nat -> Nat}{o wk grp M:List Nat}{mem:Nat -> List Nat}
attribute [local go_sem ↓] Go.wp_at_zero Go.wp_at_succ
theorem Fam.nats(h:Fam gt n W v l){i:Nat}(hi:i<n){xs:List Nat}(hl:l i=zav xs)(h0:0<xs.length):∃g c,v i=.slice (some ⟨g,0,none⟩) xs.length c/\∀j,j<xs.length->W.cell? ⟨g,j,none⟩=some (.int .i64 ((xs.getD j 0:Nat):Int)):=by
 have ho:=h.own i hi;rw[hl] at ho;obtain⟨g,c,e,_,_,hc⟩:=zbe ho (by rw[zag];exact h0);rw[zag] at e hc;exact⟨g,c,e,fun j hj=>by rw[hc j hj,zbw]⟩
structure PrK(gt g:Nat)(w W:World):Prop where
 below:Below (gt+1) w W
 kp:KpP g w W
theorem PrK.refl(gt g:Nat)(w:World):PrK gt g w w:=⟨Below.refl _ _,KpP.refl _ _⟩
theorem PrK.on(h:PrK gt g w W)(hs:gt+1<=W.heap.size)(hb:Below W.heap.size W W'):PrK gt g w W':=⟨h.below.trans (hb.mono hs),h.kp.trans (KpP.below hb)⟩
theorem PrK.fam(h:PrK gt g w W)(hs:gt+1<=W.heap.size)(hF:Fam gt n W v l){i:Nat}(hi:i<n)(hg:W.grownBy W' (v i).ownBlock):PrK gt g w W':=
 ⟨h.below.grown hg hs (fun _ hb=>(zaR (hF.own i hi) hb).1),h.kp.trans (KpP.fam hF hi hg)⟩
theorem PrK.set(h:PrK gt g w W){q j:Nat}{u:Value}{cs:Array Value}{e:TypeId}(hge:gt+1<=q)(hg:W.heap[q]?=some (.cells cs e (0,0)))(he:e=3\/e=187\/q=g):PrK gt g w (W.setCell ⟨q,j,none⟩ u):=
 ⟨h.below.setCell hge _,h.kp.trans (KpP.set hg he)⟩
theorem PrK.slices{k cap:Nat}{xs:List Value}(h:PrK gt g w W)(hs:gt+1<=W.heap.size)(ho:W.ownsRow (gt+1) 24 1 (.slice (some ⟨g,0,none⟩) k cap) k xs)(hg:W.grownBy W' (some g)):PrK gt g w W':=
 ⟨h.below.grown hg hs (fun _ hb=>by cases hb;exact(zaV ho).1),h.kp.trans (KpP.grown hg fun _ e=>by cases e;exact .inr rfl)⟩
theorem PtS.ofCell(h:PtS gt W p mv m mi v l N o wk mem){go n co:Nat}(hv:v 0=.slice (some ⟨go,0,none⟩) n co)(hn:o.length=n){s:Nat}(hs:s<n):W.cell? ⟨go,s,none⟩=some (.int .i64 ((o.getD s 0:Nat):Int))/\W.frozen? ⟨go,s,none⟩=false:=by
 have h2:=h.two;obtain⟨g,c,e,hc⟩:=h.fam.nats (i:=0) (by omega) h.l0 (by omega);rw[hv,hn] at e;cases e;obtain⟨cur,hcur⟩:=za9 (h.fam.own 0 (by omega)) (b:=go) (by rw[hv];rfl);exact⟨hc s (by omega),zuQ _ _ s _ _ hcur⟩
theorem PtS.rowCell(h:PtS gt W p mv m mi v l N o wk mem){i g n c:Nat}(hi:i<N){xs:List Nat}(hl:l i=zav xs)(hv:v i=.slice (some ⟨g,0,none⟩) n c)(hn:xs.length=n){j:Nat}(hj:j<n):W.cell? ⟨g,j,none⟩=some (.int .i64 ((xs.getD j 0:Nat):Int)):=by
 obtain⟨g',c',e,hc⟩:=h.fam.nats hi hl (by omega);rw[hv,hn] at e;cases e;exact hc j (by omega)
theorem PtS.mCell(h:PtS gt W p (.slice (some ⟨gmv,0,none⟩) m cm) m mi v l N o wk mem){x:Nat}(hx:x<m):W.cell? ⟨gmv,x,none⟩=some (v (mi x))/\W.frozen? ⟨gmv,x,none⟩=false:=by
 have:=h.out.cellAt x (by omega);rw[ziG _ _ hx] at this;obtain⟨cur,hcur⟩:=zbo h.out;exact⟨this,zuQ _ _ x _ _ hcur⟩
def zbS(grp xs:List Nat):List Nat:=xs.filter fun s=>decide (s∉grp)
theorem zh9(grp xs:List Nat)(s:Nat):zbS grp (xs++[s])=if s∈grp then zbS grp xs else zbS grp xs++[s]:=by
 unfold zbS;rw[List.filter_append]
 by_cases h:s∈grp
 ·rw[zuV h];simp[h]
 ·rw[zuU h];simp[h]
theorem zpm(hM:M.Nodup)(h:grp.length<M.length):0<(zbS grp M).length:=by
 rcases zuy (zbS grp M).length with e|e
 ·have he:zbS grp M=[]:=ztK e;have:∀x∈M,x∈grp:=fun x hx=>by
   by_cases k:x∈grp
   ·exact k
   ·have:x∈zbS grp M:=List.mem_filter.2 ⟨hx,by simpa using k⟩;rw[he] at this;cases this
  have:=ze7 M grp hM this;omega
 ·exact e
theorem zdg{s:Nat}:s∈zbS grp M↔s∈M/\s∉grp:=by simp[zbS]
theorem zmv(grp xs:List Nat):(zbS grp xs).length<=xs.length:=List.length_filter_le _ _
theorem zrn(gi:Nat)(grp:List Nat)(w:World)(hS:PtS gt w p (.slice (some ⟨gmv,0,none⟩) m cm) m mi v l N o wk mem)(hP:PtM n m o wk mem)(hgi:2<=gi/\gi<N)(hlg:l gi=zav grp)(hnd:grp.Nodup)(hg0:0<grp.length)(hn4:n<=4000)(hwk:wk.length<=1000000)
  (hgm:∀s∈grp,s∈mem (o.getD (grp.getD 0 0) 0)) (hgn:∀s∈grp,s<n):
  Calls Tryz.prog 106 #[.pointer (some ⟨p,0,none⟩),v gi] w (SpR gt w p n m gmv v l N o wk grp):=by
 obtain⟨iS,hjS,hyS0,hyS1,hyS2⟩:=info_parts Tryz.infoIntsD;have hN2:=hS.two;have hs0:=hgn _ (za3 hg0);have hb0:=hP.lt _ hs0;have hm0:0<m:=by omega
 have hmn:=hP.le;obtain⟨gg,cg,eg,hcg⟩:=hS.fam.nats hgi.2 hlg hg0;obtain⟨go,co,eo,hco⟩:=hS.fam.nats (i:=0) (by omega) hS.l0 (by rw[hP.ln];omega);rw[hP.ln] at eo hco;have hmb:=hP.ne _ hb0;have hix:=hS.idx _ hb0;obtain⟨gb,cb,eb,hcb⟩:=hS.fam.nats hix.2 (hS.lm _ hb0) hmb;have hml:(mem (o.getD (grp.getD 0 0) 0)).length<=n:=zb2 n _ (hP.nd _ hb0) (fun s hs=>((hP.mm _ hb0 s).1 hs).1);have hgl:grp.length<=(mem (o.getD (grp.getD 0 0) 0)).length:=ze7 _ _ hnd hgm;have hbx:=hS.box;rw[eo] at hbx;obtain⟨q0,q1,q2⟩:=zbi hbx;have c0:=hcg 0 hg0;have c1:=hco _ hs0;have c2:=hS.out.cellAt _ (by rw[Nat.mul_one];exact hb0);rw[ziG _ _ hb0,eb] at c2;have HS:Hid _:=hS;have HP:Hid _:=hP;have Hgm:Hid _:=hgm;have Hnd:Hid _:=hnd;have Heg:Hid _:=eg;have Heo:Hid _:=eo;have Heb:Hid _:=eb;have Hcb:Hid _:=hcb;have Hco:Hid _:=hco;have Hlg:Hid _:=hlg;have Hbs:Hid (∀s∈mem (o.getD (grp.getD 0 0) 0),s<n/\o.getD s 0=o.getD (grp.getD 0 0) 0):=fun s hs=>(hP.mm _ hb0 s).1 hs
 rw[eg];have hi1:((o.getD (grp.getD 0 0) 0:Nat):Int)<(m:Int):=by omega
 have hi2:((grp.getD 0 0:Nat):Int)<(n:Int):=by omega
 have hi3:(0:Int)<(grp.length:Int):=by omega
 generalize hs0e:grp.getD 0 0=s0 at *;generalize hbe:o.getD s0 0=b0 at *;have Hbe:Hid _:=hbe;clear hs0e hbe hS hP hgm hnd eg eo eb hcb hco hlg hcg hbx
 go_enter Tryz.func106,Tryz.ntmps106
 go_wp2
 go_quiet (fail)
 by_cases hle:grp.length=(mem b0).length
 ·have hle2:((grp.length:Int)==((mem b0).length:Int))=true:=by simp[hle]
  have Hle:Hid _:=hle;clear hle;go_wp2
  go_end0
  exact⟨rfl,gmv,cm,m,mi,v,l,N,o,wk,mem,HS.out.on (below_drewN (Below.refl _ _) nq),HP.out,SpM.whole HP.out hb0 Hnd.out Hgm.out Hle.out.symm,zuz _,fun _ _ _=>⟨rfl,rfl⟩,((PrK.refl gt gmv w).on HS.out.size (below_drewN (Below.refl _ _) nq)).below,((PrK.refl gt gmv w).on HS.out.size (below_drewN (Below.refl _ _) nq)).kp,.inl rfl⟩
 ·have hle2:((grp.length:Int)==((mem b0).length:Int))=false:=by simp;omega
  have HS1:Hid _:=HS.out.on (below_drewN (Below.refl _ _) nq);have hlab:=ziz (n:=n) gi m o grp (w.drewN nq) HS1.out.fam HS1.out.box (by omega) hgi.2 (by omega) HP.out.ln (by omega) HS1.out.l0 Hlg.out hgn hg0 (by omega) _ Heg.out.symm
  go_wp2_with fail
  refine hlab.mono ?_;rintro e w2 ⟨rfl,hF2,hg2⟩;have HS2:Hid _:=HS1.out.label hF2 hg2;have HK2:Hid (PrK gt gmv w w2):=((PrK.refl gt gmv w).on HS.out.size (below_drewN (Below.refl _ _) nq)).fam HS1.out.size HS1.out.fam (i:=0) (by omega) hg2;have Ho1:Hid (∀s,s<n->(zbG o grp m).getD s 0=if s∈grp then m else o.getD s 0):=fun s hs=>zfF grp m o s (by rw[HP.out.ln];exact hs)
  have Hl1:Hid ((zbG o grp m).length=n):=by show _=_;rw[zb3];exact HP.out.ln
  generalize ho1:zbG o grp m=o1 at *;clear ho1;have HS3:Hid _:=HS2.out.new;obtain⟨W3,hW3⟩:∃W3,w2.alloc (.cells #[] 3)=W3:=⟨_,rfl⟩;have HK3:Hid (PrK gt gmv w W3):=by
   rw[<-hW3];exact HK2.out.on HS2.out.size ((Below.refl _ _).alloc (zuz _) _)
  rw[hW3] at HS3;have hb3:=HS3.out.box;rw[zaD _ _ (by omega),zaD _ _ (by omega)] at hb3;obtain⟨r0,r1,r2⟩:=zbi hb3;have m3:=(HS3.out.mCell hb0).1;rw[zaD _ _ (by omega),Heb.out] at m3;clear hlab hF2 hg2 HS2 HS1 q0 q1 q2 c0 c1 c2 hb3 HK2;go_wp2
  go_loopw [6,49] (fun rv i wr=>∃(j g c:Nat) (v':Nat->Value) (l':Nat->List Int),j<=(mem b0).length/\i=.int .i64 j/\rv=.slice (some ⟨g,0,none⟩) (zbS grp ((mem b0).take j)).length c/\Hid (v' N=.slice (some ⟨g,0,none⟩) (zbS grp ((mem b0).take j)).length c/\l' N=zav (zbS grp ((mem b0).take j))/\∀i,i<N->v' i=v i/\l' i=updL l 0 (zav o1) i)/\Hid (PtS gt wr p (.slice (some ⟨gmv,0,none⟩) m cm) m mi v' l' (N+1) o1 wk mem/\PrK gt gmv w wr))
   (fun _ i _=>(mem b0).length-(intOf i).toNat)
  case atStart=>exact⟨0,_,_,_,_,zuL _,rfl,rfl,⟨zaH _ _ _,zar _ _ _,fun i hi=>⟨zaD _ _ (by omega),zaf _ _ (by omega)⟩⟩,HS3.out,HK3.out⟩
  case round=>
   clear HS3 HK3 r0 r1 r2 m3 hW3;obtain⟨j,g,c,v',l',hj,rfl,rfl,Hvv,HSK⟩:=hrel
   by_cases hj2:j<(mem b0).length
   ·have hij:(j:Int)<((mem b0).length:Int):=by omega
    have hb3:=HSK.out.1.box;rw[(Hvv.out.2.2 0 (by omega)).1,Heo.out] at hb3;obtain⟨r0,r1,r2⟩:=zbi hb3;have c3:=HSK.out.1.rowCell (i:=mi b0) (by omega) (HSK.out.1.lm b0 hb0) ((Hvv.out.2.2 _ hix.2).1.trans Heb.out) rfl hj2;obtain⟨sn,sb⟩:=Hbs.out _ (za3 hj2);have c4:=(HSK.out.1.ofCell ((Hvv.out.2.2 0 (by omega)).1.trans Heo.out) Hl1.out sn).1;rw[Ho1.out _ sn,sb] at c4;have HT:Hid _:=zdN hj2;have hrl:=zmv grp ((mem b0).take j);have htl:((mem b0).take j).length=j:=by rw[zt8];omega
    rw[htl] at hrl;have hi5:(((mem b0).getD j 0:Nat):Int)<(n:Int):=by omega
    have hs3:=HSK.out.1.size;have Hf3:Hid _:=HSK.out.1.fam;clear htl hb3 sb sn;generalize (mem b0).getD j 0=s1 at *;generalize hrf:zbS grp ((mem b0).take j)=rf at *;have Hrf:Hid _:=hrf;clear hrf
    by_cases hsg:s1∈grp
    ·rw[zuV hsg] at c4;have hne:((m:Int)==(b0:Int))=false:=by simp;omega
     go_wp2
     go_roundw
     case rel=>
      have e:zbS grp ((mem b0).take (j+1))=rf:=by rw[HT.out,zh9,zuV hsg,Hrf.out]
      exact⟨j+1,g,c,v',l',by omega,by go_num,by rw[e],⟨by rw[e];exact Hvv.out.1,by rw[e];exact Hvv.out.2.1,Hvv.out.2.2⟩,HSK.out⟩
     case measure=>simp[intOf];omega
    ·rw[zuU hsg] at c4;have hne:((b0:Int)==(b0:Int))=true:=by simp
     go_wp2_with (at_builtin;refine za4 Hf3.out _ rfl rfl (.tmp 62) (.tmp 64) rfl N (by omega) (zav rf) Hvv.out.2.1 rf.length (zag _) (by exact Hvv.out.1.symm) (s1:Int) rfl (by omega) hs3 ?_;intro g4 c4' w4 hF4 hg4)
     go_roundw
     case rel=>
      have e:zbS grp ((mem b0).take (j+1))=rf++[s1]:=by rw[HT.out,zh9,zuU hsg,Hrf.out]
      have hR:=HSK.out.1.row (i:=N) (by omega) (by omega) (fun x hx=>by have:=(HS.out.idx x hx).2;omega) hF4 hg4;refine⟨j+1,g4,c4',_,_,by omega,by go_num,by rw[e];simp,⟨by rw[e,zaH];simp,by rw[e,zar];simp[zav],fun i hi=>?_⟩,hR,HSK.out.2.fam hs3 HSK.out.1.fam (i:=N) (by omega) hg4⟩;rw[zaD _ _ (by omega),zaf _ _ (by omega)];exact Hvv.out.2.2 i hi
     case measure=>simp[intOf];omega
   ·have hjj:j=(mem b0).length:=by omega
    subst hjj;rw[zuq] at Hvv ⊢;have Hrp:Hid (0<(zbS grp (mem b0)).length):=zpm (HP.out.nd b0 hb0) (by omega);have hrl:=zmv grp (mem b0);have Hlg2:Hid (l' gi=zav grp):=by show _=_;rw[(Hvv.out.2.2 gi hgi.2).2,zaf _ _ (by omega)];exact Hlg.out
    by_cases hlt:(zbS grp (mem b0)).length<grp.length
    ·have hlt2:((zbS grp (mem b0)).length:Int)<(grp.length:Int):=by omega
     have hrb:∀s∈zbS grp (mem b0),s<n:=fun s hs=>(Hbs.out s (zdg.1 hs).1).1
     have hlab1:=ziz (n:=n) N m o1 (zbS grp (mem b0)) wr HSK.out.1.fam HSK.out.1.box (by omega) (by omega) (by omega) Hl1.out (by omega) HSK.out.1.l0 Hvv.out.2.1 hrb Hrp.out (by omega) _ Hvv.out.1.symm
     go_wp2_with fail
     refine hlab1.mono ?_;rintro e w5 ⟨rfl,hF5,hg5⟩;have HS5:Hid _:=HSK.out.1.label hF5 hg5;have HK5:Hid (PrK gt gmv w w5):=HSK.out.2.fam HSK.out.1.size HSK.out.1.fam (i:=0) (by omega) hg5;have hlab2:=ziz (n:=n) gi b0 (zbG o1 (zbS grp (mem b0)) m) grp w5 HS5.out.fam HS5.out.box (by omega) (by omega) (by omega) (by rw[zb3];exact Hl1.out) (by omega) HS5.out.l0 (by rw[zaf _ _ (by omega)];exact Hlg2.out) hgn hg0 (by omega) _ ((Hvv.out.2.2 gi hgi.2).1.trans Heg.out).symm;clear hlab1 hF5 hg5
     go_wp2_with fail
     refine hlab2.mono ?_;rintro e w6 ⟨rfl,hF6,hg6⟩;have HS6:Hid _:=HS5.out.label hF6 hg6;have HK6:Hid (PrK gt gmv w w6):=HK5.out.fam HS5.out.size HS5.out.fam (i:=0) (by omega) hg6;have HoB:Hid (∀s,s<n->(zbG (zbG o1 (zbS grp (mem b0)) m) grp b0).getD s 0=if s∈zbS grp (mem b0) then m else o.getD s 0):=fun s hs=>by
      rw[zfF _ _ _ s (by rw[zb3,Hl1.out];exact hs),zfF _ _ _ s (by rw[Hl1.out];exact hs),Ho1.out s hs]
      by_cases k:s∈grp
      ·have k2:s∉zbS grp (mem b0):=fun e=>(zdg.1 e).2 k
       rw[zuV k,zuU k2];exact(Hbs.out s (Hgm.out s k)).2.symm
      ·rw[zuU k,zuU k]
     have HlB:Hid ((zbG (zbG o1 (zbS grp (mem b0)) m) grp b0).length=n):=by show _=_;rw[zb3,zb3];exact Hl1.out
     have HlgB:Hid (updL (updL l' 0 (zav (zbG o1 (zbS grp (mem b0)) m))) 0 (zav (zbG (zbG o1 (zbS grp (mem b0)) m) grp b0)) gi=zav grp):=by
      show _=_;rw[zaf _ _ (by omega),zaf _ _ (by omega)];exact Hlg2.out
     have HlNB:Hid (updL (updL l' 0 (zav (zbG o1 (zbS grp (mem b0)) m))) 0 (zav (zbG (zbG o1 (zbS grp (mem b0)) m) grp b0)) N=zav (zbS grp (mem b0))):=by
      show _=_;rw[zaf _ _ (by omega),zaf _ _ (by omega)];exact Hvv.out.2.1
     clear hlab2 hF6 hg6 HS5 HK5;generalize zbG (zbG o1 (zbS grp (mem b0)) m) grp b0=oB at *;have mc:=HS6.out.mCell hb0;obtain⟨mc1,mc2⟩:=mc;obtain⟨⟨a1,p1⟩,e1⟩:=zaj (HS6.out.fam.own 1 (by omega));rw[HS6.out.l1,zag] at e1;have He1:Hid _:=e1;have HM0:=HS6.out.member (b:=b0) (i:=gi) ⟨by omega,by omega⟩ HlgB.out;rw[((Hvv.out.2.2 gi hgi.2).1.trans Heg.out)] at HM0;obtain⟨W4,hW4⟩:∃W4,w6.setCell ⟨gmv,b0,none⟩ (.slice (some ⟨gg,0,none⟩) grp.length cg)=W4:=⟨_,rfl⟩;rw[hW4] at HM0;have HM:Hid _:=HM0;have HK4:Hid (PrK gt gmv w W4):=by
      obtain⟨cur,hcur⟩:=zbo HS6.out.out;rw[<-hW4];exact HK6.out.set (zaV HS6.out.out).1 hcur (.inr (.inr rfl))
     have bX:=HS6.out.box;obtain⟨x0,x1,x2⟩:=zbi bX;have b4:=HM0.box;obtain⟨z0,z1,z2⟩:=zbi b4;rw[e1] at z2;have hs4:=HM0.size;have Hout:Hid _:=HM0.out;clear HM0 e1 bX b4 x0 x2
     go_wp2_with (first|(at_builtin;refine zaO W4 _ rfl rfl (.tmp 95) (.tmp 97) 93 rfl (gt+1) 24 iS (.slice none 0 0) 24 Tryz.underlying93 hjS hyS0 hyS1 hyS2 rfl gmv cm m (mvL v' (updI mi b0 gi) m) (.slice (some ⟨g,0,none⟩) (zbS grp (mem b0)).length c) rfl Hout.out rfl rfl (by omega) (by omega) hs4 ?_;intro g5 c5 w5 hown5 hg5 hat5;have Hat:Hid (g5=gmv\/w.heap.size<=g5):=hat5.imp id (fun e=>by have:=HK4.out.below.size;omega);have HM5:Hid _:=HM.out.members (i:=N) ⟨by omega,by omega⟩ HlNB.out hg5 (by rw[Hvv.out.1];exact hown5);have HK5:Hid (PrK gt gmv w w5):=HK4.out.slices hs4 Hout.out hg5;have bx5:=HM5.out.1;obtain⟨y0,y1,y2⟩:=zbi bx5;rw[He1.out] at y2;have fz:=zuQ _ _ 1 _ _ bx5;clear bx5 hown5 hg5 hat5)|(at_builtin;refine za4 HM5.out.2.fam w5.heap.size (by simp[World.setCell]) rfl (.tmp 105) (.tmp 107) rfl 1 (by omega) (zav wk) HM5.out.2.l1 wk.length (zag _) (by exact He1.out.symm) (m:Int) rfl (by omega) HM5.out.2.size ?_;intro g6 c6 w7 hF7 hg7;have HM7:Hid _:=HM5.out.2.work (wk':=wk++[m]) (by rw[show zav (wk++[m])=zav wk++[(m:Int)] by simp[zav]];exact hF7) hg7;have HK7:Hid (PrK gt gmv w _):=((HK5.out.set HS.out.pge HM5.out.1 (.inr (.inl rfl))).fam HM5.out.2.size HM5.out.2.fam (i:=1) (by omega) hg7);have bx7:=HM7.out.1;obtain⟨t0,t1,t2⟩:=zbi bx7;rw[He1.out] at t2;have f7:=zuQ _ _ 2 _ _ bx7;clear bx7 hF7 hg7))
     go_end0
     have HKE:=HK7.out.set (j:=2) (u:=.slice (some ⟨g6,0,none⟩) (wk.length+1) c6) HS.out.pge HM7.out.1 (.inr (.inl rfl));refine⟨rfl,g5,c5,m+1,_,_,_,N+1,oB,wk++[m],_,HM7.out.2,HP.out.split hb0 (List.Pairwise.filter _ (HP.out.nd b0 hb0)) Hnd.out Hrp.out hg0 (fun s=>?_) (fun s h1 h2=>(zdg.1 h1).2 h2) HlB.out HoB.out,SpM.part HP.out hb0 Hgm.out (.inr fun s hs=>?_) HoB.out,by omega,fun i h2 hi=>?_,HKE.below,HKE.kp,Hat.out⟩
     ·rw[zdg];constructor
      ·intro h
       by_cases k:s∈grp
       ·exact .inr k
       ·exact .inl ⟨h,k⟩
      ·rintro (h|h)
       ·exact h.1
       ·exact Hgm.out s h
     ·rw[zdg,HP.out.mm b0 hb0 s];exact⟨fun h=>⟨h.1.2,h.2⟩,fun h=>⟨⟨hs,h.1⟩,h.2⟩⟩
     ·rw[zaD _ _ (by omega),zaf _ _ (by omega),zaf _ _ (by omega),zaf _ _ (by omega),(Hvv.out.2.2 i hi).1,(Hvv.out.2.2 i hi).2,zaf _ _ (by omega)];exact⟨rfl,rfl⟩
    ·have hlt2:¬((zbS grp (mem b0)).length:Int)<(grp.length:Int):=by omega
     have mc:=HSK.out.1.mCell hb0;obtain⟨mc1,mc2⟩:=mc;obtain⟨⟨a1,p1⟩,e1⟩:=zaj (HSK.out.1.fam.own 1 (by omega));rw[HSK.out.1.l1,zag] at e1;have He1:Hid _:=e1;have HM0:=HSK.out.1.member (b:=b0) (i:=N) ⟨by omega,by omega⟩ Hvv.out.2.1;rw[Hvv.out.1] at HM0;obtain⟨W4,hW4⟩:∃W4,wr.setCell ⟨gmv,b0,none⟩ (.slice (some ⟨g,0,none⟩) (zbS grp (mem b0)).length c)=W4:=⟨_,rfl⟩;rw[hW4] at HM0;have HM:Hid _:=HM0;have HK4:Hid (PrK gt gmv w W4):=by
      obtain⟨cur,hcur⟩:=zbo HSK.out.1.out;rw[<-hW4];exact HSK.out.2.set (zaV HSK.out.1.out).1 hcur (.inr (.inr rfl))
     have bX:=HSK.out.1.box;obtain⟨x0,x1,x2⟩:=zbi bX;have b4:=HM0.box;obtain⟨z0,z1,z2⟩:=zbi b4;rw[e1] at z2;have hs4:=HM0.size;have Hout:Hid _:=HM0.out;clear HM0 e1 bX b4 x0 x2
     go_wp2_with (first|(at_builtin;refine zaO W4 _ rfl rfl (.tmp 95) (.tmp 97) 93 rfl (gt+1) 24 iS (.slice none 0 0) 24 Tryz.underlying93 hjS hyS0 hyS1 hyS2 rfl gmv cm m (mvL v' (updI mi b0 N) m) (.slice (some ⟨gg,0,none⟩) grp.length cg) rfl Hout.out rfl rfl (by omega) (by omega) hs4 ?_;intro g5 c5 w5 hown5 hg5 hat5;have Hat:Hid (g5=gmv\/w.heap.size<=g5):=hat5.imp id (fun e=>by have:=HK4.out.below.size;omega);have HM5:Hid _:=HM.out.members (i:=gi) ⟨by omega,by omega⟩ Hlg2.out hg5 (by rw[((Hvv.out.2.2 gi hgi.2).1.trans Heg.out)];exact hown5);have HK5:Hid (PrK gt gmv w w5):=HK4.out.slices hs4 Hout.out hg5;have bx5:=HM5.out.1;obtain⟨y0,y1,y2⟩:=zbi bx5;rw[He1.out] at y2;have fz:=zuQ _ _ 1 _ _ bx5;clear bx5 hown5 hg5 hat5)|(at_builtin;refine za4 HM5.out.2.fam w5.heap.size (by simp[World.setCell]) rfl (.tmp 105) (.tmp 107) rfl 1 (by omega) (zav wk) HM5.out.2.l1 wk.length (zag _) (by exact He1.out.symm) (m:Int) rfl (by omega) HM5.out.2.size ?_;intro g6 c6 w7 hF7 hg7;have HM7:Hid _:=HM5.out.2.work (wk':=wk++[m]) (by rw[show zav (wk++[m])=zav wk++[(m:Int)] by simp[zav]];exact hF7) hg7;have HK7:Hid (PrK gt gmv w _):=((HK5.out.set HS.out.pge HM5.out.1 (.inr (.inl rfl))).fam HM5.out.2.size HM5.out.2.fam (i:=1) (by omega) hg7);have bx7:=HM7.out.1;obtain⟨t0,t1,t2⟩:=zbi bx7;rw[He1.out] at t2;have f7:=zuQ _ _ 2 _ _ bx7;clear bx7 hF7 hg7))
     go_end0
     have HKE:=HK7.out.set (j:=2) (u:=.slice (some ⟨g6,0,none⟩) (wk.length+1) c6) HS.out.pge HM7.out.1 (.inr (.inl rfl));refine⟨rfl,g5,c5,m+1,_,_,_,N+1,o1,wk++[m],_,HM7.out.2,HP.out.split hb0 Hnd.out (List.Pairwise.filter _ (HP.out.nd b0 hb0)) hg0 Hrp.out (fun s=>?_) (fun s h1 h2=>(zdg.1 h2).2 h1) Hl1.out Ho1.out,SpM.part HP.out hb0 Hgm.out (.inl fun _ _=>Iff.rfl) Ho1.out,by omega,fun i h2 hi=>?_,HKE.below,HKE.kp,Hat.out⟩
     ·rw[zdg];constructor
      ·intro h
       by_cases k:s∈grp
       ·exact .inl k
       ·exact .inr ⟨h,k⟩
      ·rintro (h|h)
       ·exact Hgm.out s h
       ·exact h.1
     ·rw[zaD _ _ (by omega),zaf _ _ (by omega),(Hvv.out.2.2 i hi).1,(Hvv.out.2.2 i hi).2,zaf _ _ (by omega)];exact⟨rfl,rfl⟩
end Go.Proofs.YthddplbodacjgaaGreatDoor
