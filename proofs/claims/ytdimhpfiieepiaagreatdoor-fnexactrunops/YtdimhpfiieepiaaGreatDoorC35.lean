import Derived.Test.YtdimhpfiieepiaaGreatDoorC34
namespace Go.Proofs.YtdimhpfiieepiaaGreatDoor
open Proofs.Tryz
open Option renaming some->za,none->zb
open Go renaming World->zc,Value->zf,Calls->zo,TypeId->zp
open Value renaming pointer->ze,slice->zj,int->zl
open Obj renaming cells->zi
open RowKit renaming Hid->zk,Below->zm
set_option maxHeartbeats 4000000
set_option maxRecDepth 100000
open Go.RowKit
attribute [local go_sem ↓] wp_at_zero wp_at_succ
section
variable {P:Program}{ops:Array Oper}{o:Oper}{a:Act}{w:zc}{Q:Exit -> Act -> zc -> Prop}
theorem F7{K:Act->zc->Prop}(hg:o.guard=zb)(hL:∀a w,¬Q .outgrown a w)(h:wpList P ops (QK Q K) [o] a w):o.wp P a w K Q:=by
 unfold wpList at h;rw[aC (by simp[Region.wanted,hg])]at h;rcases h with h|h
 ·exact zug h
 ·obtain⟨_,a',w',h'⟩:=h;exact absurd h' (hL a' w')
theorem Qx{Cw:zc->Prop}{t j:Nat}{l:List (Nat×Oper)}(hk:t∉l.map Prod.fst)(hL:∀a w,¬Q .outgrown a w)(h:wpList P ops Q (o::l.map Prod.snd) a w):nC P ops Cw t Q ((j,o)::l) a w:=by
 unfold wpList at h;unfold nC
 by_cases hw:Region.wanted o (yielded ops a.tmps)=true
 ·rw[aC hw]at h ⊢;rcases h with h|h
  ·exact Oper.wp_mono (λa w h=>⟨λe=>absurd e hk,Ji l a w hk hL h⟩) h
  ·obtain⟨_,a',w',h'⟩:=h;exact absurd h' (hL a' w')
 ·rw[ak hw]at h ⊢;exact⟨λe=>absurd e hk,Ji l _ w hk hL h⟩
theorem zT.vf{W:zc}{g sc:Nat}{bs:List aV}(h:zT W (zj (za ⟨g,0,zb⟩) bs.length sc) bs):∃F:Nat->zp×zf×Pt,∀j,j<bs.length->W.cell? ⟨g,j,zb⟩=za (.iface (F j).1 (F j).2.1)/\aU W (.iface (F j).1 (F j).2.1) (F j).2.2/\aE (F j).2.2<=2000/\ij (F j).2.2 (a8 (bs.getD j .zero).nodes ((bs.getD j .zero).nodes.length-1)):=by
 obtain⟨g',Qf,st,xs,e,h1,h2,h3,h4,h5,I0⟩:=h;cases e;obtain⟨N,j8⟩:=I0.parts;exact @Go.Deep.choose_lt (zp×zf×Pt) ⟨(0,.nilIface,.set λ_=>false)⟩ bs.length (λj q=>W.cell? ⟨g,j,zb⟩=za (.iface q.1 q.2.1)/\aU W (.iface q.1 q.2.1) q.2.2/\aE q.2.2<=2000/\ij q.2.2 (a8 (bs.getD j .zero).nodes ((bs.getD j .zero).nodes.length-1))) (λj hj=>by
  obtain⟨t1,y1,k1,p,k2,k3,k4⟩:=I0.2.1 j (by omega);have h6:(sA bs).getD j ju=a8 (bs.getD j .zero).nodes ((bs.getD j .zero).nodes.length-1):=by simp[sA,hj]
  rw[h6]at k4;exact⟨(t1,y1,p),(h5 j hj).trans k1,k2,by rw[k3];exact ztz j8 h4 j (by omega),k4⟩)
theorem BJ(w:zc)(a:Addr)(u:zf):(w.setCell a u).heap.size=w.heap.size:=by simp[World.setCell]
theorem jB.zAz{pl:Nat}{x0 x1:zf}{w0:zc}{Q:Nat->Option Pt}{vP:zf}{ps:List (Nat×Pt)}(h:jB w pl x0 x1 w0 Q vP ps){b o:Nat}{u:zf}{cs:Array zf}{t:zp}(hb:w.heap[b]?=za (zi cs t (0,0)))(ht:t≠293):jB (w.setCell ⟨b,o,zb⟩ u) pl x0 x1 (w0.setCell ⟨b,o,zb⟩ u) Q vP ps:=by
 have aZ:=(ah.1 hb).1;have dK:=h.kd.bu;have af:=(dK.block b aZ).trans hb;have e0:∀k,w.heap.size<=k->(w0.setCell ⟨b,o,zb⟩ u).heap[k]?=w0.heap[k]?:=λk hk=>cH _ _ _ _ (by show k≠b;omega)
 have km:bJ w0 (w0.setCell ⟨b,o,zb⟩ u):=bJ.set af ht;refine⟨⟨⟨dK.os,dK.tape,dK.output,by rw[BJ,BJ];exact dK.size,λk hk=>?_⟩,λa q ha=>?_,λx hx=>?_,λk hk=>?_⟩,?_,?_,?_⟩
 ·rw[BJ]at hk
  by_cases e:k=b
  ·subst e;rw[dE _ _ _ _ _ _ af,dE _ _ _ _ _ _ hb]
  ·rw[cH _ _ _ _ e,cH _ _ _ _ e];exact dK.block k hk
 ·obtain⟨h1,h2,v,f,h3,h4⟩:=h.kd.pm a q ha;exact⟨by rw[BJ];exact h1,h2,v,f,(e0 a h1).trans h3,aU.keep km _ _ h4⟩
 ·obtain⟨cE,w',Q',h1,h2,h3,h4,h5,h6⟩:=h.kd.kd x hx;exact⟨cE,w',Q',by rw[BJ];exact h1,h2,h3.trans km,by rw[BJ];exact h4,λk k1 k2=>⟨(e0 k (by omega)).trans (h5 k k1 k2).1,(h5 k k1 k2).2⟩,h6⟩
 ·obtain⟨h1,ax,ty,h2,h3⟩:=h.kd.ob k hk;exact⟨by rw[BJ];exact h1,ax,ty,(e0 k h1).trans h2,h3⟩
 ·rw[BJ];exact gR h.own λk e=>e0 k (dy h.own e).1
 ·exact(e0 pl h.lo).trans h.xp
 ·rw[BJ];exact h.lo
theorem zjz(xs:Array zf)(w:zc):(callFunc 122 xs).run prog w=.ok (.enter 122 xs) w:=by kernel_rfl
def SQ(W:zc)(gq i:Nat)(G:Int)(bao:Option Addr)(bcp:Nat)(bs:List aV)(e:Ending)(W':zc):Prop:=
 ∃(pl:Nat) (Q:Nat->Option Pt) (vP:zf) (ps:List (Nat×Pt)) (wB:zc),e=.returned (ze (za ⟨pl,0,zb⟩))/\jB wB pl (zl .i64 G) (.slice bao bs.length bcp) W' Q vP ps/\ps.length=bs.length/\(∀k,k<bs.length->ij (kG ps k) (a8 (bs.getD k .zero).nodes ((bs.getD k .zero).nodes.length-1)))/\ap (· = gq) W wB/\∀cs,W.heap[gq]?=za (zi cs 161 (0,0))->wB.heap[gq]?=za (zi (cs.setIfInBounds i (ze (za ⟨pl,0,zb⟩))) 161 (0,0))
theorem znW(W:zc)(bf g cap gq n i gp sc rb ro rc:Nat)(cv bv fv tv ev nv kv:zf)(wd G:Int)(bao:Option Addr)(bcp:Nat)(bs:List aV)(cs:Array zf)(jX:i<n)
  (o9:W.heap[bf]?=za (zi (AW (zj (za ⟨rb,ro,zb⟩) n rc) cv wd bv fv tv ev nv kv (zj (za ⟨g,0,zb⟩) n cap) (zj (za ⟨gq,0,zb⟩) n n)) 128 (0,0)))
  (hq:W.heap[gq]?=za (zi cs 161 (0,0))) (hcs:cs[i]?=za (ze zb)) (hlen:bs.length<=100000)
  (k0:W.cell? ⟨rb,ro+i*2,zb⟩=za (.slice bao bs.length bcp)) (k1:W.cell? ⟨rb,ro+i*2+1,zb⟩=za (zl .i64 G))
  (kp:W.cell? ⟨g,i,zb⟩=za (zj (za ⟨gp,0,zb⟩) bs.length sc)) (hp:zT W (zj (za ⟨gp,0,zb⟩) bs.length sc) bs) (Vb:∃CH,W.heap[gp]?=za (zi CH 184 (0,0))):
  zo prog 101 #[ze (za ⟨bf,0,zb⟩),zl .i64 i] W λe W'=>SQ W gq i G bao bcp bs e W':=by
 obtain⟨CH,qK⟩:=Vb;have aZ:=(ah.1 o9).1;have IU:=(ah.1 hq).1;have hne:bf≠gq:=λe=>by
  rw[e,hq]at o9;exact absurd (bL o9) (by decide)
 have hx:∀s:dB W,s.W.cell? ⟨bf,10,zb⟩=za (zj (za ⟨gq,0,zb⟩) n n)/\s.W.cell? ⟨bf,0,zb⟩=za (zj (za ⟨rb,ro,zb⟩) n rc)/\s.W.cell? ⟨bf,9,zb⟩=za (zj (za ⟨g,0,zb⟩) n cap)/\s.W.cell? ⟨rb,ro+i*2,zb⟩=za (.slice bao bs.length bcp)/\s.W.cell? ⟨rb,ro+i*2+1,zb⟩=za (zl .i64 G)/\s.W.cell? ⟨g,i,zb⟩=za (zj (za ⟨gp,0,zb⟩) bs.length sc):=λs=>by
  have r:=(s.h.block bf aZ).trans o9;exact⟨bX r 10,bX r 0,bX r 9,(s.h.cell (p:=⟨rb,ro+i*2,zb⟩) (block_lt_of_cell k0)).trans k0,(s.h.cell (p:=⟨rb,ro+i*2+1,zb⟩) (block_lt_of_cell k1)).trans k1,(s.h.cell (p:=⟨g,i,zb⟩) (block_lt_of_cell kp)).trans kp⟩
 have x0:=λs:dB W=>(hx s).1
 have x1:=λs:dB W=>(hx s).2.1
 have x2:=λs:dB W=>(hx s).2.2.1
 have x3:=λs:dB W=>(hx s).2.2.2.1
 have x4:=λs:dB W=>(hx s).2.2.2.2.1
 have x5:=λs:dB W=>(hx s).2.2.2.2.2
 have Ez:W.cell? ⟨bf,10,zb⟩=za (zj (za ⟨gq,0,zb⟩) n n):=bX o9 10;have bq:W.cell? ⟨gq,i,zb⟩=za (ze zb):=(bX hq i).trans hcs;have da:(0:Int)<=(i:Int):=by omega
 have cO:(i:Int)<(n:Int):=by omega
 have jm:i<cs.size:=(ah.1 hcs).1;have Hp:zk (∀Wb,zm W.heap.size W Wb->zT Wb (zj (za ⟨gp,0,zb⟩) bs.length sc) bs):=λWb hb=>hp.keep hb.size (λk _ _ e _=>(hb.block k (ah.1 e).1).trans e) (λg' Qf e=>by cases e;exact⟨CH,qK⟩)
 have Zu:=ay o9;have Hq:=ay hq;have fP:prog.follows .mixedOrders=true:=by kernel_rfl
 clear hx hp o9 hq k0 k1 kp hcs
 go_enter func101,ntmps101
 go_upto_region 2 with fail
 clear Ez bq;refine MZ [0,1,2,3,4,5,6,7,8,9,10,11,12,13,14,15,16,17,18,19] [20,21,22] 22 (λw'=>∃s:dB W,w'=s.W) fP ⟨⟨W.drew,(Below.refl _ _).drew⟩,rfl⟩ (by kernel_rfl) ?_;intro os bW;simp only[jQ,jR,jT,jS]at bW;subst bW
 change wpQuiet _ _ _ _ [_,_,_,_,_,_,_,_,_,_,_,_,_,_,_,_,_,_,_,_] _
 repeat (go_big_quiet_step (fail))
 refine wpQuiet_nil ?_;rintro w' ⟨⟨Wb,eX⟩,hw'⟩ r' bV;replace hw':w'=Wb:=hw';subst w';simp only[jQ,jR,jT,jS,D7]at bV;subst bV;clear x0 x1 x2 x3 x4 x5;obtain⟨F,hF⟩:=(Hp.out Wb eX).vf;have hnp:=znD G bao bs.length bcp gp sc bs.length (λk=>(F k).1) (λk=>(F k).2.1) (λk=>(F k).2.2) Wb (λk hk=>(hF k hk).1) (λk hk=>(hF k hk).2.1) (λk hk=>(hF k hk).2.2.1) hlen;refine qj rfl (λK5 fX=>?_);refine DL 122 #[.tmp 25,.tmp 32] #[69,155] (by rfl) #[.agg #[.slice bao bs.length bcp,zl .i64 G],zj (za ⟨gp,0,zb⟩) bs.length sc] (by simp[Act.eval]) (λv w'=>SI Wb (zl .i64 G) (.slice bao bs.length bcp) bs.length (λk=>(F k).2.2) (.returned v) w') (zjz _ _) (hnp.mono (by
  rintro e w1 ⟨pl,Q,vP,ps,rfl,h1⟩;exact⟨_,rfl,pl,Q,vP,ps,rfl,h1⟩)) ?_
 rintro v8 W8 ⟨pl,Q,vP,ps,Fu,hN,dC,IR⟩;injection Fu with Fu
 subst Fu;have eY:=hN.kd.bu;have Pn:zm W.heap.size W W8:=aq eX eX.size eY;refine fX _ _ (λ_=>⟨⟨W8,Pn⟩,rfl⟩) ?_;clear fX K5;have q8:=(Pn.block gq IU).trans Hq.out;have c8:W8.cell? ⟨gq,i,zb⟩=za cs[i]:=(bX q8 i).trans (by simp[jm]);have f8:=cT _ _ i _ _ q8;have hqb:=(eX.block gq IU).trans Hq.out;have hN9:=hN.zAz (o:=i) (u:=ze (za ⟨pl,0,zb⟩)) hqb (by decide);have q9:=dE W8 gq i _ _ (ze (za ⟨pl,0,zb⟩)) q8;have bf9:(W8.setCell ⟨gq,i,zb⟩ (ze (za ⟨pl,0,zb⟩))).heap[bf]?=_:=(cH _ _ _ _ hne).trans ((Pn.block bf aZ).trans Zu.out);have Ez:(W8.setCell ⟨gq,i,zb⟩ (ze (za ⟨pl,0,zb⟩))).cell? ⟨bf,10,zb⟩=za (zj (za ⟨gq,0,zb⟩) n n):=bX bf9 10;have bq:(W8.setCell ⟨gq,i,zb⟩ (ze (za ⟨pl,0,zb⟩))).cell? ⟨gq,i,zb⟩=za (ze (za ⟨pl,0,zb⟩)):=(bX q9 i).trans (by simp[jm]);have HF:zk (SQ W gq i G bao bcp bs (.returned (ze (za ⟨pl,0,zb⟩))) (W8.setCell ⟨gq,i,zb⟩ (ze (za ⟨pl,0,zb⟩)))):=⟨pl,Q,vP,ps,Wb.setCell ⟨gq,i,zb⟩ (ze (za ⟨pl,0,zb⟩)),rfl,hN9,dC,λk hk=>by rw[IR k hk];exact(hF k hk).2.2.2,(ap.bR eX).grown (iZ _ gq i _) (λk e=>.inl (Option.some.inj e).symm),λfN zwC=>by
  rw[Hq.out]at zwC;cases Ye zwC;exact dE _ _ _ _ _ _ hqb⟩
 clear hnp hN hN9 hF IR q9 bf9 Zu;refine qj rfl (λK6 xu=>F7 (ops:=#[]) rfl (λ_ _ h=>h) ?_)
 change wpList _ _ _ [_] _ _
 go_wp2;rw[su];refine xu _ _ (λ_=>⟨⟨W8,Pn⟩,rfl⟩) ?_;clear xu K6;refine Qx (by simp) (λ_ _ h=>h) ?_
 change wpList _ _ _ [_] _ _
 go_wp2;rw[vl];clear c8 f8 q8;go_wp2;go_ret;exact HF.out
end
section
variable {w w0:zc}{pl:Nat}{x0 x1 vP:zf}{Q:Nat -> Option Pt}{ps:List (Nat×Pt)}
theorem zk1(xs:Array zf)(w:zc):(callFunc 131 xs).run prog w=.ok (.enter 131 xs) w:=by kernel_rfl
theorem znd(xs:Array zf)(w:zc):(callFunc 150 xs).run prog w=.ok (.enter 150 xs) w:=by kernel_rfl
def Dq(bs bt bp:Nat):zf:=.func (.func 150) #[] #[ze (za ⟨bs,0,zb⟩),ze (za ⟨bt,0,zb⟩),ze (za ⟨bp,0,zb⟩)]
theorem zpU(t:ByteArray)(gs m cap:Nat)(w:zc):
  zo prog 131 #[.string t,zj (za ⟨gs,0,zb⟩) m cap] w λe w'=>∃bs bt bp,e=.returned (Dq bs bt bp)/\zm w.heap.size w w'/\w.heap.size<=bs/\w.heap.size<=bt/\w.heap.size<=bp/\w'.heap[bs]?=za (zi #[zj (za ⟨gs,0,zb⟩) m cap] 33 (0,0))/\w'.heap[bt]?=za (zi #[.string t] 9 (0,0))/\w'.heap[bp]?=za (zi #[Dq bs bt bp] 205 (0,0)):=by
 obtain⟨W2,dk⟩:∃W2,(w.alloc (zi #[.string t] 9)).alloc (zi #[zj (za ⟨gs,0,zb⟩) m cap] 33)=W2:=⟨_,rfl⟩;have cV:W2.heap.size=w.heap.size+1+1:=by rw[<-dk];simp
 have ae:zm w.heap.size w W2:=by rw[<-dk];exact(aw).alloc (by simp) _
 have q0:W2.heap[w.heap.size]?=za (zi #[.string t] 9 (0,0)):=by rw[<-dk];exact cX (aI _ _)
 have q1:W2.heap[w.heap.size+1]?=za (zi #[zj (za ⟨gs,0,zb⟩) m cap] 33 (0,0)):=by rw[<-dk];exact DM _ _ _
 have st:=zO (P:=prog) W2 #[.nilFunc] 205 (.func (.func 150) #[] #[ze (za ⟨w.heap.size+1,0,zb⟩),ze (za ⟨w.heap.size,0,zb⟩),ze (za ⟨w.heap.size+1+1,0,zb⟩)]) rfl 0 (by simp);simp only[List.setIfInBounds_toArray,List.set_cons_zero]at st;obtain⟨W3,eN⟩:∃W3,W2.alloc (zi #[.func (.func 150) #[] #[ze (za ⟨w.heap.size+1,0,zb⟩),ze (za ⟨w.heap.size,0,zb⟩),ze (za ⟨w.heap.size+1+1,0,zb⟩)]] 205)=W3:=⟨_,rfl⟩;have aG:zm W2.heap.size W2 W3:=by rw[<-eN];exact aw
 have q2:W3.heap[W2.heap.size]?=za (zi #[Dq (w.heap.size+1) w.heap.size (w.heap.size+1+1)] 205 (0,0)):=by rw[<-eN];exact aI _ _
 have c2:W3.cell? ⟨W2.heap.size,0,zb⟩=za (.func (.func 150) #[] #[ze (za ⟨w.heap.size+1,0,zb⟩),ze (za ⟨w.heap.size,0,zb⟩),ze (za ⟨w.heap.size+1+1,0,zb⟩)]):=(aM _ _ _ _ _ _ q2:_=_);have p0:=(aG.block _ (ah.1 q0).1).trans q0;have p1:=(aG.block _ (ah.1 q1).1).trans q1;rw[cV]at st c2 q2;have HF:=aA (show ∃bs bt bp,Ending.returned (Dq (w.heap.size+1) w.heap.size (w.heap.size+1+1))=.returned (Dq bs bt bp)/\zm w.heap.size w W3/\w.heap.size<=bs/\w.heap.size<=bt/\w.heap.size<=bp/\W3.heap[bs]?=za (zi #[zj (za ⟨gs,0,zb⟩) m cap] 33 (0,0))/\W3.heap[bt]?=za (zi #[.string t] 9 (0,0))/\W3.heap[bp]?=za (zi #[Dq bs bt bp] 205 (0,0)) from⟨_,_,_,rfl,aq ae ae.size aG,by omega,by omega,by omega,p1,p0,q2⟩);clear q0 q1 q2 p0 p1 ae aG
 go_enter func131,ntmps131
 go_wp2;go_ret;exact HF.out
theorem jB.start(h:jB w pl x0 x1 w0 Q vP ps)(hB:fS w):cF w0 pl Q (λ_ _=>False) w0:=by
 have gz:=ql hB;refine⟨rfl,rfl,rfl,aj _,λ_ _ _ _=>rfl,?_,?_,hB.keep (h.kd.bu.block 0 gz),⟨x0,x1,vP,1048576,1048576,h.xp,h.xp,aj _⟩,λa p ha=>?_,λk a e=>e.elim,λk a b e=>e.elim⟩
 ·exact h.kd.pm.Td gz
 ·intro e;have:=h.lo;omega
 ·obtain⟨h1,h2,v,f,h3,h4⟩:=h.kd.pm a p ha;exact⟨v,f,ze zb,h3,h3,h4,h2,.inl rfl⟩
theorem jB.cells(h:jB w pl x0 x1 w0 Q vP ps){Ow:Nat->Nat->Prop}{W:zc}(hI:cF w0 pl Q Ow W):(∃room:Nat,W.heap[pl]?=za (zi #[x0,x1,vP,zl .i64 room] 189 (0,0)))/\W.ownsRow w.heap.size 198 1 vP ps.length (iY ps):=by
 obtain⟨y0,y1,y2,r0,room,h1,h2,_⟩:=hI.vf;have e:=h.xp;rw[h1]at e;injection e with e
 injection e with e
 simp at e;obtain⟨rfl,rfl,rfl,-⟩:=e;exact⟨⟨room,h2⟩,gR h.own λb hb=>by
  obtain⟨_,ax,z⟩:=dy h.own hb;exact(hI.dO z (by decide) (by decide)).trans z.symm⟩
theorem jB.bu(h:jB w pl x0 x1 w0 Q vP ps){Ow:Nat->Nat->Prop}{W:zc}(hI:cF w0 pl Q Ow W):zm w.heap.size w W:=by
 have hb:=h.kd.bu;refine⟨hI.os.trans hb.os,hI.tape.trans hb.tape,hI.output.trans hb.output,aW hb.size hI.size,λk hk=>(hI.old k (bA hk hb.size) (h.kd.pm.Td hk) (λe=>by have:=h.lo;omega)).trans (hb.block k hk)⟩
end
def vd(n:Nat)(S T:zc):zc:={T with heap:=S.heap.extract 0 n++T.heap.extract n T.heap.size}
theorem QS{n:Nat}{S T:zc}(h1:n<=S.heap.size)(h2:n<=T.heap.size):(vd n S T).heap.size=T.heap.size:=by simp[vd];omega
theorem JJ{n:Nat}{S T:zc}(h1:n<=S.heap.size){k:Nat}(hk:k<n):(vd n S T).heap[k]?=S.heap[k]?:=by
 simp only[vd];rw[Array.getElem?_append_left (by simp;omega)];simp[Array.getElem?_extract];omega
theorem JN{n:Nat}{S T:zc}(h1:n<=S.heap.size){k:Nat}(hk:n<=k):(vd n S T).heap[k]?=T.heap[k]?:=by
 simp only[vd];have e:(S.heap.extract 0 n).size=n:=by simp;omega
 rw[Array.getElem?_append_right (by omega),e,Array.getElem?_extract]
 by_cases hl:k<T.heap.size
 ·rw[aC (by omega),show n+(k-n)=k from by omega]
 ·rw[ak (by omega)];exact(DZ (by omega)).symm
theorem jB.patch{w:zc}{pl:Nat}{x0 x1:zf}{w0:zc}{Q:Nat->Option Pt}{vP:zf}{ps:List (Nat×Pt)}(h:jB w pl x0 x1 w0 Q vP ps){S:zc}(hs:w.heap.size<=S.heap.size)(km:bJ w0 (vd w.heap.size S w0)):jB (vd w.heap.size S w) pl x0 x1 (vd w.heap.size S w0) Q vP ps:=by
 have dK:=h.kd.bu;have z1:=QS hs (aj w.heap.size);have z2:=QS hs dK.size;have e0:∀k,w.heap.size<=k->(vd w.heap.size S w0).heap[k]?=w0.heap[k]?:=λk hk=>JN hs hk
 refine⟨⟨⟨dK.os,dK.tape,dK.output,by rw[z1,z2];exact dK.size,λk hk=>?_⟩,λa q ha=>?_,λx hx=>?_,λk hk=>?_⟩,?_,?_,?_⟩
 ·rw[z1]at hk;rw[JJ hs hk,JJ hs hk]
 ·obtain⟨h1,h2,v,f,h3,h4⟩:=h.kd.pm a q ha;exact⟨by rw[z1];exact h1,h2,v,f,(e0 a h1).trans h3,aU.keep km _ _ h4⟩
 ·obtain⟨cE,w',Q',h1,h2,h3,h4,h5,h6⟩:=h.kd.kd x hx;exact⟨cE,w',Q',by rw[z1];exact h1,h2,h3.trans km,by rw[z2];exact h4,λk k1 k2=>⟨(e0 k (by omega)).trans (h5 k k1 k2).1,(h5 k k1 k2).2⟩,h6⟩
 ·obtain⟨h1,ax,ty,h2,h3⟩:=h.kd.ob k hk;exact⟨by rw[z1];exact h1,ax,ty,(e0 k h1).trans h2,h3⟩
 ·rw[z1];exact gR h.own λk e=>e0 k (dy h.own e).1
 ·exact(e0 pl h.lo).trans h.xp
 ·rw[z1];exact h.lo
structure oV(w:zc)(pl:Nat)(G:Int)(bao:Option Addr)(bcp:Nat)(bs:List aV)(Z:Nat->Prop)(W wB w0:zc)(Q:Nat->Option Pt)(vP:zf)(ps:List (Nat×Pt))(Ow:Nat->Nat->Prop):Prop where
 bu:zm w.heap.size w wB
 np:jB wB pl (zl .i64 G) (.slice bao bs.length bcp) w0 Q vP ps
 len:ps.length=bs.length
 eq:∀k,k<bs.length->ij (kG ps k) (a8 (bs.getD k .zero).nodes ((bs.getD k .zero).nodes.length-1))
 inv:cF w0 pl Q Ow W
 z:∀k,Z k↔(wB.heap.size<=k/\k<w0.heap.size)\/∃b,Ow k b
section
variable {w:zc} {pl:Nat} {G:Int} {bao:Option Addr} {bcp:Nat} {bs:List aV} {Z:Nat->Prop} {W W' wB w0:zc} {Q:Nat->Option Pt} {vP:zf} {ps:List (Nat×Pt)} {Ow:Nat->Nat->Prop}
theorem oV.lt(h:oV w pl G bao bcp bs Z W wB w0 Q vP ps Ow){k:Nat}(hk:Z k):wB.heap.size<=k/\k<W.heap.size:=by
 have h1:=h.np.kd.bu.size;have h2:=h.inv.size;rcases(h.z k).1 hk with h3|⟨b,h3⟩
 ·omega
 ·have:=h.inv.ow k b h3;omega
theorem oV.zpl(h:oV w pl G bao bcp bs Z W wB w0 Q vP ps Ow):Z pl:=(h.z pl).2 (.inl ⟨h.np.lo,h.inv.zK⟩)
theorem oV.pc(h:oV w pl G bao bcp bs Z W wB w0 Q vP ps Ow){a:Nat}{p:Pt}(ha:Q a=za p):wB.heap.size<=a/\a<w0.heap.size:=⟨(h.np.kd.pm a p ha).1,h.inv.aN ha⟩
theorem oV.other(h:oV w pl G bao bcp bs Z W wB w0 Q vP ps Ow){S:Nat->Prop}(tc:ap S W W')(km:bJ W W')(hS:∀k,S k->¬Z k/\w.heap.size<=k)(gz:0<w.heap.size):
  oV w pl G bao bcp bs Z W' (vd wB.heap.size W' wB) (vd wB.heap.size W' w0) Q vP ps Ow:=by
 have b1:=h.np.kd.bu;have b2:=h.np.bu h.inv;have s1:=b1.size;have s2:=h.inv.size;have s3:=tc.size;have s0:=h.bu.size;have hn:wB.heap.size<=W'.heap.size:=by omega
 have z1:=QS hn (aj wB.heap.size);have z2:=QS hn s1;have hz:∀k,Z k->W'.heap[k]?=W.heap[k]?:=λk hk=>tc.same k (h.lt hk).2 (λe=>(hS k e).1 hk)
 have h0:W'.heap[0]?=W.heap[0]?:=tc.same 0 (by omega) (λe=>by have:=(hS 0 e).2;omega);have hw:∀k,k<w.heap.size->W'.heap[k]?=wB.heap[k]?:=λk hk=>(tc.same k (by omega) (λe=>by have:=(hS k e).2;omega)).trans (b2.block k (by omega))
 have km0:bJ w0 (vd wB.heap.size W' w0):=λmg f e=>by
  by_cases hl:mg<wB.heap.size
  ·exact(JJ hn hl).trans (km mg f (h.inv.marks mg f e))
  ·exact(JN hn (by omega)).trans e
 have jX:∀k,wB.heap.size<=k->k<w0.heap.size->Z k:=λk h1 h2=>(h.z k).2 (.inl ⟨h1,h2⟩)
 refine⟨⟨h.bu.os,h.bu.tape,h.bu.output,by rw[z1];exact s0,λk hk=>(JJ hn (by omega)).trans ((hw k hk).trans (h.bu.block k hk))⟩,h.np.patch hn km0,h.len,h.eq,⟨tc.os.trans h.inv.os,tc.tape.trans h.inv.tape,tc.output.trans h.inv.output,by rw[z2];omega,λk h1 h2 h3=>?_,h.inv.q0,h.inv.p0,?_,?_,λa p ha=>?_,λk a hk=>?_,h.inv.dj⟩,λk=>by rw[z1,z2];exact h.z k⟩
 ·rw[z2]at h1
  by_cases hl:k<wB.heap.size
  ·exact(JJ hn hl).symm
  ·rw[JN hn (by omega),hz k (jX k (by omega) h1)];exact h.inv.old k h1 h2 h3
 ·refine h.inv.dv.keep ?_
  by_cases hl:0<wB.heap.size
  ·rw[JJ hn hl,h0];exact h.inv.zero
  ·exact JN hn (by omega)
 ·obtain⟨x0,x1,x2,r0,room,h1,h2,h3⟩:=h.inv.vf;exact⟨x0,x1,x2,r0,room,(JN hn h.np.lo).trans h1,(hz _ h.zpl).trans h2,h3⟩
 ·obtain⟨v,f,k,h1,h2,h3,h4,h5⟩:=h.inv.pc a p ha;have hp:=h.pc ha;exact⟨v,f,k,(JN hn hp.1).trans h1,(hz a (jX a hp.1 hp.2)).trans h2,aU.keep km0 _ _ h3,h4,h5.keep (λj hj=>hz j ((h.z j).2 (.inr ⟨a,hj⟩))) km h0 s3⟩
 ·have:=h.inv.ow k a hk;rw[z2];omega
theorem oV.turn(h:oV w pl G bao bcp bs Z W wB w0 Q vP ps Ow){aF:Nat->Nat->Prop}(hT:cY w0 pl Q Ow W aF W'):∃Z':Nat->Prop,oV w pl G bao bcp bs Z' W' wB w0 Q vP ps aF/\ap Z W W'/\(∀k,Z' k->Z k\/W.heap.size<=k):=by
 refine⟨λk=>(wB.heap.size<=k/\k<w0.heap.size)\/∃b,aF k b,⟨h.bu,h.np,h.len,h.eq,hT.inv,λ_=>Iff.rfl⟩,⟨hT.inv.os.trans h.inv.os.symm,hT.inv.tape.trans h.inv.tape.symm,hT.inv.output.trans h.inv.output.symm,hT.size,λk hk hn=>?_⟩,λk hk=>?_⟩
 ·by_cases hl:k<w0.heap.size
  ·have hB:k<wB.heap.size:=Nat.lt_of_not_le λe=>hn ((h.z k).2 (.inl ⟨e,hl⟩))
   have hq:Q k=zb:=by
    cases hq:Q k with
    |none=>rfl
    |some p=>have:=(h.pc hq).1;omega
   have hp:k≠pl:=λe=>by have:=h.np.lo;omega
   exact(hT.inv.old k hl hq hp).trans (h.inv.old k hl hq hp).symm
  ·exact(hT.eG k (by omega) hk (λb hb=>hn ((h.z k).2 (.inr ⟨b,hb⟩)))).1
 ·rcases hk with hk|⟨b,hk⟩
  ·exact .inl ((h.z k).2 (.inl hk))
  ·by_cases hl:k<W.heap.size
   ·by_cases ho:∃c,Ow k c
    ·exact .inl ((h.z k).2 (.inr ho))
    ·have h1:=hT.inv.ow k b hk;exact absurd hk ((hT.eG k h1.1 hl (λc hc=>ho ⟨c,hc⟩)).2 b)
   ·exact .inr (by omega)
theorem oV.below(h:oV w pl G bao bcp bs Z W wB w0 Q vP ps Ow)(hb:zm W.heap.size W W'):oV w pl G bao bcp bs Z W' wB w0 Q vP ps Ow:=⟨h.bu,h.np,h.len,h.eq,h.inv.below hb,h.z⟩
end
def PlX(w:zc)(pl:Nat)(G:Int)(bao:Option Addr)(bcp:Nat)(bs:List aV)(Z:Nat->Prop)(W:zc):Prop:=∃wB w0 Q vP ps Ow,oV w pl G bao bcp bs Z W wB w0 Q vP ps Ow
theorem QX{P:Nat->Prop}{i j k k':Nat}(h:qy P i j k)(h':qy P i j k'):k=k':=by
 rcases Ca k k' with e|e|e
 ·exact absurd h'.2.2.1 (h.2.2.2 k' e h'.2.1)
 ·exact e
 ·exact absurd h.2.2.1 (h'.2.2.2 k e h.2.1)
theorem zsY{L:Nat->Nat->Prop}{R:Nat->Nat->List Up->Prop}{C:Nat->Int->Nat->Nat->Prop}(hR:∀i j l l',R i j l->R i j l'->l=l'){mn:Nat}{mx:Int}{i j:Nat}{l:List Up}(h:ii L R C mn mx i j l):∀l',ii L R C mn mx i j l'->l=l':=by
 induction h with
 |done i j=>
  intro l' h';cases h' with
  |done=>rfl
  |out _ _ _ h=>exact absurd h (by decide)
  |may _ _ _ _ _ _ h=>exact absurd h (by decide)
 |pA i=>
  intro l' h';cases h' with
  |pA=>rfl
  |out _ _ _ h=>exact absurd h (by decide)
  |may _ _ _ _ _ _ h=>exact absurd h (by decide)
  |more _ _ _ _ _ h=>exact absurd h (Nat.lt_irrefl _)
 |out mx i j hm hn=>
  intro l' h';cases h' with
  |done=>rfl
  |pA=>rfl
  |out=>rfl
  |may _ _ _ k _ _ _ g=>exact absurd g.2.2.1 (hn k g.1 g.2.1)
  |more=>exact absurd hm (by decide)
 |must mn mx i j k l1 l2 g h1 h2 ih=>
  intro l' h';cases h' with
  |must _ _ _ _ k' I2 P4 g' A0 A1=>
   obtain rfl:=QX g g';rw[hR _ _ _ _ h1 A0,ih _ A1]
 |may mx i j k l1 l2 hm g h1 h2 ih=>
  intro l' h';cases h' with
  |done=>exact absurd hm (by decide)
  |pA=>exact absurd hm (by decide)
  |out _ _ _ _ hn=>exact absurd g.2.2.1 (hn k g.1 g.2.1)
  |may _ _ _ k' I2 P4 _ g' A0 A1=>
   obtain rfl:=QX g g';rw[hR _ _ _ _ h1 A0,ih _ A1]
  |more=>exact absurd hm (by decide)
 |more i j k l1 l2 hi g h1 h2 ih=>
  intro l' h';cases h' with
  |pA=>exact absurd hi (Nat.lt_irrefl _)
  |out _ _ _ h=>exact absurd h (by decide)
  |may _ _ _ _ _ _ h=>exact absurd h (by decide)
  |more _ _ k' I2 P4 _ g' A0 A1=>
   obtain rfl:=QX g g';rw[hR _ _ _ _ h1 A0,ih _ A1]
theorem Gr{u:aJ}:∀(p:Pt) (i j:Nat) (l l':List Up),Pl u p i j l->Pl u p i j l'->l=l'
 |.set _,_,_,l,l',h,h'=>by have h:l=[]:=h;have h':l'=[]:=h';rw[h,h']
 |.aT b g,i,j,l,l',⟨m,e,h⟩,⟨m',e',h'⟩=>by rw[e,e',Gr b i j m m' h h']
 |.seq p q,i,j,l,l',⟨k,l1,l2,g,h1,h2,e⟩,⟨k',I2,P4,g',A0,A1,e'⟩=>by
  obtain rfl:=QX g g';rw[e,e',Gr p i k l1 I2 h1 A0,Gr q k j l2 P4 h2 A1]
 |.aN p q,i,j,l,l',h,h'=>by
  rcases h with ⟨a,h⟩|⟨a,h⟩<;>rcases h' with ⟨a',h'⟩|⟨a',h'⟩
  ·exact Gr p i j l l' h h'
  ·exact absurd a a'
  ·exact absurd a' a
  ·exact Gr q i j l l' h h'
 |.az b mn mx,i,j,l,l',h,h'=>zsY (Gr b) (show ii (Lg u b) (Pl u b) (λmn mx i j=>Lg u (.az b mn mx) i j) mn.toNat mx i j l from h) l' h'
theorem zqN{G:Int}{bs:List aV}{t:ByteArray}{a e:Int}{cl:Bool}{r r':List (Int×Int)}(h:Cc G bs t a e cl r)(h':Cc G bs t a e cl r'):r=r':=by
 rcases h with ⟨h1,h2⟩|⟨h1,k,h2,h3,h4,l,h5,h6⟩<;>rcases h' with ⟨g1,g2⟩|⟨g1,k',g2,g3,g4,l',g5,g6⟩
 ·rw[h2,g2]
 ·exact absurd ⟨g1,k',g2,g4⟩ h1
 ·exact absurd ⟨h1,k,h2,h4⟩ g1
 ·have ek:k=k':=by
   rcases Ca k k' with e|e|e
   ·exact absurd h4 (g3 k e)
   ·exact e
   ·exact absurd g4 (h3 k' e)
  subst ek;rw[h6,g6,Gr _ _ _ _ _ h5 g5]
section
variable {r:bi}{t:ByteArray}{b:Nat}{cl:Bool}{a:Int}
theorem zn6{a':Int}(h:DT r t b cl a)(h':DT r t b cl a'):a=a':=by
 rcases h with ⟨h1,h2⟩|⟨k,h1,h2,h3,h4⟩<;>rcases h' with ⟨g1,g2⟩|⟨k',g1,g2,g3,g4⟩
 ·rw[h1,g1]
 ·exact absurd g3 (h2 k' g2)
 ·exact absurd h3 (g2 k h2)
 ·rw[h1,g1];rcases Ca k k' with e|e|e
  ·exact absurd h3 (g4 k e)
  ·rw[e]
  ·exact absurd g3 (h4 k' e)
theorem zn5{l l':List (Int×Int)}(h:DR r t a b cl l)(h':DR r t a b cl l'):l=l':=by
 rcases h with ⟨h1,h2⟩|⟨h1,h2⟩<;>rcases h' with ⟨g1,g2⟩|⟨g1,g2⟩
 ·rw[h2,g2]
 ·omega
 ·omega
 ·exact zqN h2 g2
theorem ztg{rs:List bi}{d:bj}{s s1 s2:cK}{x1 x2:cD}(h:vG rs d s s1 x1)(h':vG rs d s s2 x2):s1=s2/\x1=x2:=by
 rcases h with ⟨h0,h1,h2⟩|⟨h0,b,h1,h2,h3,h4,a,sp,h5,h6,h7,h8⟩|⟨h0,h1,h2,h3⟩<;>rcases h' with ⟨g0,g1,g2⟩|⟨g0,b',g1,g2,g3,g4,a',Qk,g5,g6,g7,g8⟩|⟨g0,g1,g2,g3⟩
 ·exact⟨h1.trans g1.symm,h2.trans g2.symm⟩
 ·rw[h0]at g0;cases g0
 ·rw[h0]at g0;cases g0
 ·rw[h0]at g0;cases g0
 ·have e:b=b':=by
   rcases Ca b b' with e|e|e
   ·have:=g3 b h1 e;omega
   ·exact e
   ·have:=h3 b' g1 e;omega
  subst e;obtain rfl:=zn6 h5 g5;obtain rfl:=zn5 h6 g6;exact⟨h7.trans g7.symm,h8.trans g8.symm⟩
 ·have:=g1 b h1 h2;omega
 ·rw[h0]at g0;cases g0
 ·have:=h1 b' g1 g2;omega
 ·exact⟨h2.trans g2.symm,h3.trans g3.symm⟩
end
def FC(P:Nat->Option Nat)(i:Nat):zf:=match P i with
 |some pl=>ze (za ⟨pl,0,zb⟩)
 |none=>ze zb
def tT(P:Nat->Option Nat)(n:Nat):Array zf:=((List.range n).map (FC P)).toArray
theorem Ny{P:Nat->Option Nat}{n i:Nat}(h:i<n):(tT P n)[i]?=za (FC P i):=by simp[tT,h]
theorem zrO(n:Nat):Array.replicate n (ze zb)=tT (λ_=>zb) n:=by
 apply Array.ext_getElem?
 intro i
 by_cases h:i<n
 ·rw[Ny h];simp[h,FC]
 ·simp[tT,h]
theorem ztn(P:Nat->Option Nat)(n i pl:Nat):(tT P n).setIfInBounds i (ze (za ⟨pl,0,zb⟩))=tT (λj=>if j=i then za pl else P j) n:=by
 apply Array.ext_getElem?
 intro j
 by_cases h:j<n
 ·rw[Ny h,NN]
  by_cases e:i=j
  ·subst e;simp[tT,h,FC]
  ·rw[ak e,Ny h];simp[FC,Ne.symm e]
 ·have h1:(tT P n).size=n:=by simp[tT]
  have h2:(tT (λj=>if j=i then za pl else P j) n).size=n:=by simp[tT]
  rw[DZ (by simp[h1];omega),DZ (by omega)]
structure rk where
 lo:Nat
 w:zc
 WF:zc
 rv:zf
 cv:zf
 bv:zf
 fv:zf
 tv:zf
 ev:zf
 nv:zf
 kv:zf
 wd:Int
 rs:List bi
 bf:Nat
 g:Nat
 cap:Nat
 gq:Nat
 gs:Nat
 vs:List zf
structure dI(c:rk)(P:Nat->Option Nat)(Z:Nat->Nat->Prop)(W:zc):Prop where
 fin:Cf c.w c.rv c.cv c.bv c.fv c.tv c.ev c.nv c.kv c.wd c.rs c.bf c.g c.cap c.gq c.vs c.WF
 kI:∃cs,c.WF.heap[c.gs]?=za (zi cs 32 (0,0))
 KS:c.w.heap.size<=c.gs
 dv:fS c.w
 tc:ap (λk=>k=c.gs\/k=c.gq) c.WF W
 qs:W.heap[c.gq]?=za (zi (tT P c.rs.length) 161 (0,0))
 Wd:∀i pl,P i=za pl->i<c.rs.length
 I7:∀i pl,P i=za pl->∃bao bcp,eh c.lo c.w (.slice bao (c.rs.getD i .zero).branches.length bcp) (c.rs.getD i .zero).branches/\PlX c.w pl (c.rs.getD i .zero).di bao bcp (c.rs.getD i .zero).branches (Z i) W
 zn:∀i k,Z i k->P i≠zb
 nF:∀i k,Z i k->c.WF.heap.size<=k/\k<W.heap.size
 Nh:∀i j k,Z i k->Z j k->i=j
section
variable {c:rk} {P:Nat->Option Nat} {Z:Nat->Nat->Prop} {W W':zc}
theorem dI.EI(h:dI c P Z W):c.gs<c.WF.heap.size:=by
 obtain⟨cs,e⟩:=h.kI;exact(ah.1 e).1
theorem dI.EH(h:dI c P Z W):c.gq<c.WF.heap.size:=(ah.1 h.fin.qs).1
theorem dI.ne(h:dI c P Z W):c.gs≠c.gq:=by
 intro q;obtain⟨cs,e⟩:=h.kI;have:=h.fin.qs;rw[<-q,e]at this;exact absurd (bL this) (by decide)
theorem dI.keep(h:dI c P Z W){k:Nat}{cs:Array zf}{t:zp}(e:c.WF.heap[k]?=za (zi cs t (0,0)))(h1:t≠32)(h2:t≠161):W.heap[k]?=za (zi cs t (0,0)):=
 (h.tc.same k (ah.1 e).1 (λq=>by
  rcases q with rfl|rfl
  ·obtain⟨cs,e2⟩:=h.kI;rw[e]at e2;exact h1 (bL e2)
  ·have e2:=h.fin.qs;rw[e]at e2;exact h2 (bL e2))).trans e
theorem dI.box(h:dI c P Z W):W.heap[c.bf]?=za (zi (AW c.rv c.cv c.wd c.bv c.fv c.tv c.ev c.nv c.kv (zj (za ⟨c.g,0,zb⟩) c.rs.length c.cap) (zj (za ⟨c.gq,0,zb⟩) c.rs.length c.rs.length)) 128 (0,0)):=h.keep h.fin.box (by decide) (by decide)
theorem dI.own(h:dI c P Z W):W.ownsRow c.w.heap.size 155 1 (zj (za ⟨c.g,0,zb⟩) c.rs.length c.cap) c.rs.length c.vs:=gR h.fin.own λk e=>by
 obtain⟨_,ax,z⟩:=dy h.fin.own e;exact(h.keep z (by decide) (by decide)).trans z.symm
theorem dI.MO(h:dI c P Z W):sx W c.vs c.rs:=h.fin.MO.keep h.tc.size λk _ t e ht=>h.keep e (by rcases ht with rfl|rfl<;>decide) (by rcases ht with rfl|rfl<;>decide)
theorem dI.bu(h:dI c P Z W):zm c.w.heap.size c.w W:=by
 have b:=h.fin.bu;have h1:=h.fin.OR;have h2:=h.KS;have h3:=b.size;exact⟨h.tc.os.trans b.os,h.tc.tape.trans b.tape,h.tc.output.trans b.output,aW b.size h.tc.size,λk hk=>(h.tc.same k (by omega) (by show ¬(k=c.gs\/k=c.gq);omega)).trans (b.block k hk)⟩
theorem dI.pos(h:dI c P Z W):0<c.w.heap.size:=ql h.dv
theorem dI.other(h:dI c P Z W){S:Nat->Prop}(tc:ap S W W')(km:bJ W W')(hS:∀k,S k->(k=c.gs\/c.WF.heap.size<=k)/\∀j,¬Z j k):dI c P Z W':=by
 have hq:=h.EH;have hne:=h.ne;have hs:=h.tc.size;have jZ:=h.KS;have hb:=h.fin.bu.size;refine⟨h.fin,h.kI,h.KS,h.dv,⟨tc.os.trans h.tc.os,tc.tape.trans h.tc.tape,tc.output.trans h.tc.output,aW hs tc.size,λk hk hn=>(tc.same k (by omega) (λe=>?_)).trans (h.tc.same k hk hn)⟩,(tc.same c.gq (by omega) (λe=>?_)).trans h.qs,h.Wd,λi pl hi=>?_,h.zn,λi k hz=>⟨(h.nF i k hz).1,bA (h.nF i k hz).2 tc.size⟩,h.Nh⟩
 ·rcases(hS k e).1 with e|e
  ·exact hn (.inl e)
  ·omega
 ·rcases(hS c.gq e).1 with e|e
  ·exact hne e.symm
  ·omega
 ·obtain⟨bao,bcp,h1,wB,w0,Q,vP,ps,Ow,h2⟩:=h.I7 i pl hi;exact⟨bao,bcp,h1,_,_,_,_,_,_,h2.other tc km (λk e=>⟨(hS k e).2 i,by rcases(hS k e).1 with e|e<;>omega⟩) h.pos⟩
theorem dI.below(h:dI c P Z W)(hb:zm W.heap.size W W'):dI c P Z W':=
 h.other (S:=λ_=>False) (.bR hb) (.of hb) (λ_ e=>e.elim)
theorem dI.turn(h:dI c P Z W){i pl:Nat}(hi:P i=za pl){bao:Option Addr}{bcp:Nat}(hB:eh c.lo c.w (.slice bao (c.rs.getD i .zero).branches.length bcp) (c.rs.getD i .zero).branches){wB w0:zc}{Q:Nat->Option Pt}{vP:zf}{ps:List (Nat×Pt)}{Ow aF:Nat->Nat->Prop}(hp:oV c.w pl (c.rs.getD i .zero).di bao bcp (c.rs.getD i .zero).branches (Z i) W wB w0 Q vP ps Ow)(hT:cY w0 pl Q Ow W aF W'):
  ∃Z':Nat->Nat->Prop,dI c P Z' W'/\oV c.w pl (c.rs.getD i .zero).di bao bcp (c.rs.getD i .zero).branches (Z' i) W' wB w0 Q vP ps aF/\ap (Z i) W W'/\(∀j k,Z' j k->Z j k\/W.heap.size<=k)/\(∀j k,j≠i->Z' j k->Z j k)/\∀k,Z' i k↔(wB.heap.size<=k/\k<w0.heap.size)\/∃b,aF k b:=by
 obtain⟨Y,h1,tc,hY⟩:=hp.turn hT;have hs:=h.tc.size;have qe:∀k,Z i k->c.WF.heap.size<=k/\k<W.heap.size:=h.nF i;have e1:(λk=>(i=i/\Y k)\/(i≠i/\Z i k))=Y:=funext λk=>propext ⟨λx=>x.elim (·.2) (λy=>absurd rfl y.1),λx=>.inl ⟨rfl,x⟩⟩
 have hq:=h.EH;refine⟨λj k=>(j=i/\Y k)\/(j≠i/\Z j k),⟨h.fin,h.kI,h.KS,h.dv,⟨tc.os.trans h.tc.os,tc.tape.trans h.tc.tape,tc.output.trans h.tc.output,aW hs tc.size,λk hk hn=>(tc.same k (by omega) (λe=>by have:=(qe k e).1;omega)).trans (h.tc.same k hk hn)⟩,(tc.same c.gq (by omega) (λe=>by have:=(qe c.gq e).1;omega)).trans h.qs,h.Wd,λj MN hj=>?_,λj k hz=>?_,λj k hz=>?_,λj1 j2 k aO aQ=>?_⟩,?_,tc,λj k hz=>?_,λj k hj hz=>hz.elim (λy=>absurd y.1 hj) (·.2),λk=>?_⟩
 ·by_cases e:j=i
  ·subst e;rw[hi]at hj;cases hj;refine⟨bao,bcp,hB,?_⟩;rw[e1];exact⟨wB,w0,Q,vP,ps,aF,h1⟩
  ·obtain⟨b2,c2,h2,wB2,w02,Q2,vP2,ps2,nM,h3⟩:=h.I7 j MN hj;have e2:(λk=>(j=i/\Y k)\/(j≠i/\Z j k))=Z j:=funext λk=>propext ⟨λx=>x.elim (λy=>absurd y.1 e) (·.2),λx=>.inr ⟨e,x⟩⟩
   refine⟨b2,c2,h2,?_⟩;rw[e2];exact⟨_,_,_,_,_,_,h3.other tc hT.km (λk hk=>⟨λq=>e (h.Nh j i k q hk),by have:=(qe k hk).1;have:=h.fin.bu.size;omega⟩) h.pos⟩
 ·rcases hz with ⟨rfl,_⟩|⟨_,hz⟩
  ·rw[hi];exact λe=>by cases e
  ·exact h.zn j k hz
 ·rcases hz with ⟨rfl,hz⟩|⟨_,hz⟩
  ·have:=(h1.lt hz).2;rcases hY k hz with e|e
   ·exact⟨(qe k e).1,this⟩
   ·omega
  ·have:=h.nF j k hz;have:=tc.size;omega
 ·have key:∀j,j≠i->Z j k->¬Y k:=λj hj hz hy=>by
   rcases hY k hy with e|e
   ·exact hj (h.Nh j i k hz e)
   ·have:=(h.nF j k hz).2;omega
  rcases aO with ⟨rfl,aO⟩|⟨d1,aO⟩<;>rcases aQ with ⟨rfl,aQ⟩|⟨d2,aQ⟩
  ·rfl
  ·exact absurd aO (key _ d2 aQ)
  ·exact absurd aQ (key _ d1 aO)
  ·exact h.Nh _ _ _ aO aQ
 ·dsimp only;rw[e1];exact h1
 ·rcases hz with ⟨rfl,hz⟩|⟨_,hz⟩
  ·exact hY k hz
  ·exact .inl hz
 ·have:=h1.z k;constructor
  ·rintro (⟨_,hz⟩|⟨e,_⟩)
   ·exact this.1 hz
   ·exact absurd rfl e
  ·exact λhz=>.inl ⟨rfl,this.2 hz⟩
theorem dI.made(h:dI c P Z W){i:Nat}(hi:P i=zb)(jm:i<c.rs.length){bao:Option Addr}{bcp:Nat}(hB:eh c.lo c.w (.slice bao (c.rs.getD i .zero).branches.length bcp) (c.rs.getD i .zero).branches){e:Ending}(hp:SQ W c.gq i (c.rs.getD i .zero).di bao bcp (c.rs.getD i .zero).branches e W'):
  ∃(pl:Nat) (P':Nat->Option Nat) (Z':Nat->Nat->Prop),e=.returned (ze (za ⟨pl,0,zb⟩))/\P' i=za pl/\dI c P' Z' W'/\ap (· = c.gq) W W'/\∀j k,Z' j k->Z j k\/W.heap.size<=k:=by
 obtain⟨pl,Q,vP,ps,wB,rfl,hN,dC,hE,tB,hq⟩:=hp;have hs:=h.tc.size;have ku:=hN.kd.bu;have BH:ap (· = c.gq) W W':=tB.trans (.bR ku);have LF:=h.EH;have iJ:=h.EI;have hne:=h.ne;have I1:=h.fin.bu.size;have jZ:=h.fin.OR;have s1:=tB.size;have s2:=ku.size;have gz:=h.pos;have bw:=h.bu;have bB:zm c.w.heap.size c.w wB:=⟨tB.os.trans bw.os,tB.tape.trans bw.tape,tB.output.trans bw.output,aW bw.size s1,λk hk=>(tB.same k (by have:=bw.size;omega) (by show ¬k=c.gq;omega)).trans (bw.block k hk)⟩;have zd:fS wB:=h.dv.keep (bB.block 0 gz);have q':W'.heap[c.gq]?=za (zi (tT (λj=>if j=i then za pl else P j) c.rs.length) 161 (0,0)):=by
  rw[<-ztn];exact(ku.block c.gq (by omega)).trans (hq _ h.qs)
 have km:bJ W W':=λmg f e=>(BH.same mg (ah.1 e).1 (λq=>by
  have q:mg=c.gq:=q;rw[q,h.qs]at e;exact absurd (bL e) (by decide))).trans e
 have hzn:∀k,¬Z i k:=λk hz=>h.zn i k hz hi
 refine⟨pl,λj=>if j=i then za pl else P j,λj k=>(j=i/\wB.heap.size<=k/\k<W'.heap.size)\/(j≠i/\Z j k),rfl,by simp,⟨h.fin,h.kI,h.KS,h.dv,⟨BH.os.trans h.tc.os,BH.tape.trans h.tc.tape,BH.output.trans h.tc.output,by omega,λk hk hn=>(BH.same k (by omega) (λe=>hn (.inr e))).trans (h.tc.same k hk hn)⟩,q',λj MN hj=>?_,λj MN hj=>?_,λj k hz=>?_,λj k hz=>?_,λj1 j2 k aO aQ=>?_⟩,BH,λj k hz=>?_⟩
 ·by_cases e:j=i
  ·rw[e];exact jm
  ·simp only[e,if_false]at hj;exact h.Wd j MN hj
 ·by_cases e:j=i
  ·subst e;simp only[if_true]at hj;cases hj;exact⟨bao,bcp,hB,wB,W',Q,vP,ps,λ_ _=>False,bB,hN,dC,hE,hN.start zd,λk=>⟨λx=>x.elim (λy=>.inl y.2) (λy=>absurd rfl y.1),λx=>x.elim (λy=>.inl ⟨rfl,y⟩) (λ⟨_,y⟩=>y.elim)⟩⟩
  ·simp only[e,if_false]at hj;obtain⟨b2,c2,h2,wB2,w02,Q2,vP2,ps2,nM,h3⟩:=h.I7 j MN hj;have e2:(λk=>(j=i/\wB.heap.size<=k/\k<W'.heap.size)\/(j≠i/\Z j k))=Z j:=funext λk=>propext ⟨λx=>x.elim (λy=>absurd y.1 e) (·.2),λx=>.inr ⟨e,x⟩⟩
   refine⟨b2,c2,h2,?_⟩;rw[e2];exact⟨_,_,_,_,_,_,h3.other BH km (λk hk=>by
    have hk:k=c.gq:=hk;subst hk;exact⟨λq=>by have:=(h.nF j _ q).1;omega,jZ⟩) gz⟩
 ·rcases hz with ⟨rfl,_⟩|⟨d,hz⟩
  ·simp
  ·simp only[d,if_false];exact h.zn j k hz
 ·rcases hz with ⟨rfl,hz⟩|⟨_,hz⟩
  ·omega
  ·have:=h.nF j k hz;omega
 ·rcases aO with ⟨rfl,aO⟩|⟨d1,aO⟩<;>rcases aQ with ⟨rfl,aQ⟩|⟨d2,aQ⟩
  ·rfl
  ·have:=(h.nF _ k aQ).2;omega
  ·have:=(h.nF _ k aO).2;omega
  ·exact h.Nh _ _ _ aO aQ
 ·rcases hz with ⟨rfl,hz⟩|⟨_,hz⟩
  ·exact .inr (by omega)
  ·exact .inl hz
end
def PoB(c:rk)(Z:Nat->Nat->Prop)(W:zc)(i:Nat)(e:Ending)(W':zc):Prop:=
 ∃(pl:Nat) (P':Nat->Option Nat) (Z':Nat->Nat->Prop),e=.returned (ze (za ⟨pl,0,zb⟩))/\P' i=za pl/\dI c P' Z' W'/\ap (· = c.gq) W W'/\∀j k,Z' j k->Z j k\/W.heap.size<=k
theorem znX(W:zc)(bf gq n i pl:Nat)(rv cv bv fv tv ev nv kv pv:zf)(wd:Int)(P:Nat->Option Nat)(jX:i<n)(hi:P i=za pl)
  (o9:W.heap[bf]?=za (zi (AW rv cv wd bv fv tv ev nv kv pv (zj (za ⟨gq,0,zb⟩) n n)) 128 (0,0))) (hq:W.heap[gq]?=za (zi (tT P n) 161 (0,0))):
  zo prog 101 #[ze (za ⟨bf,0,zb⟩),zl .i64 i] W λe W'=>e=.returned (ze (za ⟨pl,0,zb⟩))/\zm W.heap.size W W':=by
 have Ez:W.cell? ⟨bf,10,zb⟩=za (zj (za ⟨gq,0,zb⟩) n n):=bX o9 10;have bq:W.cell? ⟨gq,i,zb⟩=za (ze (za ⟨pl,0,zb⟩)):=(bX hq i).trans (by rw[Ny jX,FC,hi]);have da:(0:Int)<=(i:Int):=by omega
 have cO:(i:Int)<(n:Int):=by omega
 clear o9 hq
 go_enter func101,ntmps101
 go_wp2;go_ret;exact⟨rfl,Below.refl _ _⟩
theorem zpV{c:rk}{ao:Option Addr}{rc:Nat}(wu:c.rv=.slice ao c.rs.length rc){P:Nat->Option Nat}{Z:Nat->Nat->Prop}{W:zc}(h:dI c P Z W)(hr:fU c.lo c.w (.slice ao c.rs.length rc) c.rs){i:Nat}(jm:i<c.rs.length)(hlen:(c.rs.getD i .zero).branches.length<=100000):
  zo prog 101 #[ze (za ⟨c.bf,0,zb⟩),zl .i64 i] W λe W'=>PoB c Z W i e W':=by
 cases hi:P i with
 |some pl=>
  refine(znX W c.bf c.gq c.rs.length i pl _ c.cv c.bv c.fv c.tv c.ev c.nv c.kv _ c.wd P jm hi h.box h.qs).mono ?_;rintro e W' ⟨rfl,hb⟩;exact⟨pl,P,Z,rfl,hi,h.below hb,.bR hb,λ_ _ hz=>.inl hz⟩
 |none=>
  obtain⟨jD,xX,hv',Mb,wo⟩:=hr;cases hv';obtain⟨rb,ro,bv0,rd,Im,gD,kX,k0,k1,Ln⟩:=wo.elem h.bu jm;subst Im;obtain⟨bao,bcp,rfl,xB,qG⟩:=Ln;obtain⟨gp,sc,CH,h1,h2,h3⟩:=h.MO.at_ i jm;have kC:=gD.out;rw[kC]at h1 h3 hlen;have kp:W.cell? ⟨c.g,i,zb⟩=za (zj (za ⟨gp,0,zb⟩) rd.branches.length sc):=(h.own.cellAt i (by omega)).trans h1;refine(znW W c.bf c.g c.cap c.gq c.rs.length i gp sc rb ro rc c.cv c.bv c.fv c.tv c.ev c.nv c.kv c.wd rd.di bao bcp rd.branches _ jm (by have:=h.box;rw[wu]at this;exact this) h.qs (by rw[Ny jm,FC,hi]) hlen k0 k1 kp h3 ⟨CH,h2⟩).mono λe W' hp=>?_
  exact h.made hi jm (bao:=bao) (bcp:=bcp) (by rw[kC];exact⟨bao,bcp,rfl,xB,qG⟩) (by rw[kC];exact hp)
variable {bs:List aV}{t:ByteArray}{e n:Nat}{cl:Bool}{a:Int}
def oQ(bs:List aV)(t:ByteArray)(e:Nat)(cl:Bool)(n:Nat)(a:Int):Prop:=
 (a=-1/\∀i,i<=e->∀j,j<n->¬iA (bs.getD j .zero) t i e cl)\/∃k:Nat,a=k/\k<=e/\(∃j,j<n/\iA (bs.getD j .zero) t k e cl)/\∀i,i<k->∀j,j<n->¬iA (bs.getD j .zero) t i e cl
def LgL(u:aJ)(p:Pt)(e:Nat)(v:Int):Prop:=(v=-1/\∀m,¬Lg u p m e)\/∃k:Nat,v=k/\Lg u p k e/\∀m,m<k->¬Lg u p m e
def wF(aX:Bool)(v a:Int):Bool:=decide (v>=0)&&(v==0 || !aX)&&(a == -1 || decide (v<a))
theorem oQ.skip(h:oQ bs t e cl n a)(hn:∀i,i<=e->¬iA (bs.getD n .zero) t i e cl):oQ bs t e cl (n+1) a:=by
 rcases h with ⟨h1,h2⟩|⟨k,h1,h2,⟨j,h3,h4⟩,h5⟩
 ·refine .inl ⟨h1,λi hi j hj=>?_⟩
  by_cases e1:j=n
  ·subst e1;exact hn i hi
  ·exact h2 i hi j (by omega)
 ·refine .inr ⟨k,h1,h2,⟨j,by omega,h4⟩,λi hi j hj=>?_⟩
  by_cases e1:j=n
  ·subst e1;exact hn i (by omega)
  ·exact h5 i hi j (by omega)
theorem oQ.next{v:Int}{aX:Bool}{u:aJ}{p:Pt}(h:oQ bs t e cl n a)(hv:LgL u p e v)(hp:∀i,i<=e->(iA (bs.getD n .zero) t i e cl↔(i==0 || !aX)=true/\Lg u p i e)):oQ bs t e cl (n+1) (if wF aX v a=true then v else a):=by
 rcases hv with ⟨Fs,uU⟩|⟨k,rfl,Fs,uU⟩
 ·have:wF aX v a=false:=by unfold wF;rw[Fs];rfl
  rw[this];exact h.skip λi hi hb=>uU i ((hp i hi).1 hb).2
 ·have UF:=Fs.1;have hz:((k:Int)==0)=(k==0):=by
   by_cases e0:k=0
   ·subst e0;rfl
   ·have:((k:Int)==0)=false:=by simp;omega
    rw[this];simp;omega
  have pi:∀i,i<k->¬iA (bs.getD n .zero) t i e cl:=λi hi hb=>uU i hi ((hp i (by omega)).1 hb).2
  cases hm:(k==0 || !aX)
  ·have:wF aX k a=false:=by unfold wF;rw[hz,hm];simp
   rw[this];refine h.skip λi hi hb=>?_
   obtain⟨h1,h2⟩:=(hp i hi).1 hb;simp only[Bool.or_eq_false_iff,Bool.not_eq_false',eB]at hm;rw[hm.2]at h1;simp only[Bool.not_true,Bool.or_false,beq_iff_eq]at h1;exact uU i (by omega) h2
  ·have jk:iA (bs.getD n .zero) t k e cl:=(hp k UF).2 ⟨hm,Fs⟩
   by_cases hla:a=-1\/(k:Int)<a
   ·have:wF aX k a=true:=by
     unfold wF;rw[hz,hm];simp only[ge_iff_le,Int.natCast_nonneg,decide_true,kh,sK,beq_iff_eq,lx];exact hla
    rw[aC this];refine .inr ⟨k,rfl,UF,⟨n,by omega,jk⟩,λi hi j hj=>?_⟩
    by_cases e1:j=n
    ·subst e1;exact pi i hi
    ·rcases h with ⟨h1,h2⟩|⟨k',h1,h2,h3,h5⟩
     ·exact h2 i (by omega) j (by omega)
     ·exact h5 i (by omega) j (by omega)
   ·have:wF aX k a=false:=by
     unfold wF;rw[hz,hm];simp only[ge_iff_le,Int.natCast_nonneg,decide_true,kh,Bool.or_eq_false_iff,eB,decide_eq_false_iff_not];omega
    rw[this];rcases h with ⟨h1,h2⟩|⟨k',h1,h2,⟨j,h3,h4⟩,h5⟩
    ·omega
    ·refine .inr ⟨k',h1,h2,⟨j,by omega,h4⟩,λi hi j hj=>?_⟩
     by_cases e1:j=n
     ·subst e1;exact pi i (by omega)
     ·exact h5 i hi j (by omega)
theorem ziH{lo:Nat}(w wB:zc)(EU:zm w.heap.size w wB)(bs:List aV)(ao:Option Addr)(cap:Nat)(hs:eh lo w (.slice ao bs.length cap) bs)(hlen:bs.length<=100000)(x0:zf)(pl:Nat)(Q:Nat->Option Pt)(vP:zf)(ps:List (Nat×Pt))(w0:zc)(hN:jB wB pl x0 (.slice ao bs.length cap) w0 Q vP ps)(dC:ps.length=bs.length)(t:ByteArray)(ht:t.size<=4096)(e:Nat)(Iu:e<=t.size)(cl:Bool)
  (hE:∀k,k<bs.length->ij (kG ps k) (a8 (bs.getD k .zero).nodes ((bs.getD k .zero).nodes.length-1))) (qz:Nat->Nat->Prop) (WI:zc) (zg:cF w0 pl Q qz WI):
  zo prog 102 #[ze (za ⟨pl,0,zb⟩),.string t,zl .i64 e,.bool cl] WI λx w'=>∃(a:Int) (aF:Nat->Nat->Prop),x=.returned (zl .i64 a)/\oQ bs t e cl bs.length a/\cY w0 pl Q qz WI aF w':=by
 obtain⟨iD,fB,uU,dG,hc⟩:=hs;cases uU;have tN:t.data.toList.length=t.size:=by simp
 have cb:WI.cell? ⟨pl,1,zb⟩=za (.slice ao bs.length cap):=by
  obtain⟨⟨room,h1⟩,_⟩:=hN.cells zg;exact(aM _ _ _ _ _ _ h1:_=_)
 have GP:zk (∀W Ow,cF w0 pl Q Ow W->zm w.heap.size w W):=λW Ow hI=>aq EU EU.size (hN.bu hI)
 have Oe:zk (∀k,k<bs.length->∀m,m<=e->(Lg t.data.toList (kG ps k) m e↔In (a8 (bs.getD k .zero).nodes ((bs.getD k .zero).nodes.length-1)) ((t.data.toList.drop m).take (e-m)))):=λk hk m hm=>by
  unfold Lg;rw[(hE k hk).wd];exact⟨λh=>h.2.2,λh=>⟨hm,by omega,h⟩⟩
 have Kc:zk (∀k,k<bs.length->dU wB.heap.size w0 pl Q (qV ps k) (kG ps k)):=λk hk=>hN.kd.fin _ (B8 (Gq (by omega)))
 have Ao:zk (∀W Ow,cF w0 pl Q Ow W->∀k,k<bs.length->∃gp cp,W.cell? ⟨pl,2,zb⟩=za (zj (za ⟨gp,0,zb⟩) bs.length cp)/\W.cell? ⟨gp,k,zb⟩=za (ze (za ⟨qV ps k,0,zb⟩))):=λW Ow hI k hk=>by
  obtain⟨⟨room,h1⟩,h2⟩:=hN.cells hI;obtain⟨gp,cp,hv⟩:∃gp cp,vP=zj (za ⟨gp,0,zb⟩) ps.length cp:=by
   rcases h2.2 with ⟨_,e2⟩|⟨g,c,ax,e,_⟩
   ·omega
   ·exact⟨g,c,e⟩
  subst hv;exact⟨gp,cp,by have:=(wN h1).1;rw[dC]at this;exact this,X9 h2 (Gq (by omega))⟩
 have xd:=aA (show cY w0 pl Q qz WI qz WI from⟨zg,aj _,λ_ _ _ h=>⟨rfl,h⟩,λ_ _ e=>e⟩);clear zg hE hN EU
 go_enter func102,ntmps102
 go_wp2;clear cb
 go_loopw [9,18] (λav iv wr=>∃(k:Nat) (a:Int) (Ow:Nat->Nat->Prop),av=zl .i64 a/\iv=zl .i64 k/\k<=bs.length/\zk (cY w0 pl Q qz WI Ow wr)/\zk (oQ bs t e cl k a))
  (λ_ iv _=>bs.length-(intOf iv).toNat)
 case atStart=>exact⟨0,-1,_,rfl,rfl,aR _,xd,.inl ⟨rfl,λi _ j hj=>absurd hj (cR _)⟩⟩
 case round=>
  clear xd;obtain⟨k,a,Ow,rfl,rfl,hk,oN,HL⟩:=hrel;have aD:=GP.out wr Ow oN.out.inv
  by_cases hlt:k<bs.length
  ·obtain⟨b,o,nv,bd,rfl,Hn,aZ,c0,c1,c2,ir⟩:=hc.elem aD hlt;obtain⟨dM,iX,rfl,mQ,kW⟩:=ir;clear kW;have gZ:(0:Int)<=(k:Int):=by omega
   have db:(k:Int)<(bs.length:Int):=by omega
   obtain⟨V,hV⟩:∃V,wr.alloc (zi #[.bool bd.aX,.bool bd.bm,.slice dM bd.nodes.length iX] 115)=V:=⟨_,rfl⟩;have gG:zm wr.heap.size wr V:=by rw[<-hV];exact aw
   have xV:V.heap[wr.heap.size]?=za (zi #[.bool bd.aX,.bool bd.bm,.slice dM bd.nodes.length iX] 115 (0,0)):=by rw[<-hV];exact aI _ _
   obtain⟨d0,d1,d2,-,-,-⟩:=ci xV;have Me:wr.heap.size<V.heap.size:=(ah.1 xV).1;have zh:=oN.out.trans (cY.bR oN.out.inv gG);have s9:zk (∀i,BO (bs.getD k .zero).aX (bs.getD k .zero).bm t.size i e cl=((i==0 || !bd.aX)&&((cl&&e==t.size) || !bd.bm))):=λi=>by rw[Hn.out,zh1]
   have rP:∀b,¬Ow wr.heap.size b:=λb ho=>by have:=(oN.out.inv.ow _ b ho).2;omega
   have wy:=oN.out.inv.size;have tH:=zj2 bd.aX bd.bm cl dM bd.nodes.length iX t e V;have sY:=aA zh;have Av:=aA xV;clear gG xV zh oN aD
   go_upto_region 5 with fail
   clear hV c0 c1 c2
   go_wp2_with fail
   refine tH.mono ?_;rintro r1 W1 ⟨rfl,ag⟩;have ly:=aA (sY.out.trans (cY.bR sY.out.inv ag));have x1:=(ag.block _ Me).trans Av.out;have dH:wr.heap.size<W1.heap.size:=(ah.1 x1).1;have Au:=aA x1;clear tH d0 d1 d2 x1;cases dG:((cl&&e==t.size) || !bd.bm)
   ·have xe:zk (oQ bs t e cl (k+1) a):=HL.out.skip λi _ hb=>by have:=hb.1;rw[s9.out,dG,Bool.and_false]at this;cases this
    clear sY Av Au;go_wp2
    go_roundw
    case rel=>exact⟨k+1,a,Ow,rfl,by go_num,by omega,ly,xe⟩
    case measure=>simp[intOf];omega
   ·obtain⟨gp,cp,k2,k3⟩:=Ao.out W1 Ow ly.out.inv k hlt;have hst:=Jp (qV ps k) (kG ps k) W1 ly.out.inv (Kc.out k hlt).q
    go_wp2_with fail
    refine hst.mono ?_;rintro x2 W2 ⟨s,nM,X,v,ra,rb,O1,O2,rfl,mX,tG,pX,hch⟩;have rU:=QR e W2 (by omega);have uj:=aA mX;have yO:=aA hch;clear hst mX hch k2 k3
    go_wp2_with fail
    refine rU.mono ?_;rintro x3 W3 ⟨U,rfl,hU,gX,aG⟩;have l9:=uj.out.below (uj.out.inv.below aG) aG;have nU:zk _:=yO.out.below aG;have jk:=Qs l9 (by omega) (by omega) t ht (e/64+1) W2.heap.size (e/64+1) U hU (by omega) (λhx=>by have:=(uj.out.x0 _ hx).2;omega) ⟨e,by omega,(gX _).2 rfl⟩ (λq _ hb=>by have:=(gX q).1 hb;omega);have ru:=aA gX;have En:=aA l9;obtain⟨ne,hne⟩:∃ne,e/64+1=ne:=⟨_,rfl⟩;have Fe:ne<=100:=by omega
    have zz1:0<ne:=by omega
    have lG:e<64*ne:=by omega
    rw[hne]at jk ⊢;clear rU hU gX l9 hne
    go_wp2_with fail
    refine jk.mono ?_;rintro x4 W4 ⟨nN,X4,high,tt,gs,b',O,S,pv,ps4,rfl,h4,Lp,pk,BA,T,hh⟩;have hle:=XE ne gs ne S W4 T.sp (by omega) (h4.inv.dv.keep h4.inv.zero);obtain⟨-,k1,-,-⟩:=qm T.box;have TV:=h4.zL (Lp _ _ nU.out);have Ah:=aA (ly.out.trans TV);have Hx4:=aA ((TV.eG _ wy dH rP).1.trans Au.out);have kR:zk (∀m,au S m=true↔Lg t.data.toList (kG ps k) m e):=λm=>by
     rw[Qw En.out.inv (Kc.out k hlt).q T (λm hm=>by rw[tN,(ru.out m).1 hm.2];omega) m];constructor
     ·rintro ⟨e',h1,h2⟩;rw[(ru.out e').1 h1.2]at h2;exact h2
     ·intro h1;exact⟨e,⟨lG,(ru.out _).2 rfl⟩,h1⟩
    clear jk T h4 Lp pk BA TV ly sY Au Av uj yO En nU
    go_wp2_with fail
    refine hle.mono ?_;rintro x5 W5 ⟨v5,rfl,hv5,Mo⟩;subst W5;have TI:LgL t.data.toList (kG ps k) e v5:=by
     rcases hv5 with ⟨h1,h2⟩|⟨p,h1,h2,h3,h5⟩
     ·refine .inl ⟨h1,λm hm=>?_⟩;have h3:=(kR.out m).2 hm;rw[h2 m (by have:=hm.1;omega)]at h3;cases h3
     ·refine .inr ⟨p,h1,(kR.out p).1 h3,λm hm hl=>?_⟩;have h6:=(kR.out m).2 hl;rw[h5 m hm]at h6;cases h6
    have yH:zk (oQ bs t e cl (k+1) (if wF bd.aX v5 a=true then v5 else a)):=HL.out.next TI λi hi=>by
     unfold iA;rw[s9.out,dG,Bool.and_true,Oe.out k hlt i hi]
    obtain⟨d0,d1,d2,-,-,-⟩:=ci Hx4.out;have SE:zk (v5=-1\/∃p:Nat,v5=p):=TI.elim (λh=>.inl h.1) (λ⟨p,h,_⟩=>.inr ⟨p,h⟩);clear hle hv5 TI HL k1;rcases SE.out with rfl|⟨p,rfl⟩
    ·have xe:zk (oQ bs t e cl (k+1) a):=yH.out;clear yH SE;go_wp2
     go_roundw
     case rel=>exact⟨k+1,a,nN,rfl,by go_num,by omega,Ah,xe⟩
     case measure=>simp[intOf];omega
    ·have pX:=zgK bd.aX bd.bm dM bd.nodes.length iX p W4;have mR:decide ((p:Int)>=0)=true:=decide_eq_true (by omega);have hz:((p:Int)==0)=(p==0):=by
      by_cases e0:p=0
      ·subst e0;rfl
      ·have:((p:Int)==0)=false:=by simp;omega
       rw[this];simp;omega
     have yI:zk (wF bd.aX p a=((p==0 || !bd.aX)&&(a == -1 || decide ((p:Int)<a)))):=by show _=_;unfold wF;rw[mR,hz,kh]
     clear SE hz
     go_wp2_with fail
     refine pX.mono ?_;rintro x6 W6 ⟨rfl,ew⟩;have N7:=aA (Ah.out.below ew);clear pX d0 d1 d2 Ah Hx4;cases hm:(p==0 || !bd.aX)
     ·have xe:zk (oQ bs t e cl (k+1) a):=by have:=yH.out;rw[yI.out,hm]at this;exact this
      clear yH yI;go_wp2
      go_roundw
      case rel=>exact⟨k+1,a,nN,rfl,by go_num,by omega,N7,xe⟩
      case measure=>simp[intOf];omega
     ·cases ha:(a == -1)
      ·cases hd:decide ((p:Int)<a)
       ·have xe:zk (oQ bs t e cl (k+1) a):=by have:=yH.out;rw[yI.out,hm,ha,hd]at this;exact this
        clear yH yI;go_wp2
        go_roundw
        case rel=>exact⟨k+1,a,nN,rfl,by go_num,by omega,N7,xe⟩
        case measure=>simp[intOf];omega
       ·have xe:zk (oQ bs t e cl (k+1) p):=by have:=yH.out;rw[yI.out,hm,ha,hd]at this;exact this
        clear yH yI;go_wp2
        go_roundw
        case rel=>exact⟨k+1,p,nN,rfl,by go_num,by omega,N7,xe⟩
        case measure=>simp[intOf];omega
      ·have xe:zk (oQ bs t e cl (k+1) p):=by have:=yH.out;rw[yI.out,hm,ha]at this;exact this
       clear yH yI;go_wp2
       go_roundw
       case rel=>exact⟨k+1,p,nN,rfl,by go_num,by omega,N7,xe⟩
       case measure=>simp[intOf];omega
  ·obtain rfl:k=bs.length:=by omega
   have hd:decide ((bs.length:Int)<(bs.length:Int))=false:=by simp
   have HF:zk (∃(a':Int) (aF:Nat->Nat->Prop),Ending.returned (zl .i64 a)=.returned (zl .i64 a')/\oQ bs t e cl bs.length a'/\cY w0 pl Q qz WI aF wr):=⟨a,Ow,rfl,HL.out,oN.out⟩;clear HL oN;go_wp2;go_ret;exact HF.out
end Go.Proofs.YtdimhpfiieepiaaGreatDoor
