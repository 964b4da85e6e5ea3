import Derived.Test.YtdimhpfiieepiaaGreatDoorC46
namespace Go.Proofs.YtdimhpfiieepiaaGreatDoor
open Proofs.Tryz
open Option renaming some->za,none->zb
open RowKit renaming Hid->zc,Below->zk
open Value renaming pointer->zd,slice->ze,int->aa
open Go renaming World->zf,Value->zj,Calls->zl,TypeId->zm
open Obj renaming cells->zg
set_option maxHeartbeats 4000000
set_option maxRecDepth 100000
open Go.RowKit
attribute [local go_sem ↓] wp_at_zero wp_at_succ
section
variable {P:Program}{ops:Array Oper}{o:Oper}{a:Act}{w:zf}{Q:Exit -> Act -> zf -> Prop}
theorem LL{K:Act->zf->Prop}(hg:o.guard=zb)(hL:∀a w,¬Q .outgrown a w)(h:wpList P ops (QK Q K) [o] a w):o.wp P a w K Q:=by
 unfold wpList at h;rw[aD (by simp[Region.wanted,hg])]at h;rcases h with h|h
 ·exact ztR h
 ·obtain⟨_,a',w',h'⟩:=h;exact absurd h' (hL a' w')
theorem zgc{Cw:zf->Prop}{t j:Nat}{l:List (Nat×Oper)}(hk:t∉l.map Prod.fst)(hL:∀a w,¬Q .outgrown a w)(h:wpList P ops Q (o::l.map Prod.snd) a w):oq P ops Cw t Q ((j,o)::l) a w:=by
 unfold wpList at h;unfold oq
 by_cases hw:Region.wanted o (yielded ops a.tmps)=true
 ·rw[aD hw]at h ⊢;rcases h with h|h
  ·exact Oper.wp_mono (λa w h=>⟨λe=>absurd e hk,HZ l a w hk hL h⟩) h
  ·obtain⟨_,a',w',h'⟩:=h;exact absurd h' (hL a' w')
 ·rw[aq hw]at h ⊢;exact⟨λe=>absurd e hk,HZ l _ w hk hL h⟩
theorem zw.wi{W:zf}{g sc:Nat}{bs:List aW}(h:zw W (ze (za ⟨g,0,zb⟩) bs.length sc) bs):∃F:Nat->zm×zj×Pt,∀j,j<bs.length->W.cell? ⟨g,j,zb⟩=za (.iface (F j).1 (F j).2.1)/\aR W (.iface (F j).1 (F j).2.1) (F j).2.2/\aF (F j).2.2<=2000/\iz (F j).2.2 (aK (bs.getD j .zero).nodes ((bs.getD j .zero).nodes.length-1)):=by
 obtain⟨g',Ls,st,xs,e,h1,h2,h3,h4,h5,G0⟩:=h;cases e;obtain⟨N,fV⟩:=G0.parts;exact @Go.Deep.choose_lt (zm×zj×Pt) ⟨(0,.nilIface,.set λ_=>false)⟩ bs.length (λj q=>W.cell? ⟨g,j,zb⟩=za (.iface q.1 q.2.1)/\aR W (.iface q.1 q.2.1) q.2.2/\aF q.2.2<=2000/\iz q.2.2 (aK (bs.getD j .zero).nodes ((bs.getD j .zero).nodes.length-1))) (λj hj=>by
  obtain⟨t1,y1,k1,p,k2,k3,k4⟩:=G0.2.1 j (by omega);have h6:(sg bs).getD j kj=aK (bs.getD j .zero).nodes ((bs.getD j .zero).nodes.length-1):=by simp[sg,hj]
  rw[h6]at k4;exact⟨(t1,y1,p),(h5 j hj).trans k1,k2,by rw[k3];exact ztb fV h4 j (by omega),k4⟩)
theorem A8(w:zf)(a:Addr)(u:zj):(w.setCell a u).heap.size=w.heap.size:=by simp[World.setCell]
theorem lu.zy8{pl:Nat}{x0 x1:zj}{w0:zf}{Q:Nat->Option Pt}{vP:zj}{ps:List (Nat×Pt)}(h:lu w pl x0 x1 w0 Q vP ps){b o:Nat}{u:zj}{cs:Array zj}{t:zm}(hb:w.heap[b]?=za (zg cs t (0,0)))(ht:t≠293):lu (w.setCell ⟨b,o,zb⟩ u) pl x0 x1 (w0.setCell ⟨b,o,zb⟩ u) Q vP ps:=by
 have bu:=(ap.1 hb).1;have fT:=h.kd.bj;have ae:=(fT.block b bu).trans hb;have e0:∀k,w.heap.size<=k->(w0.setCell ⟨b,o,zb⟩ u).heap[k]?=w0.heap[k]?:=λk hk=>cu _ _ _ _ (by show k≠b;omega)
 have km:bR w0 (w0.setCell ⟨b,o,zb⟩ u):=bR.set ae ht;refine⟨⟨⟨fT.os,fT.tape,fT.output,by rw[A8,A8];exact fT.size,λk hk=>?_⟩,λa q ha=>?_,λx hx=>?_,λk hk=>?_⟩,?_,?_,?_⟩
 ·rw[A8]at hk
  by_cases e:k=b
  ·subst e;rw[dF _ _ _ _ _ _ ae,dF _ _ _ _ _ _ hb]
  ·rw[cu _ _ _ _ e,cu _ _ _ _ e];exact fT.block k hk
 ·obtain⟨h1,h2,v,f,h3,h4⟩:=h.kd.pm a q ha;exact⟨by rw[A8];exact h1,h2,v,f,(e0 a h1).trans h3,aR.keep km _ _ h4⟩
 ·obtain⟨cU,w',Q',h1,h2,h3,h4,h5,h6⟩:=h.kd.kd x hx;exact⟨cU,w',Q',by rw[A8];exact h1,h2,h3.trans km,by rw[A8];exact h4,λk k1 k2=>⟨(e0 k (by omega)).trans (h5 k k1 k2).1,(h5 k k1 k2).2⟩,h6⟩
 ·obtain⟨h1,aA,ty,h2,h3⟩:=h.kd.ob k hk;exact⟨by rw[A8];exact h1,aA,ty,(e0 k h1).trans h2,h3⟩
 ·rw[A8];exact kH h.own λk e=>e0 k (iD h.own e).1
 ·exact(e0 pl h.lo).trans h.xp
 ·rw[A8];exact h.lo
theorem zjA(xs:Array zj)(w:zf):(callFunc 122 xs).run prog w=.ok (.enter 122 xs) w:=by kernel_rfl
def Q7(W:zf)(gq i:Nat)(G:Int)(jH:Option Addr)(jI:Nat)(bs:List aW)(e:Ending)(W':zf):Prop:=
 ∃(pl:Nat) (Q:Nat->Option Pt) (vP:zj) (ps:List (Nat×Pt)) (wB:zf),e=.returned (zd (za ⟨pl,0,zb⟩))/\lu wB pl (aa .i64 G) (.slice jH bs.length jI) W' Q vP ps/\ps.length=bs.length/\(∀k,k<bs.length->iz (kY ps k) (aK (bs.getD k .zero).nodes ((bs.getD k .zero).nodes.length-1)))/\aE (· = gq) W wB/\∀cs,W.heap[gq]?=za (zg cs 161 (0,0))->wB.heap[gq]?=za (zg (cs.setIfInBounds i (zd (za ⟨pl,0,zb⟩))) 161 (0,0))
theorem znO(W:zf)(bf g cap gq n i gp sc rb ro rc:Nat)(cv bv fv tv ev nv kv:zj)(wd G:Int)(jH:Option Addr)(jI:Nat)(bs:List aW)(cs:Array zj)(mR:i<n)
  (ux:W.heap[bf]?=za (zg (DT (ze (za ⟨rb,ro,zb⟩) n rc) cv wd bv fv tv ev nv kv (ze (za ⟨g,0,zb⟩) n cap) (ze (za ⟨gq,0,zb⟩) n n)) 128 (0,0)))
  (hq:W.heap[gq]?=za (zg cs 161 (0,0))) (hcs:cs[i]?=za (zd zb)) (hlen:bs.length<=100000)
  (k0:W.cell? ⟨rb,ro+i*2,zb⟩=za (.slice jH bs.length jI)) (k1:W.cell? ⟨rb,ro+i*2+1,zb⟩=za (aa .i64 G))
  (kp:W.cell? ⟨g,i,zb⟩=za (ze (za ⟨gp,0,zb⟩) bs.length sc)) (hp:zw W (ze (za ⟨gp,0,zb⟩) bs.length sc) bs) (Ty:∃Af,W.heap[gp]?=za (zg Af 184 (0,0))):
  zl prog 101 #[zd (za ⟨bf,0,zb⟩),aa .i64 i] W λe W'=>Q7 W gq i G jH jI bs e W':=by
 obtain⟨Af,qw⟩:=Ty;have bu:=(ap.1 ux).1;have Er:=(ap.1 hq).1;have hne:bf≠gq:=λe=>by
  rw[e,hq]at ux;exact absurd (bP ux) (by decide)
 have hx:∀s:dy W,s.W.cell? ⟨bf,10,zb⟩=za (ze (za ⟨gq,0,zb⟩) n n)/\s.W.cell? ⟨bf,0,zb⟩=za (ze (za ⟨rb,ro,zb⟩) n rc)/\s.W.cell? ⟨bf,9,zb⟩=za (ze (za ⟨g,0,zb⟩) n cap)/\s.W.cell? ⟨rb,ro+i*2,zb⟩=za (.slice jH bs.length jI)/\s.W.cell? ⟨rb,ro+i*2+1,zb⟩=za (aa .i64 G)/\s.W.cell? ⟨g,i,zb⟩=za (ze (za ⟨gp,0,zb⟩) bs.length sc):=λs=>by
  have r:=(s.h.block bf bu).trans ux;exact⟨cm r 10,cm r 0,cm r 9,(s.h.cell (p:=⟨rb,ro+i*2,zb⟩) (block_lt_of_cell k0)).trans k0,(s.h.cell (p:=⟨rb,ro+i*2+1,zb⟩) (block_lt_of_cell k1)).trans k1,(s.h.cell (p:=⟨g,i,zb⟩) (block_lt_of_cell kp)).trans kp⟩
 have x0:=λs:dy W=>(hx s).1
 have x1:=λs:dy W=>(hx s).2.1
 have x2:=λs:dy W=>(hx s).2.2.1
 have x3:=λs:dy W=>(hx s).2.2.2.1
 have x4:=λs:dy W=>(hx s).2.2.2.2.1
 have x5:=λs:dy W=>(hx s).2.2.2.2.2
 have ly:W.cell? ⟨bf,10,zb⟩=za (ze (za ⟨gq,0,zb⟩) n n):=cm ux 10;have bq:W.cell? ⟨gq,i,zb⟩=za (zd zb):=(cm hq i).trans hcs;have dO:(0:Int)<=(i:Int):=by omega
 have dh:(i:Int)<(n:Int):=by omega
 have lZ:i<cs.size:=(ap.1 hcs).1;have Hp:zc (∀Wb,zk W.heap.size W Wb->zw Wb (ze (za ⟨gp,0,zb⟩) bs.length sc) bs):=λWb hb=>hp.keep hb.size (λk _ _ e _=>(hb.block k (ap.1 e).1).trans e) (λg' Ls e=>by cases e;exact⟨Af,qw⟩)
 have Ya:=aY ux;have Hq:=aY hq;have fU:prog.follows .mixedOrders=true:=by kernel_rfl
 clear hx hp ux hq k0 k1 kp hcs
 go_enter func101,ntmps101
 go_upto_region 2 with fail
 clear ly bq;refine OY [0,1,2,3,4,5,6,7,8,9,10,11,12,13,14,15,16,17,18,19] [20,21,22] 22 (λw'=>∃s:dy W,w'=s.W) fU ⟨⟨W.drew,(Below.refl _ _).drew⟩,rfl⟩ (by kernel_rfl) ?_;intro os ck;simp only[lO,lP,lR,lQ]at ck;subst ck
 change wpQuiet _ _ _ _ [_,_,_,_,_,_,_,_,_,_,_,_,_,_,_,_,_,_,_,_] _
 repeat (go_big_quiet_step (fail))
 refine wpQuiet_nil ?_;rintro w' ⟨⟨Wb,iW⟩,hw'⟩ r' bZ;replace hw':w'=Wb:=hw';subst w';simp only[lO,lP,lR,lQ,Option.map_some]at bZ;subst bZ;clear x0 x1 x2 x3 x4 x5;obtain⟨F,hF⟩:=(Hp.out Wb iW).wi;have hnp:=znu G jH bs.length jI gp sc bs.length (λk=>(F k).1) (λk=>(F k).2.1) (λk=>(F k).2.2) Wb (λk hk=>(hF k hk).1) (λk hk=>(hF k hk).2.1) (λk hk=>(hF k hk).2.2.1) hlen;refine uT rfl (λK5 iI=>?_);refine Fb 122 #[.tmp 25,.tmp 32] #[69,155] (by rfl) #[.agg #[.slice jH bs.length jI,aa .i64 G],ze (za ⟨gp,0,zb⟩) bs.length sc] (by simp[Act.eval]) (λv w'=>QV Wb (aa .i64 G) (.slice jH bs.length jI) bs.length (λk=>(F k).2.2) (.returned v) w') (zjA _ _) (hnp.mono (by
  rintro e w1 ⟨pl,Q,vP,ps,rfl,h1⟩;exact⟨_,rfl,pl,Q,vP,ps,rfl,h1⟩)) ?_
 rintro v8 W8 ⟨pl,Q,vP,ps,TX,hN,du,GV⟩;injection TX with TX
 subst TX;have dX:=hN.kd.bj;have NT:zk W.heap.size W W8:=aj iW iW.size dX;refine iI _ _ (λ_=>⟨⟨W8,NT⟩,rfl⟩) ?_;clear iI K5;have q8:=(NT.block gq Er).trans Hq.out;have c8:W8.cell? ⟨gq,i,zb⟩=za cs[i]:=(cm q8 i).trans (by simp[lZ]);have f8:=cF _ _ i _ _ q8;have hqb:=(iW.block gq Er).trans Hq.out;have ZV:=hN.zy8 (o:=i) (u:=zd (za ⟨pl,0,zb⟩)) hqb (by decide);have q9:=dF W8 gq i _ _ (zd (za ⟨pl,0,zb⟩)) q8;have Y8:(W8.setCell ⟨gq,i,zb⟩ (zd (za ⟨pl,0,zb⟩))).heap[bf]?=_:=(cu _ _ _ _ hne).trans ((NT.block bf bu).trans Ya.out);have ly:(W8.setCell ⟨gq,i,zb⟩ (zd (za ⟨pl,0,zb⟩))).cell? ⟨bf,10,zb⟩=za (ze (za ⟨gq,0,zb⟩) n n):=cm Y8 10;have bq:(W8.setCell ⟨gq,i,zb⟩ (zd (za ⟨pl,0,zb⟩))).cell? ⟨gq,i,zb⟩=za (zd (za ⟨pl,0,zb⟩)):=(cm q9 i).trans (by simp[lZ]);have HF:zc (Q7 W gq i G jH jI bs (.returned (zd (za ⟨pl,0,zb⟩))) (W8.setCell ⟨gq,i,zb⟩ (zd (za ⟨pl,0,zb⟩)))):=⟨pl,Q,vP,ps,Wb.setCell ⟨gq,i,zb⟩ (zd (za ⟨pl,0,zb⟩)),rfl,ZV,du,λk hk=>by rw[GV k hk];exact(hF k hk).2.2.2,(aE.cH iW).grown (jf _ gq i _) (λk e=>.inl (Option.some.inj e).symm),λgj zvA=>by
  rw[Hq.out]at zvA;cases Wp zvA;exact dF _ _ _ _ _ _ hqb⟩
 clear hnp hN ZV hF GV q9 Y8 Ya;refine uT rfl (λK6 Cc=>LL (ops:=#[]) rfl (λ_ _ h=>h) ?_)
 change wpList _ _ _ [_] _ _
 go_wp2;rw[uU];refine Cc _ _ (λ_=>⟨⟨W8,NT⟩,rfl⟩) ?_;clear Cc K6;refine zgc (by simp) (λ_ _ h=>h) ?_
 change wpList _ _ _ [_] _ _
 go_wp2;rw[wy];clear c8 f8 q8;go_wp2;go_ret;exact HF.out
end
section
variable {w w0:zf}{pl:Nat}{x0 x1 vP:zj}{Q:Nat -> Option Pt}{ps:List (Nat×Pt)}
theorem zk2(xs:Array zj)(w:zf):(callFunc 131 xs).run prog w=.ok (.enter 131 xs) w:=by kernel_rfl
theorem zm8(xs:Array zj)(w:zf):(callFunc 150 xs).run prog w=.ok (.enter 150 xs) w:=by kernel_rfl
def CO(bs bt bp:Nat):zj:=.func (.func 150) #[] #[zd (za ⟨bs,0,zb⟩),zd (za ⟨bt,0,zb⟩),zd (za ⟨bp,0,zb⟩)]
theorem zpM(t:ByteArray)(gs m cap:Nat)(w:zf):
  zl prog 131 #[.string t,ze (za ⟨gs,0,zb⟩) m cap] w λe w'=>∃bs bt bp,e=.returned (CO bs bt bp)/\zk w.heap.size w w'/\w.heap.size<=bs/\w.heap.size<=bt/\w.heap.size<=bp/\w'.heap[bs]?=za (zg #[ze (za ⟨gs,0,zb⟩) m cap] 33 (0,0))/\w'.heap[bt]?=za (zg #[.string t] 9 (0,0))/\w'.heap[bp]?=za (zg #[CO bs bt bp] 205 (0,0)):=by
 obtain⟨W2,dH⟩:∃W2,(w.alloc (zg #[.string t] 9)).alloc (zg #[ze (za ⟨gs,0,zb⟩) m cap] 33)=W2:=⟨_,rfl⟩;have cZ:W2.heap.size=w.heap.size+1+1:=by rw[<-dH];simp
 have af:zk w.heap.size w W2:=by rw[<-dH];exact(au).alloc (by simp) _
 have q0:W2.heap[w.heap.size]?=za (zg #[.string t] 9 (0,0)):=by rw[<-dH];exact cQ (aL _ _)
 have q1:W2.heap[w.heap.size+1]?=za (zg #[ze (za ⟨gs,0,zb⟩) m cap] 33 (0,0)):=by rw[<-dH];exact Dc _ _ _
 have st:=Ij (P:=prog) W2 #[.nilFunc] 205 (.func (.func 150) #[] #[zd (za ⟨w.heap.size+1,0,zb⟩),zd (za ⟨w.heap.size,0,zb⟩),zd (za ⟨w.heap.size+1+1,0,zb⟩)]) rfl 0 (by simp);simp only[FB,List.set_cons_zero]at st;obtain⟨W3,ff⟩:∃W3,W2.alloc (zg #[.func (.func 150) #[] #[zd (za ⟨w.heap.size+1,0,zb⟩),zd (za ⟨w.heap.size,0,zb⟩),zd (za ⟨w.heap.size+1+1,0,zb⟩)]] 205)=W3:=⟨_,rfl⟩;have ay:zk W2.heap.size W2 W3:=by rw[<-ff];exact au
 have q2:W3.heap[W2.heap.size]?=za (zg #[CO (w.heap.size+1) w.heap.size (w.heap.size+1+1)] 205 (0,0)):=by rw[<-ff];exact aL _ _
 have c2:W3.cell? ⟨W2.heap.size,0,zb⟩=za (.func (.func 150) #[] #[zd (za ⟨w.heap.size+1,0,zb⟩),zd (za ⟨w.heap.size,0,zb⟩),zd (za ⟨w.heap.size+1+1,0,zb⟩)]):=(aO _ _ _ _ _ _ q2:_=_);have p0:=(ay.block _ (ap.1 q0).1).trans q0;have p1:=(ay.block _ (ap.1 q1).1).trans q1;rw[cZ]at st c2 q2;have HF:=aC (show ∃bs bt bp,Ending.returned (CO (w.heap.size+1) w.heap.size (w.heap.size+1+1))=.returned (CO bs bt bp)/\zk w.heap.size w W3/\w.heap.size<=bs/\w.heap.size<=bt/\w.heap.size<=bp/\W3.heap[bs]?=za (zg #[ze (za ⟨gs,0,zb⟩) m cap] 33 (0,0))/\W3.heap[bt]?=za (zg #[.string t] 9 (0,0))/\W3.heap[bp]?=za (zg #[CO bs bt bp] 205 (0,0)) from⟨_,_,_,rfl,aj af af.size ay,by omega,by omega,by omega,p1,p0,q2⟩);clear q0 q1 q2 p0 p1 af ay
 go_enter func131,ntmps131
 go_wp2;go_ret;exact HF.out
theorem lu.start(h:lu w pl x0 x1 w0 Q vP ps)(hB:fG w):cE w0 pl Q (λ_ _=>False) w0:=by
 have gX:=qa hB;refine⟨rfl,rfl,rfl,ai _,λ_ _ _ _=>rfl,?_,?_,hB.keep (h.kd.bj.block 0 gX),⟨x0,x1,vP,1048576,1048576,h.xp,h.xp,ai _⟩,λa p ha=>?_,λk a e=>e.elim,λk a b e=>e.elim⟩
 ·exact h.kd.pm.Rn gX
 ·intro e;have:=h.lo;omega
 ·obtain⟨h1,h2,v,f,h3,h4⟩:=h.kd.pm a p ha;exact⟨v,f,zd zb,h3,h3,h4,h2,.inl rfl⟩
theorem lu.cells(h:lu w pl x0 x1 w0 Q vP ps){Ow:Nat->Nat->Prop}{W:zf}(hI:cE w0 pl Q Ow W):(∃room:Nat,W.heap[pl]?=za (zg #[x0,x1,vP,aa .i64 room] 189 (0,0)))/\W.ownsRow w.heap.size 198 1 vP ps.length (je ps):=by
 obtain⟨y0,y1,y2,r0,room,h1,h2,_⟩:=hI.wi;have e:=h.xp;rw[h1]at e;injection e with e
 injection e with e
 simp at e;obtain⟨rfl,rfl,rfl,-⟩:=e;exact⟨⟨room,h2⟩,kH h.own λb hb=>by
  obtain⟨_,aA,z⟩:=iD h.own hb;exact(hI.eV z (by decide) (by decide)).trans z.symm⟩
theorem lu.bj(h:lu w pl x0 x1 w0 Q vP ps){Ow:Nat->Nat->Prop}{W:zf}(hI:cE w0 pl Q Ow W):zk w.heap.size w W:=by
 have hb:=h.kd.bj;refine⟨hI.os.trans hb.os,hI.tape.trans hb.tape,hI.output.trans hb.output,aU hb.size hI.size,λk hk=>(hI.old k (bA hk hb.size) (h.kd.pm.Rn hk) (λe=>by have:=h.lo;omega)).trans (hb.block k hk)⟩
end
section
variable {bs:List aW}{t:ByteArray}{e n:Nat}{cl:Bool}{a:Int}
def oL(bs:List aW)(t:ByteArray)(e:Nat)(cl:Bool)(n:Nat)(a:Int):Prop:=
 (a=-1/\∀i,i<=e->∀j,j<n->¬iu (bs.getD j .zero) t i e cl)\/∃k:Nat,a=k/\k<=e/\(∃j,j<n/\iu (bs.getD j .zero) t k e cl)/\∀i,i<k->∀j,j<n->¬iu (bs.getD j .zero) t i e cl
def YP(u:aJ)(p:Pt)(e:Nat)(v:Int):Prop:=(v=-1/\∀m,¬Lg u p m e)\/∃k:Nat,v=k/\Lg u p k e/\∀m,m<k->¬Lg u p m e
def we(aV:Bool)(v a:Int):Bool:=decide (v>=0)&&(v==0 || !aV)&&(a == -1 || decide (v<a))
theorem oL.skip(h:oL bs t e cl n a)(hn:∀i,i<=e->¬iu (bs.getD n .zero) t i e cl):oL bs t e cl (n+1) a:=by
 rcases h with ⟨h1,h2⟩|⟨k,h1,h2,⟨j,h3,h4⟩,h5⟩
 ·refine .inl ⟨h1,λi hi j hj=>?_⟩
  by_cases e1:j=n
  ·subst e1;exact hn i hi
  ·exact h2 i hi j (by omega)
 ·refine .inr ⟨k,h1,h2,⟨j,by omega,h4⟩,λi hi j hj=>?_⟩
  by_cases e1:j=n
  ·subst e1;exact hn i (by omega)
  ·exact h5 i hi j (by omega)
theorem oL.next{v:Int}{aV:Bool}{u:aJ}{p:Pt}(h:oL bs t e cl n a)(hv:YP u p e v)(hp:∀i,i<=e->(iu (bs.getD n .zero) t i e cl↔(i==0 || !aV)=true/\Lg u p i e)):oL bs t e cl (n+1) (if we aV v a=true then v else a):=by
 rcases hv with ⟨Ov,CK⟩|⟨k,rfl,Ov,CK⟩
 ·have:we aV v a=false:=by unfold we;rw[Ov];rfl
  rw[this];exact h.skip λi hi hb=>CK i ((hp i hi).1 hb).2
 ·have SX:=Ov.1;have hz:((k:Int)==0)=(k==0):=by
   by_cases e0:k=0
   ·subst e0;rfl
   ·have:((k:Int)==0)=false:=by simp;omega
    rw[this];simp;omega
  have oX:∀i,i<k->¬iu (bs.getD n .zero) t i e cl:=λi hi hb=>CK i hi ((hp i (by omega)).1 hb).2
  cases hm:(k==0 || !aV)
  ·have:we aV k a=false:=by unfold we;rw[hz,hm];simp
   rw[this];refine h.skip λi hi hb=>?_
   obtain⟨h1,h2⟩:=(hp i hi).1 hb;simp only[Bool.or_eq_false_iff,Bool.not_eq_false',eu]at hm;rw[hm.2]at h1;simp only[Bool.not_true,Bool.or_false,beq_iff_eq]at h1;exact CK i (by omega) h2
  ·have jM:iu (bs.getD n .zero) t k e cl:=(hp k SX).2 ⟨hm,Ov⟩
   by_cases hla:a=-1\/(k:Int)<a
   ·have:we aV k a=true:=by
     unfold we;rw[hz,hm];simp only[ge_iff_le,Int.natCast_nonneg,decide_true,kM,sw,beq_iff_eq,oD];exact hla
    rw[aD this];refine .inr ⟨k,rfl,SX,⟨n,by omega,jM⟩,λi hi j hj=>?_⟩
    by_cases e1:j=n
    ·subst e1;exact oX i hi
    ·rcases h with ⟨h1,h2⟩|⟨k',h1,h2,h3,h5⟩
     ·exact h2 i (by omega) j (by omega)
     ·exact h5 i (by omega) j (by omega)
   ·have:we aV k a=false:=by
     unfold we;rw[hz,hm];simp only[ge_iff_le,Int.natCast_nonneg,decide_true,kM,Bool.or_eq_false_iff,eu,decide_eq_false_iff_not];omega
    rw[this];rcases h with ⟨h1,h2⟩|⟨k',h1,h2,⟨j,h3,h4⟩,h5⟩
    ·omega
    ·refine .inr ⟨k',h1,h2,⟨j,by omega,h4⟩,λi hi j hj=>?_⟩
     by_cases e1:j=n
     ·subst e1;exact oX i (by omega)
     ·exact h5 i hi j (by omega)
theorem ziM{lo:Nat}(w wB:zf)(xe:zk w.heap.size w wB)(bs:List aW)(ao:Option Addr)(cap:Nat)(hs:eh lo w (.slice ao bs.length cap) bs)(hlen:bs.length<=100000)(x0:zj)(pl:Nat)(Q:Nat->Option Pt)(vP:zj)(ps:List (Nat×Pt))(w0:zf)(hN:lu wB pl x0 (.slice ao bs.length cap) w0 Q vP ps)(du:ps.length=bs.length)(t:ByteArray)(ht:t.size<=4096)(e:Nat)(GD:e<=t.size)(cl:Bool)
  (hE:∀k,k<bs.length->iz (kY ps k) (aK (bs.getD k .zero).nodes ((bs.getD k .zero).nodes.length-1))) (qi:Nat->Nat->Prop) (WI:zf) (yJ:cE w0 pl Q qi WI):
  zl prog 102 #[zd (za ⟨pl,0,zb⟩),.string t,aa .i64 e,.bool cl] WI λx w'=>∃(a:Int) (aI:Nat->Nat->Prop),x=.returned (aa .i64 a)/\oL bs t e cl bs.length a/\da w0 pl Q qi WI aI w':=by
 obtain⟨iG,fe,CK,cD,hc⟩:=hs;cases CK;have vV:t.data.toList.length=t.size:=by simp
 have cb:WI.cell? ⟨pl,1,zb⟩=za (.slice ao bs.length cap):=by
  obtain⟨⟨room,h1⟩,_⟩:=hN.cells yJ;exact(aO _ _ _ _ _ _ h1:_=_)
 have FR:zc (∀W Ow,cE w0 pl Q Ow W->zk w.heap.size w W):=λW Ow hI=>aj xe xe.size (hN.bj hI)
 have MQ:zc (∀k,k<bs.length->∀m,m<=e->(Lg t.data.toList (kY ps k) m e↔In (aK (bs.getD k .zero).nodes ((bs.getD k .zero).nodes.length-1)) ((t.data.toList.drop m).take (e-m)))):=λk hk m hm=>by
  unfold Lg;rw[(hE k hk).wd];exact⟨λh=>h.2.2,λh=>⟨hm,by omega,h⟩⟩
 have I7:zc (∀k,k<bs.length->dI wB.heap.size w0 pl Q (qI ps k) (kY ps k)):=λk hk=>hN.kd.fin _ (Bq (Ft (by omega)))
 have zH:zc (∀W Ow,cE w0 pl Q Ow W->∀k,k<bs.length->∃gp cp,W.cell? ⟨pl,2,zb⟩=za (ze (za ⟨gp,0,zb⟩) bs.length cp)/\W.cell? ⟨gp,k,zb⟩=za (zd (za ⟨qI ps k,0,zb⟩))):=λW Ow hI k hk=>by
  obtain⟨⟨room,h1⟩,h2⟩:=hN.cells hI;obtain⟨gp,cp,hv⟩:∃gp cp,vP=ze (za ⟨gp,0,zb⟩) ps.length cp:=by
   rcases h2.2 with ⟨_,e2⟩|⟨g,c,aA,e,_⟩
   ·omega
   ·exact⟨g,c,e⟩
  subst hv;exact⟨gp,cp,by have:=(wz h1).1;rw[du]at this;exact this,Wk h2 (Ft (by omega))⟩
 have IR:=aC (show da w0 pl Q qi WI qi WI from⟨yJ,ai _,λ_ _ _ h=>⟨rfl,h⟩⟩);clear yJ hE hN xe
 go_enter func102,ntmps102
 go_wp2;clear cb
 go_loopw [9,18] (λav iv wr=>∃(k:Nat) (a:Int) (Ow:Nat->Nat->Prop),av=aa .i64 a/\iv=aa .i64 k/\k<=bs.length/\zc (da w0 pl Q qi WI Ow wr)/\zc (oL bs t e cl k a))
  (λ_ iv _=>bs.length-(intOf iv).toNat)
 case atStart=>exact⟨0,-1,_,rfl,rfl,aZ _,IR,.inl ⟨rfl,λi _ j hj=>absurd hj (dk _)⟩⟩
 case round=>
  clear IR;obtain⟨k,a,Ow,rfl,rfl,hk,oH,HL⟩:=hrel;have aB:=FR.out wr Ow oH.out.inv
  by_cases hlt:k<bs.length
  ·obtain⟨b,o,nv,bd,rfl,Hn,bu,c0,c1,c2,io⟩:=hc.elem aB hlt;obtain⟨dC,jd,rfl,kz,kU⟩:=io;clear kU;have il:(0:Int)<=(k:Int):=by omega
   have cM:(k:Int)<(bs.length:Int):=by omega
   obtain⟨V,hV⟩:∃V,wr.alloc (zg #[.bool bd.aV,.bool bd.bm,.slice dC bd.nodes.length jd] 115)=V:=⟨_,rfl⟩;have jL:zk wr.heap.size wr V:=by rw[<-hV];exact au
   have xV:V.heap[wr.heap.size]?=za (zg #[.bool bd.aV,.bool bd.bm,.slice dC bd.nodes.length jd] 115 (0,0)):=by rw[<-hV];exact aL _ _
   obtain⟨d0,d1,d2,-,-,-⟩:=bW xV;have KF:wr.heap.size<V.heap.size:=(ap.1 xV).1;have yK:=oH.out.trans (da.cH oH.out.inv jL);have vy:zc (∀i,Bd (bs.getD k .zero).aV (bs.getD k .zero).bm t.size i e cl=((i==0 || !bd.aV)&&((cl&&e==t.size) || !bd.bm))):=λi=>by rw[Hn.out,zh8]
   have rL:∀b,¬Ow wr.heap.size b:=λb ho=>by have:=(oH.out.inv.ow _ b ho).2;omega
   have vW:=oH.out.inv.size;have ti:=zj2 bd.aV bd.bm cl dC bd.nodes.length jd t e V;have sI:=aC yK;have zL:=aC xV;clear jL xV yK oH aB
   go_upto_region 5 with fail
   clear hV c0 c1 c2
   go_wp2_with fail
   refine ti.mono ?_;rintro r1 W1 ⟨rfl,ak⟩;have nH:=aC (sI.out.trans (da.cH sI.out.inv ak));have x1:=(ak.block _ KF).trans zL.out;have dB:wr.heap.size<W1.heap.size:=(ap.1 x1).1;have zK:=aC x1;clear ti d0 d1 d2 x1;cases cD:((cl&&e==t.size) || !bd.bm)
   ·have wQ:zc (oL bs t e cl (k+1) a):=HL.out.skip λi _ hb=>by have:=hb.1;rw[vy.out,cD,Bool.and_false]at this;cases this
    clear sI zL zK;go_wp2
    go_roundw
    case rel=>exact⟨k+1,a,Ow,rfl,by go_num,by omega,nH,wQ⟩
    case measure=>simp[intOf];omega
   ·obtain⟨gp,cp,k2,k3⟩:=zH.out W1 Ow nH.out.inv k hlt;have hst:=Ik (qI ps k) (kY ps k) W1 nH.out.inv (I7.out k hlt).q
    go_wp2_with fail
    refine hst.mono ?_;rintro x2 W2 ⟨s,pC,X,v,ra,rb,O1,O2,rfl,mY,xq,pM,hch⟩;have vR:=Pu e W2 (by omega);have ub:=aC mY;have yt:=aC hch;clear hst mY hch k2 k3
    go_wp2_with fail
    refine vR.mono ?_;rintro x3 W3 ⟨U,rfl,hU,gT,ay⟩;have mh:=ub.out.below (ub.out.inv.below ay) ay;have nQ:zc _:=yt.out.below ay;have jM:=O0 mh (by omega) (by omega) t ht (e/64+1) W2.heap.size (e/64+1) U hU (by omega) (λhx=>by have:=(ub.out.x0 _ hx).2;omega) ⟨e,by omega,(gT _).2 rfl⟩ (λq _ hb=>by have:=(gT q).1 hb;omega);have qZ:=aC gT;have Dz:=aC mh;obtain⟨ne,hne⟩:∃ne,e/64+1=ne:=⟨_,rfl⟩;have Em:ne<=100:=by omega
    have zyD:0<ne:=by omega
    have mU:e<64*ne:=by omega
    rw[hne]at jM ⊢;clear vR hU gT mh hne
    go_wp2_with fail
    refine jM.mono ?_;rintro x4 W4 ⟨nJ,X4,high,tt,gs,b',O,S,pv,ps4,rfl,h4,J3,uH,AW,T,hh⟩;have hle:=VQ ne gs ne S W4 T.sp (by omega) (h4.inv.dR.keep h4.inv.zero);obtain⟨-,k1,-,-⟩:=qb T.box;have R6:=h4.zh (J3 _ _ nQ.out);have zD:=aC (nH.out.trans R6);have YM:=aC ((R6.eG _ vW dB rL).1.trans zK.out);have kw:zc (∀m,ax S m=true↔Lg t.data.toList (kY ps k) m e):=λm=>by
     rw[O6 Dz.out.inv (I7.out k hlt).q T (λm hm=>by rw[vV,(qZ.out m).1 hm.2];omega) m];constructor
     ·rintro ⟨e',h1,h2⟩;rw[(qZ.out e').1 h1.2]at h2;exact h2
     ·intro h1;exact⟨e,⟨mU,(qZ.out _).2 rfl⟩,h1⟩
    clear jM T h4 J3 uH AW R6 nH sI zK zL ub yt Dz nQ
    go_wp2_with fail
    refine hle.mono ?_;rintro x5 W5 ⟨v5,rfl,hv5,KP⟩;subst W5;have RV:YP t.data.toList (kY ps k) e v5:=by
     rcases hv5 with ⟨h1,h2⟩|⟨p,h1,h2,h3,h5⟩
     ·refine .inl ⟨h1,λm hm=>?_⟩;have h3:=(kw.out m).2 hm;rw[h2 m (by have:=hm.1;omega)]at h3;cases h3
     ·refine .inr ⟨p,h1,(kw.out p).1 h3,λm hm hl=>?_⟩;have h6:=(kw.out m).2 hl;rw[h5 m hm]at h6;cases h6
    have yl:zc (oL bs t e cl (k+1) (if we bd.aV v5 a=true then v5 else a)):=HL.out.next RV λi hi=>by
     unfold iu;rw[vy.out,cD,Bool.and_true,MQ.out k hlt i hi]
    obtain⟨d0,d1,d2,-,-,-⟩:=bW YM.out;have QR:zc (v5=-1\/∃p:Nat,v5=p):=RV.elim (λh=>.inl h.1) (λ⟨p,h,_⟩=>.inr ⟨p,h⟩);clear hle hv5 RV HL k1;rcases QR.out with rfl|⟨p,rfl⟩
    ·have wQ:zc (oL bs t e cl (k+1) a):=yl.out;clear yl QR;go_wp2
     go_roundw
     case rel=>exact⟨k+1,a,nJ,rfl,by go_num,by omega,zD,wQ⟩
     case measure=>simp[intOf];omega
    ·have pM:=zgU bd.aV bd.bm dC bd.nodes.length jd p W4;have ja:decide ((p:Int)>=0)=true:=decide_eq_true (by omega);have hz:((p:Int)==0)=(p==0):=by
      by_cases e0:p=0
      ·subst e0;rfl
      ·have:((p:Int)==0)=false:=by simp;omega
       rw[this];simp;omega
     have ym:zc (we bd.aV p a=((p==0 || !bd.aV)&&(a == -1 || decide ((p:Int)<a)))):=by show _=_;unfold we;rw[ja,hz,kM]
     clear QR hz
     go_wp2_with fail
     refine pM.mono ?_;rintro x6 W6 ⟨rfl,dz⟩;have MK:=aC (zD.out.below dz);clear pM d0 d1 d2 zD YM;cases hm:(p==0 || !bd.aV)
     ·have wQ:zc (oL bs t e cl (k+1) a):=by have:=yl.out;rw[ym.out,hm]at this;exact this
      clear yl ym;go_wp2
      go_roundw
      case rel=>exact⟨k+1,a,nJ,rfl,by go_num,by omega,MK,wQ⟩
      case measure=>simp[intOf];omega
     ·cases ha:(a == -1)
      ·cases hd:decide ((p:Int)<a)
       ·have wQ:zc (oL bs t e cl (k+1) a):=by have:=yl.out;rw[ym.out,hm,ha,hd]at this;exact this
        clear yl ym;go_wp2
        go_roundw
        case rel=>exact⟨k+1,a,nJ,rfl,by go_num,by omega,MK,wQ⟩
        case measure=>simp[intOf];omega
       ·have wQ:zc (oL bs t e cl (k+1) p):=by have:=yl.out;rw[ym.out,hm,ha,hd]at this;exact this
        clear yl ym;go_wp2
        go_roundw
        case rel=>exact⟨k+1,p,nJ,rfl,by go_num,by omega,MK,wQ⟩
        case measure=>simp[intOf];omega
      ·have wQ:zc (oL bs t e cl (k+1) p):=by have:=yl.out;rw[ym.out,hm,ha]at this;exact this
       clear yl ym;go_wp2
       go_roundw
       case rel=>exact⟨k+1,p,nJ,rfl,by go_num,by omega,MK,wQ⟩
       case measure=>simp[intOf];omega
  ·obtain rfl:k=bs.length:=by omega
   have hd:decide ((bs.length:Int)<(bs.length:Int))=false:=by simp
   have HF:zc (∃(a':Int) (aI:Nat->Nat->Prop),Ending.returned (aa .i64 a)=.returned (aa .i64 a')/\oL bs t e cl bs.length a'/\da w0 pl Q qi WI aI wr):=⟨a,Ow,rfl,HL.out,oH.out⟩;clear HL oH;go_wp2;go_ret;exact HF.out
end
variable {w:zf}{lo:Nat}
theorem ztE{cU:Nat}{e:zm}{sz n:Nat}{g m c:Nat}{xs:List zj}(h:w.ownsRow lo e sz (ze (za ⟨g,0,zb⟩) m c) n xs)(hl:cU<=g):w.ownsRow cU e sz (ze (za ⟨g,0,zb⟩) m c) n xs:=by
 refine⟨h.1,?_⟩;rcases h.2 with ⟨h2,_⟩|⟨g',cap,aA,h1,h2,h3⟩
 ·cases h2
 ·cases h1;exact .inr ⟨g,_,aA,rfl,hl,h3⟩
def Xo(G:Nat)(bs:List aW)(t:ByteArray)(a e:Nat)(cl:Bool)(r:List (Int×Int)):Prop:=
 ((∀k,k<bs.length->¬iu (bs.getD k .zero) t a e cl)/\r=[])\/∃k,k<bs.length/\(∀j,j<k->¬iu (bs.getD j .zero) t a e cl)/\iu (bs.getD k .zero) t a e cl/\∃l,Pl t.data.toList (aK (bs.getD k .zero).nodes ((bs.getD k .zero).nodes.length-1)) a e l/\r=dK (gM ((a:Int),(e:Int)) G) l
def P2(w0:zf)(pl:Nat)(Q:Nat->Option Pt)(qi:Nat->Nat->Prop)(WI:zf)(G:Nat)(bs:List aW)(t:ByteArray)(a e:Nat)(cl:Bool)(x:Ending)(w':zf):Prop:=
 ∃r v aI,Xo G bs t a e cl r/\x=.returned v/\w'.ownsRow WI.heap.size 71 2 v r.length (pv r)/\da w0 pl Q qi WI aI w'/\∀k b,v.ownBlock=za k->¬aI k b
theorem zru{P:Program}{o:Oper}{a:Act}{K:Act->zf->Prop}{Q:Exit->Act->zf->Prop}(x:Operand)(xs:Array Operand)(ats:Array zm)
  (ho:o.op=.call {callee:=.value x,args:=xs,argTypes:=ats}) (f:FuncId) (Rv:Array zj) (hx:a.eval x=.func (.func f) #[] Rv) (args:Array zj) (Ck:(#[]++xs.map a.eval++Rv:Array zj)=args) (R:zj->zf->Prop) (pK:(callFunc f args).run P w=.ok (.enter f args) w)
  (hc:zl P f args w λe w'=>∃v,e=.returned v/\R v w') (h:∀v w',R v w'->K (a.put o.dst v) w'):Oper.wp P o a w K Q:=by
 obtain⟨dst,op,type,pos,after,guard⟩:=o;simp only at ho;subst ho;have e:execOp a.eval {dst,op:=.call {callee:=.value x,args:=xs,argTypes:=ats},type,pos,after,guard}=callFunc f (#[]++xs.map a.eval++Rv):=by
  show (do let d <-Deferred.ofValue (a.eval x) (xs.map a.eval);invoke d.target d.args)=_;rw[hx]
  rfl
 unfold Oper.wp;rw[e,Ck,pK,Oper.upon_enter];refine hc.mono ?_;rintro e w' ⟨v,rfl,hR⟩;exact h v w' hR
theorem zkW(w wB:zf)(xe:zk w.heap.size w wB)(bs:List aW)(ao:Option Addr)(cap:Nat)(hs:eh lo w (.slice ao bs.length cap) bs)(hlen:bs.length<=100000)(G:Nat)(hG:G<=500)(pl:Nat)(Q:Nat->Option Pt)(vP:zj)(ps:List (Nat×Pt))(w0:zf)(hN:lu wB pl (aa .i64 (G:Int)) (.slice ao bs.length cap) w0 Q vP ps)(du:ps.length=bs.length)(t:ByteArray)(ht:t.size<=4096)(a e:Nat)(Gu:a<=e)(GD:e<=t.size)(cl:Bool)
  (hE:∀k,k<bs.length->iz (kY ps k) (aK (bs.getD k .zero).nodes ((bs.getD k .zero).nodes.length-1))) (cR:∀k,k<bs.length->∀l,Pl t.data.toList (aK (bs.getD k .zero).nodes ((bs.getD k .zero).nodes.length-1)) a e l->∀x∈l,1<=x.1/\x.1<((G+1:Nat):Int)) (qi:Nat->Nat->Prop) (WI:zf) (yJ:cE w0 pl Q qi WI):
  zl prog 104 #[zd (za ⟨pl,0,zb⟩),.string t,aa .i64 a,aa .i64 e,.bool cl] WI λx w'=>P2 w0 pl Q qi WI G bs t a e cl x w':=by
 obtain⟨iG,fe,CK,cD,hc⟩:=hs;cases CK;have cb:WI.cell? ⟨pl,1,zb⟩=za (.slice ao bs.length cap):=by
  obtain⟨⟨room,h1⟩,_⟩:=hN.cells yJ;exact(aO _ _ _ _ _ _ h1:_=_)
 have FR:zc (∀W Ow,cE w0 pl Q Ow W->zk w.heap.size w W/\wB.heap.size<=W.heap.size):=λW Ow hI=>⟨aj xe xe.size (hN.bj hI),(hN.bj hI).size⟩
 have MQ:zc (∀k,k<bs.length->(Lg t.data.toList (kY ps k) a e↔In (aK (bs.getD k .zero).nodes ((bs.getD k .zero).nodes.length-1)) ((t.data.toList.drop a).take (e-a)))):=λk hk=>by
  unfold Lg;rw[(hE k hk).wd];have:t.data.toList.length=t.size:=by simp
  exact⟨λh=>h.2.2,λh=>⟨Gu,by omega,h⟩⟩
 have I7:zc (∀k,k<bs.length->dI wB.heap.size w0 pl Q (qI ps k) (kY ps k)):=λk hk=>hN.kd.fin _ (Bq (Ft (by omega)))
 have zH:zc (∀W Ow,cE w0 pl Q Ow W->∀k,k<bs.length->∃gp cp,vP=ze (za ⟨gp,0,zb⟩) bs.length cp/\W.cell? ⟨pl,2,zb⟩=za (ze (za ⟨gp,0,zb⟩) bs.length cp)/\W.cell? ⟨gp,k,zb⟩=za (zd (za ⟨qI ps k,0,zb⟩))):=λW Ow hI k hk=>by
  obtain⟨⟨room,h1⟩,h2⟩:=hN.cells hI;obtain⟨gp,cp,hv⟩:∃gp cp,vP=ze (za ⟨gp,0,zb⟩) ps.length cp:=by
   rcases h2.2 with ⟨_,e2⟩|⟨g,c,aA,e,_⟩
   ·omega
   ·exact⟨g,c,e⟩
  subst hv;exact⟨gp,cp,by rw[du],by have:=(wz h1).1;rw[du]at this;exact this,Wk h2 (Ft (by omega))⟩
 have MN:zc (∀W Ow,cE w0 pl Q Ow W->∃x2 x3,W.heap[pl]?=za (zg #[aa .i64 (G:Int),.slice ao bs.length cap,x2,x3] 189 (0,0))):=λW Ow hI=>by
  obtain⟨⟨room,h1⟩,_⟩:=hN.cells hI;exact⟨_,_,h1⟩
 have IR:=aC (show da w0 pl Q qi WI qi WI from⟨yJ,ai _,λ_ _ _ h=>⟨rfl,h⟩⟩);have HE:=aC hE;have QB:=aC cR;have hex:(t.extract a e).size=e-a:=by rw[ByteArray.size_extract];omega
 clear yJ hE cR hN xe
 go_enter func104,ntmps104
 go_wp2;clear cb
 go_loopw [19] (λiv wr=>∃(k:Nat) (Ow:Nat->Nat->Prop),iv=aa .i64 k/\k<=bs.length/\zc (da w0 pl Q qi WI Ow wr)/\zc (∀j,j<k->¬iu (bs.getD j .zero) t a e cl))
  (λiv _=>bs.length-(intOf iv).toNat)
 case atStart=>exact⟨0,_,rfl,aZ _,IR,λj hj=>absurd hj (dk _)⟩
 case round=>
  clear IR;obtain⟨k,Ow,rfl,hk,oH,sF⟩:=hrel;have HI:=aC oH.out.inv;have aB:=(FR.out wr Ow HI.out).1
  by_cases hlt:k<bs.length
  ·obtain⟨b,o,nv,bd,rfl,Hn,bu,c0,c1,c2,io⟩:=hc.elem aB hlt;obtain⟨dC,jd,rfl,kz,kU⟩:=io;clear kU;have il:(0:Int)<=(k:Int):=by omega
   have cM:(k:Int)<(bs.length:Int):=by omega
   obtain⟨V,hV⟩:∃V,wr.alloc (zg #[.bool bd.aV,.bool bd.bm,.slice dC bd.nodes.length jd] 115)=V:=⟨_,rfl⟩;have jL:zk wr.heap.size wr V:=by rw[<-hV];exact au
   have xV:V.heap[wr.heap.size]?=za (zg #[.bool bd.aV,.bool bd.bm,.slice dC bd.nodes.length jd] 115 (0,0)):=by rw[<-hV];exact aL _ _
   obtain⟨d0,d1,d2,-,-,-⟩:=bW xV;have KF:wr.heap.size<V.heap.size:=(ap.1 xV).1;have sI:=aC (da.cH HI.out jL);have zL:=aC xV;have vy:zc (Bd (bs.getD k .zero).aV (bs.getD k .zero).bm t.size a e cl=((a==0 || !bd.aV)&&((cl&&e==t.size) || !bd.bm))):=by show _=_;rw[Hn.out,zh8]
   clear jL xV
   go_upto_region 4 with fail
   clear hV c0 c1 c2
   go_cut [47] from 24 to 47 (λv47 wx=>∃(aI:Nat->Nat->Prop) (bb:Bool),v47=.bool bb/\zc (da w0 pl Q Ow wr aI wx)/\zc (bb=true↔iu (bs.getD k .zero) t a e cl))
   case first=>
    have pM:zl prog 128 #[.agg #[.bool bd.aV,.bool bd.bm,.slice dC bd.nodes.length jd],aa .i64 a] V.drew λr w'=>∃v,r=.returned v/\v=.bool (a==0 || !bd.aV)/\zk V.drew.heap.size V.drew w':=(zgU bd.aV bd.bm dC bd.nodes.length jd a V.drew).mono λr w' h=>⟨_,h.1,rfl,h.2⟩
    have s9:∀W1,zk V.drew.heap.size V.drew W1->zc (da w0 pl Q Ow wr Ow W1):=λW1 hb=>sI.out.below (((Below.refl V.heap.size V).drew).trans hb)
    have qA:∀W1,zk V.drew.heap.size V.drew W1->W1.cell? ⟨wr.heap.size,0,zb⟩=za (.bool bd.aV)/\W1.cell? ⟨wr.heap.size,1,zb⟩=za (.bool bd.bm)/\W1.cell? ⟨wr.heap.size,2,zb⟩=za (.slice dC bd.nodes.length jd):=λW1 hb=>by
     obtain⟨f0,f1,f2,-,-,-⟩:=bW ((hb.block _ KF).trans zL.out);exact⟨f0,f1,f2⟩
    have fU:prog.follows .mixedOrders=true:=by kernel_rfl
    refine zhw fU ?_;refine Ic [] [0,1] [2,3] 20 (λw'=>w'=V.drew) rfl (by kernel_rfl) (λ_ _ h=>h) (λ_ _ _ _ h=>h.elim) ?_ _ rfl;intro os ck;simp only[lO,lP,lR,lQ]at ck;subst ck
    change wpQuiet _ _ _ _ [_,_] _
    repeat (go_big_quiet_step (fail))
    refine wpQuiet_nil ?_;rintro w' rfl r' bZ;simp only[lO,lP,lR,lQ]at bZ;subst bZ
    change wpList _ _ _ [_,_] _ _
    go_wp2_with fail
    refine pM.mono ?_;rintro r1 W1 ⟨v1,rfl,rfl,ak⟩;have nH:=s9 W1 ak;obtain⟨f0,f1,f2⟩:=qA W1 ak;clear pM d0 d1 d2;cases cO:(a==0 || !bd.aV)
    ·have HF:zc (false=true↔iu (bs.getD k .zero) t a e cl):=⟨λh=>(by cases h),λh=>by have:=h.1;rw[vy.out,cO]at this;cases this⟩;go_wp2;rw[uU];refine Ic [0,1,2,3] [4,5,6,7] [8,9,10] 13 (λw'=>w'=W1) rfl (by kernel_rfl) (λ_ _ h=>h) (λ_ _ _ _ h=>h.elim) ?_ _ rfl;intro os ck;simp only[lO,lP,lR,lQ]at ck;subst ck
     change wpQuiet _ _ _ _ [_,_,_,_] _
     repeat (go_big_quiet_step (fail))
     refine wpQuiet_nil ?_;rintro w' hw' r' bZ;replace hw':W1=w':=Eq.symm hw';subst hw';simp only[lO,lP,lR,lQ]at bZ;subst bZ
     change wpList _ _ _ [_,_,_] _ _
     go_wp2;rw[uU];refine Ic [0,1,2,3,4,5,6,7,8,9,10] [11,12,13,14,15,16,17,18,19,20,21] [22,23] 0 (λw'=>w'=W1) rfl (by kernel_rfl) (λ_ _ h=>h) (λ_ _ _ _ h=>h.elim) ?_ _ rfl;intro os ck;simp only[lO,lP,lR,lQ]at ck;subst ck
     change wpQuiet _ _ _ _ [_,_,_,_,_,_,_,_,_,_,_] _
     repeat (go_big_quiet_step (fail))
     refine wpQuiet_nil ?_;rintro w' hw' r' bZ;replace hw':W1=w':=Eq.symm hw';subst hw';simp only[lO,lP,lR,lQ]at bZ;subst bZ
     change wpList _ _ _ [_,_] _ _
     go_wp2;rw[uU];refine⟨by kernel_rfl,?_⟩;rw[wy];go_wp2
     go_meet
     exact⟨Ow,false,rfl,nH,HF⟩
    ·have ti:zl prog 123 #[.agg #[.bool bd.aV,.bool bd.bm,.slice dC bd.nodes.length jd],.string t,aa .i64 e,.bool cl] W1 λr w'=>∃v,r=.returned v/\v=.bool ((cl&&e==t.size) || !bd.bm)/\zk W1.heap.size W1 w':=(zj2 bd.aV bd.bm cl dC bd.nodes.length jd t e W1).mono λr w' h=>⟨_,h.1,rfl,h.2⟩
     go_wp2;rw[uU];refine Ic [0,1,2,3] [4,5,6,7] [8,9,10] 13 (λw'=>w'=W1) rfl (by kernel_rfl) (λ_ _ h=>h) (λ_ _ _ _ h=>h.elim) ?_ _ rfl;intro os ck;simp only[lO,lP,lR,lQ]at ck;subst ck
     change wpQuiet _ _ _ _ [_,_,_,_] _
     repeat (go_big_quiet_step (fail))
     refine wpQuiet_nil ?_;rintro w' hw' r' bZ;replace hw':W1=w':=Eq.symm hw';subst hw';simp only[lO,lP,lR,lQ]at bZ;subst bZ
     change wpList _ _ _ [_,_,_] _ _
     go_wp2_with fail
     refine ti.mono ?_;rintro r2 W2 ⟨v2,rfl,rfl,af⟩;have sH:=aC (nH.out.below af);clear ti f0 f1 f2;cases cD:((cl&&e==t.size) || !bd.bm)
     ·have HF:zc (false=true↔iu (bs.getD k .zero) t a e cl):=⟨λh=>(by cases h),λh=>by have:=h.1;rw[vy.out,cO,cD]at this;cases this⟩;go_wp2;rw[uU];refine Ic [0,1,2,3,4,5,6,7,8,9,10] [11,12,13,14,15,16,17,18,19,20,21] [22,23] 0 (λw'=>w'=W2) rfl (by kernel_rfl) (λ_ _ h=>h) (λ_ _ _ _ h=>h.elim) ?_ _ rfl;intro os ck;simp only[lO,lP,lR,lQ]at ck;subst ck
      change wpQuiet _ _ _ _ [_,_,_,_,_,_,_,_,_,_,_] _
      repeat (go_big_quiet_step (fail))
      refine wpQuiet_nil ?_;rintro w' hw' r' bZ;replace hw':W2=w':=Eq.symm hw';subst hw';simp only[lO,lP,lR,lQ]at bZ;subst bZ
      change wpList _ _ _ [_,_] _ _
      go_wp2;rw[uU];refine⟨by kernel_rfl,?_⟩;rw[wy];go_wp2
      go_meet
      exact⟨Ow,false,rfl,sH,HF⟩
     ·obtain⟨gp,cp,TZ,k2,k3⟩:=zH.out W2 Ow sH.out.inv k hlt;have xq:=zh2 W2 sH.out.inv (I7.out k hlt).q (t.extract a e) (by rw[hex];omega);have i0:(0:Int)<=(a:Int):=by omega
      have i1:(a:Int)<=(e:Int):=by omega
      have i2:(e:Int)<=(t.size:Int):=by omega
      have Hpt:zc (Bd (bs.getD k .zero).aV (bs.getD k .zero).bm t.size a e cl=true):=by show _=_;rw[vy.out,cO,cD];rfl
      go_wp2;rw[uU];refine Ic [0,1,2,3,4,5,6,7,8,9,10] [11,12,13,14,15,16,17,18,19,20,21] [22,23] 0 (λw'=>w'=W2) rfl (by kernel_rfl) (λ_ _ h=>h) (λ_ _ _ _ h=>h.elim) ?_ _ rfl;intro os ck;simp only[lO,lP,lR,lQ]at ck;subst ck
      change wpQuiet _ _ _ _ [_,_,_,_,_,_,_,_,_,_,_] _
      repeat (go_big_quiet_step (fail))
      refine wpQuiet_nil ?_;rintro w' hw' r' bZ;replace hw':W2=w':=Eq.symm hw';subst hw';simp only[lO,lP,lR,lQ]at bZ;subst bZ
      change wpList _ _ _ [_,_] _ _
      go_wp2_with fail
      refine xq.mono ?_;rintro r3 W3 ⟨jG,bb,rfl,cX,lV⟩;have wR:=aC (sH.out.trans lV);have HF:zc (bb=true↔iu (bs.getD k .zero) t a e cl):=by
       show _↔_;rw[cX,VK,hex];have h1:=zx (u:=t.data.toList) (i:=a) (n:=e-a) (by simp;omega) (p:=kY ps k) (a:=0) (b:=e-a) (ai _);rw[wH,show a+(e-a)=e from by omega]at h1;rw[h1,MQ.out k hlt];exact⟨λh=>⟨Hpt.out,h⟩,λh=>h.2⟩
      clear xq cX lV k2 k3;go_wp2;rw[uU];refine⟨by kernel_rfl,?_⟩;rw[wy];go_wp2
      go_meet
      exact⟨jG,bb,rfl,wR,HF⟩
   case rest=>
    obtain⟨nJ,bb,rfl,zD,Xw⟩:=hcut;cases bb with
    |false=>
     have Qj:zc (∀j,j<k+1->¬iu (bs.getD j .zero) t a e cl):=λj hj=>by
      by_cases ej:j=k
      ·subst ej;rw[<-Xw.out];simp
      ·exact sF.out j (by omega)
     have IV:=aC (oH.out.trans zD.out);clear zD sI zL oH;go_wp2
     go_roundw
     case rel=>exact⟨k+1,nJ,by go_num,by omega,IV,Qj⟩
     case measure=>simp[intOf];omega
    |true=>
     have fT:=Xw.out.1 rfl;obtain⟨y2,y3,hy⟩:=MN.out wc nJ zD.out.inv;have hno:=zh3 pl G _ y2 y3 wc hy hG;have Ta:Lg t.data.toList (kY ps k) a e:=(MQ.out k hlt).2 fT.2;have IV:=aC zD.out.inv;have XQ:=aC (oH.out.trans zD.out);clear oH
     go_wp2_with fail
     refine hno.mono ?_;rintro x5 W5 ⟨gs,rfl,oW,pT,bE⟩;have jw:pv (List.replicate (G+1) ((-1:Int),(-1:Int)))=pv (List.replicate (G+1) (-1,-1)):=rfl;obtain⟨o1,q1⟩:=pT.stored (0*2) (aa .i64 a);obtain⟨o2,q2⟩:=o1.stored (0*2+1) (aa .i64 e);rw[WZ _ _ _ _ (by simp)]at o2;have uG:(List.replicate (G+1) ((-1:Int),(-1:Int))).set 0 ((a:Int),(e:Int))=gM ((a:Int),(e:Int)) G:=by simp[gM,List.replicate_succ]
     rw[uG]at o2;simp only[Nat.zero_mul,kn]at o1 o2 q1 q2;obtain⟨u0,u1,s0,s1,RH,ZC⟩:=L8 pT (k:=0) (by omega);simp only[Nat.zero_mul,kn]at s0 s1 RH ZC;obtain⟨W6,Ch⟩:∃W6,(W5.setCell ⟨gs,0,zb⟩ (aa .i64 a)).setCell ⟨gs,1,zb⟩ (aa .i64 e)=W6:=⟨_,rfl⟩;rw[Ch]at o2 q2;have uQ:aE (· = gs) W5 W6:=((aE.refl _ W5).grown q1 (λk e=>.inl (Option.some.inj e).symm)).grown q2 (λk e=>.inl (Option.some.inj e).symm);have ZQ:=IV.out.below bE;have rM:∀b,¬nJ gs b:=λb ho=>by have:=(IV.out.ow gs b ho).2;omega
     have uJ:=IV.out.size;have zwx:∃aA,W5.heap[gs]?=za (zg aA 71 (0,0)):=(iD pT (by simp[Value.ownBlock])).2;have ZR:=ZQ.free uQ (λmg f e=>(uQ.same mg (ap.1 e).1 (λe2=>by
      have e2:mg=gs:=e2;obtain⟨aA,h5⟩:=zwx;rw[e2,h5]at e;exact absurd (bP e) (by decide))).trans e) (λk e=>by have e:k=gs:=e;subst e;exact⟨by omega,rM⟩)
     have mw:W6.ownsRow w0.heap.size 71 2 (ze (za ⟨gs,0,zb⟩) (G+1) (G+1)) (G+1) (pv (gM ((a:Int),(e:Int)) G)):=qO o2 uJ;have IW:=aC ZR;have Yr:zc (∀j,j<W5.heap.size->j≠gs->W6.heap[j]?=W5.heap[j]?):=λj h1 h2=>uQ.same j h1 h2
     have QI:=aC mw;have SP:gs<W6.heap.size:=(Fc mw).2.2.1;have zAv:=uQ.size;have zAu:=bE.size;have ZN:(G:Int)+1=((G+1:Nat):Int):=by omega
     obtain⟨m,Hm⟩:∃m,zc (G+1=m):=⟨_,rfl⟩;have fk:(0:Int)<(m:Int):=by have:=Hm.out;omega
     rw[Hm.out]at QI ⊢;clear hno pT o1 o2 q1 q2 uQ ZQ ZR mw zwx hy jw uG;obtain⟨gp,cp,TZ,-,-⟩:=zH.out W6 nJ IW.out k hlt;have T5:∀s:dy W6,s.W.cell? ⟨pl,2,zb⟩=za (ze (za ⟨gp,0,zb⟩) bs.length cp)/\s.W.cell? ⟨gp,k,zb⟩=za (zd (za ⟨qI ps k,0,zb⟩)):=λs=>by
      obtain⟨gp',cp',hv',k2,k3⟩:=zH.out s.W nJ (IW.out.below s.h) k hlt;rw[TZ]at hv';injection hv' with e1 e2 e3
      injection e1 with e1
      injection e1 with e1
      subst e1;subst e3;exact⟨k2,k3⟩
     have x1:∀s:dy W6,s.W.cell? ⟨pl,2,zb⟩=za (ze (za ⟨gp,0,zb⟩) bs.length cp):=λs=>(T5 s).1
     have x2:∀s:dy W6,s.W.cell? ⟨gp,k,zb⟩=za (zd (za ⟨qI ps k,0,zb⟩)):=λs=>(T5 s).2
     clear T5 TZ;have rP:qI ps k=qI ps k:=rfl
     go_upto_region 7 with fail
     clear Ch s0 s1 RH ZC;have fU:prog.follows .mixedOrders=true:=by kernel_rfl
     refine OY [0,1,3,4,5,6,7,8,9,10,11] [2,12] 12 (λw'=>∃s:dy W6,w'=s.W) fU ⟨⟨W6.drew,(Below.refl _ _).drew⟩,rfl⟩ (by kernel_rfl) ?_;intro os ck;simp only[lO,lP,lR,lQ]at ck;subst ck
     change wpQuiet _ _ _ _ [_,_,_,_,_,_,_,_,_,_,_] _
     repeat (go_big_quiet_step (fail))
     refine wpQuiet_nil ?_;rintro w' ⟨⟨Wb,iW⟩,hw'⟩ r' bZ;replace hw':w'=Wb:=hw';subst w';simp only[lO,lP,lR,lQ,Option.map_some]at bZ;subst bZ;clear x1 x2 rP;refine uT rfl (λK5 iI=>?_);refine Fb 131 #[.tmp 55,.tmp 56] #[9,33] (by rfl) #[.string t,ze (za ⟨gs,0,zb⟩) m m] (by simp[Act.eval]) (λv w'=>∃bs bt bp,v=CO bs bt bp/\zk Wb.heap.size Wb w'/\Wb.heap.size<=bs/\Wb.heap.size<=bt/\Wb.heap.size<=bp/\w'.heap[bs]?=za (zg #[ze (za ⟨gs,0,zb⟩) m m] 33 (0,0))/\w'.heap[bt]?=za (zg #[.string t] 9 (0,0))/\w'.heap[bp]?=za (zg #[CO bs bt bp] 205 (0,0))) (zk2 _ _) ((zpM t gs m m Wb).mono (by
      rintro e w1 ⟨bs1,bt1,bp1,rfl,h1⟩;exact⟨_,rfl,bs1,bt1,bp1,rfl,h1⟩)) ?_
     rintro v8 W8 ⟨b1,b2,b3,rfl,dX,l1,l2,l3,z1,z2,z3⟩;have Gs:zk W6.heap.size W6 W8:=aj iW iW.size dX;refine iI _ _ (λ_=>⟨⟨W8,Gs⟩,rfl⟩) ?_;clear iI K5;have zAw:=iW.size;have SH:∀b',W6.heap.size<=b'->w0.heap.size<=b'/\∀q,¬nJ b' q:=λb' Cm=>⟨by omega,λq ho=>by have:=(IW.out.ow b' q ho).2;omega⟩
     have NE:oP w0 pl Q b1 b2 b3 gs m m t nJ W8 (gM ((a:Int),(e:Int)) G):=⟨IW.out.below Gs,z1,z2,z3,cI QI.out Gs,by rw[C8];exact Hm.out,SH b1 (by omega),SH b2 (by omega),SH b3 (by omega),⟨by omega,rM⟩⟩;have yX:=zry (lo:=wB.heap.size) ht (kY ps k) W8 nJ _ (qI ps k) a e NE (I7.out k hlt) Ta (λl hl x hx=>by
      have:=QB.out k hlt l ((HE.out k hlt).pl _ _ _ _ Ta hl) x hx;rw[Hm.out]at this;exact this)
     refine uT rfl (λK6 Cc=>?_);refine zru (.tmp 57) #[.tmp 64,.tmp 65,.tmp 66] #[198,3,3] (by rfl) 150 #[zd (za ⟨b1,0,zb⟩),zd (za ⟨b2,0,zb⟩),zd (za ⟨b3,0,zb⟩)] (by simp[Act.eval,Act.put];rfl) #[zd (za ⟨qI ps k,0,zb⟩),aa .i64 a,aa .i64 e,zd (za ⟨b1,0,zb⟩),zd (za ⟨b2,0,zb⟩),zd (za ⟨b3,0,zb⟩)] (by simp[Act.eval,Act.put]) (λv w'=>Q5 w0 pl Q b1 b2 b3 gs m m t nJ W8 (gM ((a:Int),(e:Int)) G) (kY ps k) a e (.returned v) w') (zm8 _ _) (yX.mono (by
      rintro e w1 ⟨QY,l,rfl,h1⟩;exact⟨_,rfl,QY,l,rfl,h1⟩)) ?_
     rintro v9 W9 ⟨QY,l,TY,Oc,NB,R7⟩;injection TY with TY
     subst TY;refine Cc _ _ (λh=>by simp at h) ?_;clear Cc K6;have HF:zc (P2 w0 pl Q qi WI G bs t a e cl (.returned (ze (za ⟨gs,0,zb⟩) m m)) W9):=by
      have hsI:=XQ.out.size;refine⟨dK (gM ((a:Int),(e:Int)) G) l,_,QY,.inr ⟨k,hlt,sF.out,fT,l,(HE.out k hlt).pl _ _ _ _ Ta Oc,rfl⟩,rfl,?_,XQ.out.trans ⟨NB.inv,by have:=R7.size;have:=Gs.size;omega,λj h1 h2 h3=>?_⟩,λj b hj=>?_⟩
      ·rw[zv,C8,Hm.out];exact ztE NB.row (by omega)
      ·obtain⟨e2,f2⟩:=R7.eG j h1 (by have:=Gs.size;omega) (by omega) h3;exact⟨e2.trans ((Gs.block j (by omega)).trans ((Yr.out j (by omega) (by omega)).trans (bE.block j h2))),f2⟩
      ·have hj:gs=j:=by simpa [Value.ownBlock]using hj
       subst hj;exact NB.fg.2 b
     clear yX NE Oc NB IW QI R7 Yr;show vk _ .normal _ _;rw[wy];go_wp2;go_ret;exact HF.out
  ·obtain rfl:k=bs.length:=by omega
   have hd:decide ((bs.length:Int)<(bs.length:Int))=false:=by simp
   have HF:zc (P2 w0 pl Q qi WI G bs t a e cl (.returned (ze (za ⟨wr.heap.size,0,zb⟩) 0 0)) (wr.alloc (zg #[] 71))):=⟨[],_,Ow,.inl ⟨sF.out,rfl⟩,rfl,LJ wr _ 2 WI.heap.size wr.heap.size oH.out.size rfl,oH.out.below (au),λj b hj ho=>by
    have hj:wr.heap.size=j:=by simpa [Value.ownBlock]using hj
    have:=(oH.out.inv.ow j b ho).2;omega⟩
   clear HI sF oH;go_wp2;go_ret;exact HF.out
end Go.Proofs.YtdimhpfiieepiaaGreatDoor
