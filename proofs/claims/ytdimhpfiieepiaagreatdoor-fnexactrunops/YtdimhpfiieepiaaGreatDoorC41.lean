import Derived.Test.YtdimhpfiieepiaaGreatDoorC40
import Derived.ProofKit
import Derived.Deep.Slices
import Derived.Deep.Strs
import Derived.Lib.SmallJoins
import Derived.Test.YtdimhpfiieepiaaGreatDoorRows
import Derived.Test.YtdimhpfiieepiaaGreatDoorCards
import Derived.Test.YtdimhpfiieepiaaGreatDoorTie
import Derived.ChangeMaps5
import Derived.ChangeSame
import Derived.ChangeVars
import Derived.JoinedOf
import Derived.RowKitTokens
import Derived.LaidLaws
import Derived.LaidHandle
import Derived.Lib.LaidTab
import Derived.SevenTiedAt
namespace Go.Proofs.YtdimhpfiieepiaaGreatDoor
open Proofs.Tryz
open RowKit renaming Below->za
open Value renaming int->zb,slice->zh,agg->zi
open Go renaming Value->zc,World->zg,Calls->zk,TypeId->zl
open Option renaming some->ze,none->zf
open Obj renaming cells->zj
set_option maxHeartbeats 2000000
set_option maxRecDepth 100000
open Go.RowKit
attribute [local go_sem ↓] wp_at_zero wp_at_succ
def zyB(x:cD)(v:zc):Array zc:=#[zb .i64 x.kind,zb .i64 x.rule,zb .i64 x.start,zb .i64 x.fin,v]
theorem wD{a b:Bool}(h:a=true->b=true)(hb:b=false):a=false:=by
 cases a
 ·rfl
 ·exact absurd (h rfl) (by simp[hb])
def zAE(s:cK):Array zc:=eI s.L s.B s.C s.S s.N
abbrev zAO:Array zc:=#[zb .i64 0,.string ⟨#[]⟩,.bool false,zb .i64 0,zb .i64 0]
abbrev zAN:Array zc:=#[zb .i64 0,zb .i64 0,zb .i64 0,zb .i64 0,zh zf 0 0]
structure Fx(w2:zg)(R1:zc->zg->Prop)(R2:cK->cD->Prop)(m:zc)(s':cK)(x:cD)(so:Option Addr)(sm sc g6 g7:Nat)(bM bN bT b6 b7 b8 b9 Ez S5:Bool)(w:zg):Prop where
 bu:za w2.heap.size w2 w
 r1:bM=true->bN=false->R1 m w
 r2:bN=true->R2 s' x/\w.ownsRow w2.heap.size 71 2 (.slice so sm sc) x.dN.length (pv x.dN)
 a0:b8=true->w2.heap.size<=g6/\w.heap[g6]?=ze (zj (if Ez=true then zAE s' else zAO) 32 (0,0))
 a1:b9=true->w2.heap.size<=g7/\w.heap[g7]?=ze (zj (if S5=true then zyB x (.slice so sm sc) else zAN) 35 (0,0))
 kT:(bT || b6 || b7)=true->bN=true
 k0:Ez=true->bN=true/\b8=true
 k1:S5=true->bN=true/\b9=true
section
variable {w2 w w':zg} {R1:zc->zg->Prop} {R2:cK->cD->Prop} {m v:zc} {s s1:cK} {x x1:cD} {so so1:Option Addr} {sm sc sm1 sc1 g6 g7:Nat} {bM bN bT b6 b7 b8 b9 Ez S5:Bool}
end
section
variable {P:Program} {o:Oper} {a:Act} {w w':zg} {K:Act->zg->Prop} {Q:Exit->Act->zg->Prop} {d:Nat} {v:zc} {f:FuncId} {xs:Array zc}
end
section
variable {rs:List bi}{d:bj}{w W W':zg}{lo:Nat}
theorem zt0{s s':cK}{x:cD}(h:vG rs d s s' x):x.dN.length<=501:=by
 rcases h with ⟨-,-,rfl⟩|⟨hB,b,-,-,-,h4,a,sp,-,h6,-,rfl⟩|⟨-,-,-,rfl⟩
 ·simp[cD.zero]
 ·rcases h6 with ⟨-,rfl⟩|⟨-,h6⟩
  ·obtain⟨hl,-⟩:=BI hB;have hn:=YF hB b;have jm:(qS d s b).toNat<rs.length:=by omega
   simp only[lu,de]at hl;have fE:=iQ.1 hl.1.2 (rs.getD (qS d s b).toNat .zero) (by simp[List.getD,jm]);unfold iK gC at fE;simp only[de,lx]at fE;rw[DD];omega
  ·exact zqO h6
 ·simp
theorem zhp(xs:Array zc)(w:zg):(callFunc 8 xs).run prog w=.ok (.enter 8 xs) w:=by kernel_rfl
theorem zho(xs:Array zc)(w:zg):(callFunc 13 xs).run prog w=.ok (.enter 13 xs) w:=by kernel_rfl
theorem ap.under{S:Nat->Prop}{w0:zg}(t:ap S w W)(hb:za w0.heap.size w0 w)(hS:∀k,k<w0.heap.size->¬S k):za w0.heap.size w0 W:=
 ⟨t.os.trans hb.os,t.tape.trans hb.tape,t.output.trans hb.output,aW hb.size t.size,λk hk=>(t.same k (bA hk hb.size) (hS k hk)).trans (hb.block k hk)⟩
theorem F9{v:zc}{xs:List Int}(h:iO lo w v xs):∃ao cap,v=.slice ao xs.length cap:=⟨_,_,h.choose_spec.choose_spec.1⟩
def vF(lo:Nat)(rs:List bi)(d:bj)(m:zc)(W:zg):Prop:=∃ao rc cv bv fv tv ev nv kv,m=zi #[.slice ao rs.length rc,cv,zb .i64 d.width,bv,fv,tv,ev,nv,kv]/\rF lo W (.slice ao rs.length rc) cv bv fv tv ev nv kv rs d
theorem vF.below{m:zc}(h:vF lo rs d m W)(hb:za W.heap.size W W'):vF lo rs d m W':=by
 obtain⟨ao,rc,cv,bv,fv,tv,ev,nv,kv,rfl,h⟩:=h;exact⟨ao,rc,cv,bv,fv,tv,ev,nv,kv,rfl,h.below hb⟩
theorem vF.of{l:Nat}{e:Ending}(h:∃jD xX uA qD mL vi uC qT uY,e=.returned (zi #[.slice jD rs.length xX,uA,zb .i64 d.width,qD,mL,vi,uC,qT,uY])/\rF l W' (.slice jD rs.length xX) uA qD mL vi uC qT uY rs d/\za W.heap.size W W')(hl:lo<=l):∃v,e=.returned v/\vF lo rs d v W'/\za W.heap.size W W':=by
 obtain⟨ao,rc,cv,bv,fv,tv,ev,nv,kv,rfl,h,hb⟩:=h;exact⟨_,rfl,⟨ao,rc,cv,bv,fv,tv,ev,nv,kv,rfl,h.mono hl⟩,hb⟩
end
section
variable {rs:List bi}{d:bj}{L:Int}{ops:List (Int×ByteArray)}{W:zg}{lo l2:Nat}{m:zc}
def Cv(rs:List bi)(d:bj)(L:Int)(ops:List (Int×ByteArray))(W:zg)(e:Ending)(w':zg):Prop:=
 ∃(ys:List (cD×zc)) (g cap:Nat),e=.returned (zh (ze ⟨g,0,zf⟩) ys.length cap)/\pM rs d L ops (ys.map Prod.fst)/\eM W.heap.size g cap ys w'/\za W.heap.size W w'
theorem Cv.of{w':zg}{e:Ending}(h:∃xs,pM rs d L ops xs/\ti W xs e w'):Cv rs d L ops W e w':=by
 obtain⟨xs,hQ,ys,g,cap,rfl,rfl,h1,h2,h3⟩:=h;exact⟨ys,g,cap,rfl,hQ,⟨h1,h2⟩,h3⟩
theorem Cv.len{ys:List (cD×zc)}(h:pM rs d L ops (ys.map Prod.fst)):ys.length<=20000/\∀y,y∈ys->y.1.dN.length<=501:=by
 obtain⟨h1,h2⟩:=zts zt0 h;rw[rf]at h1;exact⟨h1,λy hy=>h2 y.1 (List.mem_map_of_mem hy)⟩
theorem ztj(h:vF lo rs d m W)(hsm:pC rs)(L:Int){oa:Option Addr}{oc:Nat}{ops:List (Int×ByteArray)}(ho:jN l2 W (.slice oa ops.length oc) ops)(kz:∀i,i<ops.length->(ops.getD i gK).2.size<=1048576):zk prog 18 #[m,zb .i64 L,.slice oa ops.length oc] W λe w'=>Cv rs d L ops W e w':=by
 obtain⟨ao,rc,cv,bv,fv,tv,ev,nv,kv,rfl,h⟩:=h;have h0:=h.mono (aR lo);exact(zi8 ao rc cv bv fv tv ev nv kv rs d L oa oc ops W h0.I9 hsm h0.jK.jK (ho.mono (aR _)) kz).mono λe w' h=>.of h
theorem zpG(h:vF lo rs d m W)(hsm:pC rs)(pw:zP d)(zd:fS W)(L:Int){oa:Option Addr}{oc:Nat}{ops:List (Int×ByteArray)}(ho:jN l2 W (.slice oa ops.length oc) ops)(kz:∀i,i<ops.length->(ops.getD i gK).2.size<=1048576):zk prog 20 #[m,zb .i64 L,.slice oa ops.length oc] W λe w'=>Cv rs d L ops W e w':=by
 obtain⟨ao,rc,cv,bv,fv,tv,ev,nv,kv,rfl,h⟩:=h;have h0:=h.mono (aR lo);exact(ziC ao rc cv bv fv tv ev nv kv rs d L oa oc ops W h0.I9 hsm h0.jK.jK pw zd (ho.mono (aR _)) kz).mono λe w' h=>.of h
theorem zjP(ao:Option Addr)(rc:Nat)(cv bv fv tv ev nv kv:zc)(rs:List bi)(d:bj)(L:Int)(zJ:Option Addr)(oc:Nat)(ops:List (Int×ByteArray))(w:zg)(hr:fU lo w (.slice ao rs.length rc) rs)(hs:fV lo w cv bv fv tv ev nv kv d)(ho:jN lo w (.slice zJ ops.length oc) ops)(kz:∀i,i<ops.length->(ops.getD i gK).2.size<=9223372036854775807)(zd:fS w):
  zk prog 4 #[zi #[.slice ao rs.length rc,cv,zb .i64 d.width,bv,fv,tv,ev,nv,kv],zb .i64 L,.slice zJ ops.length oc] w λr w'=>r=.returned (.bool true)/\za w.heap.size w w':=by
 have gz:=ql zd;have fP:prog.follows .mixedOrders=true:=by kernel_rfl
 obtain⟨W0,ai⟩:∃W0,w.alloc (zj #[.slice ao rs.length rc,cv,zb .i64 d.width,bv,fv,tv,ev,nv,kv] 27)=W0:=⟨_,rfl⟩;have af:za w.heap.size w W0:=by rw[<-ai];exact aw
 have r0:W0.heap[w.heap.size]?=ze (zj #[.slice ao rs.length rc,cv,zb .i64 d.width,bv,fv,tv,ev,nv,kv] 27 (0,0)):=by rw[<-ai];exact aI _ _
 have c1:=zkt ao rc cv bv fv tv ev nv kv rs d W0 (hr.below af) (hs.below af);have IJ:ops.length<=9223372036854775807:=by obtain⟨_,_,_,h,_⟩:=ho;exact h
 obtain⟨q0,q1,q2,q3,q4,q5,q6,q7,q8⟩:=jL r0
 go_enter func4,ntmps4
 go_wp2_with fail
 refine c1.mono ?_;rintro e w1 ⟨l,rfl,kw,ia,zxv,ag⟩;have fu:=aq af af.size ag;clear q0 q1 q2 q3 q4 q5 q6 q7 q8 ai c1
 by_cases hl:l<0
 ·go_wp2;go_ret;exact⟨rfl,fu⟩
 obtain⟨hsm,pw,hcr⟩:=zxv (by omega);have c2:=zsl _ ops l w1 (ho.below fu) (by omega) (by omega) kz;have r1:=ck r0 ag;clear zxv
 go_wp2_with fail
 refine c2.mono ?_;rintro e w2 ⟨l2,rfl,eZ,zxw,ae⟩;have dg:=aq fu fu.size ae;have r2:=ck r1 ae;clear c2 r0 r1
 by_cases ky:l2<0
 ·go_wp2;go_ret;exact⟨rfl,dg⟩
 obtain⟨rU,zxp⟩:=zxw (by omega);have HD:Hid (∀W,za w2.heap.size w2 W->W.heap[w.heap.size]?=ze (zj #[.slice ao rs.length rc,cv,zb .i64 d.width,bv,fv,tv,ev,nv,kv] 27 (0,0))/\za w.heap.size w W):=λW hb=>⟨ck r2 hb,aq dg dg.size hb⟩
 have Oi:Hid (∀W,za w2.heap.size w2 W->zk prog 8 #[zi #[.slice ao rs.length rc,cv,zb .i64 d.width,bv,fv,tv,ev,nv,kv]] W λe w'=>∃jD xX uA qD mL vi uC qT uY,e=.returned (zi #[.slice jD rs.length xX,uA,zb .i64 d.width,qD,mL,vi,uC,qT,uY])/\rF W.heap.size w' (.slice jD rs.length xX) uA qD mL vi uC qT uY rs d/\za W.heap.size W w'):=λW hb=>zkA ao rc cv bv fv tv ev nv kv rs d W (hr.below (HD.out W hb).2) hsm (hs.below (HD.out W hb).2) pw
 have Om:Hid (∀W,za w2.heap.size w2 W->zk prog 19 #[.slice zJ ops.length oc] W λe w'=>∃g,e=.returned (zh (ze ⟨g,0,zf⟩) ops.length ops.length)/\W.heap.size<=g/\(∃xs,w'.ownsRow W.heap.size 92 2 (zh (ze ⟨g,0,zf⟩) ops.length ops.length) ops.length xs)/\jN W.heap.size w' (zh (ze ⟨g,0,zf⟩) ops.length ops.length) ops/\za W.heap.size W w'):=λW hb=>zsn _ ops W (ho.below (HD.out W hb).2) rU
 have NU:Hid (∀W,za w2.heap.size w2 W->fS W):=λW hb=>zd.keep ((HD.out W hb).2.block 0 gz)
 have Sv:=ay zxp;clear hr hs zd r2 ho kz zxp zxw;obtain⟨q0,q1,q2,q3,q4,q5,q6,q7,q8⟩:=jL (HD.out w2 (Below.refl _ _)).1
 go_wp2_with fail
 refine(Oi.out w2 (Below.refl _ _)).mono ?_;rintro e wa ⟨uq,rc0,cv0,bv0,fv0,tv0,ev0,nv0,kv0,rfl,hMa,bQ⟩;clear q0 q1 q2 q3 q4 q5 q6 q7 q8
 go_wp2_with fail
 refine(Om.out wa bQ).mono ?_;rintro e wb ⟨gb,rfl,Uu,-,uR,cN⟩;have KE:za w2.heap.size w2 wb:=aq bQ bQ.size cN;have csp:=ztj (vF.below ⟨uq,rc0,cv0,bv0,fv0,tv0,ev0,nv0,kv0,rfl,hMa⟩ cN) hsm L uR Sv.out;clear hMa uR Uu
 go_wp2_with fail
 refine csp.mono ?_;rintro e w3 ⟨ys,g1,c1,rfl,hQ,KY,qE⟩;have aG:za w2.heap.size w2 w3:=aq KE KE.size qE;obtain⟨Fw,iu⟩:=Cv.len hQ;have H3:Hid (∀W,za w3.heap.size w3 W->eM wb.heap.size g1 c1 ys W):=λW hb=>KY.below hb
 have Hys:=ay iu;have HQ:=ay hQ;clear csp bQ cN KE qE KY hQ iu;obtain⟨q0,q1,q2,q3,q4,q5,q6,q7,q8⟩:=jL (HD.out w3 aG).1
 go_wp2_with fail
 refine(Oi.out w3 aG).mono ?_;rintro e w4 ⟨vM,I8,cv1,bv1,fv1,tv1,ev1,nv1,kv1,rfl,xy,bE⟩;clear q0 q1 q2 q3 q4 q5 q6 q7 q8;obtain⟨ca,cc,rfl⟩:=F9 xy.jK.jK.cG;obtain⟨ba,bc,rfl⟩:=F9 xy.jK.jK.base;obtain⟨fa,fc,rfl⟩:=F9 xy.jK.jK.cA;obtain⟨ta,tc,rfl⟩:=F9 xy.jK.jK.tag;obtain⟨ea,ec,rfl⟩:=F9 xy.jK.jK.fin;obtain⟨na,nc,rfl⟩:=F9 xy.jK.jK.next;obtain⟨ka,kc,rfl⟩:=F9 xy.jK.jK.bH
 go_upto_region 10 with fail
 obtain⟨w5,Mo⟩:∃w5,w4.alloc (zj #[.slice vM rs.length I8,.slice ca d.cG.length cc,zb .i64 d.width,.slice ba d.base.length bc,.slice fa d.cA.length fc,.slice ta d.tag.length tc,.slice ea d.fin.length ec,.slice na d.next.length nc,.slice ka d.bH.length kc] 41)=w5:=⟨_,rfl⟩;have bD:za w4.heap.size w4 w5:=by rw[<-Mo];exact aw
 have r5:w5.heap[w4.heap.size]?=ze (zj #[.slice vM rs.length I8,.slice ca d.cG.length cc,zb .i64 d.width,.slice ba d.base.length bc,.slice fa d.cA.length fc,.slice ta d.tag.length tc,.slice ea d.fin.length ec,.slice na d.next.length nc,.slice ka d.bH.length kc] 41 (0,0)):=by rw[<-Mo];exact aI _ _
 rw[Mo];have AM:za w3.heap.size w3 w5:=aq bE bE.size bD;have AL:za w2.heap.size w2 w5:=aq aG aG.size AM;have N2:=ay (λW (hb:za w5.heap.size w5 W)=>(xy.below bD).below hb);have H5:Hid (∀W,za w5.heap.size w5 W->W.heap[w4.heap.size]?=ze (zj #[.slice vM rs.length I8,.slice ca d.cG.length cc,zb .i64 d.width,.slice ba d.base.length bc,.slice fa d.cA.length fc,.slice ta d.tag.length tc,.slice ea d.fin.length ec,.slice na d.next.length nc,.slice ka d.bH.length kc] 41 (0,0))):=λW hb=>ck r5 hb
 have N8:=ay (λW (hb:za w4.heap.size w4 W)=>And.intro (xy.Wl.keep (W:=W) (aj _) (aj _) λb _ _ hl e=>(hb.block b hl).trans e) (xy.jK.w.keep (W:=W) λb _ _ hl e=>(hb.block b hl).trans e));clear xy r5 Mo
 go_wp2_with fail
 refine(Om.out w5 AL).mono ?_;rintro e w6 ⟨go,rfl,hgo,⟨xs6,VE⟩,U3,ew⟩;have zBl:go<w6.heap.size:=(ah.1 (dy VE (by simp[Value.ownBlock])).2.choose_spec).1;have EA:=ew;have b26:za w2.heap.size w2 w6:=aq AL AL.size ew;have Ta:za w3.heap.size w3 w6:=aq AM AM.size ew;have H6:Hid (∀W,za w6.heap.size w6 W->W.ownsRow w5.heap.size 92 2 (zh (ze ⟨go,0,zf⟩) ops.length ops.length) ops.length xs6/\jN w5.heap.size W (zh (ze ⟨go,0,zf⟩) ops.length ops.length) ops):=λW hb=>⟨dQ VE hb,U3.below hb⟩
 have KL:=zpG (vF.below ⟨_,_,_,_,_,_,_,_,_,rfl,N2.out w5 (Below.refl _ _)⟩ ew) hsm pw (NU.out w6 b26) L U3 Sv.out;obtain⟨q0,q1,q2,q3,q4,q5,q6,q7,q8⟩:=jL (H5.out w6 ew);clear VE U3
 go_wp2_with fail
 refine KL.mono ?_;rintro e w7 ⟨zs,g2,c2,rfl,TQ,CP,o8⟩;have zwH:zs.map Prod.fst=ys.map Prod.fst:=zp6 TQ HQ.out;obtain⟨uX,tQ⟩:=Cv.len TQ;have Kt:=ay tQ;have ZG:=ay zwH;have H7:Hid (∀W,za w7.heap.size w7 W->eM w6.heap.size g2 c2 zs W):=λW hb=>CP.below hb
 have b37:za w3.heap.size w3 w7:=aq Ta Ta.size o8;clear KL q0 q1 q2 q3 q4 q5 q6 q7 q8 CP TQ zwH tQ
 go_wp2_with fail
 refine(WQ w7 (H7.out w7 (Below.refl _ _)) (H3.out w7 b37) ZG.out uX Kt.out).mono ?_;rintro e w8 ⟨rfl,eY⟩;have OJ:za w6.heap.size w6 w8:=aq o8 o8.size eY;have G8:za w5.heap.size w5 w8:=aq EA EA.size OJ;have b38:za w3.heap.size w3 w8:=aq AM AM.size G8;have b28:za w2.heap.size w2 w8:=aq AL AL.size G8;have kk:=λs':dB w8=>jL (H5.out s'.W (aq G8 G8.size s'.h))
 have jj:=λs':dB w8=>jL (HD.out s'.W (aq b28 b28.size s'.h)).1
 have y0:=λs'=>(kk s').1
 have z0:=λs'=>(jj s').1
 have y1:=λs'=>(kk s').2.1
 have z1:=λs'=>(jj s').2.1
 have y2:=λs'=>(kk s').2.2.1
 have z2:=λs'=>(jj s').2.2.1
 have y3:=λs'=>(kk s').2.2.2.1
 have z3:=λs'=>(jj s').2.2.2.1
 have y4:=λs'=>(kk s').2.2.2.2.1
 have z4:=λs'=>(jj s').2.2.2.2.1
 have y5:=λs'=>(kk s').2.2.2.2.2.1
 have z5:=λs'=>(jj s').2.2.2.2.2.1
 have y6:=λs'=>(kk s').2.2.2.2.2.2.1
 have z6:=λs'=>(jj s').2.2.2.2.2.2.1
 have y7:=λs'=>(kk s').2.2.2.2.2.2.2.1
 have z7:=λs'=>(jj s').2.2.2.2.2.2.2.1
 have y8:=λs'=>(kk s').2.2.2.2.2.2.2.2
 have z8:=λs'=>(jj s').2.2.2.2.2.2.2.2
 clear kk jj
 go_upto_region 14 with fail
 refine MZ [0,1] [2,3,4] 3 (λw'=>∃s:dB w8,w'=s.W) fP ⟨⟨w8.drew,(Below.refl _ _).drew⟩,rfl⟩ (by kernel_rfl) ?_;intro os bW;simp only[jQ,jR,jT,jS]at bW;subst bW
 change wpQuiet _ _ _ _ [_,_] _
 repeat (go_big_quiet_step (fail))
 refine wpQuiet_nil ?_;rintro w' ⟨⟨Wb,eX⟩,hw'⟩ r' bV;replace hw':w'=Wb:=hw';subst w';simp only[jQ,jR,jT,jS,D7]at bV;subst bV;clear y0 z0 y1 z1 y2 z2 y3 z3 y4 z4 y5 z5 y6 z6 y7 z7 y8 z8;have Tc:za w5.heap.size w5 Wb:=aq G8 G8.size eX;have KE:za w2.heap.size w2 Wb:=aq AL AL.size Tc;refine qj rfl (λK5 fX=>?_);refine DL 8 #[.tmp 45] #[27] (by rfl) #[zi #[.slice ao rs.length rc,cv,zb .i64 d.width,bv,fv,tv,ev,nv,kv]] (by simp[Act.eval]) (λv w'=>vF Wb.heap.size rs d v w'/\za Wb.heap.size Wb w') (zhp _ _) ((Oi.out Wb KE).mono λe w' h=>vF.of h (aj _)) ?_;rintro v9 W9 ⟨⟨ao9,rc9,cv9,bv9,fv9,tv9,ev9,nv9,kv9,rfl,TK⟩,nT⟩;refine fX _ _ (λ_=>⟨⟨W9,aq eX eX.size nT⟩,rfl⟩) ?_;clear fX K5;have b59:za w5.heap.size w5 W9:=aq Tc Tc.size nT;have TJ:=N2.out W9 b59;refine qj rfl (λK6 xu=>?_);refine DL 13 #[.tmp 44,.tmp 46] #[41,41] (by rfl) #[zi #[.slice vM rs.length I8,.slice ca d.cG.length cc,zb .i64 d.width,.slice ba d.base.length bc,.slice fa d.cA.length fc,.slice ta d.tag.length tc,.slice ea d.fin.length ec,.slice na d.next.length nc,.slice ka d.bH.length kc],zi #[.slice ao9 rs.length rc9,cv9,zb .i64 d.width,bv9,fv9,tv9,ev9,nv9,kv9]] (by simp[Act.eval,Act.put]) (λv w'=>v=.bool true/\za W9.heap.size W9 w') (zho _ _) ((zjC vM ao9 I8 rc9 _ _ _ _ _ _ _ cv9 bv9 fv9 tv9 ev9 nv9 kv9 rs d W9 TJ.I9 TJ.jK.jK TK.I9 TK.jK.jK).mono (by
  rintro e w1 ⟨rfl,h1⟩;exact⟨_,rfl,rfl,h1⟩)) ?_
 rintro v10 Es ⟨rfl,Pg⟩;refine xu _ _ (λh=>by simp at h) ?_;clear xu K6;refine Ji _ _ _ (by simp) (λ_ _ h=>h) ?_
 change wpList _ _ _ [_] _ _
 have KF:za w6.heap.size w6 Es:=aq (aq OJ OJ.size eX) (aW OJ.size eX.size) (aq nT nT.size Pg);have zyI:za w5.heap.size w5 Es:=aq EA EA.size KF;have zyD:za w2.heap.size w2 Es:=aq AL AL.size zyI;have zv1:za w7.heap.size w7 Es:=aq (aq eY eY.size eX) (aW eY.size eX.size) (aq nT nT.size Pg);clear TJ TK;go_wp2;rw[vl]
 go_wp2_with fail
 refine(Om.out Es zyD).mono ?_;rintro e tj ⟨g11,rfl,-,-,zxj,T9⟩;have zyJ:za w6.heap.size w6 tj:=aq KF KF.size T9
 go_wp2_with fail
 refine(zqW _ _ ops tj (H6.out tj zyJ).2 zxj).mono ?_;rintro e tn ⟨rfl,zzq⟩;have zvY:za Es.heap.size Es tn:=aq T9 T9.size zzq;have OI:za w6.heap.size w6 tn:=aq KF KF.size zvY;have zv0:za w5.heap.size w5 tn:=aq EA EA.size OI;have Tb:za w4.heap.size w4 tn:=aq bD bD.size zv0;have zyF:za w3.heap.size w3 tn:=aq bE bE.size Tb;have zyK:za w7.heap.size w7 tn:=aq zv1 zv1.size zvY;clear zxj;obtain⟨q0,q1,q2,q3,q4,q5,q6,q7,q8⟩:=jL (H5.out tn zv0);obtain⟨mh,gA⟩:=N8.out tn Tb;have xJ:=zhv vM I8 _ _ _ _ _ _ _ rs d w4.heap.size tn mh gA Tb.size pw hcr;clear mh gA
 go_wp2_with fail
 refine xJ.mono ?_;rintro e OD ⟨r,rfl,dx,Vu⟩;have s45:=bD.size;have s56:=EA.size;have s67:=o8.size;have zBP:=OI.size;have zyG:za w3.heap.size w3 OD:=Vu.under zyF (λk hk h=>by omega);have VP:∀k,w5.heap.size<=k->k<tn.heap.size->OD.heap[k]?=tn.heap[k]?:=λk h1 h2=>Vu.same k h2 (λh=>by omega)
 have o13:=gR (H6.out tn OI).1 (w':=OD) (λk e=>by
  obtain⟨z1,ax,z2⟩:=dy (H6.out tn OI).1 e;exact VP k z1 (ah.1 z2).1)
 have IJ:=znx r OD o13 (by omega) rU;clear xJ q0 q1 q2 q3 q4 q5 q6 q7 q8
 go_wp2_with fail
 refine IJ.mono ?_;rintro e OE ⟨rfl,zxB⟩;have s35:=AM.size;have S7:za w3.heap.size w3 OE:=zxB.under zyG (λk hk h=>by have h:k=go:=h;omega);have YX:eM w6.heap.size g2 c2 zs OE:=(H7.out tn zyK).keep λk h1 h2=>(zxB.same k (by have:=Vu.size;omega) (by show ¬k=go;omega)).trans (VP k (by omega) h2)
 have Y4:=ay YX;obtain⟨r2,gI⟩:∃r2:Int,r+2*(ops.length:Int)=r2:=⟨_,rfl⟩;have kC:decide (r2<0)=false:=decide_eq_false (by omega);rw[gI];clear IJ o13 VP YX gI
 go_wp2_with fail
 refine(WQ OE Y4.out (H3.out OE S7) ZG.out uX Kt.out).mono ?_;rintro e W15 ⟨rfl,Bc⟩;have zyH:za w3.heap.size w3 W15:=aq S7 S7.size Bc;have RB:=Y4.out.below Bc;have tG:=zht 1 W15 RB (by omega) uX Kt.out
 go_wp2_with fail
 refine tG.mono ?_;rintro e Kz ⟨rfl,zwj,zxC⟩;have s36:=Ta.size;have OH:za w3.heap.size w3 Kz:=zxC.under zyH (λk hk h=>by have:=RB.KH h;omega);have vZ:=zhr 1 Kz zwj (by omega) uX Kt.out;have gH:=Rv Kt.out 1 zs.length (aj _);obtain⟨K,hK⟩:∃K:Int,kA zs 1 zs.length=K:=⟨_,rfl⟩;have cC:decide (K<0)=false:=decide_eq_false (by omega);have jY:(K != K)=false:=by simp
 rw[hK]at vZ ⊢;have OG:za w2.heap.size w2 Kz:=aq aG aG.size OH;clear tG zwj zxC RB gH hK
 go_wp2_with fail
 refine vZ.mono ?_;rintro e W17 ⟨rfl,zA2⟩;subst W17;clear vZ;obtain⟨q0,q1,q2,q3,q4,q5,q6,q7,q8⟩:=jL (HD.out Kz OG).1
 go_wp2_with fail
 refine(Oi.out Kz OG).mono ?_;rintro e W18 ⟨ao8,rc8,cv8,bv8,fv8,tv8,ev8,nv8,kv8,rfl,hM8,Ua⟩;clear q0 q1 q2 q3 q4 q5 q6 q7 q8;have S6:za w2.heap.size w2 W18:=aq OG OG.size Ua
 go_wp2_with fail
 refine(Om.out W18 S6).mono ?_;rintro e SU ⟨g19,rfl,-,-,zxk,Ub⟩;have zyE:za w2.heap.size w2 SU:=aq S6 S6.size Ub;have zvZ:za w3.heap.size w3 SU:=aq (aq OH OH.size Ua) (aW OH.size Ua.size) Ub;have KL:=zpG (vF.below ⟨_,_,_,_,_,_,_,_,_,rfl,hM8⟩ Ub) hsm pw (NU.out SU zyE) L zxk Sv.out;clear hM8 zxk
 go_wp2_with fail
 refine KL.mono ?_;rintro e SV ⟨us,g3,c3,rfl,TR,zwk,zzr⟩;have zwI:us.map Prod.fst=ys.map Prod.fst:=zp6 TR HQ.out;obtain⟨tN,hus⟩:=Cv.len TR;have S8:za w3.heap.size w3 SV:=aq zvZ zvZ.size zzr;have ceq:=WQ SV zwk (H3.out SV S8) zwI tN hus;clear KL TR zwk zwI hus
 go_wp2_with fail
 refine ceq.mono ?_;rintro e W21 ⟨rfl,zzs⟩;have HB:=ay (HD.out W21 (aq aG aG.size (aq S8 S8.size zzs))).2;clear ceq;go_wp2;go_ret;exact⟨rfl,HB.out⟩
end
section
open Go.RowKit Go.ChangeShapes Go.WideShapes Go.ChangeAt
theorem Tryz.HJ:prog.cellsOf 3=1:=by kernel_rfl
theorem Tryz.zy2:prog.cellsOf 4=1:=by kernel_rfl
theorem Tryz.zwd:prog.cellsOf 325=2:=by kernel_rfl
theorem Tryz.zy8:prog.cellsOf 250=1:=by kernel_rfl
theorem Tryz.zwb:prog.cellsOf 252=5:=by kernel_rfl
theorem Tryz.zy7:prog.cellsOf 170=1:=by kernel_rfl
theorem Tryz.zwa:prog.cellsOf 172=3:=by kernel_rfl
theorem Tryz.zy3:prog.cellsOf 105=1:=by kernel_rfl
theorem Tryz.zwe:prog.cellsOf 107=2:=by kernel_rfl
section
variable {H:Type} {enc:zl×zc->H} {W:zg} {spare:Nat->Bool} {held:Bool}
theorem zn0{fuel:Nat}{cs:List zc}{x:DataW H×List MemPlace}(h:DataW.trod enc prog W 0 spare held fuel 325 cs=ze x):∃lo hi:Int,cs=[zb .i64 lo,zb .i64 hi]:=by
 obtain⟨y0,y1,n,_,hl,h0,h1⟩:=trod_struct2 underlying325 h;rw[Tryz.zwd]at hl
 match cs,hl with
 |[c0,c1],_=>
  simp[Tryz.HJ]at h0 h1;obtain⟨a,e0,_,_⟩:=DataW.trod_int underlying3 h0;obtain⟨b,e1,_,_⟩:=DataW.trod_int underlying3 h1;simp only[List.cons.injEq,and_true]at e0 e1;exact⟨a,b,by rw[e0,e1]⟩
theorem zlF{fuel:Nat}{c:zc}{x:DataW H×List MemPlace}(h:DataW.trod enc prog W 0 spare held fuel 250 [c]=ze x):∃rs,dR 0 W c rs:=by
 rcases Go.Deep.open_slice underlying250 h with ⟨hc,_⟩|⟨a,len,cap,m,n,D,Pl,hc,_,xI,qH,kx,_,hx⟩
 ·simp only[List.cons.injEq,and_true]at hc;exact⟨[],zf,0,hc,by simp,λh0=>absurd h0 (cR _)⟩
 ·simp only[List.cons.injEq,and_true]at hc;have LR:len<=m:=by rw[kx];split<;>omega
  rw[Tryz.zwd]at hx;rcases Ea len with h0|h0
  ·subst h0;exact⟨[],ze a,cap,hc,by simp,λh0=>absurd h0 (cR _)⟩
  ·obtain⟨b,o,C,rfl,hb,hC⟩:=Ju (W:=W) (a:=a) (len:=len) (sz:=2) (E:=λcs=>∃r:Int×Int,cs=[zb .i64 r.1,zb .i64 r.2]) (by omega) (λi hi=>by
    obtain⟨fN,h1,h2⟩:=hx i (by omega);obtain⟨lo,dY,he⟩:=zn0 h2;exact⟨fN,h1,(lo,dY),he⟩) h0
   obtain⟨F,hF⟩:=Go.Deep.choose_lt (α:=Int×Int) (p:=λi r=>C i=[zb .i64 r.1,zb .i64 r.2]) (λi hi=>(hC i hi).1);refine⟨(List.range len).map F,ze ⟨b,o,zf⟩,cap,by rw[hc];simp,by simp;exact Ga (aW xI qH),λ_=>⟨b,o,rfl,aR _,hb,λi hi=>?_⟩⟩;have dY:i<len:=by simpa using hi
   rw[FM F (0,0) len i dY];have q0:=(hC i dY).2 0 (by omega);have q1:=(hC i dY).2 1 (by omega);rw[hF i dY]at q0 q1;exact⟨by simpa using q0,by simpa using q1⟩
theorem zp0{fuel:Nat}{cs:List zc}{x:DataW H×List MemPlace}(h:DataW.trod enc prog W 0 spare held fuel 252 cs=ze x):∃(nd:aL) (sv:zc),cs=[zb .i64 nd.kind,sv,zb .i64 nd.min,zb .i64 nd.max,zb .i64 nd.group]/\dR 0 W sv nd.set:=by
 obtain⟨xs,n,_,_,hl,hlen,hf⟩:=DataW.trod_struct underlying252 h;rw[Tryz.zwb]at hl;obtain⟨y0,y1,y2,y3,y4,rfl⟩:=ztV (show xs.length=5 from hlen);obtain⟨c0,c1,c2,c3,c4,rfl⟩:=ztV hl
 ·· have f0:=hf 0 _ rfl;have f1:=hf 1 _ rfl;have f2:=hf 2 _ rfl;have f3:=hf 3 _ rfl;have f4:=hf 4 _ rfl;simp[Tryz.HJ,Tryz.zy8]at f0 f1 f2 f3 f4;obtain⟨k,e0,_,_⟩:=DataW.trod_int underlying3 f0;obtain⟨rs,Fk⟩:=zlF f1;obtain⟨mn,e2,_,_⟩:=DataW.trod_int underlying3 f2;obtain⟨mx,e3,_,_⟩:=DataW.trod_int underlying3 f3;obtain⟨g,e4,_,_⟩:=DataW.trod_int underlying3 f4;simp only[List.cons.injEq,and_true]at e0 e2 e3 e4;exact⟨⟨k,rs,mn,mx,g⟩,c1,by rw[e0,e2,e3,e4],Fk⟩
theorem znZ{fuel:Nat}{c:zc}{x:DataW H×List MemPlace}(h:DataW.trod enc prog W 0 spare held fuel 170 [c]=ze x):∃ns,dZ 0 W c ns:=by
 rcases Go.Deep.open_slice underlying170 h with ⟨hc,_⟩|⟨a,len,cap,m,n,D,Pl,hc,_,xI,qH,kx,_,hx⟩
 ·simp only[List.cons.injEq,and_true]at hc;exact⟨[],zf,0,hc,by simp,λh0=>absurd h0 (cR _)⟩
 ·simp only[List.cons.injEq,and_true]at hc;have LR:len<=m:=by rw[kx];split<;>omega
  rw[Tryz.zwb]at hx;rcases Ea len with h0|h0
  ·subst h0;exact⟨[],ze a,cap,hc,by simp,λh0=>absurd h0 (cR _)⟩
  ·obtain⟨b,o,C,rfl,hb,hC⟩:=Ju (W:=W) (a:=a) (len:=len) (sz:=5) (E:=λcs=>∃q:aL×zc,cs=[zb .i64 q.1.kind,q.2,zb .i64 q.1.min,zb .i64 q.1.max,zb .i64 q.1.group]/\dR 0 W q.2 q.1.set) (by omega) (λi hi=>by
    obtain⟨fN,h1,h2⟩:=hx i (by omega);obtain⟨nd,sv,he,hr⟩:=zp0 h2;exact⟨fN,h1,(nd,sv),he,hr⟩) h0
   obtain⟨F,hF⟩:=@Go.Deep.choose_lt (aL×zc) ⟨(.zero,.nilIface)⟩ len (λi q=>C i=[zb .i64 q.1.kind,q.2,zb .i64 q.1.min,zb .i64 q.1.max,zb .i64 q.1.group]/\dR 0 W q.2 q.1.set) (λi hi=>(hC i hi).1);refine⟨(List.range len).map λi=>(F i).1,ze ⟨b,o,zf⟩,cap,by rw[hc];simp,by simp;exact Ga (aW xI qH),λ_=>⟨b,o,rfl,aR _,hb,λi hi=>?_⟩⟩;have dY:i<len:=by simpa using hi
   rw[FM (λi=>(F i).1) .zero len i dY];have q0:=(hC i dY).2 0 (by omega);have q1:=(hC i dY).2 1 (by omega);have q2:=(hC i dY).2 2 (by omega);have q3:=(hC i dY).2 3 (by omega);have q4:=(hC i dY).2 4 (by omega);rw[(hF i dY).1]at q0 q1 q2 q3 q4;exact⟨by simpa using q0,⟨(F i).2,by simpa using q1,(hF i dY).2⟩,by simpa using q2,by simpa using q3,by simpa using q4⟩
theorem zlE{fuel:Nat}{cs:List zc}{x:DataW H×List MemPlace}(h:DataW.trod enc prog W 0 spare held fuel 172 cs=ze x):∃(bd:aV) (nv:zc),cs=[.bool bd.aX,.bool bd.bm,nv]/\dZ 0 W nv bd.nodes:=by
 obtain⟨xs,n,_,_,hl,hlen,hf⟩:=DataW.trod_struct underlying172 h;rw[Tryz.zwa]at hl;obtain⟨y0,y1,y2,rfl⟩:=ztU (show xs.length=3 from hlen);obtain⟨c0,c1,c2,rfl⟩:=ztU hl
 ·· have f0:=hf 0 _ rfl;have f1:=hf 1 _ rfl;have f2:=hf 2 _ rfl;simp[Tryz.zy2,Tryz.zy7]at f0 f1 f2;obtain⟨k,e0,_⟩:=DataW.trod_bool underlying4 f0;obtain⟨k2,e1,_⟩:=DataW.trod_bool underlying4 f1;obtain⟨ns,PN⟩:=znZ f2;simp only[List.cons.injEq,and_true]at e0 e1;exact⟨⟨k,k2,ns⟩,c2,by rw[e0,e1],PN⟩
theorem ziW{fuel:Nat}{c:zc}{x:DataW H×List MemPlace}(h:DataW.trod enc prog W 0 spare held fuel 105 [c]=ze x):∃bs,eh 0 W c bs:=by
 rcases Go.Deep.open_slice underlying105 h with ⟨hc,_⟩|⟨a,len,cap,m,n,D,Pl,hc,_,xI,qH,kx,_,hx⟩
 ·simp only[List.cons.injEq,and_true]at hc;exact⟨[],zf,0,hc,by simp,λh0=>absurd h0 (cR _)⟩
 ·simp only[List.cons.injEq,and_true]at hc;have LR:len<=m:=by rw[kx];split<;>omega
  rw[Tryz.zwa]at hx;rcases Ea len with h0|h0
  ·subst h0;exact⟨[],ze a,cap,hc,by simp,λh0=>absurd h0 (cR _)⟩
  ·obtain⟨b,o,C,rfl,hb,hC⟩:=Ju (W:=W) (a:=a) (len:=len) (sz:=3) (E:=λcs=>∃q:aV×zc,cs=[.bool q.1.aX,.bool q.1.bm,q.2]/\dZ 0 W q.2 q.1.nodes) (by omega) (λi hi=>by
    obtain⟨fN,h1,h2⟩:=hx i (by omega);obtain⟨nd,sv,he,hr⟩:=zlE h2;exact⟨fN,h1,(nd,sv),he,hr⟩) h0
   obtain⟨F,hF⟩:=@Go.Deep.choose_lt (aV×zc) ⟨(.zero,.nilIface)⟩ len (λi q=>C i=[.bool q.1.aX,.bool q.1.bm,q.2]/\dZ 0 W q.2 q.1.nodes) (λi hi=>(hC i hi).1);refine⟨(List.range len).map λi=>(F i).1,ze ⟨b,o,zf⟩,cap,by rw[hc];simp,by simp;exact Ga (aW xI qH),λ_=>⟨b,o,rfl,aR _,hb,λi hi=>?_⟩⟩;have dY:i<len:=by simpa using hi
   rw[FM (λi=>(F i).1) .zero len i dY];have q0:=(hC i dY).2 0 (by omega);have q1:=(hC i dY).2 1 (by omega);have q2:=(hC i dY).2 2 (by omega);rw[(hF i dY).1]at q0 q1 q2;exact⟨by simpa using q0,by simpa using q1,⟨(F i).2,by simpa using q2,(hF i dY).2⟩⟩
end
end
section
open Go.RowKit Go.ChangeShapes Go.WideShapes Go.ChangeAt
theorem Tryz.zy5:prog.cellsOf 23=1:=by kernel_rfl
theorem Tryz.zy9:prog.cellsOf 22=1:=by kernel_rfl
theorem Tryz.zza:prog.cellsOf 9=1:=by kernel_rfl
theorem Tryz.zzc:prog.cellsOf 25=8:=by kernel_rfl
theorem Tryz.zy6:prog.cellsOf 27=9:=by kernel_rfl
theorem zsR{α:Type}{cs:Array α}(h:cs.size=9):∃c0 c1 c2 c3 c4 c5 c6 c7 c8,cs=#[c0,c1,c2,c3,c4,c5,c6,c7,c8]:=by
 obtain⟨l⟩:=cs
 match l,h with
 |[c0,c1,c2,c3,c4,c5,c6,c7,c8],_=>exact⟨c0,c1,c2,c3,c4,c5,c6,c7,c8,rfl⟩
theorem ztW{α:Type}{l:List α}(h:l.length=8):∃c0 c1 c2 c3 c4 c5 c6 c7,l=[c0,c1,c2,c3,c4,c5,c6,c7]:=by
 match l,h with
 |[c0,c1,c2,c3,c4,c5,c6,c7],_=>exact⟨c0,c1,c2,c3,c4,c5,c6,c7,rfl⟩
section
variable {H:Type} {enc:zl×zc->H} {W:zg} {spare:Nat->Bool} {held:Bool}
theorem FR{fuel:Nat}{c:zc}{x:DataW H×List MemPlace}(h:DataW.trod enc prog W 0 spare held fuel 23 [c]=ze x):∃xs,iO 0 W c xs:=by
 rcases Go.Deep.open_slice underlying23 h with ⟨hc,_⟩|⟨a,len,cap,m,n,D,Pl,hc,_,xI,qH,kx,_,hx⟩
 ·simp only[List.cons.injEq,and_true]at hc;exact⟨[],zf,0,hc,by simp,λh0=>absurd h0 (cR _)⟩
 ·simp only[List.cons.injEq,and_true]at hc;have LR:len<=m:=by rw[kx];split<;>omega
  rw[Tryz.HJ]at hx;rcases Ea len with h0|h0
  ·subst h0;exact⟨[],ze a,cap,hc,by simp,λh0=>absurd h0 (cR _)⟩
  ·obtain⟨b,o,C,rfl,hb,hC⟩:=Ju (W:=W) (a:=a) (len:=len) (sz:=1) (E:=λcs=>∃r:Int,cs=[zb .i64 r]) (by omega) (λi hi=>by
    obtain⟨fN,h1,h2⟩:=hx i (by omega);obtain⟨k,he,_,_⟩:=DataW.trod_int underlying3 h2;exact⟨fN,h1,k,he⟩) h0
   obtain⟨F,hF⟩:=Go.Deep.choose_lt (α:=Int) (p:=λi r=>C i=[zb .i64 r]) (λi hi=>(hC i hi).1);refine⟨(List.range len).map F,ze ⟨b,o,zf⟩,cap,by rw[hc];simp,by simp;exact Ga (aW xI qH),λ_=>⟨b,o,rfl,aR _,hb,λi hi=>?_⟩⟩;have dY:i<len:=by simpa using hi
   rw[FM F 0 len i dY];have q0:=(hC i dY).2 0 (by omega);rw[hF i dY]at q0
   simpa using q0
theorem zp1{fuel:Nat}{cs:List zc}{x:DataW H×List MemPlace}(h:DataW.trod enc prog W 0 spare held fuel 107 cs=ze x):∃(rd:bi) (bv:zc),cs=[bv,zb .i64 rd.di]/\eh 0 W bv rd.branches:=by
 obtain⟨y0,y1,n,_,hl,h0,h1⟩:=trod_struct2 underlying107 h;rw[Tryz.zwe]at hl
 match cs,hl with
 |[c0,c1],_=>
  simp[Tryz.HJ,Tryz.zy3]at h0 h1;obtain⟨bs,iU⟩:=ziW h0;obtain⟨g,e1,_,_⟩:=DataW.trod_int underlying3 h1;simp only[List.cons.injEq,and_true]at e1;exact⟨⟨bs,g⟩,c0,by rw[e1],iU⟩
theorem zn1{fuel:Nat}{c:zc}{x:DataW H×List MemPlace}(h:DataW.trod enc prog W 0 spare held fuel 22 [c]=ze x):∃rs,fU 0 W c rs:=by
 rcases Go.Deep.open_slice underlying22 h with ⟨hc,_⟩|⟨a,len,cap,m,n,D,Pl,hc,_,xI,qH,kx,_,hx⟩
 ·simp only[List.cons.injEq,and_true]at hc;exact⟨[],zf,0,hc,by simp,λh0=>absurd h0 (cR _)⟩
 ·simp only[List.cons.injEq,and_true]at hc;have LR:len<=m:=by rw[kx];split<;>omega
  rw[Tryz.zwe]at hx;rcases Ea len with h0|h0
  ·subst h0;exact⟨[],ze a,cap,hc,by simp,λh0=>absurd h0 (cR _)⟩
  ·obtain⟨b,o,C,rfl,hb,hC⟩:=Ju (W:=W) (a:=a) (len:=len) (sz:=2) (E:=λcs=>∃q:bi×zc,cs=[q.2,zb .i64 q.1.di]/\eh 0 W q.2 q.1.branches) (by omega) (λi hi=>by
    obtain⟨fN,h1,h2⟩:=hx i (by omega);obtain⟨nd,sv,he,hr⟩:=zp1 h2;exact⟨fN,h1,(nd,sv),he,hr⟩) h0
   obtain⟨F,hF⟩:=@Go.Deep.choose_lt (bi×zc) ⟨(.zero,.nilIface)⟩ len (λi q=>C i=[q.2,zb .i64 q.1.di]/\eh 0 W q.2 q.1.branches) (λi hi=>(hC i hi).1);refine⟨(List.range len).map λi=>(F i).1,ze ⟨b,o,zf⟩,cap,by rw[hc];simp,by simp;exact Ga (aW xI qH),λ_=>⟨b,o,rfl,aR _,hb,λi hi=>?_⟩⟩;have dY:i<len:=by simpa using hi
   rw[FM (λi=>(F i).1) .zero len i dY];have q0:=(hC i dY).2 0 (by omega);have q1:=(hC i dY).2 1 (by omega);rw[(hF i dY).1]at q0 q1;exact⟨⟨(F i).2,by simpa using q0,(hF i dY).2⟩,by simpa using q1⟩
theorem zr3{fuel:Nat}{c1 c2 c3 c4 c5 c6 c7 c8:zc}{x:DataW H×List MemPlace}(h:DataW.trod enc prog W 0 spare held fuel 25 [c1,c2,c3,c4,c5,c6,c7,c8]=ze x):∃D:bj,c2=zb .i64 D.width/\fV 0 W c1 c3 c4 c5 c6 c7 c8 D:=by
 obtain⟨xs,n,_,_,_,hlen,hf⟩:=DataW.trod_struct underlying25 h;obtain⟨y1,y2,y3,y4,y5,y6,y7,y8,rfl⟩:=ztW (show xs.length=8 from hlen);have f1:=hf 0 _ rfl;have f2:=hf 1 _ rfl;have f3:=hf 2 _ rfl;have f4:=hf 3 _ rfl;have f5:=hf 4 _ rfl;have f6:=hf 5 _ rfl;have f7:=hf 6 _ rfl;have f8:=hf 7 _ rfl;simp[Tryz.HJ,Tryz.zy5]at f1 f2 f3 f4 f5 f6 f7 f8;obtain⟨wd,e2,_,_⟩:=DataW.trod_int underlying3 f2;obtain⟨l1,h1⟩:=FR f1;obtain⟨l3,h3⟩:=FR f3;obtain⟨l4,h4⟩:=FR f4;obtain⟨l5,h5⟩:=FR f5;obtain⟨l6,h6⟩:=FR f6;obtain⟨l7,h7⟩:=FR f7;obtain⟨l8,h8⟩:=FR f8;simp only[List.cons.injEq,and_true]at e2;exact⟨⟨l1,wd,l3,l4,l5,l6,l7,l8⟩,e2,h1,h3,h4,h5,h6,h7,h8⟩
theorem zrF{r:Reach}{b0:Nat}{v:zc}{d:DataW H}{p:List MemPlace}(hv:Value.okWide prog W r b0 27 v)(h:DataW.Trod enc prog W 0 spare held 27 v d p):
  ∃(ao:Option Addr) (rc:Nat) (cv bv fv tv ev nv kv:zc) (rs:List bi) (D:bj),v=zi #[.slice ao rs.length rc,cv,zb .i64 D.width,bv,fv,tv,ev,nv,kv]/\fU 0 W (.slice ao rs.length rc) rs/\fV 0 W cv bv fv tv ev nv kv D:=by
 obtain⟨cs,rfl,hsz⟩:=okWide_struct underlying27 hv;obtain⟨c0,c1,c2,c3,c4,c5,c6,c7,c8,rfl⟩:=zsR (hsz.trans Tryz.zy6);obtain⟨fuel,zo⟩:=h;obtain⟨y0,y1,n,_,hl,h0,h1⟩:=trod_struct2 underlying27 zo;simp[Tryz.zy9,Tryz.zzc,Value.cells]at h0 h1;obtain⟨rs,Fk⟩:=zn1 h0;obtain⟨D,e2,hD⟩:=zr3 h1;obtain⟨ao,rc,e0,hr⟩:=Fk;exact⟨ao,rc,c1,c3,c4,c5,c6,c7,c8,rs,D,by rw[e2,e0],⟨ao,rc,rfl,hr⟩,hD⟩
end
end
section
open Go.RowKit Go.ChangeShapes Go.WideShapes Go.ChangeAt
theorem Tryz.zwc:prog.cellsOf 90=2:=by kernel_rfl
section
variable {H:Type} {enc:zl×zc->H} {W:zg} {spare:Nat->Bool} {held:Bool}
theorem ztq{fuel:Nat}{cs:List zc}{x:DataW H×List MemPlace}(h:DataW.trod enc prog W 0 spare held fuel 90 cs=ze x):∃(k:Int) (t:ByteArray),cs=[zb .i64 k,.string t]/\t.size<=9223372036854775807:=by
 obtain⟨y0,y1,n,_,hl,h0,h1⟩:=trod_struct2 underlying90 h;rw[Tryz.zwc]at hl
 match cs,hl with
 |[c0,c1],_=>
  simp[Tryz.HJ,Tryz.zza]at h0 h1;obtain⟨a,e0,_,_⟩:=DataW.trod_int underlying3 h0;obtain⟨b,e1,_,hB⟩:=DataW.trod_string underlying9 h1;simp only[List.cons.injEq,and_true]at e0 e1;exact⟨a,b,by rw[e0,e1],Ga hB⟩
theorem zr1{fuel:Nat}{v:zc}{x:DataW H×List MemPlace}(hf:DataW.trod enc prog W 0 spare held fuel 50 [v]=ze x):∃(oa:Option Addr) (oc:Nat) (ops:List (Int×ByteArray)),v=.slice oa ops.length oc/\jN 0 W (.slice oa ops.length oc) ops/\∀i,i<ops.length->(ops.getD i gK).2.size<=9223372036854775807:=by
 rcases Go.Deep.open_slice underlying50 hf with ⟨hc,_⟩|⟨a,len,cap,m,n,D,Pl,hc,_,xI,qH,kx,_,hx⟩
 ·simp only[List.cons.injEq,and_true]at hc;exact⟨zf,0,[],hc,⟨zf,0,rfl,by simp,λh0=>absurd h0 (cR _)⟩,λi hi=>absurd hi (cR _)⟩
 ·simp only[List.cons.injEq,and_true]at hc;have LR:len<=m:=by rw[kx];split<;>omega
  rw[Tryz.zwc]at hx;rcases Ea len with h0|h0
  ·subst h0;exact⟨ze a,cap,[],hc,⟨ze a,cap,rfl,by simp,λh0=>absurd h0 (cR _)⟩,λi hi=>absurd hi (cR _)⟩
  ·obtain⟨b,o,C,rfl,hb,hC⟩:=Ju (W:=W) (a:=a) (len:=len) (sz:=2) (E:=λcs=>∃r:Int×ByteArray,cs=[zb .i64 r.1,.string r.2]/\r.2.size<=9223372036854775807) (by omega) (λi hi=>by
    obtain⟨fN,h1,h2⟩:=hx i (by omega);obtain⟨k,t,he,ht⟩:=ztq h2;exact⟨fN,h1,(k,t),he,ht⟩) h0
   obtain⟨F,hF⟩:=Go.Deep.choose_lt (α:=Int×ByteArray) (p:=λi r=>C i=[zb .i64 r.1,.string r.2]/\r.2.size<=9223372036854775807) (λi hi=>(hC i hi).1);have hl:((List.range len).map F).length=len:=by simp
   refine⟨ze ⟨b,o,zf⟩,cap,(List.range len).map F,by rw[hc,hl],⟨ze ⟨b,o,zf⟩,cap,rfl,by rw[hl];exact Ga (aW xI qH),λ_=>⟨b,o,rfl,aR _,hb,λi hi=>?_⟩⟩,λi hi=>?_⟩
   ·have dY:i<len:=by rw[hl]at hi;exact hi
    rw[FM F gK len i dY];have q0:=(hC i dY).2 0 (by omega);have q1:=(hC i dY).2 1 (by omega);rw[(hF i dY).1]at q0 q1;exact⟨by simpa using q0,by simpa using q1⟩
   ·have dY:i<len:=by rw[hl]at hi;exact hi
    rw[FM F gK len i dY];exact(hF i dY).2
theorem zrG{r:Reach}{b0:Nat}{v:zc}{d:DataW H}{p:List MemPlace}(hv:Value.okWide prog W r b0 50 v)(h:DataW.Trod enc prog W 0 spare held 50 v d p):∃(oa:Option Addr) (oc:Nat) (ops:List (Int×ByteArray)),v=.slice oa ops.length oc/\jN 0 W (.slice oa ops.length oc) ops/\∀i,i<ops.length->(ops.getD i gK).2.size<=9223372036854775807:=by
 obtain⟨a,l,c,rfl⟩:=okWide_slice underlying50 hv;obtain⟨fuel,hf⟩:=h;exact zr1 hf
end
end
open Go.ChangeShapes Go.WideShapes Go.ChangeAt Go.RowKit Go.Joins
theorem Tryz.own:ownKnob prog.godebug=zf:=by kernel_rfl
theorem Tryz.laidOut:laidOutB prog=true:=by kernel_rfl
theorem Tryz.zya:prog.globalNamed "math/bits.deBruijn64tab" = ze 0:=by kernel_rfl
theorem Tryz.zAJ:(prog.globals[0]?).map (·.type)=ze 280:=by kernel_rfl
theorem Tryz.zy4:prog.cellsOf 5=1:=by kernel_rfl
theorem Tryz.zzb:prog.cellsOf 280=64:=by kernel_rfl
theorem zhn{W:zg}(h:laidMetH prog Rows.fnExactRunOpsRow.laid W):fS W:=by
 have h':laidMet prog [("math/bits.deBruijn64tab",Lib.tabData .u8 (NJ.map λn:Nat=>(n:Int)))] W:=h;have hT:=Lib.tabIs_of_head Tryz.zya Tryz.zAJ underlying280 underlying5 Tryz.zy4 Tryz.zzb h';intro i hi;have dY:i<NJ.length:=hi;have:=hT.cell Tryz.zya i (by simpa using dY);rw[this];simp[List.getD,dY]
noncomputable def zjO (os:Os):zg:=
 {World.holding prog os ⟨#[],#[],[]⟩with heap:=(World.holding prog os ⟨#[],#[],[]⟩).heap.modify 0 fun
   |zj _ t frozen=>zj (NJ.map λn:Nat=>Value.int .u8 (n:Int)).toArray t frozen
   |o=>o}
theorem ziG(os:Os)(args:Array zc):laidMetH prog Rows.fnExactRunOpsRow.laid ((zjO os).forCall (λ_ _=>0) ⟨#[],args,[]⟩).memory:=
 laidMet_of_run' 8 (by kernel_rfl) (by kernel_rfl)
theorem zer(os:Os)(started:os.Started)(H:Type)(enc:zl×zc->H):
  ReturnsInHanded {} checked os 4 .any (λw args=>(Rows.fnExactRunOpsSpec.pre enc prog Tryz.f4 Rows.fnExactRunOpsRow.domain false w args/\laidMetH prog Rows.fnExactRunOpsRow.laid w)/\sizedMet enc prog Tryz.f4 (OpenSpec.ofChange Rows.fnExactRunOpsSpec) false w args)
   (Rows.fnExactRunOpsSpec.post enc prog Tryz.f4 false true false false):=by
 refine returnsInHanded_of_change_and (C:=checked) (X:=λw _=>laidMetH prog Rows.fnExactRunOpsRow.laid w) (λ_ _ _ hh h=>h.of_heap hh) Tryz.own started (by kernel_rfl) func4
  (ChangeSpec.witness_at (enc:=enc) (C:=checked) (os:=os) (X:=λw _=>laidMetH prog Rows.fnExactRunOpsRow.laid w) false (zjO os) #[zi #[zh zf 0 0,zh zf 0 0,zb .i64 0,zh zf 0 0,zh zf 0 0,zh zf 0 0,zh zf 0 0,zh zf 0 0,zh zf 0 0],zb .i64 0,zh zf 0 0] 8 rfl (by kernel_rfl) (by kernel_rfl) (by kernel_rfl) (by kernel_rfl) (by kernel_rfl) (ziG os _)) ?_
 intro W base args ds gs before zxI hW _ _ hL _;have hval:∀(j:Nat) t v,Tryz.f4.params[j]?=ze t->args[j]?=ze v->Value.okWide prog W .any base t v:=zxI;have hW':=hW;obtain⟨p,q,mM,hV,rfl,hfz,wi⟩:=hW;have hA:DataW.TrodAll enc prog W 0 (λ_=>true) true Tryz.f4.params.toList args.toList ds p:=mM;rw[params4]at hA hval;obtain⟨v0,vs0,d0,ds0,p0,q0,CZ,rfl,rfl,h0,r0⟩:=trodAll_cons hA;obtain⟨v1,vs1,d1,ds1,p1,q1,rfl,rfl,rfl,h1,r1⟩:=trodAll_cons r0;obtain⟨v2,vs2,d2,ds2,p2,q2,rfl,rfl,rfl,h2,r2⟩:=trodAll_cons r1;obtain⟨rfl,rfl,rfl⟩:=trodAll_nil r2;obtain rfl:args=#[v0,v1,v2]:=by cases args;simp_all
 obtain⟨rfl,rfl⟩:=trodVars_none hV;have k0:=h0;have lt0:∀x∈p0,x.block<W.heap.size:=by obtain⟨m,hm⟩:=k0;exact DataW.trod_lt m _ _ _ hm
 have k1:=h1;have VT:∀x∈p1,x.block<W.heap.size:=by obtain⟨m,hm⟩:=k1;exact DataW.trod_lt m _ _ _ hm
 have k2:=h2;have lt2:∀x∈p2,x.block<W.heap.size:=by obtain⟨m,hm⟩:=k2;exact DataW.trod_lt m _ _ _ hm
 obtain⟨ao,rc,cv,bv,fv,tv,ev,nv,kv,rs,D,rfl,Fk,hD⟩:=zrF (hval 0 27 v0 rfl rfl) h0;obtain⟨L,rfl,-,-,-⟩:=open_int underlying3 (hval 1 3 v1 rfl rfl) h1;obtain⟨oa,oc,ops,rfl,zz9,kz⟩:=zrG (hval 2 50 v2 rfl rfl) h2;clear mM zxI;have hB:=zhn hL;refine(zjP ao rc cv bv fv tv ev nv kv rs D L oa oc ops W Fk hD zz9 kz hB).mono λe W' ⟨he,bu⟩=>?_
 subst he;exact⟨_,rfl,_,_,_,[],_,[],hW',trodAll_mk1 (shut_bool underlying4 _),(trodAll_cons_mk (Below.trod Tryz.laidOut (by kernel_rfl) (of_decide_eq_true (by kernel_rfl)) k0 bu lt0) (trodAll_cons_mk (Below.trod Tryz.laidOut (by kernel_rfl) (of_decide_eq_true (by kernel_rfl)) k1 bu VT) (trodAll_cons_mk (Below.trod Tryz.laidOut (by kernel_rfl) (of_decide_eq_true (by kernel_rfl)) k2 bu lt2) trodAll_mk0))),rfl,bu.frame _,λh=>by cases h⟩
theorem zfy:Rows.FnExactRunOpsSaid:=
 OpenClaim.holds_of_wide 4 Tryz.f4 rfl rfl rfl rfl rfl rfl rfl ⟨rfl,rfl,rfl,rfl,rfl⟩ rfl rfl rfl rfl rfl (by kernel_rfl) func4 (by kernel_rfl)
  (of_decide_eq_true (by kernel_rfl)) (by unfold Func.isWrapper;first|(rw[aC (by decide +kernel)];kernel_rfl)|(rw[ak (by decide +kernel)];exact⟨rfl,rfl⟩))
  (λos started H enc _=>zer os started H enc)
theorem fnExactRunOps_holds:Rows.FnExactRunOpsCardSaid:=
 Claim7.holds_tied_plain_at .later [] [.data] true Rows.fnExactRunOpsCard.stood.harness Rows.fnExactRunOpsCard.stood.looks
  zfy (λ_ h=>by cases h) (by kernel_rfl) (λ_ h=>by cases h) fnExactRunOps_row_tie rfl ⟨rfl,rfl⟩ (by kernel_rfl) rfl
  (λf fn hf vV=>by
   obtain rfl:f=4:=Option.some.inj ((show prog.funcNamed "loop.example/s0007/laws.FnExactRunOps" = ze 4 by kernel_rfl).symm.trans hf) |>.symm
   obtain rfl:fn=Tryz.f4:=(Option.some.inj (func4.symm.trans vV)).symm;exact⟨by kernel_rfl,λj t ht=>by
    rw[params4]at ht;have h3:t=27\/t=3\/t=50:=by
     rcases j with _|_|_|j
     ·exact .inl (by simpa using ht.symm)
     ·exact .inr (.inl (by simpa using ht.symm))
     ·exact .inr (.inr (by simpa using ht.symm))
     ·simp at ht
    rcases h3 with h3|h3|h3
    ·subst h3;exact(show prog.wantsStandIn 27=false by kernel_rfl)
    ·subst h3;exact(show prog.wantsStandIn 3=false by kernel_rfl)
    ·subst h3;exact(show prog.wantsStandIn 50=false by kernel_rfl)⟩)
  (by kernel_rfl)
#print axioms fnExactRunOps_holds
end Go.Proofs.YtdimhpfiieepiaaGreatDoor
