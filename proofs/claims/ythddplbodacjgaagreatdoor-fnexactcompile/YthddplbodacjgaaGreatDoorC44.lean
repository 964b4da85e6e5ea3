import Derived.Test.YthddplbodacjgaaGreatDoorC34
import Derived.Test.YthddplbodacjgaaGreatDoorC41
import Derived.Test.YthddplbodacjgaaGreatDoorC43
namespace Go.Proofs.YthddplbodacjgaaGreatDoor
set_option maxHeartbeats 4000000
set_option maxRecDepth 100000
open Go.RowKit
attribute [local go_sem ↓] Go.wp_at_zero Go.wp_at_succ
variable {N s bt nw gs gl gf wt:Nat}{xs:List Value}{st:List Int}{w W:World}{bs:List BrG}{m:Int}
theorem zmA(h:znU N xs st)(k:Nat)(hk:k<st.length)(hle:zbq (st.take (k+1))<=2000):zbq (st.take (k+1))=zbq (st.take k)+st.getD k 0/\1<=st.getD k 0/\0<=zbq (st.take k):=by
 rw[zeT st k hk] at hle ⊢;obtain⟨t,x,_,hp⟩:=h.2 k hk;have h1:=zbk.facts N _ _ hp;have h2:=zeu h k (by omega);unfold capW at hle ⊢;split
 ·exact⟨rfl,h1.2.1,h2.1⟩
 ·rw[zuU (by assumption)] at hle;omega
theorem zlI(h:znU N xs st)(hle:zbq st<=2000):∀m k,k+m=st.length->zbq (st.take k)<=zbq st
 |0,k,e=>by rw[zur (by omega)];exact Int.le_refl _
 |m+1,k,e=>by
  have h1:=zlI h hle m (k+1) (by omega);have h2:=zmA h k (by omega) (by omega);omega
theorem zi8{P:Program}{ops:Array Oper}{rest:List Oper}{o:Oper}{a:Act}{Q:Exit->Act->World->Prop}(hg:o.guard=none)(t:TypeId)(x:Operand)(ho:o.op=.box t x)(cells:Array Value)(hx:(a.eval x).cells=cells)
  (h:wpList P ops Q rest (a.put o.dst (.pointer (some ⟨w.heap.size,0,none⟩))) (w.alloc (.cells cells t))):wpList P ops Q (o::rest) a w:=by
 subst hx;refine wpList_plain hg fun K hK=>?_
 unfold Oper.wp execOp;simp only[ho,Sem.run_bind,Instr.box,newVar,newRow,run_newObj_alloc,Sem.run_pure,Result.andThen_ok];exact hK _ _ h
theorem zje(k:Int):Tryz.prog.built 159 [(0,.int .i64 k)]=some #[.int .i64 k,.slice none 0 0,.slice none 0 0]:=by kernel_rfl
theorem zjP(wt nw:Nat)(hnw:nw=(wt+63)/64)(hwt:wt<=4000)(w:World):
  Calls Tryz.prog 49 #[.int .i64 wt] w fun e W=>e=.returned (.pointer (some ⟨w.heap.size,0,none⟩))/\W=w.alloc (.cells #[.int .i64 nw,.slice none 0 0,.slice none 0 0] 159):=by
 have e1:((wt:Int)+63)/64=(nw:Int):=by omega
 have e2:((wt:Int)+63).tdiv 64=(nw:Int):=by rw[<-e1];exact Int.tdiv_eq_ediv_of_nonneg (by omega)
 have hb:=zje nw;have hnl:nw<=1000:=by omega
 clear hnw
 go_enter Tryz.func49,Tryz.ntmps49
 go_wp2_with (first|(refine zhq rfl 159 #[(0,.tmp 5)] rfl [(0,.int .i64 nw)] (by simp[Act.eval]) _ hb ?_)|(refine zi8 rfl 159 (.tmp 6) rfl #[.int .i64 nw,.slice none 0 0,.slice none 0 0] rfl ?_))
 go_ret
 exact⟨rfl,rfl⟩
theorem zjd(bt nw g g2:Nat):Tryz.prog.built 111 [(0,.pointer (some ⟨bt,0,none⟩)),(1,.agg #[.slice (some ⟨g,0,none⟩) nw nw,.int .i64 100,.int .i64 100]),(2,.agg #[.slice (some ⟨g2,0,none⟩) nw nw,.int .i64 100,.int .i64 100])]=some #[.pointer (some ⟨bt,0,none⟩),.slice (some ⟨g,0,none⟩) nw nw,.int .i64 100,.int .i64 100,.slice (some ⟨g2,0,none⟩) nw nw,.int .i64 100,.int .i64 100,.slice none 0 0]:=by kernel_rfl
theorem zgO{rs:List za0}(h:zb5 rs=true):rs.length<=100/\(∀k,k<=rs.length->0<=wSum (rs.take k))/\∀k,k<rs.length->wSum (rs.take (k+1))<=wSum rs:=by
 unfold zb5 at h;simp only[ztt,zuP] at h;obtain⟨⟨h1,h2⟩,h3⟩:=h;have hr:∀k,k<rs.length->0<=zcd (rs.getD k .zero).branches:=fun k hk=>by
  have:=ztC.1 h2 (rs.getD k .zero) (by simp[List.getD,hk]);exact(zh4 this).2.1
 have hm:∀k,k<rs.length->wSum (rs.take k)<=wSum (rs.take (k+1)):=fun k hk=>by
  rw[zfm rs k hk];have:=hr k hk;omega
 refine⟨h1,fun k=>?_,fun k hk=>?_⟩
 ·induction k with
  |zero=>intro _;simp[wSum]
  |succ k ih=>intro hk;have:=ih (by omega);have:=hm k (by omega);omega
 ·have key:∀m k,k+m=rs.length->wSum (rs.take k)<=wSum rs:=fun m=>by
   induction m with
   |zero=>intro k e;rw[zur (by omega)];exact Int.le_refl _
   |succ m ih=>intro k e;have:=ih (k+1) (by omega);have:=hm k (by omega);omega
  exact key (rs.length-(k+1)) (k+1) (by omega)
structure NsA(w W:World)(s bt nw gs gl:Nat):Prop where
 box:W.heap[s]?=some (.cells #[.pointer (some ⟨bt,0,none⟩),.slice (some ⟨gs,0,none⟩) nw nw,.int .i64 100,.int .i64 100,.slice (some ⟨gl,0,none⟩) nw nw,.int .i64 100,.int .i64 100,.slice none 0 0] 111 (0,0))
 trk:zeb W bt nw (.slice none 0 0) (.slice none 0 0)
 ans:W.heap[w.heap.size+1]?=some (.cells #[.int .i64 100,.int .i64 100] 103 (0,0))
 p0:zaB W nw gs zbm
 p1:zaB W nw gl zbm
 ne:gs≠gl
 bel:Below w.heap.size w W
 hs:w.heap.size<=s
 hb:w.heap.size<=bt
 h0:w.heap.size<=gs
 h1:w.heap.size<=gl
def NsR(w:World)(rs:List za0)(nw wt:Nat)(e:Ending)(W:World):Prop:=
 ∃(s bt gs gl gf n:Nat) (sv fv:Value) (mk:Nat->Nat) (f:Nat->Nat->Bool) (fr:Nat->Nat) (F:Nat->Nat->Nat) (φ:Nat->Nat->Nat) (A0 A1:Nat->Nat) (t0 e0 t1 e1:Int) (tg fn:Nat->Int),e=.returned (.pointer (some ⟨s,0,none⟩))/\n<=wt/\NsI w W s bt nw gs gl gf wt (bsR 0 rs) n sv fv mk f fr F φ A0 A1 t0 e0 t1 e1 tg fn
def NsE(w W:World)(s bt nw gs gl gf wt:Nat)(bs:List BrG)(m:Int):Prop:=
 ∃(n:Nat) (sv fv:Value) (mk:Nat->Nat) (f:Nat->Nat->Bool) (fr:Nat->Nat) (F:Nat->Nat->Nat) (φ:Nat->Nat->Nat) (A0 A1:Nat->Nat) (t0 e0 t1 e1:Int) (tg fn:Nat->Int),(n:Int)<=m/\NsI w W s bt nw gs gl gf wt bs n sv fv mk f fr F φ A0 A1 t0 e0 t1 e1 tg fn
theorem NsE.below{Wd:World}(h:NsE w W s bt nw gs gl gf wt bs m)(hb:Below W.heap.size W Wd):NsE w Wd s bt nw gs gl gf wt bs m:=by
 obtain⟨n,sv,fv,mk,f,fr,F,φ,A0,A1,t0,e0,t1,e1,tg,fn,h1,h2⟩:=h;exact⟨n,sv,fv,mk,f,fr,F,φ,A0,A1,t0,e0,t1,e1,tg,fn,h1,h2.below hb⟩
theorem NsE.bel(h:NsE w W s bt nw gs gl gf wt bs m):Below w.heap.size w W:=by
 obtain⟨n,sv,fv,mk,f,fr,F,φ,A0,A1,t0,e0,t1,e1,tg,fn,h1,h2⟩:=h;exact h2.bel
theorem NsA.start{W5:World}(h:NsA w W s bt nw gs gl)(hb:Below W.heap.size W W5)(hf:W.heap.size<=gf)(hr:W5.heap[gf]?=some (.cells (zbR wt (fun _=>100) (fun _=>100)) 103 (0,0)))(hnw:nw<=1000)(hB:zbj w):NsE w (W5.setCell ⟨s,7,none⟩ (.slice (some ⟨gf,0,none⟩) wt wt)) s bt nw gs gl gf wt [] 0:=by
 have hpos:=zbz hB;have hk:∀(k:Nat) (o:Obj),W5.heap[k]?=some o->k≠s->(W5.setCell ⟨s,7,none⟩ (.slice (some ⟨gf,0,none⟩) wt wt)).heap[k]?=some o:=fun k o e hne=>(zuS _ _ _ _ (by exact hne)).trans e
 have n1:gs≠s:=fun e=>by have:=h.p0.row;rw[e,h.box] at this;exact absurd (zak this) (by decide)
 have n2:gl≠s:=fun e=>by have:=h.p1.row;rw[e,h.box] at this;exact absurd (zak this) (by decide)
 have n3:bt≠s:=fun e=>by have:=h.trk;unfold zeb at this;rw[e,h.box] at this;exact absurd (zak this) (by decide)
 have l1:=zae h.box;have q:=h.hs;have hbW:Below w.heap.size w W5:=h.bel.trans (hb.mono h.bel.size);refine⟨0,.slice none 0 0,.slice none 0 0,fun _=>0,fun _ _=>false,fun _=>0,fun _=>zbm,fun _ _=>0,zbm,zbm,100,100,100,100,fun _=>100,fun _=>100,Int.le_refl _,?_⟩;refine⟨?_,⟨hk _ _ (zab h.trk hb) n3,⟨rfl,.inl ⟨rfl,rfl⟩⟩,⟨rfl,.inl ⟨rfl,rfl⟩⟩,⟨fun p hp=>absurd hp (zuI _),fun p q hp=>absurd hp (zuI _)⟩,fun p hp=>absurd hp (zuI _),zuL _,hnw,hB.keep ((zuS _ _ _ _ (by show 0≠s;omega)).trans (hbW.block 0 hpos)),h.hb,hpos⟩,zss _ _ _,⟨hk _ _ (zab h.p0.row hb) n1,h.p0.lt⟩,zml _ _,⟨hk _ _ (zab h.p1.row hb) n2,h.p1.lt⟩,zml _ _,zgf _ _,zgf _ _,zgf _ _,zgf _ _,hk _ _ hr (by omega),zl6 _ _ _,zl6 _ _ _,fun _ _=>⟨rfl,rfl⟩,fun _=>⟨Int.le_refl _,Int.le_refl _⟩,h.ne,fun p hp=>absurd hp (zuI _),fun p hp=>absurd hp (zuI _),hbW.setCell (p:=⟨s,7,none⟩) (by exact q) _,h.hs,h.h0,h.h1,by have:=h.bel.size;omega⟩;exact zuT _ _ _ _ _ _ (zab h.box hb)
theorem zjO{lo:Nat}(v:Value)(rs:List za0)(gL capL BL wt nw:Nat)(vs:List Value)(w:World)(hs:zaW lo w v rs)(hown:w.ownsRow BL 96 1 (.slice (some ⟨gL,0,none⟩) rs.length capL) rs.length vs)(hP:zdm w vs rs)(hl:zb5 rs=true)(hwt:wSum rs=wt)(hwt4:wt<=4000)(hnw:nw=(wt+63)/64)(hB:zbj w):
  Calls Tryz.prog 24 #[v,.slice (some ⟨gL,0,none⟩) rs.length capL,.int .i64 (wt:Int)] w (NsR w rs nw wt):=by
 obtain⟨ao,cap,rfl,hm,hc⟩:=hs;have hnt:=zjP wt nw hnw hwt4 w;have Hnw:=hdn hnw;have hnwl:nw<=1000:=by omega
 have hlen:=(zgO hl).1;have HSU:=hdn (zgO hl);have HC:=hdn hc;have HO:=hdn hown;have HP:=hdn hP;have HB:=hdn hB;have Hwt:=hdn hwt;clear hc hown hP hB hnw hwt;obtain⟨W2,hW2⟩:∃W2,(w.alloc (.cells #[.int .i64 nw,.slice none 0 0,.slice none 0 0] 159)).alloc (.cells #[.int .i64 100,.int .i64 100] 103)=W2:=⟨_,rfl⟩;have hb2:Below w.heap.size w W2:=by rw[<-hW2];exact((Below.refl _ _).alloc (zuz _) _).alloc (by simp) _
 have x2:zeb W2 w.heap.size nw (.slice none 0 0) (.slice none 0 0):=by unfold zeb;rw[<-hW2];exact zao (zuR _ _)
 have x8:W2.heap[w.heap.size+1]?=some (.cells #[.int .i64 100,.int .i64 100] 103 (0,0)):=by rw[<-hW2];exact zbD (by simp)
 have q0:W2.cell? ⟨w.heap.size+1,0,none⟩=some (.int .i64 100):=(zuO _ _ _ _ _ _ x8:W2.cell? ⟨w.heap.size+1,0,none⟩=_);have q1:W2.cell? ⟨w.heap.size+1,1,none⟩=some (.int .i64 100):=(zuO _ _ _ _ _ _ x8:W2.cell? ⟨w.heap.size+1,1,none⟩=_);have hbs:=zjd w.heap.size nw;have hno:∀W,zeb W w.heap.size nw (.slice none 0 0) (.slice none 0 0)->Calls Tryz.prog 50 #[.pointer (some ⟨w.heap.size,0,none⟩)] W fun e w'=>e=.returned (.slice (some ⟨W.heap.size,0,none⟩) nw nw)/\zaB w' nw W.heap.size zbm/\W.grownBy w' none:=fun W h=>zeq nw w.heap.size _ _ W h hnwl
 go_enter Tryz.func24,Tryz.ntmps24
 go_wp2_with (go_at_call 49;refine hnt.mono ?_;rintro e w1 ⟨rfl,hw1⟩;subst w1)
 clear hW2 hnt
 go_cut [9] from 16 to 27 (fun tv wx=>∃s gs gl:Nat,tv=.pointer (some ⟨s,0,none⟩)/\NsA w wx s w.heap.size nw gs gl)
 case first=>
  have x2d:zeb W2.drew w.heap.size nw (.slice none 0 0) (.slice none 0 0):=x2;have x8d:W2.drew.heap[w.heap.size+1]?=some (.cells #[.int .i64 100,.int .i64 100] 103 (0,0)):=x8
  go_region_held3 (fun w'=>w'.cell? ⟨w.heap.size+1,0,none⟩=some (.int .i64 100)/\w'.cell? ⟨w.heap.size+1,1,none⟩=some (.int .i64 100)) ((first|exact⟨q0,q1⟩|exact⟨q02,q12⟩|exact⟨q01,q11⟩|go_keep)) ((go_at_call 50;first|(refine(hno W2.drew x2d).mono ?_;rintro e w5 ⟨rfl,hp5,hg5⟩;have x25:zeb w5 w.heap.size nw (.slice none 0 0) (.slice none 0 0):=((hg5.block _ (zae x2d) (by simp)).trans x2d);have x85:=(hg5.block _ (zae x8d) (by simp)).trans x8d;have q01:w5.cell? ⟨w.heap.size+1,0,none⟩=some (.int .i64 100):=(zuO _ _ _ _ _ _ x85:w5.cell? ⟨w.heap.size+1,0,none⟩=_);have q11:w5.cell? ⟨w.heap.size+1,1,none⟩=some (.int .i64 100):=(zuO _ _ _ _ _ _ x85:w5.cell? ⟨w.heap.size+1,1,none⟩=_))|(refine(hno w5 x25).mono ?_;rintro e w6 ⟨rfl,hp6,hg6⟩;have x26:zeb w6 w.heap.size nw (.slice none 0 0) (.slice none 0 0):=((hg6.block _ (zae x25) (by simp)).trans x25);have x86:=(hg6.block _ (zae x85) (by simp)).trans x85;have q02:w6.cell? ⟨w.heap.size+1,0,none⟩=some (.int .i64 100):=(zuO _ _ _ _ _ _ x86:w6.cell? ⟨w.heap.size+1,0,none⟩=_);have q12:w6.cell? ⟨w.heap.size+1,1,none⟩=some (.int .i64 100):=(zuO _ _ _ _ _ _ x86:w6.cell? ⟨w.heap.size+1,1,none⟩=_))))
  go_wp2_with fail
  go_meet
  refine⟨_,_,_,rfl,⟨zuR _ _,zao x26,zao x86,⟨zao ((hg6.block _ hp5.glt (by simp)).trans hp5.row),hp5.lt⟩,⟨zao hp6.row,hp6.lt⟩,?_,?_,?_,zuz _,?_,?_⟩⟩
  all_goals
   have u1:=hb2.size;have u2:W2.heap.size<=w5.heap.size:=hg5.size;have u3:=hg6.size;have u4:=hp5.glt;have u5:=hp6.glt
  ·show W2.heap.size≠w5.heap.size;have:W2.heap.size<w5.heap.size:=u4;omega
  ·have b5:Below w.heap.size w w5:=hb2.grown (w:=W2) (row:=none) ⟨hg5.os,hg5.tape,hg5.output,hg5.size,hg5.block⟩ u1 (fun k e=>by cases e);have b6:Below w.heap.size w w6:=b5.grown hg6 b5.size (fun k e=>by cases e);exact b6.alloc b6.size _
  ·omega
  ·exact u1
  ·omega
 case rest=>
  obtain⟨s,gs,gl,rfl,hA⟩:=hcut;clear q0 q1 x2 x8 hb2 hno hbs;have q0:wc.cell? ⟨w.heap.size+1,0,none⟩=some (.int .i64 100):=(zuO _ _ _ _ _ _ hA.ans:wc.cell? ⟨w.heap.size+1,0,none⟩=_);have q1:wc.cell? ⟨w.heap.size+1,1,none⟩=some (.int .i64 100):=(zuO _ _ _ _ _ _ hA.ans:wc.cell? ⟨w.heap.size+1,1,none⟩=_);have hra:=znD 100 100 wc.heap.size wt (wc.alloc (.cells #[.int .i64 100,.int .i64 100] 103)) (zuR _ _) hwt4;have HA:=hdn hA;clear hA
  go_wp2_with fail
  refine hra.mono ?_;rintro e w5 ⟨rfl,hr5,hb5⟩;have hb05:Below wc.heap.size wc w5:=((Below.refl _ _).alloc (zuz _) _).trans (hb5.mono (by simp));rw[World.size_alloc] at hr5 ⊢;obtain⟨gf,hgf⟩:∃gf,gf=wc.heap.size+1:=⟨_,rfl⟩;rw[<-hgf] at hr5 ⊢;have hE:=HA.out.start hb05 (by omega) hr5 hnwl HB.out;have hbx:=zab HA.out.box hb05;have z7:w5.cell? ⟨s,7,none⟩=some (.slice none 0 0):=(zuO _ _ _ _ _ _ hbx:w5.cell? ⟨s,7,none⟩=_);have f7:=zuQ _ _ 7 _ _ hbx;have HE:=hdn hE;clear hE hbx hr5 hb5 hb05 hra q0 q1 hgf HA
  go_wp2_with fail
  clear z7 f7
  go_loopw [37] (fun i wr=>∃k:Nat,k<=rs.length/\i=.int .i64 k/\NsE w wr s w.heap.size nw gs gl gf wt (bsR 0 (rs.take k)) (wSum (rs.take k))) (fun i _=>rs.length-(intOf i).toNat)
  case atStart=>exact⟨0,zuL _,rfl,HE.out⟩
  case round=>
   clear HE;obtain⟨k,hk,rfl,hE⟩:=hrel
   by_cases hlt:k<rs.length
   ·obtain⟨b,o,bv,rd,rfl,Hrd,hbl,c0,c1,hbs⟩:=HC.out.elem hE.bel hlt;obtain⟨g3,sc3,cs3,v1,v2,v3⟩:=HP.out.at_ k hlt;rw[Hrd.out] at v1 v3;obtain⟨g3',sc3',st,xs,e3,l3,hstl,hsw,hs2,hcx,htr⟩:=v3;cases e3;obtain⟨bo,bc,rfl,hbm,hbc⟩:=hbs;have hi0:(0:Int)<=(k:Int):=by omega
    have hi1:(k:Int)<(rs.length:Int):=by omega
    have hB0:zax lo w (.slice bo rd.branches.length bc) rd.branches:=⟨bo,bc,rfl,hbm,hbc⟩;obtain⟨N,hparts⟩:=htr.parts;have HT:=hdn htr;have hgl:=(zaV HO.out).2.1;have HG:=hdn (show w.cell? ⟨gL,k,none⟩=some (.slice (some ⟨g3,0,none⟩) rd.branches.length sc3) from(HO.out.cellAt k (by omega)).trans v1);have HX:=hdn hcx;have HBC:=hdn hbc;have Hstl:=hdn hstl;have HSS:=hdn (fun j (hj:j<st.length)=>zmA hparts j hj (by have:=zlI hparts hs2 (st.length-(j+1)) (j+1) (by omega);omega));have HS2:=hdn hs2;have HPR:=hdn (fun j (hj:j<=st.length)=>zlI hparts hs2 (st.length-j) j (by omega));have HWS:=hdn (show wSum (rs.take (k+1))=wSum (rs.take k)+zbq st by rw[zfm rs k hlt,Hrd.out,hsw]);have HE:=hdn (hE.below ((Below.refl _ _).alloc (zuz _) (.cells #[.slice bo rd.branches.length bc,.int .i64 rd.groups] 57)));have Hbt:=hdn (zlZ rs hlt);rw[Hrd.out] at Hbt;clear hE hparts htr hcx hstl hsw hs2 hbc v1 v2 hB0
    go_wp2_with fail
    clear c0 c1;obtain⟨wr0,hwr0⟩:∃wr0,wr.alloc (.cells #[.slice bo rd.branches.length bc,.int .i64 rd.groups] 57)=wr0:=⟨_,rfl⟩;rw[hwr0] at HE ⊢;clear hwr0
    go_loopw [45] (fun i wr=>∃j:Nat,j<=rd.branches.length/\i=.int .i64 j/\NsE w wr s w.heap.size nw gs gl gf wt (bsR 0 (rs.take k)++(zec k rd.branches).take j) (wSum (rs.take k)+zbq (st.take j))) (fun i _=>rd.branches.length-(intOf i).toNat)
    case atStart=>exact⟨0,zuL _,rfl,by simpa [zbq] using HE.out⟩
    case round=>
     clear HE;obtain⟨j,hj,rfl,hE⟩:=hrel
     by_cases hjt:j<rd.branches.length
     ·obtain⟨n,sv,fv,mk,f,fr,F,φ,A0,A1,t0,e0,t1,e1,tg,fn,hn,h⟩:=hE;obtain⟨bb,oo,nv,bd,rfl,Hn,hbl2,c0,c1,c2,hnv⟩:=HBC.out.elem h.bel hjt;obtain⟨nao,ncap,rfl,hnm,hnc⟩:=hnv;obtain⟨tt,x,hxs,p,hT,hwp,hun⟩:=HT.out.2.1 j (by have:=Hstl.out;omega);have hss:=HSS.out j (by have:=Hstl.out;omega);have hpr:=HPR.out (j+1) (by have:=Hstl.out;omega);have hs2:=HS2.out;have hws:=HSU.out.2.2 k hlt;have hw0:=HSU.out.2.1 k (by omega);have hbt:=zhL k rd.branches hjt;rw[Hn.out] at hbt;have hun2:unf p=unf (zd6 bd):=by
       rw[hun];have e1:(zda rd.branches).getD j zbP=zd6 bd:=by
        rw[ztO,<-Hn.out];simp[zda,hjt,zd6,List.getD]
       rw[e1]
      have hpn:n+(wPt p).toNat<=wt:=by have:=HWS.out;have:=Hwt.out;omega
      have hp64:wt<=64*nw:=by have:=Hnw.out;omega
      have hwp2:wPt p<=2000:=by omega
      have HNN:=hdn (show ((n+(wPt p).toNat:Nat):Int)<=wSum (rs.take k)+zbq (st.take (j+1)) by omega);obtain⟨wa,hwa⟩:∃wa,wr.alloc (.cells #[.bool bd.bol,.bool bd.eol,.slice nao bd.nodes.length ncap] 76)=wa:=⟨_,rfl⟩;have hba:Below wr.heap.size wr wa:=by rw[<-hwa];exact(Below.refl _ _).alloc (zuz _) _
      have hbd:Below wr.heap.size wr wa.drew:=hba.trans ⟨rfl,rfl,rfl,zuz _,fun _ _=>rfl⟩;have xa:wa.heap[wr.heap.size]?=some (.cells #[.bool bd.bol,.bool bd.eol,.slice nao bd.nodes.length ncap] 76 (0,0)):=by rw[<-hwa];exact zuR _ _
      obtain⟨d0,d1,d2,-,-,-⟩:=zac xa;have hla:wr.heap.size<wa.heap.size:=zae xa;have hbw:=h.bel;have hbwa:Below w.heap.size w wa:=hbw.trans (hba.mono hbw.size);have y1:wa.cell? ⟨gL,k,none⟩=some (.slice (some ⟨g3,0,none⟩) rd.branches.length sc3):=(hbwa.cell (p:=⟨gL,k,none⟩) hgl).trans HG.out;have y2:wa.cell? ⟨g3,j,none⟩=some (.iface tt x):=(hbwa.cell (p:=⟨g3,j,none⟩) l3).trans ((HX.out j hjt).trans hxs);have hbwd:Below w.heap.size w wa.drew:=hbw.trans (hbd.mono hbw.size);have hwr:=zd9 p w.heap.size n nw w.heap.size sv fv mk f fr F wa.drew (.iface tt x) (h.tk.below hbd) (zaT.keep (.of hbwd) p _ hT) hwp2 (by omega);have hk99:k<=99:=by omega
      have HI:=hdn h;have hi2:(0:Int)<=(j:Int):=by omega
      have hi3:(j:Int)<(rd.branches.length:Int):=by omega
      have Hbt2:=hdn hbt;have Hun:=hdn hun2;have hsl:=zae h.box;have hgsl:=h.p0.glt;have hgll:=h.p1.glt;have hgfl:=zae h.row;have hqs:=h.hs;have hq0:=h.h0;have hq1:=h.h1;have hqf:=h.hf;have Hpn:=hdn hpn;have Hp64:=hdn hp64;have HWA:=hdn hwa;have HBD:=hdn hbd;have HXA:=hdn xa;have HBW:=hdn hbw;have HXS:=hdn hxs;clear hn hss hpr hws hw0 hbt hun hun2 hpn hp64 hwp hwp2 hT h hwa hbd hba xa hbwa hbwd hnc hnm hbw hxs
      go_upto_region 11 with fail
      rw[HWA.out];clear HWA c0 c1 c2
      go_region_held3 (fun w'=>(w'.cell? ⟨wr.heap.size,0,none⟩=some (.bool bd.bol)/\w'.cell? ⟨wr.heap.size,1,none⟩=some (.bool bd.eol)/\w'.cell? ⟨wr.heap.size,2,none⟩=some (.slice nao bd.nodes.length ncap))/\w'.cell? ⟨gL,k,none⟩=some (.slice (some ⟨g3,0,none⟩) rd.branches.length sc3)/\w'.cell? ⟨g3,j,none⟩=some (.iface tt x)) ((first|exact⟨⟨d0,d1,d2⟩,y1,y2⟩|exact⟨⟨d05,d15,d25⟩,y15,y25⟩|exact⟨⟨d04,d14,d24⟩,y14,y24⟩|go_keep)) ((first|(go_at_call 53;refine hwr.mono ?_;rintro e W4 ⟨n',ga,gz,b,sv',fv',mk',f',fr',F',A,L,rfl,hk4,D⟩;have D:=hdn (D.words Hun.out);have kp4:Kp w.heap.size wr W4:=(Kp.of_below HBW.out.size HBD.out).trans D.out.kp;have low4:∀(a:Addr),a.block<w.heap.size->W4.cell? a=w.cell? a:=(fun a ha=>World.cell?_of_block ((kp4.low _ ha).trans (HBW.out.block _ ha)));have x4:=D.out.kp.typ _ _ _ HXA.out (by decide) (by decide) (by decide);obtain⟨d04,d14,d24,-,-,-⟩:=zac x4;have y14:W4.cell? ⟨gL,k,none⟩=some (.slice (some ⟨g3,0,none⟩) rd.branches.length sc3):=(low4 ⟨gL,k,none⟩ hgl).trans HG.out;have y24:W4.cell? ⟨g3,j,none⟩=some (.iface tt x):=(low4 ⟨g3,j,none⟩ l3).trans ((HX.out j hjt).trans HXS.out);obtain⟨k1,k2,k3,k4⟩:=HI.out.kept kp4;have hna:=D.out.na;have had:=zqg s w.heap.size nw gs gl gf wt ga gz t0 e0 t1 e1 A0 A1 A L tg fn k bd.bol bd.eol b nao bd.nodes.length ncap W4 k1 k2 k3 k4 D.out.fg (by have:wa.drew.heap.size=wa.heap.size:=rfl;omega) (by have:wa.drew.heap.size=wa.heap.size:=rfl;omega) HI.out.ne (fun p hp=>by have:=(D.out.good.la p hp).2;have:=Hpn.out;omega) hnwl hwt4 Hp64.out D.out.tk.bru)|(go_at_call 52;refine had.mono ?_;rintro e W5 hAD;have tt5:=hAD.2.2.2.2.2;have low5:∀(a:Addr),a.block<w.heap.size->W5.cell? a=w.cell? a:=(fun a ha=>(World.cell?_of_block (tt5.same _ (by have:=kp4.size;have:=HBW.out.size;omega) (by omega))).trans (low4 a ha));have x5:=(tt5.same wr.heap.size (zae x4) (by omega)).trans x4;obtain⟨d05,d15,d25,-,-,-⟩:=zac x5;have y15:W5.cell? ⟨gL,k,none⟩=some (.slice (some ⟨g3,0,none⟩) rd.branches.length sc3):=(low5 ⟨gL,k,none⟩ hgl).trans HG.out;have y25:W5.cell? ⟨g3,j,none⟩=some (.iface tt x):=(low5 ⟨g3,j,none⟩ l3).trans ((HX.out j hjt).trans HXS.out);obtain⟨rfl,-⟩:=id hAD)))
      have HF5:Hid (NsE w W5 s w.heap.size nw gs gl gf wt (bsR 0 (rs.take k)++(zec k rd.branches).take (j+1)) (wSum (rs.take k)+zbq (st.take (j+1)))):=by
       have e1:fdV ⟨k,bd.bol,bd.eol,unf (zd6 bd)⟩ false=(if bd.eol=true then 100 else (k:Int)):=by unfold fdV;simp
       have e2:fdV ⟨k,bd.bol,bd.eol,unf (zd6 bd)⟩ true=(k:Int):=by unfold fdV;simp
       have hst:=HI.out.step (br:=⟨k,bd.bol,bd.eol,unf (zd6 bd)⟩) HBD.out D.out (by rw[e1,e2];exact hAD) hk99;obtain⟨φ',A0',A1',t0',e0',t1',e1',tg',fn',h5⟩:=hst;rw[Hbt2.out,<-ztD];exact⟨n',_,_,_,_,_,_,_,_,_,_,_,_,_,_,_,by have:=HNN.out;omega,h5⟩
      clear hAD tt5 low5 low4 x5 x4 had D k1 k2 k3 k4 kp4 hwr;go_wp2
      go_roundw
      case rel=>exact⟨j+1,by omega,by go_num,HF5.out⟩
      case measure=>simp[intOf];omega
     ·have hjj:j=rd.branches.length:=by omega
      have hE2:NsE w wr s w.heap.size nw gs gl gf wt (bsR 0 (rs.take (k+1))) (wSum (rs.take (k+1))):=by
       rw[Hbt.out,HWS.out];rw[hjj] at hE;have e1:(zec k rd.branches).take rd.branches.length=zec k rd.branches:=zur (by simp[zec]);have e2:st.take rd.branches.length=st:=zur (by have:=Hstl.out;omega);rw[e1,e2] at hE;exact hE
      have HE2:=hdn hE2;clear hE hE2 hjj;go_wp2
      go_roundw
      case rel=>exact⟨k+1,by omega,by go_num,HE2.out⟩
      case measure=>simp[intOf];omega
   ·have hkk:k=rs.length:=by omega
    have hE2:NsE w wr s w.heap.size nw gs gl gf wt (bsR 0 rs) wt:=by
     rw[hkk,zuq,Hwt.out] at hE;exact hE
    have HE2:=hdn hE2;clear hE hE2;go_wp2;go_ret;obtain⟨n,sv,fv,mk,f,fr,F,φ,A0,A1,t0,e0,t1,e1,tg,fn,h1,h2⟩:=HE2.out;exact⟨s,w.heap.size,gs,gl,gf,n,sv,fv,mk,f,fr,F,φ,A0,A1,t0,e0,t1,e1,tg,fn,rfl,by omega,h2⟩
end Go.Proofs.YthddplbodacjgaaGreatDoor
