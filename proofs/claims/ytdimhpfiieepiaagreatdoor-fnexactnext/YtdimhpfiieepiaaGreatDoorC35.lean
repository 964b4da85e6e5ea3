import Derived.Test.YtdimhpfiieepiaaGreatDoorC34
import Derived.RangeFuncNested
import Derived.RangeFuncBound
import Derived.RangeFuncCalls
import Derived.RangeFuncLeaves
import Derived.Shelf.Abstract
import Derived.Shelf.RegionOpen
import Derived.WalkKit
import Derived.OwnWalkIn
import Derived.TacticsInMore
import Derived.LoopNIn
import Derived.LoopIn
namespace Go.Proofs.YtdimhpfiieepiaaGreatDoor
section
open Go.RowKit
theorem zb3{w:World}:∀(p:Pt) (v:Value),zan w v p->zcM v (wPt p)
 |.set f,_,⟨mg,h1,_⟩=>by subst h1;exact ziJ _
 |.seq l r,_,⟨lv,rv,h1,h2,h3⟩=>by
  subst h1;have hl:=zbw l lv h2;have hr:=zbw r rv h3;exact ziI lv rv _ _ (zb3 l lv h2) (zb3 r rv h3) (by omega) (by omega) (by omega) (by omega)
 |.alt l r,_,⟨lv,rv,h1,h2,h3⟩=>by
  subst h1;have hl:=zbw l lv h2;have hr:=zbw r rv h3;exact ziF lv rv _ _ (zb3 l lv h2) (zb3 r rv h3) (by omega) (by omega) (by omega) (by omega)
 |.rep b mn mx,_,⟨lv,h1,h2,h3⟩=>by
  subst h1;have hl:=zbw b lv h2;exact ziH lv _ mn mx (zb3 b lv h2) (by omega) (by omega) h3
 |.grp b g,_,⟨lv,h1,h2⟩=>by
  subst h1;exact ziG lv g _ (zb3 b lv h2)
structure BfA(W:World)(s bt ga gl nw:Nat)(e:Bool)(wr:World)(k:Nat)(br:Nat->Nat)(ba:Option Addr)(bc:Nat):Prop where
 tc:zam (· = s) W wr
 box:wr.heap[s]?=some (.cells #[.pointer (some ⟨bt,0,none⟩),.bool e,.slice (some ⟨ga,0,none⟩) nw nw,.slice (some ⟨gl,0,none⟩) nw nw,.slice ba k bc,.pointer none,.pointer none] 229 (0,0))
 own:wr.ownsRow W.heap.size 193 1 (.slice ba k bc) k (slcL br nw k)
 set:∀p,p<k->zar wr nw (br p) za0/\W.heap.size<=br p
 inj:∀p q,p<k->q<k->br p=br q->p=q
theorem zs1(B m nw gn:Nat)(sv:Value)(br:Nat->Nat)(w:World)(h:w.ownsRow B 193 1 sv m (slcL br nw m))(hm:m<=64000)(hB:B<=w.heap.size):
  ∃g c w',(appP #[227,227] 227 #[sv,.slice (some ⟨w.heap.size,0,none⟩) 1 1]).run Tryz.prog (w.alloc (.cells #[.slice (some ⟨gn,0,none⟩) nw nw] 193))=.ok (.slice (some ⟨g,0,none⟩) (m+1) c) w'/\w'.ownsRow B 193 1 (.slice (some ⟨g,0,none⟩) (m+1) c) (m+1) (slcL br nw m++[.slice (some ⟨gn,0,none⟩) nw nw])/\w.grownBy w' sv.ownBlock:=by
 obtain⟨i1,hj,hy0,hy1,hy2⟩:=info_parts Tryz.infoPosSet;obtain⟨v',w8,hap,hown,hgr,-⟩:=run_append_own (P:=Tryz.prog) (w.alloc (.cells #[.slice (some ⟨gn,0,none⟩) nw nw] 193)) B 227 227 193 i1 _ 1 24 Tryz.underlying227 hj hy0 hy1 hy2 rfl (by decide) sv m (slcL br nw m) (h.alloc _) ⟨w.heap.size,0,none⟩ 1 1 [.slice (some ⟨gn,0,none⟩) nw nw] rfl (fun j u hj=>by
   match j,hj with
   |0,hj=>simp at hj;subst hj;simp[Addr.add]) (by intro u hu;simp at hu;subst hu;rfl) (by unfold maxLen;omega) (by omega) (by simp;omega)
 obtain⟨g8,cap8,rfl⟩:=ziD hown;exact⟨g8,cap8,w8,hap,hown,⟨hgr.os,hgr.tape,hgr.output,zvK (by simp) hgr.size,fun k hk hne=>by rw[hgr.block k (by simp;omega) hne,Below.heap_alloc _ _ _ hk]⟩⟩
theorem BfA.next{W:World}{s bt ga gl nw:Nat}{e:Bool}{wr:World}{k:Nat}{br:Nat->Nat}{ba:Option Addr}{bc:Nat}(h:BfA W s bt ga gl nw e wr k br ba bc)(hk:k<=64000)(hs:s<W.heap.size){cs:Nat}{x:Value}(hcs:wr.heap[cs]?=some (.cells #[x] 197 (0,0))){w6:World}(hp:zar w6 nw wr.heap.size za0)(hg:wr.drew.grownBy w6 none):
  ∃g c w10,(w6.cell? ⟨cs,0,none⟩=some x/\w6.cell? ⟨s,4,none⟩=some (.slice ba k bc))/\((w6.alloc (.cells #[.slice (some ⟨wr.heap.size,0,none⟩) nw nw] 193)).cell? ⟨cs,0,none⟩=some x/\(w6.alloc (.cells #[.slice (some ⟨wr.heap.size,0,none⟩) nw nw] 193)).cell? ⟨s,4,none⟩=some (.slice ba k bc))/\
   (appP #[227,227] 227 #[.slice ba k bc,.slice (some ⟨w6.heap.size,0,none⟩) 1 1]).run Tryz.prog (w6.alloc (.cells #[.slice (some ⟨wr.heap.size,0,none⟩) nw nw] 193))=.ok (.slice (some ⟨g,0,none⟩) (k+1) c) w10/\w10.cell? ⟨cs,0,none⟩=some x/\w10.frozen? ⟨s,4,none⟩=false/\w10.cell? ⟨s,4,none⟩=some (.slice ba k bc)/\
   BfA W s bt ga gl nw e (w10.setCell ⟨s,4,none⟩ (.slice (some ⟨g,0,none⟩) (k+1) c)) (k+1) (fun i=>if i=k then wr.heap.size else br i) (some ⟨g,0,none⟩) c:=by
 have sz:W.heap.size<=wr.heap.size:=h.tc.size;have b6:∀j,j<wr.heap.size->w6.heap[j]?=wr.heap[j]?:=fun j hj=>hg.block j hj (by simp)
 have box6:=(b6 s (by omega)).trans h.box;have cs6:=(b6 cs (zuH.1 hcs).1).trans hcs;have own6:w6.ownsRow W.heap.size 193 1 (.slice ba k bc) k (slcL br nw k):=zaw h.own fun j c e=>(b6 j (zuH.1 e).1).trans e
 have sz6:wr.heap.size<=w6.heap.size:=hg.size;obtain⟨g,c,w10,hap,own10,gr10⟩:=zs1 W.heap.size k nw wr.heap.size (.slice ba k bc) br w6 own6 hk (by omega);have ob:∀j,(Value.slice ba k bc).ownBlock=some j->W.heap.size<=j/\∃cur,w6.heap[j]?=some (.cells cur 193 (0,0)):=fun j e=>zaZ own6 e
 have keep:∀(j:Nat) (cs:Array Value) (t:TypeId),w6.heap[j]?=some (.cells cs t (0,0))->t≠193->w10.heap[j]?=some (.cells cs t (0,0)):=fun j cs t e hn=>(gr10.block j (zuH.1 e).1 (fun e2=>by
  obtain⟨-,cur,e3⟩:=ob j e2.symm;rw[e] at e3;exact hn (zad e3))).trans e
 have box10:=keep s _ _ box6 (by decide);have cs10:=keep cs _ _ cs6 (by decide);have hot:∀j,j≠s->(w10.setCell ⟨s,4,none⟩ (.slice (some ⟨g,0,none⟩) (k+1) c)).heap[j]?=w10.heap[j]?:=fun j hj=>zv0 _ _ _ _ (show j≠s from hj)
 have pos:∀(j:Nat) (T:Nat->Nat),zar w6 nw j T->zar (w10.setCell ⟨s,4,none⟩ (.slice (some ⟨g,0,none⟩) (k+1) c)) nw j T:=fun j T hp=>⟨(hot j (fun e=>by have:=hp.row;rw[e,box6] at this;exact absurd (zad this) (by decide))).trans (keep j _ _ hp.row (by decide)),hp.lt⟩
 refine⟨g,c,w10,⟨(zvW _ _ _ _ _ _ cs6:_=_),(zaS box6).2.2.2.2.1⟩,⟨(zvW _ _ _ _ _ _ (zak cs6):_=_),(zaS (zak box6)).2.2.2.2.1⟩,hap,(zvW _ _ _ _ _ _ cs10:_=_),zvY _ _ 4 _ _ box10,(zaS box10).2.2.2.2.1,?_,zv1 _ _ 4 _ _ _ box10,?_,fun p hp'=>?_,fun p q hp' hq'=>?_⟩
 ·refine⟨gr10.os.trans (hg.os.trans h.tc.os),gr10.tape.trans (hg.tape.trans h.tc.tape),gr10.output.trans (hg.output.trans h.tc.output),?_,fun j h1 h2=>?_⟩
  ·have:=gr10.size;simp;omega
  ·rw[hot j h2,gr10.block j (by omega) (fun e=>by have:=(ob j e.symm).1;omega),b6 j (by omega),h.tc.same j h1 h2]
 ·rw[<-zkE];exact zaw own10 fun j cs e=>(hot j (fun e2=>by rw[e2,box10] at e;exact absurd (zad e) (by decide))).trans e
 ·by_cases e:p=k
  ·simp only[zv3 e];exact⟨pos _ _ hp,by omega⟩
  ·simp only[zv2 e];have:=h.set p (by omega);exact⟨pos _ _ ⟨(b6 _ this.1.glt).trans this.1.row,this.1.lt⟩,this.2⟩
 ·have l:∀p,p<k->br p<wr.heap.size:=fun p hp=>(h.set p hp).1.glt
  by_cases e1:p=k<;>by_cases e2:q=k
  ·intro _;omega
  ·simp only[zv3 e1,zv2 e2];intro e3;have:=l q (by omega);omega
  ·simp only[zv2 e1,zv3 e2];intro e3;have:=l p (by omega);omega
  ·simp only[zv2 e1,zv2 e2];exact h.inj p q (by omega) (by omega)
end
section
open Go.RowKit
structure BfB(W:World)(n nw:Nat)(br:Nat->Nat)(F:Nat->Nat->Nat)(wr:World)(k:Nat)(G:Nat->Nat->Nat):Prop where
 tc:zam (fun j=>∃p,p<n/\j=br p) W wr
 set:∀p,p<n->zar wr nw (br p) (G p)/\∀q,zai (G p) q=true↔q<k/\zai (F q) p=true
theorem zmh{w1 W2 W3 W5 W6 wr:World}{n nw bt ga gl s:Nat}{e:Bool}{M:PA}{sv:Value}{fa ba:Option Addr}{fc bc:Nat}{mk0:Nat->Nat}{f0:Nat->Nat->Bool}{fr0:Nat->Nat}{F0:Nat->Nat->Nat}{mk:Nat->Nat}{f:Nat->Nat->Bool}{fr br:Nat->Nat}{F G:Nat->Nat->Nat}{A L:Nat->Nat}
  (hbt:bt=w1.heap.size) (h2:bt<W2.heap.size) (hp:0<bt) (D:WrD bt W2 0 nw bt mk0 f0 fr0 F0 W3 n ga gl e M sv (.slice fa n fc) mk f fr F A L)
  (hs:s=W3.heap.size) (hs5:s<W5.heap.size) (h5:Below W3.heap.size W3 W5) (hA:BfA W5 s bt ga gl nw e W6 n br ba bc) (hB:BfB W6 n nw br F wr n G):
  StdC wr s ⟨bt,wr.heap.size,n,nw,bt,ga,gl,sv,fa,fc,ba,bc,fr,br,mk,f,F,G,A,L,e⟩/\wr.heap[s]?=some (.cells (zjv ⟨bt,wr.heap.size,n,nw,bt,ga,gl,sv,fa,fc,ba,bc,fr,br,mk,f,F,G,A,L,e⟩ (.pointer none) (.pointer none)) 229 (0,0))/\zdT M n nw f F G A L/\(e=true↔M.e):=by
 have sz5:=h5.size;have sz6:=hA.tc.size;have szr:=hB.tc.size;have hbr:∀p,p<n->W5.heap.size<=br p:=fun p hp=>(hA.set p hp).2
 have same6:∀k,k<W5.heap.size->wr.heap[k]?=W6.heap[k]?:=fun k hk=>hB.tc.same k (by omega) (fun⟨p,h1,h2⟩=>by have:=hbr p h1;omega)
 have same:∀k,k<W3.heap.size->wr.heap[k]?=W3.heap[k]?:=fun k hk=>(same6 k (by omega)).trans ((hA.tc.same k (by omega) (by omega)).trans (h5.block k hk))
 have cell:∀k o,k<W3.heap.size->wr.cell? ⟨k,o,none⟩=W3.cell? ⟨k,o,none⟩:=fun k o hk=>World.cell?_of_block (same k hk)
 have pos:∀{g:Nat} {T:Nat->Nat},zar W3 nw g T->zar wr nw g T:=fun h=>⟨(same _ h.glt).trans h.row,h.lt⟩
 have lt3:∀{k:Nat} {o:Obj},W3.heap[k]?=some o->k<W3.heap.size:=fun h=>(zuH.1 h).1
 have hbtl:=lt3 D.tk.box;have sz3:=D.kp.size;have hD:∀q,M.D q↔q<n:=fun q=>(D.good.dm q).symm.trans ⟨fun h=>h.2,fun h=>⟨zvT _,h⟩⟩
 have hfo:∀p q,p<n->zai (F p) q=true->q<n:=fun p q hp h=>(D.good.fo p q ⟨zvT _,hp⟩ h).2
 have svs:0<n->∃gs cs:Nat,sv=.slice (some ⟨gs,0,none⟩) n cs/\gs<wr.heap.size/\∀p,p<n->wr.cell? ⟨gs,p,none⟩=some (.pointer (some ⟨mk p,0,none⟩)):=fun hn=>by
  obtain⟨gs,cs,h1,h2,h3⟩:=D.tk.setsAt hn;exact⟨gs,cs,h1,by omega,fun p hp=>(cell _ _ h2).trans (h3 p hp)⟩
 have mks:∀p,p<n->wr.heap[mk p]?=some (.cells (zas (f p)) 293 (0,0))/\mk p<wr.heap.size:=fun p hp=>by
  have h1:=D.tk.mks p hp;have h2:=lt3 h1;exact⟨(same _ h2).trans h1,by omega⟩
 have bru:za7 wr:=D.tk.bru.keep (same 0 (by omega));have lga:=D.fg.fi.glt;have lgl:=D.fg.la.glt;have c1:StC wr.heap.size wr n nw bt ga gl (.slice fa n fc) sv (.slice fa n fc) fr mk F A L f:=by
  refine⟨(same _ hbtl).trans D.tk.box,by omega,svs,mks,fun hn=>?_,fun p hp=>?_,⟨pos D.fg.fi,by omega⟩,⟨pos D.fg.la,by omega⟩,bru,by omega,zvJ _,D.tk.n64,D.tk.nwl,fun p q h1 _ h3=>hfo p q h1 h3,fun q _ h=>(D.good.fi q h).2⟩
  ·obtain⟨g,cap,cur,h1,h2,h3⟩:=zbz D.tk.fo hn;have hl:=lt3 h2;exact⟨g,cap,h1,by omega,fun p hp=>by rw[cell g p hl,zvW _ _ _ _ _ _ h2,h3 p hp];simp[slcL,hp]⟩
  ·have h1:=D.tk.fol.rows p hp;exact⟨pos h1,by have:=h1.glt;omega⟩
 have c2:StC wr.heap.size wr n nw bt gl ga (.slice ba n bc) sv (.slice fa n fc) br mk G L A f:=by
  refine⟨c1.box,c1.btB,svs,mks,fun hn=>?_,fun p hp=>⟨(hB.set p hp).1,(hB.set p hp).1.glt⟩,c1.pl,c1.pa,bru,c1.pos,zvJ _,D.tk.n64,D.tk.nwl,fun p q h1 _ h3=>(((hB.set p h1).2 q).1 h3).1,fun q _ h=>(D.good.la q h).2⟩;obtain⟨g,cap,cur,h1,h2,h3⟩:=zbz hA.own hn;have hl:g<W6.heap.size:=(zuH.1 h2).1;have hr:wr.heap[g]?=some (.cells cur 193 (0,0)):=(hB.tc.same g hl (fun⟨p,h4,h5⟩=>by
   have:=(hA.set p h4).1.row;rw[<-h5,h2] at this;exact absurd (zad this) (by decide))).trans h2
  exact⟨g,cap,h1,by omega,fun p hp=>by rw[zvW _ _ _ _ _ _ hr,h3 p hp];simp[slcL,hp]⟩
 refine⟨⟨c1,c2,hp,by show bt<=s;omega,by show s<wr.heap.size;omega,zvJ _,by have:=D.na;show bt<=ga;omega,by have:=D.nl;show bt<=gl;omega,fun k h=>?_,fun k h=>?_,fun k h=>?_,fun p hp=>?_,fun p hp=>?_,by show bt≠s;omega,by show ga≠s;omega,by show gl≠s;omega,fun p hp=>⟨?_,?_⟩⟩,(same6 s hs5).trans hA.box,⟨D.tk.n64,hD,fun q h=>(hD q).2 ((D.good.fi q ((D.good.fs q).2 h)).2),fun q h=>(hD q).2 ((D.good.la q ((D.good.ls q).2 h)).2),fun p q h1 h2=>?_,fun q c hq=>(D.good.tks q c ⟨zvT _,hq⟩).symm,fun q r hq _=>D.good.fl q r ⟨zvT _,hq⟩,fun q r hq hr=>?_,fun q _=>D.good.fs q,fun q _=>D.good.ls q⟩,D.good.em⟩
 ·obtain⟨h1,cur,h2⟩:=zaZ D.tk.so h;have:=lt3 h2;exact⟨h1,by omega⟩
 ·obtain⟨h1,cur,h2⟩:=zaZ D.tk.fo h;have:=lt3 h2;exact⟨h1,by omega⟩
 ·obtain⟨h1,-⟩:=zaZ hA.own h;exact⟨by show bt<=k;omega,by omega⟩
 ·have:=D.new p (zvT _) hp;show bt<=fr p;omega
 ·have:=hbr p hp;show bt<=br p;omega
 ·have:=(D.tk.fol.rows p hp).glt;show fr p≠s;omega
 ·have:=hbr p hp;show br p≠s;omega
 ·have hq:=(hD p).1 h1;exact(hD q).2 (hfo p q hq ((D.good.fl p q ⟨zvT _,hq⟩).2 h2))
 ·rw[(hB.set q hq).2 r];exact⟨fun h=>(D.good.fl r q ⟨zvT _,hr⟩).1 h.2,fun h=>⟨hr,(D.good.fl r q ⟨zvT _,hr⟩).2 h⟩⟩
end
section
open Go
section
variable {P:Program} {ops:Array Oper} {md:Region.Mode} {C:World->Prop} {Q:Exit->Act->World->Prop}
def zbJ(P:Program)(ops:Array Oper)(C:World->Prop)(o:Oper)(v:Value)(a:Act):Prop:=
 (Region.wanted o (yielded ops a.tmps)=true/\∀w,C w->(execOp a.eval o).run P w=.ok (.value v) w)\/(Region.wanted o (yielded ops a.tmps)=false/\v=undef)
theorem zbJ.of_same{o:Oper}{v:Value}{a a':Act}(hy:zbJ P ops C o v a)(he:execOp a'.eval o=execOp a.eval o)(hw:Region.wanted o (yielded ops a'.tmps)=Region.wanted o (yielded ops a.tmps)):zbJ P ops C o v a':=by
 unfold zbJ at *;rw[he,hw];exact hy
theorem zbJ.fire{i:Nat}{o:Oper}{v:Value}{a:Act}(hi:ops[i]?=some o)(hy:zbJ P ops C o v a){K:Act->World->Prop}{w:World}(hC:C w)(h:K (a.put o.dst v) w):wpOp P ops Q i K a w:=by
 unfold Go.wpOp;simp only[hi];rcases hy with ⟨hw,hv⟩|⟨hw,rfl⟩
 ·simp only[hw,if_true,Oper.wp,hv w hC,Oper.upon];exact .inl h
 ·simp only[hw,Bool.false_eq_true,if_false];exact h
theorem zqV{j:Nat}{oi oj:Oper}{v:Value}(hj:ops[j]?=some oj)(hap:oi.apart ops oj=true)(hsi:∀cs b,oi.op≠.select cs b)(hsj:∀cs b,oj.op≠.select cs b)
  (hQ:∀c a w,Q (.panic c) (a.put oi.dst v) w->Q (.panic c) a w) {K:Act->World->Prop} {a:Act} {w:World} (hy:zbJ P ops C oi v a) (h:wpOp P ops Q j K (a.put oi.dst v) w):
  wpOp P ops Q j (fun a' w'=>zbJ P ops C oi v a'/\K (a'.put oi.dst v) w') a w:=by
 obtain⟨h1,h2,h3⟩:=Oper.apart_spec hap;have keep:∀(a:Act),zbJ P ops C oi v a->∀u,zbJ P ops C oi v (a.put oj.dst u):=fun a hy u=>hy.of_same (execOp_put oi hsi a oj.dst u h3) (wanted_put oi a oj.dst u h3)
 unfold wpOp at *;simp only[hj] at *;rw[wanted_put oj a oi.dst v h1] at h
 by_cases hw:Region.wanted oj (yielded ops a.tmps)=true
 ·simp only[hw,if_true] at h ⊢;rcases h with h|⟨hasks,hlets⟩
  case inr=>exact .inr ⟨by unfold Oper.asks at *;rw[execOp_put oj hsj a oi.dst v h1] at hasks;exact hasks,hlets⟩
  refine .inl ?_;unfold Oper.wp at *;rw[execOp_put oj hsj a oi.dst v h1] at h;generalize (execOp a.eval oj).run P w=r at *;cases r with
  |ok n w'=>
   cases n<;>simp only[Oper.upon] at h ⊢
   case value u=>exact⟨keep a hy u,by rw[<-Act.put_comm a v u h2];exact h⟩
   case skip=>exact⟨keep a hy _,by rw[<-Act.put_comm a v undef h2];exact h⟩
   case defer d=>
    have hyd:zbJ P ops C oi v {a with defers:=d::a.defers}:=hy.of_same rfl rfl;refine⟨keep _ hyd _,?_⟩;rw[<-Act.put_comm _ v undef h2,<-Act.put_defers];exact h
   case enter f args=>
    refine Calls.mono h fun e w'' he=>?_
    cases e with
    |returned u=>exact⟨keep a hy u,by rw[<-Act.put_comm a v u h2];exact he⟩
    |panicked c=>exact hQ _ _ _ he
    |outgrown=>exact he
   case row row args=>exact Rows.mono h fun u w'' he=>⟨keep a hy u,by rw[<-Act.put_comm a v u h2];exact he⟩
  |halt x w'=>
   cases x<;>simp only[Oper.upon] at h ⊢
   case panic u=>exact hQ _ _ _ h
 ·have hw':Region.wanted oj (yielded ops a.tmps)=false:=by simpa using hw
  simp only[hw',Bool.false_eq_true,if_false] at h ⊢;exact⟨keep a hy _,by rw[<-Act.put_comm a v undef h2];exact h⟩
def zdS(P:Program)(md:Region.Mode)(ops:Array Oper)(C:World->Prop)(t:Nat)(Q:Exit->Act->World->Prop):Nat->Array Bool->Act->World->Prop
 |0,listed,a,w=>Region.ready md ops listed=[]/\Q .normal a w
 |fuel+1,listed,a,w=>(Region.ready md ops listed=[]->Q .normal a w)/\
  ∀i∈Region.ready md ops listed,wpOp P ops Q i (fun a' w'=>((listed.setIfInBounds i true).getD t true=false->C w')/\zdS P md ops C t Q fuel (listed.setIfInBounds i true) a' w') a w
theorem zeu{t:Nat}:∀(fuel:Nat) (listed:Array Bool) (a:Act) (w:World),zdS P md ops C t Q fuel listed a w->wpAny P md ops Q fuel listed a w
 |0,_,_,_,h=>h
 |fuel+1,_,_,_,h=>⟨h.1,fun i hi=>wpOp_mono (fun a w k=>zeu fuel _ a w k.2) (h.2 i hi)⟩
theorem zcz{l:Array Bool}{i j:Nat}(h:i≠j):(l.setIfInBounds i true).getD j true=l.getD j true:=getD_set_ne true h
theorem zeV{i t:Nat}{oi:Oper}{v:Value}(hi:ops[i]?=some oi)(hti:t≠i)(hlast:∀listed:Array Bool,zbx md ops listed->listed.getD t true=true->listed.getD i true=true)
  (hsel:∀(j:Nat) (o:Oper) cs b,ops[j]?=some o->o.op≠.select cs b) (hQ:∀c a a' w,Q (.panic c) a w->Q (.panic c) a' w):
  ∀(fuel:Nat) (listed:Array Bool) (a:Act) (w:World),zbx md ops listed->
   (∀j oj,ops[j]?=some oj->j≠i->listed.getD j true=false->(∀e∈oj.after,Region.binds md e=true->e.on≠i)->oi.apart ops oj=true)->
   i∈Region.ready md ops listed->zbJ P ops C oi v a->C w->
   zdS P md ops C t Q fuel (listed.setIfInBounds i true) (a.put oi.dst v) w->zdS P md ops C t Q (fuel+1) listed a w:=by
 intro fuel
 induction fuel with
 |zero=>
  intro listed a w hcl _ hr hy hC H;refine⟨fun h=>(by rw[h] at hr;cases hr),fun j hj=>?_⟩
  by_cases hji:j=i
  ·subst hji;exact hy.fire hi hC ⟨fun _=>hC,H⟩
  ·have:=ready_mono hj hji;rw[H.1] at this;cases this
 |succ fuel ih=>
  intro listed a w hcl hfree hr hy hC H;refine⟨fun h=>(by rw[h] at hr;cases hr),fun j hj=>?_⟩
  by_cases hji:j=i
  ·subst hji;exact hy.fire hi hC ⟨fun _=>hC,H⟩
  ·have h1:=H.2 j (ready_mono hj hji);obtain⟨hjun,oj,hoj,hall⟩:=mem_ready.1 hj;have hiun:=(mem_ready.1 hr).1;have hnot:∀e∈oj.after,Region.binds md e=true->e.on≠i:=fun e he hb heq=>by
    have h1:=hall e he hb;rw[heq] at h1;rcases Nat.lt_or_ge i listed.size with h'|h'
    ·simp[h'] at hiun h1;rw[hiun] at h1;cases h1
    ·simp[Array.getElem?_eq_none h'] at h1
   have h2:=zqV hoj (hfree j oj hoj hji hjun hnot) (fun cs b=>hsel i oi cs b hi) (fun cs b=>hsel j oj cs b hoj) (fun c a w h=>hQ c _ _ w h) hy h1;have hfree':∀k ok,ops[k]?=some ok->k≠i->(listed.setIfInBounds j true).getD k true=false->(∀e∈ok.after,Region.binds md e=true->e.on≠i)->oi.apart ops ok=true:=fun k ok hk hki hun hno=>by
    refine hfree k ok hk hki ?_ hno
    by_cases hjk:j=k
    ·subst hjk;exact hjun
    ·rw[zcz hjk] at hun;exact hun
   have hclj:=hcl.set hj;have htj:(listed.setIfInBounds j true).getD t true=false:=by
    cases hb:(listed.setIfInBounds j true).getD t true
    ·rfl
    ·have h3:=hlast _ hclj hb;rw[zcz hji,hiun] at h3;cases h3
   refine wpOp_mono (fun a' w' h3=>?_) h2;obtain⟨hy',hC',hrest⟩:=h3;have hCw:C w':=hC' (by rw[Array.setIfInBounds_comm _ _ (Ne.symm hji),zcz (Ne.symm hti)];exact htj);exact⟨fun _=>hCw,ih _ a' w' hclj hfree' (ready_mono hr (Ne.symm hji)) hy' hCw (by rw[Array.setIfInBounds_comm _ _ hji];exact hrest)⟩
def zl4(o:Oper):Bool:=match o.op with
 |.move _=>true
 |.assign _=>true
 |.load _ _=>true
 |.fieldAddr _ _ _=>true
 |.indexAddr _ _ _=>true
 |.binOp _ _ _ _ _=>true
 |_=>false
theorem zkC{s:Sem Value}{w w':World}{n:Next}(h:(do pure (Next.value (<-s)):Sem Next).run P w=.ok n w'):∃u,n=.value u:=by
 simp only[Sem.run_bind,Sem.run_pure] at h;cases hr:s.run P w with
 |ok u w1=>rw[hr] at h;simp only[Result.andThen] at h;injection h with h1;exact⟨u,h1.symm⟩
 |halt x w1=>rw[hr] at h;simp[Result.andThen] at h
theorem zon{o:Oper}(h:zl4 o=true){ρ:Operand->Value}{w w':World}{n:Next}(hr:(execOp ρ o).run P w=.ok n w'):∃u,n=.value u:=by
 obtain⟨dst,op,type,pos,after,guard⟩:=o;cases op<;>simp only[zl4,Bool.false_eq_true] at h
 all_goals (simp only[execOp] at hr)
 case move x=>rw[Sem.run_pure] at hr;injection hr with h1;exact⟨_,h1.symm⟩
 case assign x=>rw[Sem.run_pure] at hr;injection hr with h1;exact⟨_,h1.symm⟩
 all_goals exact zkC hr
theorem zjm{o:Oper}{a:Act}{K:Act->Prop}(hb:zl4 o=true)(hw:Region.wanted o (yielded ops a.tmps)=true)(h:o.quiet P a C K):∃v,zbJ P ops C o v a/\K (a.put o.dst v):=by
 obtain⟨v,h1,h2⟩:=h;refine⟨v,.inl ⟨hw,fun w hC=>?_⟩,h2⟩;have h3:=h1 w hC;unfold Oper.quietAt at h3;cases hr:(execOp a.eval o).run P w with
 |ok n w'=>
  obtain⟨u,rfl⟩:=zon hb hr;rw[hr] at h3;obtain⟨e1,e2⟩:=h3;rw[e1,e2]
 |halt x w'=>rw[hr] at h3;exact h3.elim
def zfB(Q:Exit->Act->World->Prop):Exit->Act->World->Prop
 |.panic _,_,_=>False
 |.outgrown,_,_=>False
 |.normal,a,w=>Q .normal a w
 |.ret,a,w=>Q .ret a w
 |.exit id,a,w=>Q (.exit id) a w
 |.goto l,a,w=>Q (.goto l) a w
theorem za5{Q:Exit->Act->World->Prop}{a:Act}{w:World}:zfB Q .normal a w=Q .normal a w:=rfl
theorem zcm{Q:Exit->Act->World->Prop}:∀e a w,zfB Q e a w->Q e a w:=fun e a w h=>by
 cases e with
 |panic c=>exact h.elim
 |outgrown=>exact h.elim
 |normal=>exact h
 |ret=>exact h
 |exit id=>exact h
 |goto l=>exact h
end
end
section
open Go.RowKit
end
section
open Go.RowKit
attribute [local go_sem] Oper.semAt_some
end
open Go.RowKit
def zud(D:Nat):Deferred:={target:=.collected D,args:=#[]}
theorem zf6{n:Nat}{P:Program}{fn:Func}{tmps:Array Value}{R:Ending->World->Prop}:∀(Ds:List Nat) (W:World),Ds.Nodup->(∀D∈Ds,W.heap[D]?=some (.deferred (some [])))->
  (∀W',(∀k,k∉Ds->W'.heap[k]?=W.heap[k]?)->W'.heap.size=W.heap.size->W'.os=W.os->W'.tape=W.tape->W'.output=W.output->LeavesInM Fence.wide n P fn tmps R [] .returning W')->
  LeavesInM Fence.wide n P fn tmps R (Ds.map zud) .returning W
 |[],W,_,_,h=>h W (fun _ _=>rfl) rfl rfl rfl rfl
 |D::Ds,W,hnd,hd,h=>by
  have h1:=hd D (by simp);refine⟨by simp,.inl ⟨D,_,rfl,run_takeDeferred h1,?_⟩⟩;have hn:=List.nodup_cons.1 hnd;refine zf6 Ds _ hn.2 (fun D' hD'=>?_) (fun W' hk hsz ho ht hu=>h W' (fun k hkn=>?_) (hsz.trans (by simp)) (ho.trans rfl) (ht.trans rfl) (hu.trans rfl))
  ·exact(World.putObj_heap_other (fun e:D'=D=>hn.1 (e ▸ hD'))).trans (hd D' (by simp[hD']))
  ·rw[hk k (fun e=>hkn (by simp[e])),World.putObj_heap_other (fun e:k=D=>hkn (by simp[e]))]
end Go.Proofs.YtdimhpfiieepiaaGreatDoor
