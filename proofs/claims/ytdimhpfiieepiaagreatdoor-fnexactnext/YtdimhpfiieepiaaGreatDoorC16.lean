import Derived.Test.YtdimhpfiieepiaaGreatDoorC15
import Derived.Deep.RegionHeld3
import Derived.Deep.DrawnRows
import Derived.Deep.QuietTactic
import Derived.BigQuiet
import Derived.OrdersIn
import Derived.RangeFuncCalls
namespace Go.Proofs.YtdimhpfiieepiaaGreatDoor
set_option maxHeartbeats 4000000
set_option maxRecDepth 100000
section
open Go.RowKit
attribute [local go_sem ↓] Go.wp_at_zero Go.wp_at_succ
abbrev BoxB(ao:Option Addr)(ns:List zaq)(c gl cl gr cr:Nat)(t:ByteArray):Obj:=.cells #[.slice ao ns.length c,.slice (some ⟨gl,0,none⟩) ns.length cl,.slice (some ⟨gr,0,none⟩) ns.length cr,.string t] 119 (0,0)
theorem zpe{u:Word}{p:Pt}{i j:Nat}{S:List Bool}{n:Nat}(h:zdd n S (zbc u (In p) (· = i))):S.getD j false=true↔Lg u p i j:=(h.iff j).trans zpL.symm
theorem zf4(ns:List zaq)(n:Nat)(hE:zcl ns n)(w:World)(ao:Option Addr)(c gl cl gr cr:Nat)(t:ByteArray)(i j:Nat)(hbr:BrAt w ns (.slice ao ns.length c) gl gr)(hi:i<=t.size)(hj:j<=t.size)(ht:t.size<=4096):
  Calls Tryz.prog 92 #[.agg #[.slice ao ns.length c,.slice (some ⟨gl,0,none⟩) ns.length cl,.slice (some ⟨gr,0,none⟩) ns.length cr,.string t],.int .i64 n,.int .i64 i,.int .i64 j] w fun e w'=>zq4 w (Lg t.data.toList (tOf ns n) i j) e w':=by
 have hb0:Below w.heap.size w (w.alloc (.cells #[.slice ao ns.length c,.slice (some ⟨gl,0,none⟩) ns.length cl,.slice (some ⟨gr,0,none⟩) ns.length cr,.string t] 119)):=(Below.refl _ _).alloc (zvJ _) _;have k0:(w.alloc (.cells #[.slice ao ns.length c,.slice (some ⟨gl,0,none⟩) ns.length cl,.slice (some ⟨gr,0,none⟩) ns.length cr,.string t] 119)).heap[w.heap.size]?=some (BoxB ao ns c gl cl gr cr t):=zvZ _ _;have hOnly:=fun(W:World)=>zlX t.size i W hi (by omega)
 have hEnds:∀(W:World) (g:Nat),Below w.heap.size w W->zbB W g (zew t.size i)->
   Calls Tryz.prog 90 #[.agg #[.slice ao ns.length c,.slice (some ⟨gl,0,none⟩) ns.length cl,.slice (some ⟨gr,0,none⟩) ns.length cr,.string t],.int .i64 n,.slice (some ⟨g,0,none⟩) (t.size+1) (t.size+1)] W fun r w'=>zoG W t (t.size+1) (zbc t.data.toList (In (tOf ns n)) (· = i)) r w':=fun W g h1 h2=>
  hE W ao c gl cl gr cr t g (t.size+1) (t.size+1) (zew t.size i) _ (hbr.below h1) h2 (by simp[zew]) (zfJ t.size i hi) ht
 clear hE hbr;generalize hT:tOf ns n=T at *;generalize hU:t.data.toList=u at *;obtain⟨q0,q1,q2,q3⟩:=zaH k0;obtain⟨W0,hW0⟩:∃W0,w.alloc (.cells #[.slice ao ns.length c,.slice (some ⟨gl,0,none⟩) ns.length cl,.slice (some ⟨gr,0,none⟩) ns.length cr,.string t] 119)=W0:=⟨_,rfl⟩;rw[hW0] at hb0 k0 q0 q1 q2 q3;have hl0:=zcp k0;have bl0:=hb0.drew;have hi0:(0:Int)<=(j:Int):=by omega
 have hi1:(j:Int)<(t.size:Int)+1:=by omega
 clear k0
 go_enter Tryz.func92,Tryz.ntmps92
 go_wp2;clear hW0
 go_region_with (first|(go_at_call 91;refine(hOnly _).mono ?_;rintro r w3 ⟨rfl,hB3,hb3⟩;have bl3:=hb3.size;have z0:=(hb3.cell (p:=⟨w.heap.size,0,none⟩) hl0).trans q0;have z1:=(hb3.cell (p:=⟨w.heap.size,1,none⟩) hl0).trans q1;have z2:=(hb3.cell (p:=⟨w.heap.size,2,none⟩) hl0).trans q2;have z3:=(hb3.cell (p:=⟨w.heap.size,3,none⟩) hl0).trans q3)|(go_at_call 90;refine(hEnds _ _ (zaa bl0 bl0.size hb3) hB3).mono ?_;rintro r w4 ⟨g4,c4,S4,rfl,hB4,hl4,hs4,hb4⟩;have hcell:=hB4.2 j (by omega);obtain⟨q,hq⟩:∃q,S4.getD j false=q:=⟨_,rfl⟩;rw[hq] at hcell;have Hq:Hid _:=hq;clear hq))
 all_goals
  have bel:=zaa (zaa bl0 bl0.size hb3) (zaa bl0 bl0.size hb3).size hb4;have hiff:q=true↔Lg u T i j:=by rw[<-Hq.out];exact zpe hs4
  go_wp2;go_ret;exact⟨q,rfl,hiff,bel⟩
end
section
variable{sz:Nat}{f:Nat -> List Value}
open Go.RowKit
theorem zav{w w':World}{base:Nat}{e:TypeId}{n:Nat}{v:Value}{xs:List Value}(h:w.ownsRow base e sz v n xs)(hb:∀b,v.ownBlock=some b->w'.heap[b]?=w.heap[b]?):w'.ownsRow base e sz v n xs:=by
 obtain⟨h1,h2⟩:=h;refine⟨h1,?_⟩;rcases h2 with h0|⟨g,cap,cur,rfl,hg,hh,r⟩
 ·exact .inl h0
 ·exact .inr ⟨g,cap,cur,rfl,hg,(hb g rfl).trans hh,r⟩
theorem za9{P:Program}{ops:Array Oper}{rest:List Oper}{o:Oper}{a:Act}{Q:Exit->Act->World->Prop}{W:World}(hgd:o.guard=none)(s x:Operand)(t:TypeId)
  (ho:o.op=.call {callee:=.builtin .append,args:=#[s,x],argTypes:=#[t,t]}) (w:World) (us:Array Value) (e:TypeId) (hW:W=w.alloc (.cells us e)) (H:Nat) (hH:w.heap.size=H)
  (base:Nat) (i:TypeInfo) (z:Value) (sz bytes:Nat) (ht:P.underlying t=some (.slice e)) (hi:P.info? e=some i) (hz:i.zero=some z)
  (hsize:i.size=sz) (hby:i.bytes=bytes) (hzs:z.cells.size=sz) (hsz:0<sz)
  (v:Value) (n:Nat) (xs:List Value) (hs:a.eval s=v) (hown:w.ownsRow base e sz v n xs)
  (hx:a.eval x=.slice (some ⟨H,0,none⟩) 1 1) (hl:us.size=sz) (h1:∀u∈us.toList,u.oneCell'=true) (hn:n<=2000000) (hbytes:bytes<=1000) (hbase:base<=w.heap.size)
  (h:∀g' cap' w',w'.ownsRow base e sz (.slice (some ⟨g',0,none⟩) (n+1) cap') (n+1) (xs++us.toList)->w.grownBy w' v.ownBlock->(v.ownBlock=some g'\/w.heap.size<=g')->wpList P ops Q rest (a.put o.dst (.slice (some ⟨g',0,none⟩) (n+1) cap')) w'):
  wpList P ops Q (o::rest) a W:=by
 subst hW hH;refine wpList_append_lies _ hgd s x t ho base e i z sz bytes ht hi hz hsize hby hzs hsz v n xs hs (hown.alloc _) ⟨w.heap.size,0,none⟩ 1 1 us.toList hx (by simp[hl]) ?_ h1 (by omega) (by unfold maxLen;omega) ?_ (by simp;omega) (w.heap.size+1) (by simp) ?_
 ·intro j y hv;have e1:(⟨w.heap.size,0,none⟩:Addr).add j=⟨w.heap.size,j,none⟩:=by unfold Addr.add;split<;>simp_all
  rw[e1,zvW _ _ _ _ _ _ (zvZ w _)];rw[<-hv];simp
 ·have:(n+1)*bytes<=2000001*1000:=Nat.mul_le_mul (by omega) hbytes;omega
 ·intro g' cap' w' ho2 hgr hat hlt;refine h g' cap' w' ho2 ⟨hgr.os,hgr.tape,hgr.output,zvK (by simp) hgr.size,fun k hk hne=>?_⟩ ?_
  ·rw[hgr.block k (by simp;omega) hne,Below.heap_alloc _ _ _ hk]
  ·rcases hat with hat|hat
   ·exact .inl hat
   ·exact .inr (by omega)
theorem zgq(h:∀k,(f k).length=sz)(n:Nat):((List.range n).flatMap f).length=n*sz:=by
 induction n with
 |zero=>simp
 |succ n ih=>rw[zvy,List.flatMap_append,zvh,ih];simp[h,Nat.succ_mul]
theorem zrl(h:∀k,(f k).length=sz)(n k j:Nat)(hk:k<n)(hj:j<sz):((List.range n).flatMap f)[k*sz+j]?=(f k)[j]?:=by
 induction n with
 |zero=>omega
 |succ n ih=>
  rw[zvy,List.flatMap_append]
  by_cases e:k<n
  ·rw[zu5,ih e];rw[zgq h];have:(k+1)*sz<=n*sz:=Nat.mul_le_mul_right _ e;rw[Nat.succ_mul] at this;omega
  ·have e2:k=n:=by omega
   subst e2;rw[zu6 (by rw[zgq h];omega),zgq h,Nat.add_sub_cancel_left];simp
theorem znL{g:Nat->List Value}(n:Nat)(h:∀k,k<n->f k=g k):(List.range n).flatMap f=(List.range n).flatMap g:=by
 induction n with
 |zero=>rfl
 |succ n ih=>rw[zvy,List.flatMap_append,List.flatMap_append,ih fun k hk=>h k (by omega)];simp[h n (by omega)]
theorem zpn(f:Nat->List Value)(n:Nat):(List.range (n+1)).flatMap f=(List.range n).flatMap f++f n:=by rw[zvy,List.flatMap_append];simp
theorem zcF(w:World)(e:TypeId)(sz B H:Nat)(hB:B<=H)(hH:w.heap.size=H):(w.alloc (.cells #[] e)).ownsRow B e sz (.slice (some ⟨H,0,none⟩) 0 0) 0 []:=by
 subst hH;exact⟨by simp,.inr ⟨w.heap.size,0,#[],rfl,hB,zvZ _ _,by simp,by simp[maxLen],by simp,by simp⟩⟩
end
section
open Go.RowKit
attribute [local go_sem ↓] Go.wp_at_zero Go.wp_at_succ
theorem Tryz.infoPair:(Tryz.prog.info? 71).map (fun i=>(i.zero,i.size,i.bytes))=some (some (.agg #[.int .i64 0,.int .i64 0]),2,16):=by kernel_rfl
theorem zpj(lo hi:Int)(w:World):
  Calls Tryz.prog 77 #[.agg #[.int .i64 lo,.int .i64 hi],.agg #[.int .i64 lo,.int .i64 hi]] w fun e w'=>e=.returned (.bool true)/\Below w.heap.size w w':=by
 go_enter Tryz.func77,Tryz.ntmps77
 go_wp2;go_ret;exact⟨rfl,((Below.refl _ _).alloc (zvJ _) _).alloc (by simp) _⟩
theorem znG{l1 l2:Nat}(v v2:Value)(rs:List (Int×Int))(w:World)(hs:zal l1 w v rs)(hs2:zal l2 w v2 rs):
  Calls Tryz.prog 39 #[v,v2] w fun e w'=>e=.returned (.bool true)/\Below w.heap.size w w':=by
 obtain⟨ao,cap,rfl,hm,hc⟩:=hs;obtain⟨ao2,cap2,rfl,_,hc2⟩:=hs2
 go_enter Tryz.func39,Tryz.ntmps39
 go_wp2
 go_loopw [5] (fun i wr=>∃k:Nat,k<=rs.length/\i=.int .i64 k/\Below w.heap.size w wr)
  (fun i _=>rs.length-(intOf i).toNat)
 case atStart=>exact⟨0,zvT _,rfl,Below.refl _ _⟩
 case round=>
  obtain⟨k,hk,rfl,hb⟩:=hrel
  by_cases hlt:k<rs.length
  ·obtain⟨b,o,lo,hi,rfl,Hn,hbl,c0,c1⟩:=hc.elem hb hlt;obtain⟨b2,o2,lo2,hi2,rfl,Hn2,hbl2,d0,d1⟩:=hc2.elem hb hlt;have hee:=Hn.out.symm.trans Hn2.out;simp only[Prod.mk.injEq] at hee;obtain⟨rfl,rfl⟩:=hee;have hbr:b<wr.heap.size:=zvL hbl hb.size;have hbr2:b2<wr.heap.size:=zvL hbl2 hb.size;have hi0:(0:Int)<=(k:Int):=by omega
   have hi1:(k:Int)<(rs.length:Int):=by omega
   go_wp2
   go_region_held3 (fun w'=>w'.cell? ⟨b,o+k*2,none⟩=some (.int .i64 lo)/\w'.cell? ⟨b,o+k*2+1,none⟩=some (.int .i64 hi)/\w'.cell? ⟨b2,o2+k*2,none⟩=some (.int .i64 lo)/\w'.cell? ⟨b2,o2+k*2+1,none⟩=some (.int .i64 hi)) ((first|go_keep|exact⟨(hcc _ _ hbr).trans c0,(hcc _ _ hbr).trans c1,(hcc _ _ hbr2).trans d0,(hcc _ _ hbr2).trans d1⟩)) ((go_at_call 77;refine(zpj _ _ _).mono ?_;rintro e w2 ⟨rfl,hb2⟩;obtain⟨hcc,_⟩:=zfA hb2))
   go_wp2
   go_roundw
   case rel=>exact⟨k+1,by omega,by go_num,zaa hb.drew hb.size hb2⟩
   case measure=>simp[intOf];omega
  ·go_wp2;go_ret;exact⟨rfl,hb⟩
end
section
open Go.RowKit
attribute [local go_sem ↓] Go.wp_at_zero Go.wp_at_succ
theorem zdj(w:World)(a b:Obj):((w.alloc a).alloc b).heap[w.heap.size+1]?=some b:=by have:=zvZ (w.alloc a) b;simpa using this
def pvF(sp:List (Int×Int))(k:Nat):List Value:=[.int .i64 (sp.getD k (0,0)).1,.int .i64 (sp.getD k (0,0)).2]
def pv(sp:List (Int×Int)):List Value:=(List.range sp.length).flatMap (pvF sp)
theorem zfe(sp:List (Int×Int)):(pv sp).length=sp.length*2:=zgq (f:=pvF sp) (sz:=2) (fun _=>rfl) _
theorem zm1(sp:List (Int×Int)){k j:Nat}(hk:k<sp.length)(hj:j<2):(pv sp)[k*2+j]?=(pvF sp k)[j]?:=zrl (f:=pvF sp) (sz:=2) (fun _=>rfl) _ _ _ hk hj
theorem zun(sp:List (Int×Int)):∀u∈pv sp,u.oneCell'=true:=by
 intro u hu;obtain⟨k,-,h⟩:=List.mem_flatMap.1 hu;simp only[pvF,zvp,List.not_mem_nil,or_false] at h;rcases h with rfl|rfl<;>rfl
theorem zer{w:World}{B g m cap:Nat}{e:TypeId}{sz:Nat}{xs:List Value}(h:w.ownsRow B e sz (.slice (some ⟨g,0,none⟩) m cap) m xs):∀j u,xs[j]?=some u->w.cell? ((⟨g,0,none⟩:Addr).add j)=some u:=by
 intro j u hu;have hj:=(zvc.1 hu).1;have e:(⟨g,0,none⟩:Addr).add j=⟨g,j,none⟩:=by unfold Addr.add;split<;>simp_all
 rw[e,h.cellAt j (by rw[<-h.1];exact hj),hu]
theorem zqk(sp:List (Int×Int))(k:Nat)(a b:Int)(hk:k<sp.length):((pv sp).set (k*2) (.int .i64 a)).set (k*2+1) (.int .i64 b)=pv (sp.set k (a,b)):=by
 apply zu0
 intro x
 by_cases hx:x<sp.length*2
 ·obtain⟨q,r,rfl,hr⟩:∃q r,x=q*2+r/\r<2:=⟨x/2,x%2,by omega,by omega⟩;have hq:q<sp.length:=by omega
  rw[zm1 (sp.set k (a,b)) (by rw[List.length_set];exact hq) hr,zve,zve,zm1 sp hq hr];have hl:(pv sp).length=sp.length*2:=zfe sp;rw[List.length_set,hl]
  by_cases e:q=k
  ·subst e;obtain rfl|rfl:r=0\/r=1:=by omega
   ·rw[zv2 (by omega),zv3 (by omega),zv3 (by omega)];simp[pvF,List.getD_eq_getElem?_getD,hq]
   ·rw[zv3 rfl,zv3 (by omega)];simp[pvF,List.getD_eq_getElem?_getD,hq]
  ·rw[zv2 (by omega),zv2 (by omega)];unfold pvF;rw[zu3,zu3,List.getElem?_set_ne (by omega)]
 ·rw[zvb (by simp[zfe];omega),zvb (by simp[zfe];omega)]
def upG(sp:List (Int×Int))(l:List Up):List (Int×Int):=l.foldl (fun s x=>s.set x.1.toNat ((x.2.1:Int),(x.2.2:Int))) sp
theorem zdp(l:List Up):∀sp,(upG sp l).length=sp.length:=by
 induction l with
 |nil=>intro sp;rfl
 |cons x l ih=>intro sp;show (upG (sp.set _ _) l).length=_;rw[ih,List.length_set]
theorem zfU(sp:List (Int×Int))(l m:List Up):upG sp (l++m)=upG (upG sp l) m:=List.foldl_append
def PlcR(B:Nat)(w:World)(m:Nat)(sp:List (Int×Int))(e:Ending)(w':World):Prop:=
 ∃g cap,e=.returned (.slice (some ⟨g,0,none⟩) m cap)/\w'.ownsRow B 71 2 (.slice (some ⟨g,0,none⟩) m cap) m (pv sp)/\Below w.heap.size w w'
def PlcC(ns:List zaq)(n:Nat):Prop:=
 ∀(w:World) (ao:Option Addr) (c gl cl gr cr:Nat) (t:ByteArray) (B i j g cap m:Nat) (sp:List (Int×Int)) (l:List Up),BrAt w ns (.slice ao ns.length c) gl gr->w.ownsRow B 71 2 (.slice (some ⟨g,0,none⟩) m cap) m (pv sp)->sp.length=m->B<=w.heap.size->0<m->m<=1048576->i<=j->j<=t.size->t.size<=4096->(∀x∈l,1<=x.1/\x.1<(m:Int))->Pl t.data.toList (tOf ns n) i j l->
  Calls Tryz.prog 66 #[.agg #[.slice ao ns.length c,.slice (some ⟨gl,0,none⟩) ns.length cl,.slice (some ⟨gr,0,none⟩) ns.length cr,.string t],.int .i64 n,.int .i64 i,.int .i64 j,.slice (some ⟨g,0,none⟩) m cap] w fun e w'=>PlcR B w m (upG sp l) e w'
theorem zsa(ns:List zaq)(n:Nat)(hn:n<ns.length)(hk:zat ns n=1)(hT:tOf ns n=.set (hasF (ns.getD n .zero).set)):PlcC ns n:=by
 intro w ao c gl cl gr cr t B i j g cap m sp l hbr hown hsm hB hm0 hm1 hij hjt ht hg hpl;rw[hT] at hpl;obtain⟨ao2,cap2,hv,hml,hc⟩:=hbr.nodes;cases hv;obtain⟨b,o,sv,nd,rfl,Hn,hbl,c0,c1,c2,c3,c4,hsv⟩:=hc.elem (Below.refl _ _) hn;have hk1:nd.kind=1:=by rw[<-hk];unfold zat;rw[Hn.out]
 rw[hk1] at c0;obtain⟨sao,scp,rfl,hsm2,hsc⟩:=hsv;have hi0:(0:Int)<=(n:Int):=by omega
 have hi1:(n:Int)<(ns.length:Int):=by omega
 obtain⟨W0,hW0⟩:∃W0,(w.alloc (.cells #[.slice (some ⟨b,o,none⟩) ns.length c,.slice (some ⟨gl,0,none⟩) ns.length cl,.slice (some ⟨gr,0,none⟩) ns.length cr,.string t] 119)).alloc (.cells #[.int .i64 1,.slice sao nd.set.length scp,.int .i64 nd.min,.int .i64 nd.max,.int .i64 nd.group] 149)=W0:=⟨_,rfl⟩;have hb0:Below w.heap.size w W0:=by rw[<-hW0];exact((Below.refl _ _).alloc (zvJ _) _).alloc (by simp) _
 have k1:W0.heap[w.heap.size]?=some (.cells #[.slice (some ⟨b,o,none⟩) ns.length c,.slice (some ⟨gl,0,none⟩) ns.length cl,.slice (some ⟨gr,0,none⟩) ns.length cr,.string t] 119 (0,0)):=by rw[<-hW0];exact zak (zvZ _ _)
 have k2:W0.heap[w.heap.size+1]?=some (.cells #[.int .i64 1,.slice sao nd.set.length scp,.int .i64 nd.min,.int .i64 nd.max,.int .i64 nd.group] 149 (0,0)):=by rw[<-hW0];exact zdj _ _ _
 obtain⟨p0,p1,p2,p3⟩:=zaH k1;obtain⟨q0,q1,q2,q3,q4⟩:=zbV k2;have hs0:w.heap.size+1<W0.heap.size:=zcp k2;have hpl:l=[]:=hpl;subst hpl;clear hT hk hk1 hc hsc hbr k1 k2
 go_enter Tryz.func66,Tryz.ntmps66
 go_wp2;refine zvV (v:=.slice (some ⟨g,0,none⟩) m cap) (by simp[results,Tryz.results66,go_sem]) rfl ⟨g,cap,rfl,?_,?_⟩
 ·exact zac hown hb0
 ·exact hb0
theorem zr7(ns:List zaq)(n x:Nat)(hn:n<ns.length)(hk:zat ns n=5)(hT:tOf ns n=.grp (tOf ns x) (ns.getD n .zero).group)(hL:zbL ns n=x)(hX:PlcC ns x):PlcC ns n:=by
 intro w ao c gl cl gr cr t B i j g cap m sp l hbr hown hsm hB hm0 hm1 hij hjt ht hg hpl;rw[hT] at hpl;obtain⟨ao2,cap2,hv,hml,hc⟩:=hbr.nodes;cases hv;obtain⟨b,o,sv,nd,rfl,Hn,hbl,c0,c1,c2,c3,c4,hsv⟩:=hc.elem (Below.refl _ _) hn;have hk1:nd.kind=5:=by rw[<-hk];unfold zat;rw[Hn.out]
 rw[hk1] at c0;obtain⟨sao,scp,rfl,hsm2,hsc⟩:=hsv;have l0:=hbr.left n hn;rw[hL] at l0;have r0:=hbr.right n hn;obtain⟨ri,hri⟩:∃ri,zbD ns n=ri:=⟨_,rfl⟩;rw[hri] at r0;have hlt:=hbr.ltl;have hrt:=hbr.ltr;have hi0:(0:Int)<=(n:Int):=by omega
 have hi1:(n:Int)<(ns.length:Int):=by omega
 obtain⟨W0,hW0⟩:∃W0,(w.alloc (.cells #[.slice (some ⟨b,o,none⟩) ns.length c,.slice (some ⟨gl,0,none⟩) ns.length cl,.slice (some ⟨gr,0,none⟩) ns.length cr,.string t] 119)).alloc (.cells #[.int .i64 5,.slice sao nd.set.length scp,.int .i64 nd.min,.int .i64 nd.max,.int .i64 nd.group] 149)=W0:=⟨_,rfl⟩;have hb0:Below w.heap.size w W0:=by rw[<-hW0];exact((Below.refl _ _).alloc (zvJ _) _).alloc (by simp) _
 have k1:W0.heap[w.heap.size]?=some (.cells #[.slice (some ⟨b,o,none⟩) ns.length c,.slice (some ⟨gl,0,none⟩) ns.length cl,.slice (some ⟨gr,0,none⟩) ns.length cr,.string t] 119 (0,0)):=by rw[<-hW0];exact zak (zvZ _ _)
 have k2:W0.heap[w.heap.size+1]?=some (.cells #[.int .i64 5,.slice sao nd.set.length scp,.int .i64 nd.min,.int .i64 nd.max,.int .i64 nd.group] 149 (0,0)):=by rw[<-hW0];exact zdj _ _ _
 obtain⟨p0,p1,p2,p3⟩:=zaH k1;obtain⟨q0,q1,q2,q3,q4⟩:=zbV k2;have hs0:w.heap.size+1<W0.heap.size:=zcp k2;obtain⟨l',rfl,hpl⟩:=hpl;rw[Hn.out] at hg ⊢;have hg1:=hg (nd.group,i,j) (by simp);obtain⟨gi,hgi⟩:∃gi:Nat,nd.group=gi:=⟨nd.group.toNat,by omega⟩;have hX':=fun(W:World) (hb:Below w.heap.size w W) (g' cap':Nat) (h1:W.ownsRow B 71 2 (.slice (some ⟨g',0,none⟩) m cap') m (pv (sp.set gi ((i:Int),(j:Int))))) (h2:B<=W.heap.size)=>hX W (some ⟨b,o,none⟩) c gl cl gr cr t B i j g' cap' m (sp.set gi ((i:Int),(j:Int))) l' (hbr.below hb) h1 (by rw[List.length_set];exact hsm) h2 hm0 hm1 hij hjt ht (fun x hx=>hg x (by simp[hx])) hpl
 have H0:EndH w (.slice (some ⟨b,o,none⟩) ns.length c) (.slice (some ⟨gl,0,none⟩) ns.length cl) (.slice (some ⟨gr,0,none⟩) ns.length cr) (.string t) (.int .i64 5) (.slice sao nd.set.length scp) (.int .i64 nd.min) (.int .i64 nd.max) (.int .i64 nd.group) gl gr n (.int .i64 x) (.int .i64 ri) W0:=⟨hb0,hs0,p0,p1,p2,p3,q0,q1,q2,q3,q4,(hb0.cell (p:=⟨gl,n,none⟩) hlt).trans l0,(hb0.cell (p:=⟨gr,n,none⟩) hrt).trans r0,hlt,hrt⟩;rw[hgi] at hg1 q4 c4 hW0;have hsz:W0.heap.size=w.heap.size+1+1:=by rw[<-hW0];simp
 have hgm:gi<m:=by have:=hg1.2;omega
 have hg0:(0:Int)<=(gi:Int):=by omega
 have hg2:(gi:Int)<(m:Int):=by omega
 have Hu:Hid (upG sp ((nd.group,i,j)::l')=upG (sp.set gi ((i:Int),(j:Int))) l'):=by show upG (sp.set nd.group.toNat _) l'=_;rw[hgi,zuO]
 have HB:Hid (B<=w.heap.size):=hB;have Hsm:Hid (sp.length=m):=hsm;clear hT hk hk1 hc hsc hbr hX hpl hg hg1 hri k1 k2 p0 p1 p2 p3 q1 q2 q3 l0 r0 hB hsm;obtain⟨i0,hi,hz0,hz1,hz2⟩:=info_parts Tryz.infoPair;have own0:=zac hown hb0;rw[hgi] at H0
 go_enter Tryz.func66,Tryz.ntmps66
 go_wp2_with (refine wpList_append_lies _ rfl (.tmp 26) (.tmp 27) 33 rfl B 71 i0 _ 2 16 Tryz.underlying33 hi hz0 hz1 hz2 rfl (by omega) (.slice (some ⟨w.heap.size+1+1,0,none⟩) 0 0) 0 [] rfl (zcF W0 71 2 B (w.heap.size+1+1) (by have:=HB.out;omega) hsz) ⟨g,0,none⟩ m cap (pv sp) rfl (by rw[zfe,Hsm.out]) (zer (zac own0 ((Below.refl _ _).alloc (zvJ _) _))) (zun sp) (by omega) (by unfold maxLen;omega) (by omega) (by have:=HB.out;simp;omega) (w.heap.size+1+1+1) (by simp;omega) ?_;intro g1 cap1 w1 own1 grow1 at1 lt1;simp only[zvS,zvw] at own1;obtain⟨u0,u1,y0,y1,f0,f1⟩:=zhb own1 hgm;have hb1:Below W0.heap.size W0 w1:=((Below.refl _ _).alloc (zvJ _) _).grown grow1 (by simp) (by intro k h;simp[Value.ownBlock] at h;omega);have H1:=H0.call hb1;have t4:w1.cell? ⟨w.heap.size+1,4,none⟩=some (.int .i64 gi):=H1.2.2.2.2.2.2.2.2.2.2.1)
 have hg1:W0.heap.size<=g1:=by
  rcases at1 with h|h
  ·simp[Value.ownBlock] at h;omega
  ·omega
 obtain⟨W2,hW2⟩:∃W2,(w1.setCell ⟨g1,gi*2,none⟩ (.int .i64 i)).setCell ⟨g1,gi*2+1,none⟩ (.int .i64 j)=W2:=⟨_,rfl⟩;have own2:W2.ownsRow B 71 2 (.slice (some ⟨g1,0,none⟩) m cap1) m (pv (sp.set gi ((i:Int),(j:Int)))):=by
  rw[<-hW2,<-zqk _ _ _ _ (by rw[Hsm.out];exact hgm)];exact((own1.stored _ _).1.stored _ _).1
 have H2:=H0.call (show Below W0.heap.size W0 W2 by rw[<-hW2];exact(hb1.setCell hg1 _).setCell hg1 _);have H3:=H2.call ((Below.refl W2.heap.size W2).drew);have own3:=zac own2 ((Below.refl W2.heap.size W2).drew);clear H1 u0 u1 y0 y1 f0 f1 t4 own1 grow1 at1 lt1 hb1 own0 hown own2 c0 c1 c2 c3 c4 q0 q4;obtain⟨hbA,hsA,a0A,a1A,a2A,a3A,d0A,d1A,d2A,d3A,d4A,lA,rA,-,-⟩:=H2;obtain⟨hbC,hsC,a0C,a1C,a2C,a3C,d0C,d1C,d2C,d3C,d4C,lC,rC,-,-⟩:=H3;rw[hW2]
 go_region_with (go_at_call 66;refine(hX' _ hbC g1 cap1 own3 (zvK HB.out hbC.size)).mono ?_;rintro e w5 ⟨g5,cap5,rfl,own5,hb5⟩)
 all_goals
  rw[<-Hu.out] at own5;go_wp2;refine zvV (v:=.slice (some ⟨g5,0,none⟩) m cap5) (by simp[results,Tryz.results66,go_sem]) rfl ⟨g5,cap5,rfl,own5,?_⟩;exact zaa hbC hbC.size hb5
theorem zr6(ns:List zaq)(n x y:Nat)(hn:n<ns.length)(hk:zat ns n=3)(hT:tOf ns n=.alt (tOf ns x) (tOf ns y))(hL:zbL ns n=x)(hR:zbD ns n=y)(hE:zcl ns x)(hX:PlcC ns x)(hY:PlcC ns y):PlcC ns n:=by
 intro w ao c gl cl gr cr t B i j g cap m sp l hbr hown hsm hB hm0 hm1 hij hjt ht hg hpl;rw[hT] at hpl;obtain⟨ao2,cap2,hv,hml,hc⟩:=hbr.nodes;cases hv;obtain⟨b,o,sv,nd,rfl,Hn,hbl,c0,c1,c2,c3,c4,hsv⟩:=hc.elem (Below.refl _ _) hn;have hk1:nd.kind=3:=by rw[<-hk];unfold zat;rw[Hn.out]
 rw[hk1] at c0;obtain⟨sao,scp,rfl,hsm2,hsc⟩:=hsv;have l0:=hbr.left n hn;rw[hL] at l0;have r0:=hbr.right n hn;rw[hR] at r0;have hlt:=hbr.ltl;have hrt:=hbr.ltr;have hi0:(0:Int)<=(n:Int):=by omega
 have hi1:(n:Int)<(ns.length:Int):=by omega
 obtain⟨W0,hW0⟩:∃W0,(w.alloc (.cells #[.slice (some ⟨b,o,none⟩) ns.length c,.slice (some ⟨gl,0,none⟩) ns.length cl,.slice (some ⟨gr,0,none⟩) ns.length cr,.string t] 119)).alloc (.cells #[.int .i64 3,.slice sao nd.set.length scp,.int .i64 nd.min,.int .i64 nd.max,.int .i64 nd.group] 149)=W0:=⟨_,rfl⟩;have hb0:Below w.heap.size w W0:=by rw[<-hW0];exact((Below.refl _ _).alloc (zvJ _) _).alloc (by simp) _
 have k1:W0.heap[w.heap.size]?=some (.cells #[.slice (some ⟨b,o,none⟩) ns.length c,.slice (some ⟨gl,0,none⟩) ns.length cl,.slice (some ⟨gr,0,none⟩) ns.length cr,.string t] 119 (0,0)):=by rw[<-hW0];exact zak (zvZ _ _)
 have k2:W0.heap[w.heap.size+1]?=some (.cells #[.int .i64 3,.slice sao nd.set.length scp,.int .i64 nd.min,.int .i64 nd.max,.int .i64 nd.group] 149 (0,0)):=by rw[<-hW0];exact zdj _ _ _
 obtain⟨p0,p1,p2,p3⟩:=zaH k1;obtain⟨q0,q1,q2,q3,q4⟩:=zbV k2;have hs0:w.heap.size+1<W0.heap.size:=zcp k2;have hIn:=fun(W:World) (hb:Below w.heap.size w W)=>zf4 ns x hE W (some ⟨b,o,none⟩) c gl cl gr cr t i j (hbr.below hb) (by omega) hjt ht
 have hX':=fun(W:World) (hb:Below w.heap.size w W) (g' cap':Nat) (h1:W.ownsRow B 71 2 (.slice (some ⟨g',0,none⟩) m cap') m (pv (sp)))=>hX W (some ⟨b,o,none⟩) c gl cl gr cr t B i j g' cap' m (sp) l (hbr.below hb) h1 (by first|exact hsm|(rw[zdp];exact hsm)) (zvK hB hb.size) hm0 hm1 hij hjt ht
 have hY':=fun(W:World) (hb:Below w.heap.size w W) (g' cap':Nat) (h1:W.ownsRow B 71 2 (.slice (some ⟨g',0,none⟩) m cap') m (pv (sp)))=>hY W (some ⟨b,o,none⟩) c gl cl gr cr t B i j g' cap' m (sp) l (hbr.below hb) h1 (by first|exact hsm|(rw[zdp];exact hsm)) (zvK hB hb.size) hm0 hm1 hij hjt ht
 have H0:EndH w (.slice (some ⟨b,o,none⟩) ns.length c) (.slice (some ⟨gl,0,none⟩) ns.length cl) (.slice (some ⟨gr,0,none⟩) ns.length cr) (.string t) (.int .i64 3) (.slice sao nd.set.length scp) (.int .i64 nd.min) (.int .i64 nd.max) (.int .i64 nd.group) gl gr n (.int .i64 x) (.int .i64 y) W0:=⟨hb0,hs0,p0,p1,p2,p3,q0,q1,q2,q3,q4,(hb0.cell (p:=⟨gl,n,none⟩) hlt).trans l0,(hb0.cell (p:=⟨gr,n,none⟩) hrt).trans r0,hlt,hrt⟩;have H1:=H0.call ((Below.refl W0.heap.size W0).drew);have Hpl:Hid ((Lg t.data.toList (tOf ns x) i j/\Pl t.data.toList (tOf ns x) i j l)\/(¬Lg t.data.toList (tOf ns x) i j/\Pl t.data.toList (tOf ns y) i j l)):=hpl;clear hT hk hk1 hc hsc hbr hX hY hE hpl k1 k2 p0 p1 p2 p3 q1 q2 q3 q4 l0 r0;obtain⟨-,-,a0,a1,a2,a3,d0,d1,d2,d3,d4,lA,rA,-,-⟩:=H0
 go_enter Tryz.func66,Tryz.ntmps66
 go_wp2;obtain⟨hbC,hsC,a0C,a1C,a2C,a3C,d0C,d1C,d2C,d3C,d4C,lC,rC,-,-⟩:=H1
 go_region_with (go_at_call 92;refine(hIn _ hbC).mono ?_;rintro e w4 ⟨q,rfl,hq,hb4⟩)
 all_goals
  have H4:EndH w (.slice (some ⟨b,o,none⟩) ns.length c) (.slice (some ⟨gl,0,none⟩) ns.length cl) (.slice (some ⟨gr,0,none⟩) ns.length cr) (.string t) (.int .i64 3) (.slice sao nd.set.length scp) (.int .i64 nd.min) (.int .i64 nd.max) (.int .i64 nd.group) gl gr n (.int .i64 x) (.int .i64 y) w4:=EndH.call ⟨hbC,hsC,a0C,a1C,a2C,a3C,d0C,d1C,d2C,d3C,d4C,lC,rC,hlt,hrt⟩ hb4;have H5:=H4.call ((Below.refl w4.heap.size w4).drew);have own4:=zac hown H5.1;clear hbC hsC a0C a1C a2C a3C d0C d1C d2C d3C d4C lC rC a0 a1 a2 a3 d0 d1 d2 d3 d4 lA rA hb4;obtain⟨hbA,hsA,a0A,a1A,a2A,a3A,d0A,d1A,d2A,d3A,d4A,lA,rA,-,-⟩:=H4;obtain⟨hbC,hsC,a0C,a1C,a2C,a3C,d0C,d1C,d2C,d3C,d4C,lC,rC,-,-⟩:=H5;rcases Hpl.out with ⟨hL1,hp⟩|⟨hL1,hp⟩
  ·obtain rfl:q=true:=hq.2 hL1;have Hp:Hid (Pl t.data.toList (tOf ns x) i j l):=hp;clear hp hq hL1 hY';go_wp2
   go_region_with (go_at_call 66;refine(hX' _ hbC g cap own4 hg Hp.out).mono ?_;rintro e w5 ⟨g5,cap5,rfl,own5,hb5⟩)
   all_goals
    have bel:=zaa hbC hbC.size hb5;go_wp2;exact zvV (v:=.slice (some ⟨g5,0,none⟩) m cap5) (by simp[results,Tryz.results66,go_sem]) rfl ⟨g5,cap5,rfl,own5,bel⟩
  ·obtain rfl:q=false:=by
    cases q
    ·rfl
    ·exact absurd (hq.1 rfl) hL1
   have Hp:Hid (Pl t.data.toList (tOf ns y) i j l):=hp;clear hp hq hL1 hX';go_wp2
   go_region_with (go_at_call 66;refine(hY' _ hbC g cap own4 hg Hp.out).mono ?_;rintro e w5 ⟨g5,cap5,rfl,own5,hb5⟩)
   all_goals
    have bel:=zaa hbC hbC.size hb5;go_wp2;exact zvV (v:=.slice (some ⟨g5,0,none⟩) m cap5) (by simp[results,Tryz.results66,go_sem]) rfl ⟨g5,cap5,rfl,own5,bel⟩
end
section
open Go.RowKit
attribute [local go_sem ↓] Go.wp_at_zero Go.wp_at_succ
theorem zrb{P:Prop}{q:Bool}(h:q=true↔P)(k:¬P):q=false:=by
 cases q
 ·rfl
 ·exact absurd (h.1 rfl) k
theorem zj5(ns:List zaq)(n:Nat)(hE:zcl ns n)(w:World)(ao:Option Addr)(c gl cl gr cr:Nat)(t:ByteArray)(mn:Nat)(mx:Int)(i j:Nat)(hmn:mn<=255)(hmx:mx=-1\/((mn:Int)<=mx/\mx<=255))(hbr:BrAt w ns (.slice ao ns.length c) gl gr)(hi:i<=t.size)(hj:j<=t.size)(ht:t.size<=4096):
  Calls Tryz.prog 115 #[.agg #[.slice ao ns.length c,.slice (some ⟨gl,0,none⟩) ns.length cl,.slice (some ⟨gr,0,none⟩) ns.length cr,.string t],.int .i64 n,.int .i64 mn,.int .i64 mx,.int .i64 i,.int .i64 j] w fun e w'=>zq4 w (Lg t.data.toList (.rep (tOf ns n) mn mx) i j) e w':=by
 have hb0:Below w.heap.size w (w.alloc (.cells #[.slice ao ns.length c,.slice (some ⟨gl,0,none⟩) ns.length cl,.slice (some ⟨gr,0,none⟩) ns.length cr,.string t] 119)):=(Below.refl _ _).alloc (zvJ _) _;have k0:(w.alloc (.cells #[.slice ao ns.length c,.slice (some ⟨gl,0,none⟩) ns.length cl,.slice (some ⟨gr,0,none⟩) ns.length cr,.string t] 119)).heap[w.heap.size]?=some (BoxB ao ns c gl cl gr cr t):=zvZ _ _;have hOnly:=fun(W:World)=>zlX t.size i W hi (by omega)
 have hEnds:∀(W:World) (g:Nat),Below w.heap.size w W->zbB W g (zew t.size i)->
   Calls Tryz.prog 114 #[.agg #[.slice ao ns.length c,.slice (some ⟨gl,0,none⟩) ns.length cl,.slice (some ⟨gr,0,none⟩) ns.length cr,.string t],.int .i64 n,.int .i64 mn,.int .i64 mx,.slice (some ⟨g,0,none⟩) (t.size+1) (t.size+1)] W fun r w'=>zoG W t (t.size+1) (zbc t.data.toList (In (.rep (tOf ns n) mn mx)) (· = i)) r w':=fun W g h1 h2=>
  zjQ ns n hE W ao c gl cl gr cr t g (t.size+1) (t.size+1) (zew t.size i) _ mn mx (hbr.below h1) h2 (by simp[zew]) (zfJ t.size i hi) ht hmn hmx
 clear hE hbr hmn hmx;generalize hT:Pt.rep (tOf ns n) mn mx=T at *;generalize hU:t.data.toList=u at *;obtain⟨q0,q1,q2,q3⟩:=zaH k0;obtain⟨W0,hW0⟩:∃W0,w.alloc (.cells #[.slice ao ns.length c,.slice (some ⟨gl,0,none⟩) ns.length cl,.slice (some ⟨gr,0,none⟩) ns.length cr,.string t] 119)=W0:=⟨_,rfl⟩;rw[hW0] at hb0 k0 q0 q1 q2 q3;have hl0:=zcp k0;have bl0:=hb0.drew;have hi0:(0:Int)<=(j:Int):=by omega
 have hi1:(j:Int)<(t.size:Int)+1:=by omega
 clear k0
 go_enter Tryz.func115,Tryz.ntmps115
 go_wp2;clear hW0
 go_region_with (first|(go_at_call 91;refine(hOnly _).mono ?_;rintro r w3 ⟨rfl,hB3,hb3⟩;have bl3:=hb3.size;have z0:=(hb3.cell (p:=⟨w.heap.size,0,none⟩) hl0).trans q0;have z1:=(hb3.cell (p:=⟨w.heap.size,1,none⟩) hl0).trans q1;have z2:=(hb3.cell (p:=⟨w.heap.size,2,none⟩) hl0).trans q2;have z3:=(hb3.cell (p:=⟨w.heap.size,3,none⟩) hl0).trans q3)|(go_at_call 114;refine(hEnds _ _ (zaa bl0 bl0.size hb3) hB3).mono ?_;rintro r w4 ⟨g4,c4,S4,rfl,hB4,hl4,hs4,hb4⟩;have hcell:=hB4.2 j (by omega);obtain⟨q,hq⟩:∃q,S4.getD j false=q:=⟨_,rfl⟩;rw[hq] at hcell;have Hq:Hid _:=hq;clear hq))
 all_goals
  have bel:=zaa (zaa bl0 bl0.size hb3) (zaa bl0 bl0.size hb3).size hb4;have hiff:q=true↔Lg u T i j:=by rw[<-Hq.out];exact zpe hs4
  go_wp2;go_ret;exact⟨q,rfl,hiff,bel⟩
def CpC(ns:List zaq)(x:Nat)(t:ByteArray)(mn:Nat)(mx:Int)(i j:Nat)(l:List Up):Prop:=
 ∀(w:World) (ao:Option Addr) (c gl cl gr cr B g cap m:Nat) (sp:List (Int×Int)),BrAt w ns (.slice ao ns.length c) gl gr->w.ownsRow B 71 2 (.slice (some ⟨g,0,none⟩) m cap) m (pv sp)->sp.length=m->B<=w.heap.size->0<m->m<=1048576->i<=j->j<=t.size->t.size<=4096->(∀z∈l,1<=z.1/\z.1<(m:Int))->mn<=255->(mx=-1\/((mn:Int)<=mx/\mx<=255))->
  Calls Tryz.prog 93 #[.agg #[.slice ao ns.length c,.slice (some ⟨gl,0,none⟩) ns.length cl,.slice (some ⟨gr,0,none⟩) ns.length cr,.string t],.int .i64 x,.int .i64 mn,.int .i64 mx,.int .i64 i,.int .i64 j,.slice (some ⟨g,0,none⟩) m cap] w fun e w'=>PlcR B w m (upG sp l) e w'
theorem zrf(ns:List zaq)(x:Nat)(t:ByteArray)(mn:Nat)(mx:Int)(i j:Nat)(h:mn=0/\mx=0):CpC ns x t mn mx i j []:=by
 obtain⟨rfl,rfl⟩:=h;intro w ao c gl cl gr cr B g cap m sp hbr hown hsm hB hm0 hm1 hij hjt ht hg hmn hmx;obtain⟨W0,hW0⟩:∃W0,w.alloc (.cells #[.slice ao ns.length c,.slice (some ⟨gl,0,none⟩) ns.length cl,.slice (some ⟨gr,0,none⟩) ns.length cr,.string t] 119)=W0:=⟨_,rfl⟩;have hb0:Below w.heap.size w W0:=by rw[<-hW0];exact(Below.refl _ _).alloc (zvJ _) _
 have k0:W0.heap[w.heap.size]?=some (BoxB ao ns c gl cl gr cr t):=by rw[<-hW0];exact zvZ _ _
 clear k0
 go_enter Tryz.func93,Tryz.ntmps93
 go_wp2;exact zvV (v:=.slice (some ⟨g,0,none⟩) m cap) (by simp[results,Tryz.results93,go_sem]) rfl ⟨g,cap,rfl,zac hown hb0,hb0⟩
theorem zrh(ns:List zaq)(x:Nat)(t:ByteArray)(mn:Nat)(mx:Int)(i j:Nat)(h:mn=0/\mx=-1/\i=j):CpC ns x t mn mx i j []:=by
 obtain⟨rfl,rfl,rfl⟩:=h;intro w ao c gl cl gr cr B g cap m sp hbr hown hsm hB hm0 hm1 hij hjt ht hg hmn hmx;obtain⟨W0,hW0⟩:∃W0,w.alloc (.cells #[.slice ao ns.length c,.slice (some ⟨gl,0,none⟩) ns.length cl,.slice (some ⟨gr,0,none⟩) ns.length cr,.string t] 119)=W0:=⟨_,rfl⟩;have hb0:Below w.heap.size w W0:=by rw[<-hW0];exact(Below.refl _ _).alloc (zvJ _) _
 have k0:W0.heap[w.heap.size]?=some (BoxB ao ns c gl cl gr cr t):=by rw[<-hW0];exact zvZ _ _
 clear k0
 go_enter Tryz.func93,Tryz.ntmps93
 go_wp2;exact zvV (v:=.slice (some ⟨g,0,none⟩) m cap) (by simp[results,Tryz.results93,go_sem]) rfl ⟨g,cap,rfl,zac hown hb0,hb0⟩
end
section
open Go.RowKit
attribute [local go_sem ↓] Go.wp_at_zero Go.wp_at_succ
theorem zo2(ns:List zaq)(x:Nat)(hE:zcl ns x)(hX:PlcC ns x)(t:ByteArray)(n mn:Nat)(mx:Int)(hn:n=mn+1)(hp:0<mx)(i j cut:Nat)(l1 l2:List Up)(hG:Gre (fun k=>Lg t.data.toList (tOf ns x) i k/\Lg t.data.toList (.rep (tOf ns x) ((mn:Nat):Int) (mx-1)) k j) (i) j cut)(hp1:Pl t.data.toList (tOf ns x) i cut l1)(ih:CpC ns x t (mn) (mx-1) cut j l2):CpC ns x t (n) (mx) i j (l1++l2):=by
 intro w ao c gl cl gr cr B g cap m sp hbr hown hsm hB hm0 hm1 hij hjt ht hg hmn hmx;obtain⟨W0,hW0⟩:∃W0,w.alloc (.cells #[.slice ao ns.length c,.slice (some ⟨gl,0,none⟩) ns.length cl,.slice (some ⟨gr,0,none⟩) ns.length cr,.string t] 119)=W0:=⟨_,rfl⟩;have hb0:Below w.heap.size w W0:=by rw[<-hW0];exact(Below.refl _ _).alloc (zvJ _) _
 have k0:W0.heap[w.heap.size]?=some (BoxB ao ns c gl cl gr cr t):=by rw[<-hW0];exact zvZ _ _
 have hn2:0<n:=by omega
 have hd1:decide (0<n)=true:=by simp[hn2]
 have hn1:(n:Int)-1=(mn:Int):=by omega
 have hn0:(0:Int)<(n:Int):=by omega
 have hd2:decide (0<mx)=true:=by simp[hp]
 have hc1:=hG.1;have hc2:=hG.2.1;have hIn:=fun(kk:Nat) (W:World) (hb:Below w.heap.size w W) (hkk:kk<=t.size)=>zf4 ns x hE W ao c gl cl gr cr t i kk (hbr.below hb) (by omega) hkk ht
 have hCo:=fun(kk:Nat) (W:World) (hb:Below w.heap.size w W) (hkk:kk<=t.size)=>zj5 ns x hE W ao c gl cl gr cr t (mn) (mx-1) kk j (by omega) (by omega) (hbr.below hb) hkk hjt ht
 have hX':=fun(W:World) (hb:Below w.heap.size w W) (h1:W.ownsRow B 71 2 (.slice (some ⟨g,0,none⟩) m cap) m (pv sp))=>hX W ao c gl cl gr cr t B i cut g cap m sp l1 (hbr.below hb) h1 hsm (zvK hB hb.size) hm0 hm1 (by omega) (zvK hc2 hjt) ht (fun z hz=>hg z (zvo.2 (.inl hz))) hp1
 have hY':=fun(W:World) (hb:Below w.heap.size w W) (g' cap':Nat) (h1:W.ownsRow B 71 2 (.slice (some ⟨g',0,none⟩) m cap') m (pv (upG sp l1)))=>ih W ao c gl cl gr cr B g' cap' m (upG sp l1) (hbr.below hb) h1 (by rw[zdp];exact hsm) (zvK hB hb.size) hm0 hm1 hc2 hjt ht (fun z hz=>hg z (zvo.2 (.inr hz))) (by omega) (by omega)
 have Hc3:Hid (Lg t.data.toList (tOf ns x) i cut/\Lg t.data.toList (.rep (tOf ns x) ((mn:Nat):Int) (mx-1)) cut j):=hG.2.2.1;have Hc4:Hid (∀k,cut<k->k<=j->¬(Lg t.data.toList (tOf ns x) i k/\Lg t.data.toList (.rep (tOf ns x) ((mn:Nat):Int) (mx-1)) k j)):=hG.2.2.2;have Hu:Hid (upG sp (l1++l2)=upG (upG sp l1) l2):=zfU sp l1 l2;have HB:Hid (B<=w.heap.size):=hB;clear hG hp1 ih hE hX hbr hg hB;clear hn
 go_enter Tryz.func93,Tryz.ntmps93
 go_wp2;clear hW0
 go_loopw [18] (fun k wr=>∃kk:Nat,cut<=kk/\kk<=j/\k=.int .i64 kk/\Below w.heap.size w wr/\wr.heap[w.heap.size]?=some (BoxB ao ns c gl cl gr cr t))
  (fun k _=>(intOf k).toNat)
 case atStart=>exact⟨j,hc2,zvJ _,rfl,hb0,k0⟩
 case round=>
  clear k0;obtain⟨kk,hk1,hk2,rfl,hbr,kr⟩:=hrel;obtain⟨a0,a1,a2,a3⟩:=zaH kr;have hkt:kk<=t.size:=by omega
  have hge:(((i:Nat):Int))<=(kk:Int):=by omega
  have hge2:(i:Int)<=(kk:Int):=by omega
  obtain⟨b1,hb1⟩:∃b:Bool,(b=true↔Lg t.data.toList (tOf ns x) i kk):=by
   by_cases h:Lg t.data.toList (tOf ns x) i kk
   ·exact⟨true,⟨fun _=>h,fun _=>rfl⟩⟩
   ·exact⟨false,⟨fun k=>(by cases k),fun k=>absurd k h⟩⟩
  have Hb1:Hid (b1=true↔Lg t.data.toList (tOf ns x) i kk):=hb1;clear hb1
  go_wp2_with fail
  refine(hIn kk _ hbr hkt).mono ?_;rintro e w4 ⟨q,rfl,hq,hb4⟩;obtain rfl:q=b1:=by
   have:=hq.trans Hb1.out.symm;cases q<;>cases b1<;>simp_all
  clear hq;have kr4:=zaz kr hb4;have hbr4:=zaa hbr hbr.size hb4;obtain⟨c0,c1,c2,c3⟩:=zaH kr4;clear a0 a1 a2 a3 kr hbr hb4;cases q
  ·have hne:cut≠kk:=fun h=>by
    have:=Hb1.out.2 (h ▸ Hc3.out.1);cases this
   go_wp2
   go_roundw
   case rel=>exact⟨kk-1,by omega,by omega,by go_num,hbr4,kr4⟩
   case measure=>simp[intOf];omega
  ·go_wp2_with fail
   refine(hCo kk _ hbr4 hkt).mono ?_;rintro e w5 ⟨q,rfl,hq,hb5⟩;have Hq:Hid (q=true↔Lg t.data.toList (.rep (tOf ns x) ((mn:Nat):Int) (mx-1)) kk j):=hq;clear hq;have kr5:=zaz kr4 hb5;have hbr5:=zaa hbr4 hbr4.size hb5;obtain⟨d0,d1,d2,d3⟩:=zaH kr5;clear c0 c1 c2 c3 kr4 hbr4 hb5;cases q
   ·have hne:cut≠kk:=fun h=>by
     have:=Hq.out.2 (h ▸ Hc3.out.2);cases this
    go_wp2
    go_roundw
    case rel=>exact⟨kk-1,by omega,by omega,by go_num,hbr5,kr5⟩
    case measure=>simp[intOf];omega
   ·have heq:kk=cut:=by
     rcases zvM cut kk with h|h
     ·exact absurd ⟨Hb1.out.1 (by first|trivial|rfl),Hq.out.1 (by first|trivial|rfl)⟩ (Hc4.out kk h hk2)
     ·omega
    subst heq;go_wp2;have hb6:=hbr5.drew;have kr6:=zaz kr5 ((Below.refl w5.heap.size w5).drew);obtain⟨e0,e1,e2,e3⟩:=zaH kr6;have own6:=zac hown hb6;clear hIn hCo d0 d1 d2 d3
    go_region_with (first|(go_at_call 66;refine(hX' _ hb6 own6).mono ?_;rintro e w8 ⟨g8,cap8,rfl,own8,hb8⟩;clear hX';have kr8:=zaz kr6 hb8;obtain⟨f0,f1,f2,f3⟩:=zaH kr8;have hb9:=zaa hb6 hb6.size hb8)|(go_at_call 93;refine(hY' _ hb9 g8 cap8 own8).mono ?_;rintro e w9 ⟨g9,cap9,rfl,own9,hb10⟩))
    all_goals
     have bel:=zaa hb9 hb9.size hb10;rw[<-Hu.out] at own9;go_wp2;exact zvV (v:=.slice (some ⟨g9,0,none⟩) m cap9) (by simp[results,Tryz.results93,go_sem]) rfl ⟨g9,cap9,rfl,own9,bel⟩
theorem zo1(ns:List zaq)(x:Nat)(hE:zcl ns x)(hX:PlcC ns x)(t:ByteArray)(n mn:Nat)(hn:n=mn+1)(i j cut:Nat)(l1 l2:List Up)(hG:Gre (fun k=>Lg t.data.toList (tOf ns x) i k/\Lg t.data.toList (.rep (tOf ns x) ((mn:Nat):Int) (-1)) k j) (i) j cut)(hp1:Pl t.data.toList (tOf ns x) i cut l1)(ih:CpC ns x t (mn) (-1) cut j l2):CpC ns x t (n) (-1) i j (l1++l2):=by
 intro w ao c gl cl gr cr B g cap m sp hbr hown hsm hB hm0 hm1 hij hjt ht hg hmn hmx;obtain⟨W0,hW0⟩:∃W0,w.alloc (.cells #[.slice ao ns.length c,.slice (some ⟨gl,0,none⟩) ns.length cl,.slice (some ⟨gr,0,none⟩) ns.length cr,.string t] 119)=W0:=⟨_,rfl⟩;have hb0:Below w.heap.size w W0:=by rw[<-hW0];exact(Below.refl _ _).alloc (zvJ _) _
 have k0:W0.heap[w.heap.size]?=some (BoxB ao ns c gl cl gr cr t):=by rw[<-hW0];exact zvZ _ _
 have hn2:0<n:=by omega
 have hd1:decide (0<n)=true:=by simp[hn2]
 have hn1:(n:Int)-1=(mn:Int):=by omega
 have hn0:(0:Int)<(n:Int):=by omega
 have hc1:=hG.1;have hc2:=hG.2.1;have hIn:=fun(kk:Nat) (W:World) (hb:Below w.heap.size w W) (hkk:kk<=t.size)=>zf4 ns x hE W ao c gl cl gr cr t i kk (hbr.below hb) (by omega) hkk ht
 have hCo:=fun(kk:Nat) (W:World) (hb:Below w.heap.size w W) (hkk:kk<=t.size)=>zj5 ns x hE W ao c gl cl gr cr t (mn) (-1) kk j (by omega) (by omega) (hbr.below hb) hkk hjt ht
 have hX':=fun(W:World) (hb:Below w.heap.size w W) (h1:W.ownsRow B 71 2 (.slice (some ⟨g,0,none⟩) m cap) m (pv sp))=>hX W ao c gl cl gr cr t B i cut g cap m sp l1 (hbr.below hb) h1 hsm (zvK hB hb.size) hm0 hm1 (by omega) (zvK hc2 hjt) ht (fun z hz=>hg z (zvo.2 (.inl hz))) hp1
 have hY':=fun(W:World) (hb:Below w.heap.size w W) (g' cap':Nat) (h1:W.ownsRow B 71 2 (.slice (some ⟨g',0,none⟩) m cap') m (pv (upG sp l1)))=>ih W ao c gl cl gr cr B g' cap' m (upG sp l1) (hbr.below hb) h1 (by rw[zdp];exact hsm) (zvK hB hb.size) hm0 hm1 hc2 hjt ht (fun z hz=>hg z (zvo.2 (.inr hz))) (by omega) (by omega)
 have Hc3:Hid (Lg t.data.toList (tOf ns x) i cut/\Lg t.data.toList (.rep (tOf ns x) ((mn:Nat):Int) (-1)) cut j):=hG.2.2.1;have Hc4:Hid (∀k,cut<k->k<=j->¬(Lg t.data.toList (tOf ns x) i k/\Lg t.data.toList (.rep (tOf ns x) ((mn:Nat):Int) (-1)) k j)):=hG.2.2.2;have Hu:Hid (upG sp (l1++l2)=upG (upG sp l1) l2):=zfU sp l1 l2;have HB:Hid (B<=w.heap.size):=hB;clear hG hp1 ih hE hX hbr hg hB;clear hn
 go_enter Tryz.func93,Tryz.ntmps93
 go_wp2;clear hW0
 go_loopw [18] (fun k wr=>∃kk:Nat,cut<=kk/\kk<=j/\k=.int .i64 kk/\Below w.heap.size w wr/\wr.heap[w.heap.size]?=some (BoxB ao ns c gl cl gr cr t))
  (fun k _=>(intOf k).toNat)
 case atStart=>exact⟨j,hc2,zvJ _,rfl,hb0,k0⟩
 case round=>
  clear k0;obtain⟨kk,hk1,hk2,rfl,hbr,kr⟩:=hrel;obtain⟨a0,a1,a2,a3⟩:=zaH kr;have hkt:kk<=t.size:=by omega
  have hge:(((i:Nat):Int))<=(kk:Int):=by omega
  have hge2:(i:Int)<=(kk:Int):=by omega
  obtain⟨b1,hb1⟩:∃b:Bool,(b=true↔Lg t.data.toList (tOf ns x) i kk):=by
   by_cases h:Lg t.data.toList (tOf ns x) i kk
   ·exact⟨true,⟨fun _=>h,fun _=>rfl⟩⟩
   ·exact⟨false,⟨fun k=>(by cases k),fun k=>absurd k h⟩⟩
  have Hb1:Hid (b1=true↔Lg t.data.toList (tOf ns x) i kk):=hb1;clear hb1
  go_wp2_with fail
  refine(hIn kk _ hbr hkt).mono ?_;rintro e w4 ⟨q,rfl,hq,hb4⟩;obtain rfl:q=b1:=by
   have:=hq.trans Hb1.out.symm;cases q<;>cases b1<;>simp_all
  clear hq;have kr4:=zaz kr hb4;have hbr4:=zaa hbr hbr.size hb4;obtain⟨c0,c1,c2,c3⟩:=zaH kr4;clear a0 a1 a2 a3 kr hbr hb4;cases q
  ·have hne:cut≠kk:=fun h=>by
    have:=Hb1.out.2 (h ▸ Hc3.out.1);cases this
   go_wp2
   go_roundw
   case rel=>exact⟨kk-1,by omega,by omega,by go_num,hbr4,kr4⟩
   case measure=>simp[intOf];omega
  ·go_wp2_with fail
   refine(hCo kk _ hbr4 hkt).mono ?_;rintro e w5 ⟨q,rfl,hq,hb5⟩;have Hq:Hid (q=true↔Lg t.data.toList (.rep (tOf ns x) ((mn:Nat):Int) (-1)) kk j):=hq;clear hq;have kr5:=zaz kr4 hb5;have hbr5:=zaa hbr4 hbr4.size hb5;obtain⟨d0,d1,d2,d3⟩:=zaH kr5;clear c0 c1 c2 c3 kr4 hbr4 hb5;cases q
   ·have hne:cut≠kk:=fun h=>by
     have:=Hq.out.2 (h ▸ Hc3.out.2);cases this
    go_wp2
    go_roundw
    case rel=>exact⟨kk-1,by omega,by omega,by go_num,hbr5,kr5⟩
    case measure=>simp[intOf];omega
   ·have heq:kk=cut:=by
     rcases zvM cut kk with h|h
     ·exact absurd ⟨Hb1.out.1 (by first|trivial|rfl),Hq.out.1 (by first|trivial|rfl)⟩ (Hc4.out kk h hk2)
     ·omega
    subst heq;go_wp2;have hb6:=hbr5.drew;have kr6:=zaz kr5 ((Below.refl w5.heap.size w5).drew);obtain⟨e0,e1,e2,e3⟩:=zaH kr6;have own6:=zac hown hb6;clear hIn hCo d0 d1 d2 d3
    go_region_with (first|(go_at_call 66;refine(hX' _ hb6 own6).mono ?_;rintro e w8 ⟨g8,cap8,rfl,own8,hb8⟩;clear hX';have kr8:=zaz kr6 hb8;obtain⟨f0,f1,f2,f3⟩:=zaH kr8;have hb9:=zaa hb6 hb6.size hb8)|(go_at_call 93;refine(hY' _ hb9 g8 cap8 own8).mono ?_;rintro e w9 ⟨g9,cap9,rfl,own9,hb10⟩))
    all_goals
     have bel:=zaa hb9 hb9.size hb10;rw[<-Hu.out] at own9;go_wp2;exact zvV (v:=.slice (some ⟨g9,0,none⟩) m cap9) (by simp[results,Tryz.results93,go_sem]) rfl ⟨g9,cap9,rfl,own9,bel⟩
theorem zs9(ns:List zaq)(x:Nat)(hE:zcl ns x)(hX:PlcC ns x)(t:ByteArray)(mx:Int)(hp:0<mx)(i j cut:Nat)(l1 l2:List Up)(hG:Gre (fun k=>Lg t.data.toList (tOf ns x) i k/\Lg t.data.toList (.rep (tOf ns x) ((0:Nat):Int) (mx-1)) k j) (i) j cut)(hp1:Pl t.data.toList (tOf ns x) i cut l1)(ih:CpC ns x t (0) (mx-1) cut j l2):CpC ns x t (0) (mx) i j (l1++l2):=by
 intro w ao c gl cl gr cr B g cap m sp hbr hown hsm hB hm0 hm1 hij hjt ht hg hmn hmx;obtain⟨W0,hW0⟩:∃W0,w.alloc (.cells #[.slice ao ns.length c,.slice (some ⟨gl,0,none⟩) ns.length cl,.slice (some ⟨gr,0,none⟩) ns.length cr,.string t] 119)=W0:=⟨_,rfl⟩;have hb0:Below w.heap.size w W0:=by rw[<-hW0];exact(Below.refl _ _).alloc (zvJ _) _
 have k0:W0.heap[w.heap.size]?=some (BoxB ao ns c gl cl gr cr t):=by rw[<-hW0];exact zvZ _ _
 have hd2:decide (0<mx)=true:=by simp[hp]
 have hd3:(mx==0)=false:=by simp;omega
 have hd4:(mx == -1)=false:=by simp;omega
 have hc1:=hG.1;have hc2:=hG.2.1;have hIn:=fun(kk:Nat) (W:World) (hb:Below w.heap.size w W) (hkk:kk<=t.size)=>zf4 ns x hE W ao c gl cl gr cr t i kk (hbr.below hb) (by omega) hkk ht
 have hCo:=fun(kk:Nat) (W:World) (hb:Below w.heap.size w W) (hkk:kk<=t.size)=>zj5 ns x hE W ao c gl cl gr cr t (0) (mx-1) kk j (by omega) (by omega) (hbr.below hb) hkk hjt ht
 have hX':=fun(W:World) (hb:Below w.heap.size w W) (h1:W.ownsRow B 71 2 (.slice (some ⟨g,0,none⟩) m cap) m (pv sp))=>hX W ao c gl cl gr cr t B i cut g cap m sp l1 (hbr.below hb) h1 hsm (zvK hB hb.size) hm0 hm1 (by omega) (zvK hc2 hjt) ht (fun z hz=>hg z (zvo.2 (.inl hz))) hp1
 have hY':=fun(W:World) (hb:Below w.heap.size w W) (g' cap':Nat) (h1:W.ownsRow B 71 2 (.slice (some ⟨g',0,none⟩) m cap') m (pv (upG sp l1)))=>ih W ao c gl cl gr cr B g' cap' m (upG sp l1) (hbr.below hb) h1 (by rw[zdp];exact hsm) (zvK hB hb.size) hm0 hm1 hc2 hjt ht (fun z hz=>hg z (zvo.2 (.inr hz))) (by omega) (by omega)
 have Hc3:Hid (Lg t.data.toList (tOf ns x) i cut/\Lg t.data.toList (.rep (tOf ns x) ((0:Nat):Int) (mx-1)) cut j):=hG.2.2.1;have Hc4:Hid (∀k,cut<k->k<=j->¬(Lg t.data.toList (tOf ns x) i k/\Lg t.data.toList (.rep (tOf ns x) ((0:Nat):Int) (mx-1)) k j)):=hG.2.2.2;have Hu:Hid (upG sp (l1++l2)=upG (upG sp l1) l2):=zfU sp l1 l2;have HB:Hid (B<=w.heap.size):=hB;clear hG hp1 ih hE hX hbr hg hB;simp only[show ((0:Nat):Int)=0 from rfl] at hCo hY' ⊢
 go_enter Tryz.func93,Tryz.ntmps93
 go_wp2;clear hW0
 go_loopw [18] (fun k wr=>∃kk:Nat,cut<=kk/\kk<=j/\k=.int .i64 kk/\Below w.heap.size w wr/\wr.heap[w.heap.size]?=some (BoxB ao ns c gl cl gr cr t))
  (fun k _=>(intOf k).toNat)
 case atStart=>exact⟨j,hc2,zvJ _,rfl,hb0,k0⟩
 case round=>
  clear k0;obtain⟨kk,hk1,hk2,rfl,hbr,kr⟩:=hrel;obtain⟨a0,a1,a2,a3⟩:=zaH kr;have hkt:kk<=t.size:=by omega
  have hge:(((i:Nat):Int))<=(kk:Int):=by omega
  have hge2:(i:Int)<=(kk:Int):=by omega
  obtain⟨b1,hb1⟩:∃b:Bool,(b=true↔Lg t.data.toList (tOf ns x) i kk):=by
   by_cases h:Lg t.data.toList (tOf ns x) i kk
   ·exact⟨true,⟨fun _=>h,fun _=>rfl⟩⟩
   ·exact⟨false,⟨fun k=>(by cases k),fun k=>absurd k h⟩⟩
  have Hb1:Hid (b1=true↔Lg t.data.toList (tOf ns x) i kk):=hb1;clear hb1
  go_wp2_with fail
  refine(hIn kk _ hbr hkt).mono ?_;rintro e w4 ⟨q,rfl,hq,hb4⟩;obtain rfl:q=b1:=by
   have:=hq.trans Hb1.out.symm;cases q<;>cases b1<;>simp_all
  clear hq;have kr4:=zaz kr hb4;have hbr4:=zaa hbr hbr.size hb4;obtain⟨c0,c1,c2,c3⟩:=zaH kr4;clear a0 a1 a2 a3 kr hbr hb4;cases q
  ·have hne:cut≠kk:=fun h=>by
    have:=Hb1.out.2 (h ▸ Hc3.out.1);cases this
   go_wp2
   go_roundw
   case rel=>exact⟨kk-1,by omega,by omega,by go_num,hbr4,kr4⟩
   case measure=>simp[intOf];omega
  ·go_wp2_with fail
   refine(hCo kk _ hbr4 hkt).mono ?_;rintro e w5 ⟨q,rfl,hq,hb5⟩;have Hq:Hid (q=true↔Lg t.data.toList (.rep (tOf ns x) ((0:Nat):Int) (mx-1)) kk j):=hq;clear hq;have kr5:=zaz kr4 hb5;have hbr5:=zaa hbr4 hbr4.size hb5;obtain⟨d0,d1,d2,d3⟩:=zaH kr5;clear c0 c1 c2 c3 kr4 hbr4 hb5;cases q
   ·have hne:cut≠kk:=fun h=>by
     have:=Hq.out.2 (h ▸ Hc3.out.2);cases this
    go_wp2
    go_roundw
    case rel=>exact⟨kk-1,by omega,by omega,by go_num,hbr5,kr5⟩
    case measure=>simp[intOf];omega
   ·have heq:kk=cut:=by
     rcases zvM cut kk with h|h
     ·exact absurd ⟨Hb1.out.1 (by first|trivial|rfl),Hq.out.1 (by first|trivial|rfl)⟩ (Hc4.out kk h hk2)
     ·omega
    subst heq;go_wp2;have hb6:=hbr5.drew;have kr6:=zaz kr5 ((Below.refl w5.heap.size w5).drew);obtain⟨e0,e1,e2,e3⟩:=zaH kr6;have own6:=zac hown hb6;clear hIn hCo d0 d1 d2 d3
    go_region_with (first|(go_at_call 66;refine(hX' _ hb6 own6).mono ?_;rintro e w8 ⟨g8,cap8,rfl,own8,hb8⟩;clear hX';have kr8:=zaz kr6 hb8;obtain⟨f0,f1,f2,f3⟩:=zaH kr8;have hb9:=zaa hb6 hb6.size hb8)|(go_at_call 93;refine(hY' _ hb9 g8 cap8 own8).mono ?_;rintro e w9 ⟨g9,cap9,rfl,own9,hb10⟩))
    all_goals
     have bel:=zaa hb9 hb9.size hb10;rw[<-Hu.out] at own9;go_wp2;exact zvV (v:=.slice (some ⟨g9,0,none⟩) m cap9) (by simp[results,Tryz.results93,go_sem]) rfl ⟨g9,cap9,rfl,own9,bel⟩
theorem zrg(ns:List zaq)(x:Nat)(hE:zcl ns x)(hX:PlcC ns x)(t:ByteArray)(i j cut:Nat)(l1 l2:List Up)(hG:Gre (fun k=>Lg t.data.toList (tOf ns x) i k/\Lg t.data.toList (.rep (tOf ns x) ((0:Nat):Int) (-1)) k j) (i+1) j cut)(hp1:Pl t.data.toList (tOf ns x) i cut l1)(ih:CpC ns x t (0) (-1) cut j l2):CpC ns x t (0) (-1) i j (l1++l2):=by
 intro w ao c gl cl gr cr B g cap m sp hbr hown hsm hB hm0 hm1 hij hjt ht hg hmn hmx;obtain⟨W0,hW0⟩:∃W0,w.alloc (.cells #[.slice ao ns.length c,.slice (some ⟨gl,0,none⟩) ns.length cl,.slice (some ⟨gr,0,none⟩) ns.length cr,.string t] 119)=W0:=⟨_,rfl⟩;have hb0:Below w.heap.size w W0:=by rw[<-hW0];exact(Below.refl _ _).alloc (zvJ _) _
 have k0:W0.heap[w.heap.size]?=some (BoxB ao ns c gl cl gr cr t):=by rw[<-hW0];exact zvZ _ _
 have hij2:((i:Int)==(j:Int))=false:=by have:=hG.1;have:=hG.2.1;simp;omega
 have hc1:=hG.1;have hc2:=hG.2.1;have hIn:=fun(kk:Nat) (W:World) (hb:Below w.heap.size w W) (hkk:kk<=t.size)=>zf4 ns x hE W ao c gl cl gr cr t i kk (hbr.below hb) (by omega) hkk ht
 have hCo:=fun(kk:Nat) (W:World) (hb:Below w.heap.size w W) (hkk:kk<=t.size)=>zj5 ns x hE W ao c gl cl gr cr t (0) (-1) kk j (by omega) (by omega) (hbr.below hb) hkk hjt ht
 have hX':=fun(W:World) (hb:Below w.heap.size w W) (h1:W.ownsRow B 71 2 (.slice (some ⟨g,0,none⟩) m cap) m (pv sp))=>hX W ao c gl cl gr cr t B i cut g cap m sp l1 (hbr.below hb) h1 hsm (zvK hB hb.size) hm0 hm1 (by omega) (zvK hc2 hjt) ht (fun z hz=>hg z (zvo.2 (.inl hz))) hp1
 have hY':=fun(W:World) (hb:Below w.heap.size w W) (g' cap':Nat) (h1:W.ownsRow B 71 2 (.slice (some ⟨g',0,none⟩) m cap') m (pv (upG sp l1)))=>ih W ao c gl cl gr cr B g' cap' m (upG sp l1) (hbr.below hb) h1 (by rw[zdp];exact hsm) (zvK hB hb.size) hm0 hm1 hc2 hjt ht (fun z hz=>hg z (zvo.2 (.inr hz))) (by omega) (by omega)
 have Hc3:Hid (Lg t.data.toList (tOf ns x) i cut/\Lg t.data.toList (.rep (tOf ns x) ((0:Nat):Int) (-1)) cut j):=hG.2.2.1;have Hc4:Hid (∀k,cut<k->k<=j->¬(Lg t.data.toList (tOf ns x) i k/\Lg t.data.toList (.rep (tOf ns x) ((0:Nat):Int) (-1)) k j)):=hG.2.2.2;have Hu:Hid (upG sp (l1++l2)=upG (upG sp l1) l2):=zfU sp l1 l2;have HB:Hid (B<=w.heap.size):=hB;clear hG hp1 ih hE hX hbr hg hB;simp only[show ((0:Nat):Int)=0 from rfl] at hCo hY' ⊢
 go_enter Tryz.func93,Tryz.ntmps93
 go_wp2;clear hW0
 go_loopw [18] (fun k wr=>∃kk:Nat,cut<=kk/\kk<=j/\k=.int .i64 kk/\Below w.heap.size w wr/\wr.heap[w.heap.size]?=some (BoxB ao ns c gl cl gr cr t))
  (fun k _=>(intOf k).toNat)
 case atStart=>exact⟨j,hc2,zvJ _,rfl,hb0,k0⟩
 case round=>
  clear k0;obtain⟨kk,hk1,hk2,rfl,hbr,kr⟩:=hrel;obtain⟨a0,a1,a2,a3⟩:=zaH kr;have hkt:kk<=t.size:=by omega
  have hge:(((i+1:Nat):Int))<=(kk:Int):=by omega
  have hge2:(i:Int)<=(kk:Int):=by omega
  obtain⟨b1,hb1⟩:∃b:Bool,(b=true↔Lg t.data.toList (tOf ns x) i kk):=by
   by_cases h:Lg t.data.toList (tOf ns x) i kk
   ·exact⟨true,⟨fun _=>h,fun _=>rfl⟩⟩
   ·exact⟨false,⟨fun k=>(by cases k),fun k=>absurd k h⟩⟩
  have Hb1:Hid (b1=true↔Lg t.data.toList (tOf ns x) i kk):=hb1;clear hb1
  go_wp2_with fail
  refine(hIn kk _ hbr hkt).mono ?_;rintro e w4 ⟨q,rfl,hq,hb4⟩;obtain rfl:q=b1:=by
   have:=hq.trans Hb1.out.symm;cases q<;>cases b1<;>simp_all
  clear hq;have kr4:=zaz kr hb4;have hbr4:=zaa hbr hbr.size hb4;obtain⟨c0,c1,c2,c3⟩:=zaH kr4;clear a0 a1 a2 a3 kr hbr hb4;cases q
  ·have hne:cut≠kk:=fun h=>by
    have:=Hb1.out.2 (h ▸ Hc3.out.1);cases this
   go_wp2
   go_roundw
   case rel=>exact⟨kk-1,by omega,by omega,by go_num,hbr4,kr4⟩
   case measure=>simp[intOf];omega
  ·go_wp2_with fail
   refine(hCo kk _ hbr4 hkt).mono ?_;rintro e w5 ⟨q,rfl,hq,hb5⟩;have Hq:Hid (q=true↔Lg t.data.toList (.rep (tOf ns x) ((0:Nat):Int) (-1)) kk j):=hq;clear hq;have kr5:=zaz kr4 hb5;have hbr5:=zaa hbr4 hbr4.size hb5;obtain⟨d0,d1,d2,d3⟩:=zaH kr5;clear c0 c1 c2 c3 kr4 hbr4 hb5;cases q
   ·have hne:cut≠kk:=fun h=>by
     have:=Hq.out.2 (h ▸ Hc3.out.2);cases this
    go_wp2
    go_roundw
    case rel=>exact⟨kk-1,by omega,by omega,by go_num,hbr5,kr5⟩
    case measure=>simp[intOf];omega
   ·have heq:kk=cut:=by
     rcases zvM cut kk with h|h
     ·exact absurd ⟨Hb1.out.1 (by first|trivial|rfl),Hq.out.1 (by first|trivial|rfl)⟩ (Hc4.out kk h hk2)
     ·omega
    subst heq;go_wp2;have hb6:=hbr5.drew;have kr6:=zaz kr5 ((Below.refl w5.heap.size w5).drew);obtain⟨e0,e1,e2,e3⟩:=zaH kr6;have own6:=zac hown hb6;clear hIn hCo d0 d1 d2 d3
    go_region_with (first|(go_at_call 66;refine(hX' _ hb6 own6).mono ?_;rintro e w8 ⟨g8,cap8,rfl,own8,hb8⟩;clear hX';have kr8:=zaz kr6 hb8;obtain⟨f0,f1,f2,f3⟩:=zaH kr8;have hb9:=zaa hb6 hb6.size hb8)|(go_at_call 93;refine(hY' _ hb9 g8 cap8 own8).mono ?_;rintro e w9 ⟨g9,cap9,rfl,own9,hb10⟩))
    all_goals
     have bel:=zaa hb9 hb9.size hb10;rw[<-Hu.out] at own9;go_wp2;exact zvV (v:=.slice (some ⟨g9,0,none⟩) m cap9) (by simp[results,Tryz.results93,go_sem]) rfl ⟨g9,cap9,rfl,own9,bel⟩
end
section
open Go
section
variable {P:Program} {ops:Array Oper} {md:Region.Mode} {C:World->Prop}
def zhB(md:Region.Mode)(ops:Array Oper)(n i:Nat):Bool:=
 match ops[n]? with
 |some o=>o.after.any fun e=>Region.binds md e&&e.on==i
 |none=>false
theorem zfV{n i:Nat}(h:zhB md ops n i=true)(listed:Array Bool)(hr:n∈Region.ready md ops listed):listed.getD i true=true:=by
 obtain⟨_,o,ho,hall⟩:=mem_ready.1 hr;unfold zhB at h;rw[ho] at h;simp only[Array.any_eq_true,Bool.and_eq_true,beq_iff_eq] at h;obtain⟨k,hk,hb,he⟩:=h;have h1:=hall _ (Array.getElem_mem hk) hb;rw[he] at h1;rcases Nat.lt_or_ge i listed.size with h'|h'
 ·simp[h'] at h1 ⊢;exact h1
 ·simp[Array.getElem?_eq_none h'] at h1
end
end
section
open Go
section
variable {P:Program} {ops:Array Oper} {md:Region.Mode} {C:World->Prop}
def zbx(md:Region.Mode)(ops:Array Oper)(listed:Array Bool):Prop:=∀(k:Nat) (o:Oper),ops[k]?=some o->listed.getD k true=true->∀e∈o.after,Region.binds md e=true->listed.getD e.on true=true
theorem zi0{l:Array Bool}{i j:Nat}(h:l.getD i true=true):(l.setIfInBounds j true).getD i true=true:=by
 by_cases e:j=i
 ·subst e
  by_cases hj:j<l.size
  ·simp[hj]
  ·simp[hj]
 ·rw[getD_set_ne true e];exact h
theorem zbx.start(md:Region.Mode)(ops:Array Oper):zbx md ops (Array.replicate ops.size false):=fun k o hk h=>by
 have hlt:=(Array.getElem?_eq_some_iff.1 hk).1;simp[hlt] at h
theorem zsh{listed:Array Bool}{j:Nat}{o:Oper}(ho:ops[j]?=some o)(hj:j∈Region.ready md ops listed):∀e∈o.after,Region.binds md e=true->listed.getD e.on true=true:=fun e he hb=>by
 obtain⟨_,o',ho',hall⟩:=mem_ready.1 hj;rw[ho] at ho';cases ho';have h1:=hall e he hb;rcases Nat.lt_or_ge e.on listed.size with h'|h'
 ·simp[h'] at h1 ⊢;exact h1
 ·simp[Array.getElem?_eq_none h'] at h1
theorem zbx.set{listed:Array Bool}(h:zbx md ops listed){j:Nat}(hj:j∈Region.ready md ops listed):zbx md ops (listed.setIfInBounds j true):=fun k o hk hl e he hb=>by
 refine zi0 ?_
 by_cases e1:j=k
 ·subst e1;exact zsh hk hj e he hb
 ·rw[getD_set_ne true e1] at hl;exact h k o hk hl e he hb
end
end
open Go
section
variable {P:Program} {ops:Array Oper} {md:Region.Mode} {C:World->Prop}
def zdG(md:Region.Mode)(ops:Array Oper):Nat->Nat->Array Bool->Bool
 |0,_,listed=>(Region.ready md ops listed).isEmpty
 |f+1,k,listed=>(Region.ready md ops listed == [k])&&zdG md ops f (k+1) (listed.setIfInBounds k true)
theorem zj0{f k:Nat}{listed:Array Bool}(h:zdG md ops f k listed=true):∀j∈Region.ready md ops listed,j=k/\0<f:=fun j hj=>by
 cases f with
 |zero=>
  simp only[zdG,List.isEmpty_iff] at h;rw[h] at hj;cases hj
 |succ f=>
  simp only[zdG,Bool.and_eq_true,beq_iff_eq] at h;rw[h.1] at hj;exact⟨by simpa using hj,by omega⟩
theorem zgg{Q:Exit->Act->World->Prop}:∀(l:List Oper) (k:Nat) (listed:Array Bool) (a:Act) (w:World),(∀j,j<l.length->l[j]?=ops[k+j]?)->zdG md ops l.length k listed=true->wpList P ops Q l a w->wpAny P md ops Q l.length listed a w
 |[],_,_,_,_,_,hB,h=>by
  simp only[List.length_nil,zdG,List.isEmpty_iff] at hB;exact⟨hB,h⟩
 |o::l,k,listed,a,w,hl,hB,h=>by
  have h0:ops[k]?=some o:=by simpa using (hl 0 (by simp)).symm
  simp only[List.length_cons,zdG,Bool.and_eq_true,beq_iff_eq] at hB;have ih:=fun a w h=>zgg (Q:=Q) l (k+1) (listed.setIfInBounds k true) a w (fun j hj=>by have:=hl (j+1) (by simp;omega);simpa [Nat.add_assoc,Nat.add_comm 1 j] using this) hB.2 h
  refine⟨fun e=>absurd e (by rw[hB.1];simp),fun i hi=>?_⟩;rw[hB.1] at hi;have e:i=k:=by simpa using hi
  subst e;unfold wpOp;simp only[h0];unfold wpList at h
  by_cases hw:Region.wanted o (yielded ops a.tmps)=true
  ·rw[if_pos hw] at h ⊢;rcases h with h|h
   ·exact .inl (Oper.wp_mono (fun a w h=>ih a w h) h)
   ·exact .inr h
  ·rw[if_neg hw] at h ⊢;exact ih _ _ h
def zkY(P:Program)(md:Region.Mode)(ops:Array Oper)(C:World->Prop)(n:Nat)(Q:Act->Prop):Nat->Array Bool->Act->Prop
 |0,listed,a=>zdG md ops (ops.size-n) n listed=true/\Q a
 |fuel+1,listed,a=>Region.ready md ops listed≠[]/\∀i∈Region.ready md ops listed,qOp P ops C i (zkY P md ops C n Q fuel (listed.setIfInBounds i true)) a
theorem zfq{Q:Act->Prop}{Q':Exit->Act->World->Prop}{n:Nat}{l:List Oper}(hl:∀j,j<l.length->l[j]?=ops[n+j]?)(hsz:ops.size-n=l.length)(hQ:∀a w,C w->Q a->wpList P ops Q' l a w):
  ∀(fuel:Nat) (listed:Array Bool) (a:Act) (w:World),C w->zkY P md ops C n Q fuel listed a->wpAny P md ops Q' (fuel+l.length) listed a w
 |0,listed,a,w,hw,h=>by
  rw[Nat.zero_add];exact zgg l n listed a w hl (by rw[<-hsz];exact h.1) (hQ a w hw h.2)
 |fuel+1,listed,a,w,hw,h=>by
  rw[show fuel+1+l.length=fuel+l.length+1 by omega];exact⟨fun h0=>absurd h0 h.1,fun i hi=>wpOp_of_qOp hw (fun a' w' hw'=>zfq hl hsz hQ fuel _ a' w' hw') (h.2 i hi)⟩
theorem zkZ{Q:Act->Prop}{i n:Nat}{oi:Oper}{v:Value}(hi:ops[i]?=some oi)(hlast:∀listed:Array Bool,zbx md ops listed->n∈Region.ready md ops listed->listed.getD i true=true)(hsel:∀(j:Nat) (o:Oper) cs b,ops[j]?=some o->o.op≠.select cs b):
  ∀(fuel:Nat) (listed:Array Bool) (a:Act),zbx md ops listed->
   (∀j oj,ops[j]?=some oj->j≠i->listed.getD j true=false->(∀e∈oj.after,Region.binds md e=true->e.on≠i)->oi.apart ops oj=true)->
   i∈Region.ready md ops listed->YieldsIn P ops C oi v a->
   zkY P md ops C n Q fuel (listed.setIfInBounds i true) (a.put oi.dst v)->zkY P md ops C n Q (fuel+1) listed a:=by
 intro fuel
 induction fuel with
 |zero=>
  intro listed a hcl _ hr hy H;refine⟨fun h=>(by rw[h] at hr;cases hr),fun j hj=>?_⟩
  by_cases hji:j=i
  ·subst hji;exact hy.qOp hi H
  ·have h2:=(zj0 H.1 j (ready_mono hj hji)).1;subst h2;have h1:=hlast _ hcl hj;rw[(mem_ready.1 hr).1] at h1;cases h1
 |succ fuel ih=>
  intro listed a hcl hfree hr hy H;refine⟨fun h=>(by rw[h] at hr;cases hr),fun j hj=>?_⟩
  by_cases hji:j=i
  ·subst hji;exact hy.qOp hi H
  ·have h1:=H.2 j (ready_mono hj hji);obtain⟨hjun,oj,hoj,hall⟩:=mem_ready.1 hj;have hnot:∀e∈oj.after,Region.binds md e=true->e.on≠i:=fun e he hb heq=>by
    have h1:=hall e he hb;have h0:=(mem_ready.1 hr).1;rw[heq] at h1;rcases Nat.lt_or_ge i listed.size with h'|h'
    ·simp[h'] at h0 h1;rw[h0] at h1;cases h1
    ·simp[Array.getElem?_eq_none h'] at h1
   have h2:=qOp_put hoj (hfree j oj hoj hji hjun hnot) (fun cs b=>hsel i oi cs b hi) (fun cs b=>hsel j oj cs b hoj) hy h1;have hfree':∀k ok,ops[k]?=some ok->k≠i->(listed.setIfInBounds j true).getD k true=false->
     (∀e∈ok.after,Region.binds md e=true->e.on≠i)->oi.apart ops ok=true:=fun k ok hk hki hun hno=>by
    refine hfree k ok hk hki ?_ hno
    by_cases hjk:j=k
    ·subst hjk;exact hjun
    ·rw[getD_set_ne true hjk] at hun;exact hun
   refine qOp_mono (fun a' h3=>ih (listed.setIfInBounds j true) a' (hcl.set hj) hfree' (ready_mono hr (Ne.symm hji)) h3.1 ?_) h2;rw[Array.setIfInBounds_comm _ _ hji];exact h3.2
def zcd(md:Region.Mode)(ops:Array Oper):Nat->Nat->Nat->Bool
 |0,n,i=>zhB md ops n i
 |f+1,n,i=>zhB md ops n i || (List.range n).any fun k=>zhB md ops n k&&zcd md ops f k i
theorem zqR{n i:Nat}(h:zhB md ops n i=true):∃o,ops[n]?=some o/\∃e∈o.after,Region.binds md e=true/\e.on=i:=by
 unfold zhB at h;split at h
 ·rename_i o ho
  simp only[Array.any_eq_true,Bool.and_eq_true,beq_iff_eq] at h;obtain⟨q,hq,hb,he⟩:=h;exact⟨o,ho,_,Array.getElem_mem hq,hb,he⟩
 ·cases h
theorem zbE{listed:Array Bool}(hc:zbx md ops listed):∀(f n i:Nat),listed.getD n true=true->zcd md ops f n i=true->listed.getD i true=true
 |0,n,i,hl,h=>by
  obtain⟨o,ho,e,he,hb,e2⟩:=zqR h;rw[<-e2];exact hc n o ho hl e he hb
 |f+1,n,i,hl,h=>by
  unfold zcd at h;rw[Bool.or_eq_true] at h;rcases h with h|h
  ·exact zbE hc 0 n i hl h
  ·obtain⟨k,_,hk⟩:=List.any_eq_true.1 h;rw[Bool.and_eq_true] at hk;exact zbE hc f k i (zbE hc 0 n k hl hk.1) hk.2
theorem zmq{f n i:Nat}(h:zcd md ops f n i=true)(listed:Array Bool)(hc:zbx md ops listed)(hr:n∈Region.ready md ops listed):listed.getD i true=true:=by
 cases f with
 |zero=>exact zfV h listed hr
 |succ f=>
  unfold zcd at h;rw[Bool.or_eq_true] at h;rcases h with h|h
  ·exact zfV h listed hr
  ·obtain⟨k,_,hk⟩:=List.any_eq_true.1 h;rw[Bool.and_eq_true] at hk;exact zbE hc f k i (zfV hk.1 listed hr) hk.2
def lexT(md:Region.Mode)(ops:Array Oper)(n:Nat):Nat->Nat->Array Bool->Bool
 |0,_,listed=>zdG md ops (ops.size-n) n listed
 |fuel+1,k,listed=>(Region.ready md ops listed).contains k&&Region.free md ops listed k&&lexT md ops n fuel (k+1) (listed.setIfInBounds k true)
def preB(md:Region.Mode)(ops:Array Oper)(n:Nat):Bool:=
 Region.noSelect ops&&(List.range n).all (fun i=>decide (ops.size<=n) || zcd md ops 6 n i)&&lexT md ops n n 0 (Array.replicate ops.size false)
theorem ziK{Q:Act->Prop}{n:Nat}(hs:Region.noSelect ops=true)(hn:∀i,i<n->(decide (ops.size<=n) || zcd md ops 6 n i)=true):∀(l:List Oper) (k:Nat) (listed:Array Bool) (a:Act),zbx md ops listed->(∀j,j<l.length->l[j]?=ops[k+j]?)->k+l.length=n->
  lexT md ops n l.length k listed=true->wpQuiet P ops C Q l a->zkY P md ops C n Q l.length listed a
 |[],_,_,_,_,_,_,hB,h=>⟨hB,h⟩
 |o::l,k,listed,a,hcl,hl,hkn,hB,h=>by
  have h0:ops[k]?=some o:=by simpa using (hl 0 (by simp)).symm
  simp only[List.length_cons,lexT,Bool.and_eq_true] at hB;obtain⟨⟨hr,hf⟩,hB'⟩:=hB;have hst:qOp P ops C k (wpQuiet P ops C Q l) a:=by unfold qOp;simp only[h0];exact h
  obtain⟨v,hy,hK⟩:=yieldsIn_of_qOp h0 hst;simp only[List.length_cons] at hkn;have hr':k∈Region.ready md ops listed:=by simpa using hr
  exact zkZ h0 (fun L hc hn'=>by
    have h1:=hn k (by omega);rw[Bool.or_eq_true] at h1;rcases h1 with h1|h1
    ·have h2:=of_decide_eq_true h1;obtain⟨_,o',ho',_⟩:=mem_ready.1 hn';have:=(Array.getElem?_eq_some_iff.1 ho').1;omega
    ·exact zmq h1 L hc hn') (Region.noSelect_spec hs) l.length listed a hcl (Region.free_spec h0 hf) hr' hy
   (ziK hs hn l (k+1) _ _ (hcl.set hr') (fun j hj=>by have:=hl (j+1) (by simp;omega);simpa [Nat.add_assoc,Nat.add_comm 1 j] using this) (by omega) hB' hK)
theorem zk1(n:Nat){Q:Exit->Act->World->Prop}{a:Act}{w:World}{all:List Oper}(C:World->Prop)(hC:C w)(hn:n<=all.length)(hB:preB md all.toArray n=true)
  (h:∀l,l=all.take n->wpQuiet P all.toArray C (fun a'=>∀w',C w'->∀r,r=all.drop n->wpList P all.toArray Q r a' w') l a):wpAny P md all.toArray Q all.length (Array.replicate all.length false) a w:=by
 simp only[preB,Bool.and_eq_true,List.all_eq_true,List.mem_range] at hB;have hlt:(all.take n).length=n:=by rw[List.length_take];omega
 have hld:(all.drop n).length=all.length-n:=by rw[List.length_drop]
 have h1:=ziK (P:=P) (C:=C) hB.1.1 hB.1.2 (all.take n) 0 (Array.replicate all.toArray.size false) a (zbx.start _ _) (fun j hj=>by rw[hlt] at hj;simp[hj]) (by omega) (by rw[hlt];exact hB.2) (h _ rfl);have h2:=zfq (md:=md) (C:=C) (Q':=Q) (n:=n) (l:=all.drop n) (fun j _=>by simp[List.getElem?_drop]) (by simp) (fun a w hw hq=>hq w hw _ rfl) (all.take n).length _ a w hC h1;rw[hlt,hld,show n+(all.length-n)=all.length by omega] at h2
 simpa using h2
theorem za4(n:Nat){id:Nat}{Q:Exit->Act->World->Prop}{a:Act}{w:World}{all:List Oper}(C:World->Prop)(hm:P.follows .mixedOrders=true)(hC:C w.drew)(hn:n<=all.length)(hB:preB .any all.toArray n=true)
  (h:∀l,l=all.take n->wpQuiet P all.toArray C (fun a'=>∀w',C w'->∀r,r=all.drop n->wpList P all.toArray Q r a' w') l a):(Code.region id all.toArray true).wp P Q a w:=by
 refine wp_region_any hm ?_;have:=zk1 (md:=.any) n C hC hn hB h
 simpa using this
theorem zof{o:Oper}{a:Act}{w:World}{K:Act->World->Prop}{Q:Exit->Act->World->Prop}(l n:Nat)(hd:∀c,o.op≠.defer c)(h:o.wp P a w K Q):o.wpIn (Fence.wide.inRound l) n P a w K Q:=by
 refine⟨fun _ _=>trivial,?_⟩;rw[Oper.semAt_eq _ _ _ hd];unfold Oper.wp at h;generalize (execOp a.eval o).run P w=r at *;have hdp:(Fence.wide.inRound l).depth.isSome=true->1<=n:=fun e=>by cases e
 cases r with
 |ok nx w'=>
  cases nx with
  |value v=>exact h
  |skip=>exact h
  |defer d=>exact h
  |enter f args=>exact⟨hdp,CallsIn.inRound l (callsIn_wide.2 h)⟩
  |row row args=>exact⟨hdp,fun c cs _=>by
    obtain⟨v,w2,h1,h2⟩:=h c cs;exact⟨v,w2,h1,stepsIn_wide.2 h2⟩⟩
  |round l f tmps assign body=>exact h.elim
  |_=>exact h.elim
 |halt hh w'=>
  cases hh with
  |panic v=>exact h
  |_=>exact h.elim
theorem zdc{Q:Exit->Act->World->Prop}(l n:Nat)(hQ:¬LetsOut Q)(hd:∀(j:Nat) (o:Oper),ops[j]?=some o->∀c,o.op≠.defer c):∀(fuel:Nat) (listed:Array Bool) (a:Act) (w:World),wpAny P md ops Q fuel listed a w->wpAnyIn (Fence.wide.inRound l) n P md ops Q fuel listed a w
 |0,_,_,_,h=>h
 |fuel+1,listed,a,w,h=>by
  refine⟨h.1,fun i hi=>?_⟩;have h1:=h.2 i hi;unfold wpOp at h1;unfold wpOpIn;split
  ·rename_i e
   simp only[e] at h1;exact zdc l n hQ hd fuel _ _ _ h1
  ·rename_i o e
   simp only[e] at h1
   by_cases hw:Region.wanted o (yielded ops a.tmps)=true
   ·rw[if_pos hw] at h1 ⊢;rcases h1 with h1|h1
    ·exact zof l n (hd i o e) (Oper.wp_mono (fun a w h=>zdc l n hQ hd fuel _ a w h) h1)
    ·exact absurd h1.2 hQ
   ·rw[if_neg hw] at h1 ⊢;exact⟨fun _ _=>trivial,zdc l n hQ hd fuel _ _ _ h1⟩
def zlI(ops:List Oper):Bool:=ops.all fun o=>match o.op with | .defer _=>false|_=>true
theorem zf9{all:List Oper}(h:zlI all=true)(j:Nat)(o:Oper)(ho:all.toArray[j]?=some o)(c:_):o.op≠.defer c:=fun e=>by
 have hm:o∈all:=by
  rw[List.getElem?_toArray] at ho;exact List.mem_of_getElem? ho
 have:=List.all_eq_true.1 h o hm;rw[e] at this;cases this
theorem zhF(n:Nat){id l nn:Nat}{Q:Exit->Act->World->Prop}{a:Act}{w:World}{all:List Oper}(C:World->Prop)(hm:P.follows .mixedOrders=true)(hC:C w.drew)(hQ:¬LetsOut Q)(hn:n<=all.length)(hB:preB .any all.toArray n=true)(hD:zlI all=true)
  (h:∀l,l=all.take n->wpQuiet P all.toArray C (fun a'=>∀w',C w'->∀r,r=all.drop n->wpList P all.toArray Q r a' w') l a):(Code.region id all.toArray true).wpIn (Fence.wide.inRound l) nn P Q a w:=by
 refine wpIn_region_any hm ?_;have:=zdc l nn hQ (zf9 hD) _ _ _ _ (zk1 (md:=.any) n C hC hn hB h)
 simpa using this
end
end Go.Proofs.YtdimhpfiieepiaaGreatDoor
