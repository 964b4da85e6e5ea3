import Derived.Test.YtdimhpfiieepiaaGreatDoorRows
import Derived.WalkKit
import Derived.WalkSpells
import Derived.WalkLawsBesides
import Derived.ProofKit
import Derived.Deep.AppendLies
import Derived.Deep.Slices
import Derived.Laws.Tables
namespace Go.Proofs.YtdimhpfiieepiaaGreatDoor
open Proofs.Tryz
open Option renaming none->za,some->zb
open Value renaming int->zc,slice->zf,agg->zi
open Go renaming Value->zd,World->ze,TypeId->zh,Calls->zk
open RowKit renaming Below->zg,Hid->zj
set_option maxHeartbeats 400000
open Go.RowKit
section
variable {lo B k base n sz cap g:Nat}{w w' a w1 W:ze}{v a0 a1 a2:zd}{xs:List zd}{f:Nat -> List zd}{o:Oper}{P:Program}{ops:Array Oper}{rest:List Oper}{Q:Exit -> Act -> ze -> Prop}
theorem Mt:type_of% @Array.getD_eq_getD_getElem?:=@Array.getD_eq_getD_getElem?
theorem wG:type_of% @Array.getElem?_eq_getElem:=@Array.getElem?_eq_getElem
theorem Ms:type_of% @Array.getElem?_eq_none:=@Array.getElem?_eq_none
theorem ap:type_of% @Array.getElem?_eq_some_iff:=@Array.getElem?_eq_some_iff
theorem Bl:type_of% @Array.replicate_succ:=@Array.replicate_succ
theorem Bm:type_of% @Array.replicate_zero:=@Array.replicate_zero
theorem dE:type_of% @Bool.and_eq_true:=@Bool.and_eq_true
theorem sw:type_of% @Bool.or_eq_true:=@Bool.or_eq_true
theorem kM:type_of% @Bool.true_and:=@Bool.true_and
theorem sx:type_of% @Int.toNat_natCast:=@Int.toNat_natCast
theorem jl:type_of% @List.all_eq_true:=@List.all_eq_true
theorem Dm:type_of% @List.any_eq_true:=@List.any_eq_true
theorem pA:type_of% @List.append_assoc:=@List.append_assoc
theorem tW:type_of% @List.append_nil:=@List.append_nil
theorem Bs:type_of% @List.append_toArray:=@List.append_toArray
theorem Bt:type_of% @List.cons_append:=@List.cons_append
theorem oC:type_of% @List.drop_eq_getElem_cons:=@List.drop_eq_getElem_cons
theorem sA:type_of% @List.drop_eq_nil_of_le:=@List.drop_eq_nil_of_le
theorem wM:type_of% @List.drop_succ_cons:=@List.drop_succ_cons
theorem wN:type_of% @List.drop_zero:=@List.drop_zero
theorem Bu:type_of% @List.eq_nil_of_length_eq_zero:=@List.eq_nil_of_length_eq_zero
theorem FC:type_of% @List.ext_getElem?:=@List.ext_getElem?
theorem lO:type_of% @List.filterMap_cons:=@List.filterMap_cons
theorem lP:type_of% @List.filterMap_nil:=@List.filterMap_nil
theorem cL:type_of% @List.getD_eq_getElem?_getD:=@List.getD_eq_getElem?_getD
theorem zuo:type_of% @List.getElem?_append:=@List.getElem?_append
theorem qR:type_of% @List.getElem?_append_left:=@List.getElem?_append_left
theorem vo:type_of% @List.getElem?_append_right:=@List.getElem?_append_right
theorem lQ:type_of% @List.getElem?_cons_succ:=@List.getElem?_cons_succ
theorem lR:type_of% @List.getElem?_cons_zero:=@List.getElem?_cons_zero
theorem P1:type_of% @List.getElem?_drop:=@List.getElem?_drop
theorem eY:type_of% @List.getElem?_eq_getElem:=@List.getElem?_eq_getElem
theorem qh:type_of% @List.getElem?_eq_none:=@List.getElem?_eq_none
theorem vp:type_of% @List.getElem?_eq_some_iff:=@List.getElem?_eq_some_iff
theorem Bv:type_of% @List.getElem?_map:=@List.getElem?_map
theorem qS:type_of% @List.getElem?_set:=@List.getElem?_set
theorem Bw:type_of% @List.getElem?_take:=@List.getElem?_take
theorem oz:type_of% @List.getElem_mem:=@List.getElem_mem
theorem pz:type_of% @List.length_append:=@List.length_append
theorem qg:type_of% @List.length_cons:=@List.length_cons
theorem tU:type_of% @List.length_map:=@List.length_map
theorem oA:type_of% @List.length_nil:=@List.length_nil
theorem Dl:type_of% @List.map_append:=@List.map_append
theorem Bo:type_of% @List.map_congr_left:=@List.map_congr_left
theorem vm:type_of% @List.map_cons:=@List.map_cons
theorem er:type_of% @List.mem_append:=@List.mem_append
theorem oB:type_of% @List.mem_cons:=@List.mem_cons
theorem yc:type_of% @List.mem_cons_of_mem:=@List.mem_cons_of_mem
theorem Bp:type_of% @List.mem_cons_self:=@List.mem_cons_self
theorem sy:type_of% @List.mem_map:=@List.mem_map
theorem Bq:type_of% @List.mem_of_getElem?:=@List.mem_of_getElem?
theorem wI:type_of% @List.mem_range:=@List.mem_range
theorem eM:type_of% @List.mem_singleton:=@List.mem_singleton
theorem wJ:type_of% @List.nil_append:=@List.nil_append
theorem Br:type_of% @List.push_toArray:=@List.push_toArray
theorem yd:type_of% @List.range_succ:=@List.range_succ
theorem FB:type_of% @List.setIfInBounds_toArray:=@List.setIfInBounds_toArray
theorem yh:type_of% @List.size_toArray:=@List.size_toArray
theorem wK:type_of% @List.take_length:=@List.take_length
theorem wL:type_of% @List.take_of_length_le:=@List.take_of_length_le
theorem nE:type_of% @List.take_succ_cons:=@List.take_succ_cons
theorem Mu:type_of% @List.take_succ_eq_append_getElem:=@List.take_succ_eq_append_getElem
theorem tV:type_of% @List.take_zero:=@List.take_zero
theorem Dk:type_of% @Nat.add_sub_cancel:=@Nat.add_sub_cancel
theorem wH:type_of% @Nat.add_zero:=@Nat.add_zero
theorem Fz:type_of% @Nat.eq_zero_or_pos:=@Nat.eq_zero_or_pos
theorem ai:type_of% @Nat.le_refl:=@Nat.le_refl
theorem aU:type_of% @Nat.le_trans:=@Nat.le_trans
theorem bA:type_of% @Nat.lt_of_lt_of_le:=@Nat.lt_of_lt_of_le
theorem gh:type_of% @Nat.lt_or_ge:=@Nat.lt_or_ge
theorem Bn:type_of% @Nat.lt_trichotomy:=@Nat.lt_trichotomy
theorem IL:type_of% @Nat.min_eq_left:=@Nat.min_eq_left
theorem xZ:type_of% @Nat.mod_eq_of_lt:=@Nat.mod_eq_of_lt
theorem dk:type_of% @Nat.not_lt_zero:=@Nat.not_lt_zero
theorem zz:type_of% @Nat.sub_self:=@Nat.sub_self
theorem kn:type_of% @Nat.zero_add:=@Nat.zero_add
theorem aZ:type_of% @Nat.zero_le:=@Nat.zero_le
theorem eu:type_of% @beq_eq_false_iff_ne:=@beq_eq_false_iff_ne
theorem bD:type_of% @bodyPost_ret:=@bodyPost_ret
theorem aO:type_of% @cell_of_row:=@cell_of_row
theorem oD:type_of% @decide_eq_true_eq:=@decide_eq_true_eq
theorem cF:type_of% @frozen_of_row:=@frozen_of_row
theorem aL:type_of% @heap_alloc_new:=@heap_alloc_new
theorem cu:type_of% @heap_setCell_other:=@heap_setCell_other
theorem dF:type_of% @heap_setCell_same:=@heap_setCell_same
theorem aq:type_of% @if_neg:=@if_neg
theorem aD:type_of% @if_pos:=@if_pos
theorem au{u:ze}{b:Obj}:zg u.heap.size u (u.alloc b):=(Below.refl _ _).alloc (Nat.le_refl _) _
structure Same(lo:Nat)(w w':ze):Prop where
 size:w.heap.size<=w'.heap.size
 block:∀k,lo<=k->k<w.heap.size->w'.heap[k]?=w.heap[k]?
theorem Same.cH(h:zg w.heap.size w w'):Same lo w w':=⟨h.size,λk _ hk=>h.block k hk⟩
theorem Same.trans{b c:ze}(h:Same lo a b)(k:Same lo b c):Same lo a c:=
 ⟨aU h.size k.size,λi hi hl=>(k.block i hi (bA hl h.size)).trans (h.block i hi hl)⟩
theorem Same.setCell(w:ze){a:Addr}(h:a.block<lo)(u:zd):Same lo w (w.setCell a u):=⟨by simp[World.setCell],λ_ hk _=>Below.heap_setCell _ _ _ _ (by omega)⟩
theorem Same.cell(h:Same lo w w'){p:Addr}(h1:lo<=p.block)(h2:p.block<w.heap.size):w'.cell? p=w.cell? p:=World.cell?_of_block (w:=w) (h.block p.block h1 h2)
theorem aj{w2:ze}(h:zg B w w1)(hB:B<=w1.heap.size)(k:zg w1.heap.size w1 w2):zg B w w2:=h.trans (k.mono hB)
theorem eX{k:IntKind}{a b:Int}(h:a=b):Ending.returned (.int k a)=.returned (.int k b):=by rw[h]
theorem cI{e:zh}{size:Nat}(h:w.ownsRow base e size v n xs)(hb:zg w.heap.size w w'):w'.ownsRow base e size v n xs:=by
 refine⟨h.1,?_⟩;rcases h.2 with h2|⟨g,cap,aA,hv,hg,hh,r⟩
 ·exact .inl h2
 ·exact .inr ⟨g,cap,aA,hv,hg,by rw[hb.block g (ap.1 hh).1];exact hh,r⟩
def nu(xs:List zd)(sz k:Nat)(f:Nat->List zd):Prop:=∀j,j<k->∀c,c<sz->xs[j*sz+c]?=(f j)[c]?
theorem se{e:zh}(h:w.ownsRow base e sz (zf (zb ⟨g,0,za⟩) n cap) n xs){j:Nat}(hj:j<n*sz):
  ∃u,w.cell? ⟨g,j,za⟩=zb u:=by
 rw[h.cellAt j hj];exact⟨_,eY (by rw[h.1];exact hj)⟩
theorem L8{e:zh}(h:w.ownsRow base e 2 (zf (zb ⟨g,0,za⟩) n cap) n xs){k:Nat}(hk:k<n):
  ∃u0 u1,w.cell? ⟨g,k*2,za⟩=zb u0/\w.cell? ⟨g,k*2+1,za⟩=zb u1/\w.frozen? ⟨g,k*2,za⟩=false/\w.frozen? ⟨g,k*2+1,za⟩=false:=by
 obtain⟨u0,h0⟩:=se h (j:=k*2) (by omega);obtain⟨u1,h1⟩:=se h (j:=k*2+1) (by omega);exact⟨u0,u1,h0,h1,h.frozenAt _,h.frozenAt _⟩
theorem zhT{a b:zd}(h:nu xs 2 k f)(hl:k*2+1<xs.length)(hk:f k=[a,b]):nu ((xs.set (k*2) a).set (k*2+1) b) 2 (k+1) f:=by
 intro j hj c hc;rw[qS,qS]
 by_cases e:j=k
 ·subst e;rw[hk]
  match c,hc with
  |0,_=>simp;omega
  |1,_=>simp;omega
 ·rw[aq (by omega),aq (by omega)];exact h j (by omega) c hc
theorem zk6{a3 a4:zd}(h:nu xs 5 k f)(hl:k*5+4<xs.length)(hk:f k=[a0,a1,a2,a3,a4]):
  nu (((((xs.set (k*5) a0).set (k*5+1) a1).set (k*5+2) a2).set (k*5+3) a3).set (k*5+4) a4) 5 (k+1) f:=by
 intro j hj c hc;rw[qS,qS,qS,qS,qS]
 by_cases e:j=k
 ·subst e;rw[hk]
  match c,hc with
  |0,_=>simp;omega
  |1,_=>simp;omega
  |2,_=>simp;omega
  |3,_=>simp;omega
  |4,_=>simp;omega
 ·rw[aq (by omega),aq (by omega),aq (by omega),aq (by omega),aq (by omega)];exact h j (by omega) c hc
theorem zjF(h:nu xs 3 k f)(hl:k*3+2<xs.length)(hk:f k=[a0,a1,a2]):
  nu (((xs.set (k*3) a0).set (k*3+1) a1).set (k*3+2) a2) 3 (k+1) f:=by
 intro j hj c hc;rw[qS,qS,qS]
 by_cases e:j=k
 ·subst e;rw[hk]
  match c,hc with
  |0,_=>simp;omega
  |1,_=>simp;omega
  |2,_=>simp;omega
 ·rw[aq (by omega),aq (by omega),aq (by omega)];exact h j (by omega) c hc
theorem zpD{e:zh}(h:w.ownsRow base e 3 (zf (zb ⟨g,0,za⟩) n cap) n xs){k:Nat}(hk:k<n):
  ∃u0 u1 u2,w.cell? ⟨g,k*3,za⟩=zb u0/\w.cell? ⟨g,k*3+1,za⟩=zb u1/\w.cell? ⟨g,k*3+2,za⟩=zb u2/\w.frozen? ⟨g,k*3,za⟩=false/\w.frozen? ⟨g,k*3+1,za⟩=false/\w.frozen? ⟨g,k*3+2,za⟩=false:=by
 obtain⟨u0,h0⟩:=se h (j:=k*3) (by omega);obtain⟨u1,h1⟩:=se h (j:=k*3+1) (by omega);obtain⟨u2,h2⟩:=se h (j:=k*3+2) (by omega);exact⟨u0,u1,u2,h0,h1,h2,h.frozenAt _,h.frozenAt _,h.frozenAt _⟩
theorem zrw{e:zh}(h:w.ownsRow base e 5 (zf (zb ⟨g,0,za⟩) n cap) n xs){k:Nat}(hk:k<n):
  ∃u0 u1 u2 u3 u4,w.cell? ⟨g,k*5,za⟩=zb u0/\w.cell? ⟨g,k*5+1,za⟩=zb u1/\w.cell? ⟨g,k*5+2,za⟩=zb u2/\w.cell? ⟨g,k*5+3,za⟩=zb u3/\w.cell? ⟨g,k*5+4,za⟩=zb u4/\
   w.frozen? ⟨g,k*5,za⟩=false/\w.frozen? ⟨g,k*5+1,za⟩=false/\w.frozen? ⟨g,k*5+2,za⟩=false/\w.frozen? ⟨g,k*5+3,za⟩=false/\w.frozen? ⟨g,k*5+4,za⟩=false:=by
 obtain⟨u0,h0⟩:=se h (j:=k*5) (by omega);obtain⟨u1,h1⟩:=se h (j:=k*5+1) (by omega);obtain⟨u2,h2⟩:=se h (j:=k*5+2) (by omega);obtain⟨u3,h3⟩:=se h (j:=k*5+3) (by omega);obtain⟨u4,h4⟩:=se h (j:=k*5+4) (by omega);exact⟨u0,u1,u2,u3,u4,h0,h1,h2,h3,h4,h.frozenAt _,h.frozenAt _,h.frozenAt _,h.frozenAt _,h.frozenAt _⟩
theorem lK{e:zh}(h:w.ownsRow base e sz (zf (zb ⟨g,0,za⟩) n cap) n xs)(hf:nu xs sz n f){i c:Nat}(hi:i<n)(hc:c<sz):
  w.cell? ⟨g,i*sz+c,za⟩=(f i)[c]?:=by
 have:i*sz+c<n*sz:=bA (by omega:i*sz+c<i*sz+sz) (by rw[<-Nat.succ_mul];exact Nat.mul_le_mul_right _ hi);rw[h.cellAt _ this];exact hf i hi c hc
theorem qd{e:zh}(h:w.ownsRow base e sz (zf (zb ⟨g,0,za⟩) n cap) n xs):g<w.heap.size:=(h.lt g rfl).2
theorem vi(hb:zg W.heap.size W w1):(∀b o,b<W.heap.size->w1.cell? ⟨b,o,za⟩=W.cell? ⟨b,o,za⟩)/\(∀b o,b<W.heap.size->w1.frozen? ⟨b,o,za⟩=W.frozen? ⟨b,o,za⟩):=
 ⟨λb o h=>hb.cell (p:=⟨b,o,za⟩) h,λb o h=>hb.frozen (p:=⟨b,o,za⟩) h⟩
theorem nu.congr{g:Nat->List zd}(h:nu xs sz k f)(Ed:∀j,j<k->f j=g j):nu xs sz k g:=λj hj c hc=>by rw[<-Ed j hj];exact h j hj c hc
def upd(S:Nat->zd)(k:Nat)(v:zd):Nat->zd:=λj=>if j=k then v else S j
theorem Is(S:Nat->zd)(k:Nat)(v:zd):upd S k v k=v:=by simp[upd]
theorem IE(S:Nat->zd)(v:zd){j k:Nat}(h:j<k):upd S k v j=S j:=by simp[upd];omega
theorem bF{a b:Bool}(h:a=b):Ending.returned (.bool a)=.returned (.bool b):=by rw[h]
theorem cQ{o ob:Obj}(h:w.heap[g]?=zb o):(w.alloc ob).heap[g]?=zb o:=by
 rw[Below.heap_alloc _ _ _ (ap.1 h).1];exact h
theorem Below.setRow(h:zg B a w){g:Nat}(hg:B<=g)(cs:Array zd):zg B a (w.setRow g cs):=
 h.trans ⟨rfl,rfl,rfl,by simp,λk hk=>setRow_other _ _ _ _ (by omega)⟩
theorem A7{e:zh}{m:Nat}(h:w.ownsRow base e 1 (zf (zb ⟨g,0,za⟩) n cap) n xs)(hm:m<=n):
  w.ownsRow base e 1 (zf (zb ⟨g,0,za⟩) m cap) m (xs.take m):=by
 obtain⟨h1,h2⟩:=h;rcases h2 with ⟨h0,_⟩|⟨g',cap',aA,hv,hg,hh,hn,rJ,hsz,zwt⟩
 ·cases h0
 ·cases hv
  refine⟨by simp at h1 ⊢;omega,.inr ⟨g,cap,aA,rfl,hg,hh,by omega,rJ,hsz,?_⟩⟩;rw[<-zwt,List.take_take]
  congr 1
  omega
theorem zg2(w:ze)(e:zh):(w.alloc (.cells #[] e)).ownsRow w.heap.size e 1 (zf (zb ⟨w.heap.size,0,za⟩) 0 0) 0 []:=
 ⟨rfl,.inr ⟨w.heap.size,0,#[],rfl,ai _,aL _ _,ai _,aZ _,rfl,rfl⟩⟩
theorem qc{e:zh}(h:w.ownsRow base e 1 (zf (zb ⟨g,0,za⟩) n cap) n xs):base<=g/\g<w.heap.size/\n<=cap/\cap<=maxLen:=by
 obtain⟨h1,h2⟩:=h;rcases h2 with ⟨h0,_⟩|⟨g',cap',aA,hv,hg,hh,hn,rJ,hsz,zwt⟩
 ·cases h0
 ·cases hv
  exact⟨hg,(ap.1 hh).1,hn,rJ⟩
theorem pX{a:Act}(w:ze)(lY:o.guard=za)(s x:Operand)(t:zh)
  (ho:o.op=.call {callee:=.builtin .append,args:=#[s,x],argTypes:=#[t,t]})
  (base:Nat) (e:zh) (i:TypeInfo) (z:zd) (bytes:Nat) (ht:P.underlying t=zb (.slice e)) (hi:P.info? e=zb i) (hz:i.zero=zb z)
  (xA:i.size=1) (uz:i.bytes=bytes) (xD:z.cells.size=1)
  (g cap n:Nat) (xs:List zd) (u:zd) (hs:a.eval s=zf (zb ⟨g,0,za⟩) n cap) (az:w.ownsRow base e 1 (zf (zb ⟨g,0,za⟩) n cap) n xs)
  (hx:a.eval x=zf (zb ⟨w.heap.size,0,za⟩) 1 1) (h1:u.oneCell'=true) (hn:n<=2000000) (xg:bytes<=64) (Gv:base<=w.heap.size)
  (h:∀g' cap' w',w'.ownsRow base e 1 (zf (zb ⟨g',0,za⟩) (n+1) cap') (n+1) (xs++[u])->w.grownBy w' (zb g)->(g'=g\/g'=w.heap.size+1)->wpList P ops Q rest (a.put o.dst (zf (zb ⟨g',0,za⟩) (n+1) cap')) w'):
  wpList P ops Q (o::rest) a (w.alloc (.cells #[u] e)):=by
 refine wpList_append_lies _ lY s x t ho base e i z 1 bytes ht hi hz xA uz xD (by omega) _ n xs hs (az.alloc _) ⟨w.heap.size,0,za⟩ 1 1 [u] hx rfl ?_ ?_ (by omega) (by unfold maxLen;omega) ?_ (by simp;omega) (w.heap.size+1) (by simp) ?_
 ·intro j v hv
  match j,hv with
  |0,hv=>simp at hv;subst hv;simp[Addr.add]
 ·intro v hv;simp at hv;subst hv;exact h1
 ·have:(n+1)*bytes<=2000001*64:=Nat.mul_le_mul (by omega) xg;omega
 ·intro g' cap' w' AM cR dg hlt;refine h g' cap' w' AM ⟨cR.os,cR.tape,cR.output,aU (by simp) cR.size,λk hk hne=>?_⟩ ?_
  ·rw[cR.block k (by simp;omega) (by simpa [Value.ownBlock]using hne),Below.heap_alloc _ _ _ hk]
  ·rcases dg with dg|dg
   ·left;simp[Value.ownBlock]at dg;exact dg.symm
   ·exact .inr dg
theorem OX(w:ze)(e:zh)(B H:Nat)(hB:B<=H)(hH:w.heap.size=H):(w.alloc (.cells #[] e)).ownsRow B e 1 (zf (zb ⟨H,0,za⟩) 0 0) 0 []:=by
 subst hH;exact⟨rfl,.inr ⟨w.heap.size,0,#[],rfl,hB,aL _ _,ai _,aZ _,rfl,rfl⟩⟩
theorem U3{a:Act}(w:ze)(H:Nat)(hH:w.heap.size=H)(lY:o.guard=za)(s x:Operand)(t:zh)
  (ho:o.op=.call {callee:=.builtin .append,args:=#[s,x],argTypes:=#[t,t]})
  (base:Nat) (e:zh) (i:TypeInfo) (z:zd) (bytes:Nat) (ht:P.underlying t=zb (.slice e)) (hi:P.info? e=zb i) (hz:i.zero=zb z)
  (xA:i.size=1) (uz:i.bytes=bytes) (xD:z.cells.size=1)
  (g cap n:Nat) (xs:List zd) (u:zd) (hs:a.eval s=zf (zb ⟨g,0,za⟩) n cap) (az:w.ownsRow base e 1 (zf (zb ⟨g,0,za⟩) n cap) n xs)
  (hx:a.eval x=zf (zb ⟨H,0,za⟩) 1 1) (h1:u.oneCell'=true) (hn:n<=2000000) (xg:bytes<=64) (Gv:base<=w.heap.size)
  (h:∀g' cap' w',w'.ownsRow base e 1 (zf (zb ⟨g',0,za⟩) (n+1) cap') (n+1) (xs++[u])->w.grownBy w' (zb g)->(g'=g\/g'=w.heap.size+1)->wpList P ops Q rest (a.put o.dst (zf (zb ⟨g',0,za⟩) (n+1) cap')) w'):
  wpList P ops Q (o::rest) a (w.alloc (.cells #[u] e)):=by
 subst hH;exact pX w lY s x t ho base e i z bytes ht hi hz xA uz xD g cap n xs u hs az hx h1 hn xg Gv h
theorem ztw{α:Type}{l:List α}(h:l.length=3):∃a b c,l=[a,b,c]:=by
 match l,h with
 |[a,b,c],_=>exact⟨a,b,c,rfl⟩
theorem Xh{α:Type}{l:List α}(h:l.length=5):∃a b c d e,l=[a,b,c,d,e]:=by
 match l,h with
 |[a,b,c,d,e],_=>exact⟨a,b,c,d,e,rfl⟩
theorem zqa{a:Addr}(h:W.cell? a=zb v):a=⟨a.block,a.off,za⟩:=by
 obtain⟨b,o,s⟩:=a;cases s with
 |none=>rfl
 |some q=>
  simp only[World.cell?]at h;split at h<;>simp at h
theorem LK{a:Addr}{len:Nat}{E:List zd->Prop}(hsz:0<sz)(h:∀i,i<len->∃cs,W.cells? 0 (a.add (i*sz)) sz=zb cs/\E cs)(h0:0<len):
  ∃(b o:Nat) (C:Nat->List zd),a=⟨b,o,za⟩/\b<W.heap.size/\∀i,i<len->E (C i)/\∀j,j<sz->W.cell? ⟨b,o+i*sz+j,za⟩=(C i)[j]?:=by
 obtain⟨cs0,h1,_⟩:=h 0 h0;obtain⟨_,hl,hc⟩:=World.cells?_some h1;have hz:=hc 0 hsz;rw[Nat.zero_mul,eY (by omega)]at hz;have ha:a.add 0=a:=by simp[Addr.add]
 rw[ha,ha]at hz;have hs:=zqa hz;obtain⟨C,hC⟩:=Go.Deep.choose_lt (α:=List zd) (p:=λi cs=>W.cells? 0 (a.add (i*sz)) sz=zb cs/\E cs) h;refine⟨a.block,a.off,C,hs,block_lt_of_cell hz,λi hi=>⟨(hC i hi).2,λj hj=>?_⟩⟩;obtain⟨_,_,dx⟩:=World.cells?_some (hC i hi).1;rw[<-dx j hj,Go.Deep.add_add]
 congr 1
 rw[hs];unfold Addr.add;split
 ·rename_i h
  simp only[Addr.mk.injEq,true_and,and_true];omega
 ·simp
theorem Lz{α:Type}(f:Nat->α)(d:α)(n i:Nat)(h:i<n):((List.range n).map f).getD i d=f i:=by
 simp[List.getD,h]
theorem Ib(h:n<=maxLen):n<=9223372036854775807:=by simpa [maxLen]using h
theorem Tryz.Oz:(prog.info? 3).map (λi=>(i.zero,i.size,i.bytes))=zb (zb (zc .i64 0),1,8):=by kernel_rfl
end
section
variable {lo cU:Nat}{w w' wr:ze}{v:zd}{rs:List (Int×Int)}{ao:Option Addr}
structure aM where
 kind:Int
 set:List (Int×Int)
 min:Int
 max:Int
 group:Int
structure aW where
 aV:Bool
 bm:Bool
 nodes:List aM
structure bL where
 branches:List aW
 dG:Int
def aM.zero:aM:=⟨0,[],0,0,0⟩
def aW.zero:aW:=⟨false,false,[]⟩
def VE(lo:Nat)(w:ze)(ao:Option Addr)(rs:List (Int×Int)):Prop:=
 0<rs.length->∃b o,ao=zb ⟨b,o,za⟩/\lo<=b/\b<w.heap.size/\
  ∀i,i<rs.length->w.cell? ⟨b,o+i*2,za⟩=zb (zc .i64 (rs.getD i (0,0)).1)/\w.cell? ⟨b,o+i*2+1,za⟩=zb (zc .i64 (rs.getD i (0,0)).2)
def dD(lo:Nat)(w:ze)(v:zd)(rs:List (Int×Int)):Prop:=∃ao cap,v=.slice ao rs.length cap/\rs.length<=9223372036854775807/\VE lo w ao rs
def VV(lo:Nat)(w:ze)(ao:Option Addr)(ns:List aM):Prop:=
 0<ns.length->∃b o,ao=zb ⟨b,o,za⟩/\lo<=b/\b<w.heap.size/\
  ∀i,i<ns.length->w.cell? ⟨b,o+i*5,za⟩=zb (zc .i64 (ns.getD i .zero).kind)/\
   (∃sv,w.cell? ⟨b,o+i*5+1,za⟩=zb sv/\dD lo w sv (ns.getD i .zero).set)/\
   w.cell? ⟨b,o+i*5+2,za⟩=zb (zc .i64 (ns.getD i .zero).min)/\w.cell? ⟨b,o+i*5+3,za⟩=zb (zc .i64 (ns.getD i .zero).max)/\
   w.cell? ⟨b,o+i*5+4,za⟩=zb (zc .i64 (ns.getD i .zero).group)
def dU(lo:Nat)(w:ze)(v:zd)(ns:List aM):Prop:=∃ao cap,v=.slice ao ns.length cap/\ns.length<=9223372036854775807/\VV lo w ao ns
def Vq(lo:Nat)(w:ze)(ao:Option Addr)(bs:List aW):Prop:=
 0<bs.length->∃b o,ao=zb ⟨b,o,za⟩/\lo<=b/\b<w.heap.size/\
  ∀i,i<bs.length->w.cell? ⟨b,o+i*3,za⟩=zb (.bool (bs.getD i .zero).aV)/\w.cell? ⟨b,o+i*3+1,za⟩=zb (.bool (bs.getD i .zero).bm)/\
   (∃nv,w.cell? ⟨b,o+i*3+2,za⟩=zb nv/\dU lo w nv (bs.getD i .zero).nodes)
def eh(lo:Nat)(w:ze)(v:zd)(bs:List aW):Prop:=∃ao cap,v=.slice ao bs.length cap/\bs.length<=9223372036854775807/\Vq lo w ao bs
theorem dD.same(h:dD lo w v rs)(hb:Same lo w w'):dD lo w' v rs:=by
 obtain⟨ao,cap,rfl,hm,h⟩:=h;refine⟨ao,cap,rfl,hm,λh0=>?_⟩;obtain⟨b,o,rfl,gV,hlt,hc⟩:=h h0;refine⟨b,o,rfl,gV,bA hlt hb.size,λi hi=>?_⟩;obtain⟨c0,c1⟩:=hc i hi;exact⟨(hb.cell (by exact gV) (by exact hlt)).trans c0,(hb.cell (by exact gV) (by exact hlt)).trans c1⟩
theorem dU.same{ns:List aM}(h:dU lo w v ns)(hb:Same lo w w'):dU lo w' v ns:=by
 obtain⟨ao,cap,rfl,hm,h⟩:=h;refine⟨ao,cap,rfl,hm,λh0=>?_⟩;obtain⟨b,o,rfl,gV,hlt,hc⟩:=h h0;refine⟨b,o,rfl,gV,bA hlt hb.size,λi hi=>?_⟩;obtain⟨c0,⟨sv,c1,hs⟩,c2,c3,c4⟩:=hc i hi;have hcell:∀off,w'.cell? ⟨b,off,za⟩=w.cell? ⟨b,off,za⟩:=λoff=>hb.cell (by exact gV) (by exact hlt)
 exact⟨(hcell _).trans c0,⟨sv,(hcell _).trans c1,hs.same hb⟩,(hcell _).trans c2,(hcell _).trans c3,(hcell _).trans c4⟩
theorem eh.same{bs:List aW}(h:eh lo w v bs)(hb:Same lo w w'):eh lo w' v bs:=by
 obtain⟨ao,cap,rfl,hm,h⟩:=h;refine⟨ao,cap,rfl,hm,λh0=>?_⟩;obtain⟨b,o,rfl,gV,hlt,hc⟩:=h h0;refine⟨b,o,rfl,gV,bA hlt hb.size,λi hi=>?_⟩;obtain⟨c0,c1,⟨nv,c2,hn⟩⟩:=hc i hi;have hcell:∀off,w'.cell? ⟨b,off,za⟩=w.cell? ⟨b,off,za⟩:=λoff=>hb.cell (by exact gV) (by exact hlt)
 exact⟨(hcell _).trans c0,(hcell _).trans c1,⟨nv,(hcell _).trans c2,hn.same hb⟩⟩
theorem dD.below(h:dD lo w v rs)(hb:zg w.heap.size w w'):dD lo w' v rs:=h.same (.cH hb)
theorem dU.below{ns:List aM}(h:dU lo w v ns)(hb:zg w.heap.size w w'):dU lo w' v ns:=h.same (.cH hb)
theorem eh.below{bs:List aW}(h:eh lo w v bs)(hb:zg w.heap.size w w'):eh lo w' v bs:=h.same (.cH hb)
theorem dD.mono(h:dD lo w v rs)(hl:cU<=lo):dD cU w v rs:=by
 obtain⟨ao,cap,rfl,hm,h⟩:=h;refine⟨ao,cap,rfl,hm,λh0=>?_⟩;obtain⟨b,o,rfl,gV,r⟩:=h h0;exact⟨b,o,rfl,aU hl gV,r⟩
theorem dU.mono{rs:List aM}(h:dU lo w v rs)(hl:cU<=lo):dU cU w v rs:=by
 obtain⟨ao,cap,rfl,hm,h⟩:=h;refine⟨ao,cap,rfl,hm,λh0=>?_⟩;obtain⟨b,o,rfl,gV,hlt,hc⟩:=h h0;refine⟨b,o,rfl,aU hl gV,hlt,λi hi=>?_⟩;obtain⟨c0,⟨sv,c1,hs⟩,r⟩:=hc i hi;exact⟨c0,⟨sv,c1,hs.mono hl⟩,r⟩
theorem VE.elem(h:VE lo w ao rs)(hb:zg w.heap.size w wr){k:Nat}(hk:k<rs.length):
  ∃(b o:Nat) (lo hi:Int),ao=zb ⟨b,o,za⟩/\zj (rs.getD k (0,0)=(lo,hi))/\b<w.heap.size/\wr.cell? ⟨b,o+k*2,za⟩=zb (zc .i64 lo)/\wr.cell? ⟨b,o+k*2+1,za⟩=zb (zc .i64 hi):=by
 obtain⟨b,o,rfl,_,hlt,hc⟩:=h (by omega);obtain⟨c0,c1⟩:=hc k hk;exact⟨b,o,_,_,rfl,rfl,hlt,(hb.cell (by exact hlt)).trans c0,(hb.cell (by exact hlt)).trans c1⟩
theorem VV.elem{ns:List aM}(h:VV lo w ao ns)(hb:zg w.heap.size w wr){k:Nat}(hk:k<ns.length):
  ∃(b o:Nat) (sv:zd) (nd:aM),ao=zb ⟨b,o,za⟩/\zj (ns.getD k .zero=nd)/\b<w.heap.size/\wr.cell? ⟨b,o+k*5,za⟩=zb (zc .i64 nd.kind)/\wr.cell? ⟨b,o+k*5+1,za⟩=zb sv/\
   wr.cell? ⟨b,o+k*5+2,za⟩=zb (zc .i64 nd.min)/\wr.cell? ⟨b,o+k*5+3,za⟩=zb (zc .i64 nd.max)/\wr.cell? ⟨b,o+k*5+4,za⟩=zb (zc .i64 nd.group)/\dD lo wr sv nd.set:=by
 obtain⟨b,o,rfl,_,hlt,hc⟩:=h (by omega);obtain⟨c0,⟨sv,c1,hs⟩,c2,c3,c4⟩:=hc k hk;exact⟨b,o,sv,_,rfl,rfl,hlt,(hb.cell (by exact hlt)).trans c0,(hb.cell (by exact hlt)).trans c1,(hb.cell (by exact hlt)).trans c2,(hb.cell (by exact hlt)).trans c3,(hb.cell (by exact hlt)).trans c4,hs.below hb⟩
theorem Vq.elem{bs:List aW}(h:Vq lo w ao bs)(hb:zg w.heap.size w wr){k:Nat}(hk:k<bs.length):
  ∃(b o:Nat) (nv:zd) (bd:aW),ao=zb ⟨b,o,za⟩/\zj (bs.getD k .zero=bd)/\b<w.heap.size/\wr.cell? ⟨b,o+k*3,za⟩=zb (.bool bd.aV)/\wr.cell? ⟨b,o+k*3+1,za⟩=zb (.bool bd.bm)/\
   wr.cell? ⟨b,o+k*3+2,za⟩=zb nv/\dU lo wr nv bd.nodes:=by
 obtain⟨b,o,rfl,_,hlt,hc⟩:=h (by omega);obtain⟨c0,c1,⟨nv,c2,hn⟩⟩:=hc k hk;exact⟨b,o,nv,_,rfl,rfl,hlt,(hb.cell (by exact hlt)).trans c0,(hb.cell (by exact hlt)).trans c1,(hb.cell (by exact hlt)).trans c2,hn.below hb⟩
def lL(rs:List (Int×Int))(left:Int):Int:=if left-rs.length<0 then -1 else left-rs.length
def nz:List aM->Int->Int
 |[],l=>l
 |n::ns,l=>if lL n.set l<0 then -1 else nz ns (lL n.set l)
def jg(ns:List aM)(left:Int):Int:=if left-ns.length<0 then -1 else nz ns (left-ns.length)
def nr:List aW->Int->Int
 |[],l=>l
 |b::bs,l=>if jg b.nodes l<0 then -1 else nr bs (jg b.nodes l)
def jh(bs:List aW)(left:Int):Int:=if left-bs.length<0 then -1 else nr bs (left-bs.length)
theorem LD(rs:List (Int×Int))(l:Int)(h:0<=l):-1<=lL rs l/\lL rs l<=l:=by unfold lL;split<;>omega
theorem zhn(ns:List aM):∀l:Int,0<=l->-1<=nz ns l/\nz ns l<=l:=by
 induction ns with
 |nil=>intro l h;simp[nz];omega
 |cons n ns ih=>
  intro l h;have:=LD n.set l h;unfold nz;split
  ·omega
  ·have:=ih (lL n.set l) (by omega);omega
theorem LB(ns:List aM)(l:Int)(h:0<=l):-1<=jg ns l/\jg ns l<=l:=by
 unfold jg;split
 ·omega
 ·have:=zhn ns (l-ns.length) (by omega);omega
theorem zey(ns:List aW):∀l:Int,0<=l->-1<=nr ns l/\nr ns l<=l:=by
 induction ns with
 |nil=>intro l h;simp[nr];omega
 |cons n ns ih=>
  intro l h;have:=LB n.nodes l h;unfold nr;split
  ·omega
  ·have:=ih (jg n.nodes l) (by omega);omega
theorem LA(ns:List aW)(l:Int)(h:0<=l):-1<=jh ns l/\jh ns l<=l:=by
 unfold jh;split
 ·omega
 ·have:=zey ns (l-ns.length) (by omega);omega
theorem zje(ns:List aM)(i:Nat)(hi:i<ns.length)(l:Int):
  nz (ns.drop i) l=if lL (ns.getD i .zero).set l<0 then -1 else nz (ns.drop (i+1)) (lL (ns.getD i .zero).set l):=by
 rw[oC hi];simp[nz,List.getD,hi]
theorem zgf(ns:List aW)(i:Nat)(hi:i<ns.length)(l:Int):
  nr (ns.drop i) l=if jg (ns.getD i .zero).nodes l<0 then -1 else nr (ns.drop (i+1)) (jg (ns.getD i .zero).nodes l):=by
 rw[oC hi];simp[nr,List.getD,hi]
end
section
variable {lo:Nat}
theorem zlN(a:Option Addr)(rs:List (Int×Int))(cap:Nat)(left:Int)(w:ze)(h0:0<=left)(h1:left<=1048576)(h2:rs.length<=9223372036854775807):
  zk prog 174 #[.slice a rs.length cap,zc .i64 left] w λe w'=>e=.returned (zc .i64 (lL rs left))/\w'=w:=by
 by_cases hle:left-rs.length<0
 all_goals
  go_enter func174,ntmps174
  go_wp2;go_ret;exact⟨eX (by unfold lL;split<;>omega),rfl⟩
theorem zku(k mn mx g:Int)(sv:zd)(rs:List (Int×Int))(left:Int)(w:ze)(hs:dD lo w sv rs)(h0:0<=left)(h1:left<=1048576):
  zk prog 153 #[zi #[zc .i64 k,sv,zc .i64 mn,zc .i64 mx,zc .i64 g],zc .i64 left] w λe w'=>e=.returned (zc .i64 (lL rs left))/\zg w.heap.size w w':=by
 obtain⟨ao,cap,rfl,hm,hc⟩:=hs;have hb:=LD rs left h0
 by_cases hle:lL rs left<0
 all_goals
  go_enter func153,ntmps153
  go_wp2_with (go_at_call 174;refine(zlN _ _ _ _ _ h0 h1 hm).mono ?_;rintro e w' ⟨rfl,rfl⟩)
  go_ret
  exact⟨eX (by omega),au⟩
theorem znY(v:zd)(ns:List aM)(left:Int)(w:ze)(hs:dU lo w v ns)(h0:0<=left)(h1:left<=1048576):
  zk prog 134 #[v,zc .i64 left] w λe w'=>e=.returned (zc .i64 (jg ns left))/\zg w.heap.size w w':=by
 obtain⟨ao,cap,rfl,hm,hc⟩:=hs
 by_cases hle:left-ns.length<0
 ·go_enter func134,ntmps134
  go_wp2;go_ret;exact⟨eX (by unfold jg;split<;>omega),Below.refl _ _⟩
 ·have HS:zj (jg ns left=nz (ns.drop 0) (left-ns.length)):=by show _=_;rw[jg,aq hle];rfl
  go_enter func134,ntmps134
  go_wp2
  go_loopw [1,5] (λl i wr=>∃k:Nat,k<=ns.length/\i=zc .i64 k/\∃L:Int,l=zc .i64 L/\0<=L/\L<=1048576/\zj (jg ns left=nz (ns.drop k) L)/\zg w.heap.size w wr)
   (λ_ i _=>ns.length-(intOf i).toNat)
  case atStart=>exact⟨0,aZ _,rfl,_,rfl,by omega,by omega,HS,Below.refl _ _⟩
  case round=>
   obtain⟨k,hk,rfl,L,rfl,uw,mO,HS,hb⟩:=hrel
   by_cases hlt:k<ns.length
   ·obtain⟨b,o,sv,nd,rfl,Hn,bu,c0,c1,c2,c3,c4,di⟩:=hc.elem hb hlt;have hz:=hb.size;have hq:=LD nd.set L uw;have HD:zj (nz (ns.drop k) L=if lL nd.set L<0 then -1 else nz (ns.drop (k+1)) (lL nd.set L)):=by have:=zje ns k hlt L;rw[Hn.out]at this;exact this
    by_cases l9:lL nd.set L<0
    ·go_wp2_with (go_at_call 153;refine(zku _ _ _ _ _ _ _ _ di uw mO).mono ?_;rintro e w1 ⟨rfl,ak⟩)
     go_ret
     exact⟨eX (by rw[HS.out,HD.out,aD l9]),aj hb hz ak⟩
    ·go_wp2_with (go_at_call 153;refine(zku _ _ _ _ _ _ _ _ di uw mO).mono ?_;rintro e w1 ⟨rfl,ak⟩)
     go_roundw
     case rel=>exact⟨k+1,by omega,by go_num,_,rfl,by omega,by omega,by show _=_;rw[HS.out,HD.out,aq (by omega)],aj hb hz ak⟩
     case measure=>simp[intOf];omega
   ·go_wp2;go_ret;exact⟨eX (by rw[HS.out,sA (by omega)];rfl),hb⟩
theorem zhm(aV bm:Bool)(nv:zd)(ns:List aM)(left:Int)(w:ze)(hs:dU lo w nv ns)(h0:0<=left)(h1:left<=1048576):
  zk prog 109 #[zi #[.bool aV,.bool bm,nv],zc .i64 left] w λe w'=>e=.returned (zc .i64 (jg ns left))/\zg w.heap.size w w':=by
 have hb:=LB ns left h0;have ha:=(Below.refl w.heap.size w).alloc (ai _) (.cells #[.bool aV,.bool bm,nv] 172);have mX:=hs.below ha
 by_cases hle:jg ns left<0
 all_goals
  go_enter func109,ntmps109
  go_wp2_with (go_at_call 134;refine(znY _ _ _ _ mX h0 h1).mono ?_;rintro e w' ⟨rfl,ak⟩)
  go_ret
  exact⟨eX (by omega),aj ha (by simp) ak⟩
theorem zkr(v:zd)(ns:List aW)(left:Int)(w:ze)(hs:eh lo w v ns)(h0:0<=left)(h1:left<=1048576):
  zk prog 86 #[v,zc .i64 left] w λe w'=>e=.returned (zc .i64 (jh ns left))/\zg w.heap.size w w':=by
 obtain⟨ao,cap,rfl,hm,hc⟩:=hs
 by_cases hle:left-ns.length<0
 ·go_enter func86,ntmps86
  go_wp2;go_ret;exact⟨eX (by unfold jh;split<;>omega),Below.refl _ _⟩
 ·have HS:zj (jh ns left=nr (ns.drop 0) (left-ns.length)):=by show _=_;rw[jh,aq hle];rfl
  go_enter func86,ntmps86
  go_wp2
  go_loopw [1,5] (λl i wr=>∃k:Nat,k<=ns.length/\i=zc .i64 k/\∃L:Int,l=zc .i64 L/\0<=L/\L<=1048576/\zj (jh ns left=nr (ns.drop k) L)/\zg w.heap.size w wr)
   (λ_ i _=>ns.length-(intOf i).toNat)
  case atStart=>exact⟨0,aZ _,rfl,_,rfl,by omega,by omega,HS,Below.refl _ _⟩
  case round=>
   obtain⟨k,hk,rfl,L,rfl,uw,mO,HS,hb⟩:=hrel
   by_cases hlt:k<ns.length
   ·obtain⟨b,o,nv,nd,rfl,Hn,bu,c0,c1,c2,io⟩:=hc.elem hb hlt;have hz:=hb.size;have hq:=LB nd.nodes L uw;have HD:zj (nr (ns.drop k) L=if jg nd.nodes L<0 then -1 else nr (ns.drop (k+1)) (jg nd.nodes L)):=by have:=zgf ns k hlt L;rw[Hn.out]at this;exact this
    by_cases l9:jg nd.nodes L<0
    ·go_wp2_with (go_at_call 109;refine(zhm _ _ _ _ _ _ io uw mO).mono ?_;rintro e w1 ⟨rfl,ak⟩)
     go_ret
     exact⟨eX (by rw[HS.out,HD.out,aD l9]),aj hb hz ak⟩
    ·go_wp2_with (go_at_call 109;refine(zhm _ _ _ _ _ _ io uw mO).mono ?_;rintro e w1 ⟨rfl,ak⟩)
     go_roundw
     case rel=>exact⟨k+1,by omega,by go_num,_,rfl,by omega,by omega,by show _=_;rw[HS.out,HD.out,aq (by omega)],aj hb hz ak⟩
     case measure=>simp[intOf];omega
   ·go_wp2;go_ret;exact⟨eX (by rw[HS.out,sA (by omega)];rfl),hb⟩
theorem zkw(g:Int)(bv:zd)(bs:List aW)(left:Int)(w:ze)(hs:eh lo w bv bs)(h0:0<=left)(h1:left<=1048576):
  zk prog 59 #[zi #[bv,zc .i64 g],zc .i64 left] w λe w'=>e=.returned (zc .i64 (jh bs left))/\zg w.heap.size w w':=by
 have hb:=LA bs left h0;have ha:=(Below.refl w.heap.size w).alloc (ai _) (.cells #[bv,zc .i64 g] 107);have mX:=hs.below ha
 by_cases hle:jh bs left<0
 all_goals
  go_enter func59,ntmps59
  go_wp2_with (go_at_call 86;refine(zkr _ _ _ _ mX h0 h1).mono ?_;rintro e w' ⟨rfl,ak⟩)
  go_ret
  exact⟨eX (by omega),aj ha (by simp) ak⟩
end
theorem Tryz.zyX:(prog.info? 149).map (λi=>(i.zero,i.size,i.bytes))=zb (zb (zi #[zc .i64 0,zf za 0 0,zc .i64 0,zc .i64 0,zc .i64 0]),5,56):=by kernel_rfl
theorem Tryz.zyV:(prog.info? 115).map (λi=>(i.zero,i.size,i.bytes))=zb (zb (zi #[.bool false,.bool false,zf za 0 0]),3,32):=by kernel_rfl
theorem Tryz.zy1:(prog.info? 211).map (λi=>(i.zero,i.size,i.bytes))=zb (zb (zi #[zc .i64 0,zc .i64 0]),2,16):=by kernel_rfl
theorem zn3(lo hi:Int)(w:ze):
  zk prog 197 #[zi #[zc .i64 lo,zc .i64 hi]] w λe w'=>e=.returned (zi #[zc .i64 lo,zc .i64 hi])/\zg w.heap.size w w':=by
 go_enter func197,ntmps197
 go_wp2;exact bD (v:=zi #[zc .i64 lo,zc .i64 hi]) (by simp[results,results197,go_sem]) rfl ⟨rfl,((au).alloc (by simp) _).alloc (by simp;omega) _⟩
variable {lo:Nat}{w:ze}{v:zd}{rs:List aW}
theorem dD.setCell{rs:List (Int×Int)}(h:dD lo w v rs){a:Addr}(ha:a.block<lo)(u:zd):dD lo (w.setCell a u) v rs:=h.same (Same.setCell w ha u)
theorem dU.setCell{rs:List aM}(h:dU lo w v rs){a:Addr}(ha:a.block<lo)(u:zd):dU lo (w.setCell a u) v rs:=h.same (Same.setCell w ha u)
theorem eh.setCell(h:eh lo w v rs){a:Addr}(ha:a.block<lo)(u:zd):eh lo (w.setCell a u) v rs:=h.same (Same.setCell w ha u)
theorem eh.mono{cU:Nat}(h:eh lo w v rs)(hl:cU<=lo):eh cU w v rs:=by
 obtain⟨ao,cap,rfl,hm,h⟩:=h;refine⟨ao,cap,rfl,hm,λh0=>?_⟩;obtain⟨b,o,rfl,gV,hlt,hc⟩:=h h0;refine⟨b,o,rfl,aU hl gV,hlt,λi hi=>?_⟩;obtain⟨c0,c1,⟨sv,c2,hs⟩⟩:=hc i hi;exact⟨c0,c1,⟨sv,c2,hs.mono hl⟩⟩
def PF(ns:List aM)(S:Nat->zd)(j:Nat):List zd:=[zc .i64 (ns.getD j .zero).kind,S j,zc .i64 (ns.getD j .zero).min,zc .i64 (ns.getD j .zero).max,zc .i64 (ns.getD j .zero).group]
def Pc(bs:List aW)(S:Nat->zd)(j:Nat):List zd:=[.bool (bs.getD j .zero).aV,.bool (bs.getD j .zero).bm,S j]
def Small(bs:List aW):Prop:=bs.length<=1048576/\∀i,i<bs.length->(bs.getD i .zero).nodes.length<=1048576/\∀j,j<(bs.getD i .zero).nodes.length->((bs.getD i .zero).nodes.getD j .zero).set.length<=1048576
end Go.Proofs.YtdimhpfiieepiaaGreatDoor
