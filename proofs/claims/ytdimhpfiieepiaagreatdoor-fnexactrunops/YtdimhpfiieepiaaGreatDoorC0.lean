import Derived.Test.YtdimhpfiieepiaaGreatDoorRows
import Derived.WalkKit
import Derived.WalkSpells
import Derived.WalkLawsBesides
import Derived.ProofKit
import Derived.Deep.AppendLies
import Derived.Deep.Slices
import Derived.Laws.Tables
import Derived.Deep.RegionHeld3
import Derived.Deep.DrawnRows
namespace Go.Proofs.YtdimhpfiieepiaaGreatDoor
open Proofs.Tryz
open Option renaming none->za,some->zb
open Value renaming int->zc,slice->zg,agg->zi
open Go renaming Value->zd,World->ze,Calls->zh,TypeId->zj
open RowKit renaming Below->zf,Hid->zk
set_option maxHeartbeats 400000
set_option maxRecDepth 100000
open Go.RowKit
section
variable {lo B k base n sz cap g:Nat}{w w' a w1 W:ze}{v a0 a1 a2:zd}{xs:List zd}{f:Nat -> List zd}{o:Oper}{P:Program}{ops:Array Oper}{rest:List Oper}{Q:Exit -> Act -> ze -> Prop}
theorem DZ:type_of% @Array.getElem?_eq_none:=@Array.getElem?_eq_none
theorem ah:type_of% @Array.getElem?_eq_some_iff:=@Array.getElem?_eq_some_iff
theorem NN:type_of% @Array.getElem?_setIfInBounds:=@Array.getElem?_setIfInBounds
theorem B4:type_of% @Array.replicate_succ:=@Array.replicate_succ
theorem B5:type_of% @Array.replicate_zero:=@Array.replicate_zero
theorem de:type_of% @Bool.and_eq_true:=@Bool.and_eq_true
theorem zZ:type_of% @Bool.false_eq_true:=@Bool.false_eq_true
theorem sK:type_of% @Bool.or_eq_true:=@Bool.or_eq_true
theorem kh:type_of% @Bool.true_and:=@Bool.true_and
theorem sM:type_of% @Int.toNat_natCast:=@Int.toNat_natCast
theorem iQ:type_of% @List.all_eq_true:=@List.all_eq_true
theorem D4:type_of% @List.any_eq_true:=@List.any_eq_true
theorem pG:type_of% @List.append_assoc:=@List.append_assoc
theorem ud:type_of% @List.append_nil:=@List.append_nil
theorem BW:type_of% @List.append_toArray:=@List.append_toArray
theorem BX:type_of% @List.cons_append:=@List.cons_append
theorem oK:type_of% @List.drop_eq_getElem_cons:=@List.drop_eq_getElem_cons
theorem sI:type_of% @List.drop_eq_nil_of_le:=@List.drop_eq_nil_of_le
theorem wV:type_of% @List.drop_succ_cons:=@List.drop_succ_cons
theorem wW:type_of% @List.drop_zero:=@List.drop_zero
theorem BZ:type_of% @List.eq_nil_of_length_eq_zero:=@List.eq_nil_of_length_eq_zero
theorem DY:type_of% @List.ext_getElem?:=@List.ext_getElem?
theorem jQ:type_of% @List.filterMap_cons:=@List.filterMap_cons
theorem jR:type_of% @List.filterMap_nil:=@List.filterMap_nil
theorem bP:type_of% @List.getD_eq_getElem?_getD:=@List.getD_eq_getElem?_getD
theorem zuN:type_of% @List.getElem?_append:=@List.getElem?_append
theorem pH:type_of% @List.getElem?_append_left:=@List.getElem?_append_left
theorem sJ:type_of% @List.getElem?_append_right:=@List.getElem?_append_right
theorem jS:type_of% @List.getElem?_cons_succ:=@List.getElem?_cons_succ
theorem jT:type_of% @List.getElem?_cons_zero:=@List.getElem?_cons_zero
theorem RA:type_of% @List.getElem?_drop:=@List.getElem?_drop
theorem dh:type_of% @List.getElem?_eq_getElem:=@List.getElem?_eq_getElem
theorem qw:type_of% @List.getElem?_eq_none:=@List.getElem?_eq_none
theorem zY:type_of% @List.getElem?_eq_some_iff:=@List.getElem?_eq_some_iff
theorem yA:type_of% @List.getElem?_map:=@List.getElem?_map
theorem qx:type_of% @List.getElem?_set:=@List.getElem?_set
theorem B3:type_of% @List.getElem?_take:=@List.getElem?_take
theorem kg:type_of% @List.getElem_mem:=@List.getElem_mem
theorem DW:type_of% @List.getElem_of_mem:=@List.getElem_of_mem
theorem nG:type_of% @List.length_append:=@List.length_append
theorem qu:type_of% @List.length_cons:=@List.length_cons
theorem rf:type_of% @List.length_map:=@List.length_map
theorem oJ:type_of% @List.length_nil:=@List.length_nil
theorem DX:type_of% @List.length_set:=@List.length_set
theorem zX:type_of% @List.map_append:=@List.map_append
theorem BV:type_of% @List.map_congr_left:=@List.map_congr_left
theorem wU:type_of% @List.map_cons:=@List.map_cons
theorem fm:type_of% @List.mem_append:=@List.mem_append
theorem pI:type_of% @List.mem_cons:=@List.mem_cons
theorem yC:type_of% @List.mem_cons_of_mem:=@List.mem_cons_of_mem
theorem B7:type_of% @List.mem_cons_self:=@List.mem_cons_self
theorem rh:type_of% @List.mem_map:=@List.mem_map
theorem B8:type_of% @List.mem_of_getElem?:=@List.mem_of_getElem?
theorem Ab:type_of% @List.mem_range:=@List.mem_range
theorem eK:type_of% @List.mem_singleton:=@List.mem_singleton
theorem wX:type_of% @List.nil_append:=@List.nil_append
theorem B9:type_of% @List.push_toArray:=@List.push_toArray
theorem yD:type_of% @List.range_succ:=@List.range_succ
theorem yE:type_of% @List.size_toArray:=@List.size_toArray
theorem wY:type_of% @List.take_length:=@List.take_length
theorem wZ:type_of% @List.take_of_length_le:=@List.take_of_length_le
theorem nH:type_of% @List.take_succ_cons:=@List.take_succ_cons
theorem NP:type_of% @List.take_succ_eq_append_getElem:=@List.take_succ_eq_append_getElem
theorem ue:type_of% @List.take_zero:=@List.take_zero
theorem D8:type_of% @Nat.add_sub_cancel:=@Nat.add_sub_cancel
theorem uf:type_of% @Nat.add_zero:=@Nat.add_zero
theorem Ea:type_of% @Nat.eq_zero_or_pos:=@Nat.eq_zero_or_pos
theorem aj:type_of% @Nat.le_refl:=@Nat.le_refl
theorem aW:type_of% @Nat.le_trans:=@Nat.le_trans
theorem bA:type_of% @Nat.lt_of_lt_of_le:=@Nat.lt_of_lt_of_le
theorem ig:type_of% @Nat.lt_or_ge:=@Nat.lt_or_ge
theorem Ca:type_of% @Nat.lt_trichotomy:=@Nat.lt_trichotomy
theorem JV:type_of% @Nat.min_eq_left:=@Nat.min_eq_left
theorem yF:type_of% @Nat.mod_eq_of_lt:=@Nat.mod_eq_of_lt
theorem cR:type_of% @Nat.not_lt_zero:=@Nat.not_lt_zero
theorem Aa:type_of% @Nat.sub_self:=@Nat.sub_self
theorem jw:type_of% @Nat.zero_add:=@Nat.zero_add
theorem aR:type_of% @Nat.zero_le:=@Nat.zero_le
theorem D7:type_of% @Option.map_some:=@Option.map_some
theorem eB:type_of% @beq_eq_false_iff_ne:=@beq_eq_false_iff_ne
theorem bh:type_of% @bodyPost_ret:=@bodyPost_ret
theorem aM:type_of% @cell_of_row:=@cell_of_row
theorem lx:type_of% @decide_eq_true_eq:=@decide_eq_true_eq
theorem cT:type_of% @frozen_of_row:=@frozen_of_row
theorem aI:type_of% @heap_alloc_new:=@heap_alloc_new
theorem cH:type_of% @heap_setCell_other:=@heap_setCell_other
theorem dE:type_of% @heap_setCell_same:=@heap_setCell_same
theorem ak:type_of% @if_neg:=@if_neg
theorem aC:type_of% @if_pos:=@if_pos
theorem aw{u:ze}{b:Obj}:zf u.heap.size u (u.alloc b):=(Below.refl _ _).alloc (Nat.le_refl _) _
structure Same(lo:Nat)(w w':ze):Prop where
 size:w.heap.size<=w'.heap.size
 block:∀k,lo<=k->k<w.heap.size->w'.heap[k]?=w.heap[k]?
theorem Same.bR(h:zf w.heap.size w w'):Same lo w w':=⟨h.size,λk _ hk=>h.block k hk⟩
theorem Same.trans{b c:ze}(h:Same lo a b)(k:Same lo b c):Same lo a c:=
 ⟨aW h.size k.size,λi hi hl=>(k.block i hi (bA hl h.size)).trans (h.block i hi hl)⟩
theorem Same.setCell(w:ze){a:Addr}(h:a.block<lo)(u:zd):Same lo w (w.setCell a u):=⟨by simp[World.setCell],λ_ hk _=>Below.heap_setCell _ _ _ _ (by omega)⟩
theorem Same.cell(h:Same lo w w'){p:Addr}(h1:lo<=p.block)(h2:p.block<w.heap.size):w'.cell? p=w.cell? p:=World.cell?_of_block (w:=w) (h.block p.block h1 h2)
theorem aq{w2:ze}(h:zf B w w1)(hB:B<=w1.heap.size)(k:zf w1.heap.size w1 w2):zf B w w2:=h.trans (k.mono hB)
theorem gh{k:IntKind}{a b:Int}(h:a=b):Ending.returned (.int k a)=.returned (.int k b):=by rw[h]
theorem dQ{e:zj}{size:Nat}(h:w.ownsRow base e size v n xs)(hb:zf w.heap.size w w'):w'.ownsRow base e size v n xs:=by
 refine⟨h.1,?_⟩;rcases h.2 with h2|⟨g,cap,ax,hv,hg,hh,r⟩
 ·exact .inl h2
 ·exact .inr ⟨g,cap,ax,hv,hg,by rw[hb.block g (ah.1 hh).1];exact hh,r⟩
def mD(xs:List zd)(sz k:Nat)(f:Nat->List zd):Prop:=∀j,j<k->∀c,c<sz->xs[j*sz+c]?=(f j)[c]?
theorem sw{e:zj}(h:w.ownsRow base e sz (zg (zb ⟨g,0,za⟩) n cap) n xs){j:Nat}(hj:j<n*sz):
  ∃u,w.cell? ⟨g,j,za⟩=zb u:=by
 rw[h.cellAt j hj];exact⟨_,dh (by rw[h.1];exact hj)⟩
theorem DG{e:zj}(h:w.ownsRow base e 2 (zg (zb ⟨g,0,za⟩) n cap) n xs){k:Nat}(hk:k<n):
  ∃u0 u1,w.cell? ⟨g,k*2,za⟩=zb u0/\w.cell? ⟨g,k*2+1,za⟩=zb u1/\w.frozen? ⟨g,k*2,za⟩=false/\w.frozen? ⟨g,k*2+1,za⟩=false:=by
 obtain⟨u0,h0⟩:=sw h (j:=k*2) (by omega);obtain⟨u1,h1⟩:=sw h (j:=k*2+1) (by omega);exact⟨u0,u1,h0,h1,h.frozenAt _,h.frozenAt _⟩
theorem Xu{a b:zd}(h:mD xs 2 k f)(hl:k*2+1<xs.length)(hk:f k=[a,b]):mD ((xs.set (k*2) a).set (k*2+1) b) 2 (k+1) f:=by
 intro j hj c hc;rw[qx,qx]
 by_cases e:j=k
 ·subst e;rw[hk]
  match c,hc with
  |0,_=>simp;omega
  |1,_=>simp;omega
 ·rw[ak (by omega),ak (by omega)];exact h j (by omega) c hc
theorem zk6{a3 a4:zd}(h:mD xs 5 k f)(hl:k*5+4<xs.length)(hk:f k=[a0,a1,a2,a3,a4]):
  mD (((((xs.set (k*5) a0).set (k*5+1) a1).set (k*5+2) a2).set (k*5+3) a3).set (k*5+4) a4) 5 (k+1) f:=by
 intro j hj c hc;rw[qx,qx,qx,qx,qx]
 by_cases e:j=k
 ·subst e;rw[hk]
  match c,hc with
  |0,_=>simp;omega
  |1,_=>simp;omega
  |2,_=>simp;omega
  |3,_=>simp;omega
  |4,_=>simp;omega
 ·rw[ak (by omega),ak (by omega),ak (by omega),ak (by omega),ak (by omega)];exact h j (by omega) c hc
theorem zjD(h:mD xs 3 k f)(hl:k*3+2<xs.length)(hk:f k=[a0,a1,a2]):
  mD (((xs.set (k*3) a0).set (k*3+1) a1).set (k*3+2) a2) 3 (k+1) f:=by
 intro j hj c hc;rw[qx,qx,qx]
 by_cases e:j=k
 ·subst e;rw[hk]
  match c,hc with
  |0,_=>simp;omega
  |1,_=>simp;omega
  |2,_=>simp;omega
 ·rw[ak (by omega),ak (by omega),ak (by omega)];exact h j (by omega) c hc
theorem zpL{e:zj}(h:w.ownsRow base e 3 (zg (zb ⟨g,0,za⟩) n cap) n xs){k:Nat}(hk:k<n):
  ∃u0 u1 u2,w.cell? ⟨g,k*3,za⟩=zb u0/\w.cell? ⟨g,k*3+1,za⟩=zb u1/\w.cell? ⟨g,k*3+2,za⟩=zb u2/\w.frozen? ⟨g,k*3,za⟩=false/\w.frozen? ⟨g,k*3+1,za⟩=false/\w.frozen? ⟨g,k*3+2,za⟩=false:=by
 obtain⟨u0,h0⟩:=sw h (j:=k*3) (by omega);obtain⟨u1,h1⟩:=sw h (j:=k*3+1) (by omega);obtain⟨u2,h2⟩:=sw h (j:=k*3+2) (by omega);exact⟨u0,u1,u2,h0,h1,h2,h.frozenAt _,h.frozenAt _,h.frozenAt _⟩
theorem zrM{e:zj}(h:w.ownsRow base e 5 (zg (zb ⟨g,0,za⟩) n cap) n xs){k:Nat}(hk:k<n):
  ∃u0 u1 u2 u3 u4,w.cell? ⟨g,k*5,za⟩=zb u0/\w.cell? ⟨g,k*5+1,za⟩=zb u1/\w.cell? ⟨g,k*5+2,za⟩=zb u2/\w.cell? ⟨g,k*5+3,za⟩=zb u3/\w.cell? ⟨g,k*5+4,za⟩=zb u4/\
   w.frozen? ⟨g,k*5,za⟩=false/\w.frozen? ⟨g,k*5+1,za⟩=false/\w.frozen? ⟨g,k*5+2,za⟩=false/\w.frozen? ⟨g,k*5+3,za⟩=false/\w.frozen? ⟨g,k*5+4,za⟩=false:=by
 obtain⟨u0,h0⟩:=sw h (j:=k*5) (by omega);obtain⟨u1,h1⟩:=sw h (j:=k*5+1) (by omega);obtain⟨u2,h2⟩:=sw h (j:=k*5+2) (by omega);obtain⟨u3,h3⟩:=sw h (j:=k*5+3) (by omega);obtain⟨u4,h4⟩:=sw h (j:=k*5+4) (by omega);exact⟨u0,u1,u2,u3,u4,h0,h1,h2,h3,h4,h.frozenAt _,h.frozenAt _,h.frozenAt _,h.frozenAt _,h.frozenAt _⟩
theorem kL{e:zj}(h:w.ownsRow base e sz (zg (zb ⟨g,0,za⟩) n cap) n xs)(hf:mD xs sz n f){i c:Nat}(hi:i<n)(hc:c<sz):
  w.cell? ⟨g,i*sz+c,za⟩=(f i)[c]?:=by
 have:i*sz+c<n*sz:=bA (by omega:i*sz+c<i*sz+sz) (by rw[<-Nat.succ_mul];exact Nat.mul_le_mul_right _ hi);rw[h.cellAt _ this];exact hf i hi c hc
theorem pE{e:zj}(h:w.ownsRow base e sz (zg (zb ⟨g,0,za⟩) n cap) n xs):g<w.heap.size:=(h.lt g rfl).2
theorem uc(hb:zf W.heap.size W w1):(∀b o,b<W.heap.size->w1.cell? ⟨b,o,za⟩=W.cell? ⟨b,o,za⟩)/\(∀b o,b<W.heap.size->w1.frozen? ⟨b,o,za⟩=W.frozen? ⟨b,o,za⟩):=
 ⟨λb o h=>hb.cell (p:=⟨b,o,za⟩) h,λb o h=>hb.frozen (p:=⟨b,o,za⟩) h⟩
theorem mD.congr{g:Nat->List zd}(h:mD xs sz k f)(E2:∀j,j<k->f j=g j):mD xs sz k g:=λj hj c hc=>by rw[<-E2 j hj];exact h j hj c hc
def upd(S:Nat->zd)(k:Nat)(v:zd):Nat->zd:=λj=>if j=k then v else S j
theorem JD(S:Nat->zd)(k:Nat)(v:zd):upd S k v k=v:=by simp[upd]
theorem JO(S:Nat->zd)(v:zd){j k:Nat}(h:j<k):upd S k v j=S j:=by simp[upd];omega
theorem bz{a b:Bool}(h:a=b):Ending.returned (.bool a)=.returned (.bool b):=by rw[h]
theorem cX{o ob:Obj}(h:w.heap[g]?=zb o):(w.alloc ob).heap[g]?=zb o:=by
 rw[Below.heap_alloc _ _ _ (ah.1 h).1];exact h
theorem Below.setRow(h:zf B a w){g:Nat}(hg:B<=g)(cs:Array zd):zf B a (w.setRow g cs):=
 h.trans ⟨rfl,rfl,rfl,by simp,λk hk=>setRow_other _ _ _ _ (by omega)⟩
theorem Qv{e:zj}{m:Nat}(h:w.ownsRow base e 1 (zg (zb ⟨g,0,za⟩) n cap) n xs)(hm:m<=n):
  w.ownsRow base e 1 (zg (zb ⟨g,0,za⟩) m cap) m (xs.take m):=by
 obtain⟨h1,h2⟩:=h;rcases h2 with ⟨h0,_⟩|⟨g',cap',ax,hv,hg,hh,hn,rO,hsz,zxD⟩
 ·cases h0
 ·cases hv
  refine⟨by simp at h1 ⊢;omega,.inr ⟨g,cap,ax,rfl,hg,hh,by omega,rO,hsz,?_⟩⟩;rw[<-zxD,List.take_take]
  congr 1
  omega
theorem zgR(w:ze)(e:zj):(w.alloc (.cells #[] e)).ownsRow w.heap.size e 1 (zg (zb ⟨w.heap.size,0,za⟩) 0 0) 0 []:=
 ⟨rfl,.inr ⟨w.heap.size,0,#[],rfl,aj _,aI _ _,aj _,aR _,rfl,rfl⟩⟩
theorem qn{e:zj}(h:w.ownsRow base e 1 (zg (zb ⟨g,0,za⟩) n cap) n xs):base<=g/\g<w.heap.size/\n<=cap/\cap<=maxLen:=by
 obtain⟨h1,h2⟩:=h;rcases h2 with ⟨h0,_⟩|⟨g',cap',ax,hv,hg,hh,hn,rO,hsz,zxD⟩
 ·cases h0
 ·cases hv
  exact⟨hg,(ah.1 hh).1,hn,rO⟩
theorem wL{a:Act}(w:ze)(lZ:o.guard=za)(s x:Operand)(t:zj)
  (ho:o.op=.call {callee:=.builtin .append,args:=#[s,x],argTypes:=#[t,t]})
  (base:Nat) (e:zj) (i:TypeInfo) (z:zd) (bytes:Nat) (ht:P.underlying t=zb (.slice e)) (hi:P.info? e=zb i) (hz:i.zero=zb z)
  (xN:i.size=1) (uI:i.bytes=bytes) (tQ:z.cells.size=1)
  (g cap n:Nat) (xs:List zd) (u:zd) (hs:a.eval s=zg (zb ⟨g,0,za⟩) n cap) (aB:w.ownsRow base e 1 (zg (zb ⟨g,0,za⟩) n cap) n xs)
  (hx:a.eval x=zg (zb ⟨w.heap.size,0,za⟩) 1 1) (h1:u.oneCell'=true) (hn:n<=2000000) (xD:bytes<=64) (Io:base<=w.heap.size)
  (h:∀g' cap' w',w'.ownsRow base e 1 (zg (zb ⟨g',0,za⟩) (n+1) cap') (n+1) (xs++[u])->w.grownBy w' (zb g)->(g'=g\/g'=w.heap.size+1)->wpList P ops Q rest (a.put o.dst (zg (zb ⟨g',0,za⟩) (n+1) cap')) w'):
  wpList P ops Q (o::rest) a (w.alloc (.cells #[u] e)):=by
 refine wpList_append_lies _ lZ s x t ho base e i z 1 bytes ht hi hz xN uI tQ (by omega) _ n xs hs (aB.alloc _) ⟨w.heap.size,0,za⟩ 1 1 [u] hx rfl ?_ ?_ (by omega) (by unfold maxLen;omega) ?_ (by simp;omega) (w.heap.size+1) (by simp) ?_
 ·intro j v hv
  match j,hv with
  |0,hv=>simp at hv;subst hv;simp[Addr.add]
 ·intro v hv;simp at hv;subst hv;exact h1
 ·have:(n+1)*bytes<=2000001*64:=Nat.mul_le_mul (by omega) xD;omega
 ·intro g' cap' w' wj cJ dF hlt;refine h g' cap' w' wj ⟨cJ.os,cJ.tape,cJ.output,aW (by simp) cJ.size,λk hk hne=>?_⟩ ?_
  ·rw[cJ.block k (by simp;omega) (by simpa [Value.ownBlock]using hne),Below.heap_alloc _ _ _ hk]
  ·rcases dF with dF|dF
   ·left;simp[Value.ownBlock]at dF;exact dF.symm
   ·exact .inr dF
theorem Qq(w:ze)(e:zj)(B H:Nat)(hB:B<=H)(hH:w.heap.size=H):(w.alloc (.cells #[] e)).ownsRow B e 1 (zg (zb ⟨H,0,za⟩) 0 0) 0 []:=by
 subst hH;exact⟨rfl,.inr ⟨w.heap.size,0,#[],rfl,hB,aI _ _,aj _,aR _,rfl,rfl⟩⟩
theorem WK{a:Act}(w:ze)(H:Nat)(hH:w.heap.size=H)(lZ:o.guard=za)(s x:Operand)(t:zj)
  (ho:o.op=.call {callee:=.builtin .append,args:=#[s,x],argTypes:=#[t,t]})
  (base:Nat) (e:zj) (i:TypeInfo) (z:zd) (bytes:Nat) (ht:P.underlying t=zb (.slice e)) (hi:P.info? e=zb i) (hz:i.zero=zb z)
  (xN:i.size=1) (uI:i.bytes=bytes) (tQ:z.cells.size=1)
  (g cap n:Nat) (xs:List zd) (u:zd) (hs:a.eval s=zg (zb ⟨g,0,za⟩) n cap) (aB:w.ownsRow base e 1 (zg (zb ⟨g,0,za⟩) n cap) n xs)
  (hx:a.eval x=zg (zb ⟨H,0,za⟩) 1 1) (h1:u.oneCell'=true) (hn:n<=2000000) (xD:bytes<=64) (Io:base<=w.heap.size)
  (h:∀g' cap' w',w'.ownsRow base e 1 (zg (zb ⟨g',0,za⟩) (n+1) cap') (n+1) (xs++[u])->w.grownBy w' (zb g)->(g'=g\/g'=w.heap.size+1)->wpList P ops Q rest (a.put o.dst (zg (zb ⟨g',0,za⟩) (n+1) cap')) w'):
  wpList P ops Q (o::rest) a (w.alloc (.cells #[u] e)):=by
 subst hH;exact wL w lZ s x t ho base e i z bytes ht hi hz xN uI tQ g cap n xs u hs aB hx h1 hn xD Io h
theorem ztU{α:Type}{l:List α}(h:l.length=3):∃a b c,l=[a,b,c]:=by
 match l,h with
 |[a,b,c],_=>exact⟨a,b,c,rfl⟩
theorem ztV{α:Type}{l:List α}(h:l.length=5):∃a b c d e,l=[a,b,c,d,e]:=by
 match l,h with
 |[a,b,c,d,e],_=>exact⟨a,b,c,d,e,rfl⟩
theorem zqj{a:Addr}(h:W.cell? a=zb v):a=⟨a.block,a.off,za⟩:=by
 obtain⟨b,o,s⟩:=a;cases s with
 |none=>rfl
 |some q=>
  simp only[World.cell?]at h;split at h<;>simp at h
theorem Ju{a:Addr}{len:Nat}{E:List zd->Prop}(hsz:0<sz)(h:∀i,i<len->∃cs,W.cells? 0 (a.add (i*sz)) sz=zb cs/\E cs)(h0:0<len):
  ∃(b o:Nat) (C:Nat->List zd),a=⟨b,o,za⟩/\b<W.heap.size/\∀i,i<len->E (C i)/\∀j,j<sz->W.cell? ⟨b,o+i*sz+j,za⟩=(C i)[j]?:=by
 obtain⟨cs0,h1,_⟩:=h 0 h0;obtain⟨_,hl,hc⟩:=World.cells?_some h1;have hz:=hc 0 hsz;rw[Nat.zero_mul,dh (by omega)]at hz;have ha:a.add 0=a:=by simp[Addr.add]
 rw[ha,ha]at hz;have hs:=zqj hz;obtain⟨C,hC⟩:=Go.Deep.choose_lt (α:=List zd) (p:=λi cs=>W.cells? 0 (a.add (i*sz)) sz=zb cs/\E cs) h;refine⟨a.block,a.off,C,hs,block_lt_of_cell hz,λi hi=>⟨(hC i hi).2,λj hj=>?_⟩⟩;obtain⟨_,_,eW⟩:=World.cells?_some (hC i hi).1;rw[<-eW j hj,Go.Deep.add_add]
 congr 1
 rw[hs];unfold Addr.add;split
 ·rename_i h
  simp only[Addr.mk.injEq,true_and,and_true];omega
 ·simp
theorem FM{α:Type}(f:Nat->α)(d:α)(n i:Nat)(h:i<n):((List.range n).map f).getD i d=f i:=by
 simp[List.getD,h]
theorem Ga(h:n<=maxLen):n<=9223372036854775807:=by simpa [maxLen]using h
theorem Tryz.P0:(prog.info? 3).map (λi=>(i.zero,i.size,i.bytes))=zb (zb (zc .i64 0),1,8):=by kernel_rfl
end
section
variable {lo cE:Nat}{w w' wr:ze}{v:zd}{rs:List (Int×Int)}{ao:Option Addr}
structure aL where
 kind:Int
 set:List (Int×Int)
 min:Int
 max:Int
 group:Int
structure aV where
 aX:Bool
 bm:Bool
 nodes:List aL
structure bi where
 branches:List aV
 di:Int
def aL.zero:aL:=⟨0,[],0,0,0⟩
def aV.zero:aV:=⟨false,false,[]⟩
def Xm(lo:Nat)(w:ze)(ao:Option Addr)(rs:List (Int×Int)):Prop:=
 0<rs.length->∃b o,ao=zb ⟨b,o,za⟩/\lo<=b/\b<w.heap.size/\
  ∀i,i<rs.length->w.cell? ⟨b,o+i*2,za⟩=zb (zc .i64 (rs.getD i (0,0)).1)/\w.cell? ⟨b,o+i*2+1,za⟩=zb (zc .i64 (rs.getD i (0,0)).2)
def dR(lo:Nat)(w:ze)(v:zd)(rs:List (Int×Int)):Prop:=∃ao cap,v=.slice ao rs.length cap/\rs.length<=9223372036854775807/\Xm lo w ao rs
def XM(lo:Nat)(w:ze)(ao:Option Addr)(ns:List aL):Prop:=
 0<ns.length->∃b o,ao=zb ⟨b,o,za⟩/\lo<=b/\b<w.heap.size/\
  ∀i,i<ns.length->w.cell? ⟨b,o+i*5,za⟩=zb (zc .i64 (ns.getD i .zero).kind)/\
   (∃sv,w.cell? ⟨b,o+i*5+1,za⟩=zb sv/\dR lo w sv (ns.getD i .zero).set)/\
   w.cell? ⟨b,o+i*5+2,za⟩=zb (zc .i64 (ns.getD i .zero).min)/\w.cell? ⟨b,o+i*5+3,za⟩=zb (zc .i64 (ns.getD i .zero).max)/\
   w.cell? ⟨b,o+i*5+4,za⟩=zb (zc .i64 (ns.getD i .zero).group)
def dZ(lo:Nat)(w:ze)(v:zd)(ns:List aL):Prop:=∃ao cap,v=.slice ao ns.length cap/\ns.length<=9223372036854775807/\XM lo w ao ns
def WU(lo:Nat)(w:ze)(ao:Option Addr)(bs:List aV):Prop:=
 0<bs.length->∃b o,ao=zb ⟨b,o,za⟩/\lo<=b/\b<w.heap.size/\
  ∀i,i<bs.length->w.cell? ⟨b,o+i*3,za⟩=zb (.bool (bs.getD i .zero).aX)/\w.cell? ⟨b,o+i*3+1,za⟩=zb (.bool (bs.getD i .zero).bm)/\
   (∃nv,w.cell? ⟨b,o+i*3+2,za⟩=zb nv/\dZ lo w nv (bs.getD i .zero).nodes)
def eh(lo:Nat)(w:ze)(v:zd)(bs:List aV):Prop:=∃ao cap,v=.slice ao bs.length cap/\bs.length<=9223372036854775807/\WU lo w ao bs
theorem dR.same(h:dR lo w v rs)(hb:Same lo w w'):dR lo w' v rs:=by
 obtain⟨ao,cap,rfl,hm,h⟩:=h;refine⟨ao,cap,rfl,hm,λh0=>?_⟩;obtain⟨b,o,rfl,fY,hlt,hc⟩:=h h0;refine⟨b,o,rfl,fY,bA hlt hb.size,λi hi=>?_⟩;obtain⟨c0,c1⟩:=hc i hi;exact⟨(hb.cell (by exact fY) (by exact hlt)).trans c0,(hb.cell (by exact fY) (by exact hlt)).trans c1⟩
theorem dZ.same{ns:List aL}(h:dZ lo w v ns)(hb:Same lo w w'):dZ lo w' v ns:=by
 obtain⟨ao,cap,rfl,hm,h⟩:=h;refine⟨ao,cap,rfl,hm,λh0=>?_⟩;obtain⟨b,o,rfl,fY,hlt,hc⟩:=h h0;refine⟨b,o,rfl,fY,bA hlt hb.size,λi hi=>?_⟩;obtain⟨c0,⟨sv,c1,hs⟩,c2,c3,c4⟩:=hc i hi;have hcell:∀off,w'.cell? ⟨b,off,za⟩=w.cell? ⟨b,off,za⟩:=λoff=>hb.cell (by exact fY) (by exact hlt)
 exact⟨(hcell _).trans c0,⟨sv,(hcell _).trans c1,hs.same hb⟩,(hcell _).trans c2,(hcell _).trans c3,(hcell _).trans c4⟩
theorem eh.same{bs:List aV}(h:eh lo w v bs)(hb:Same lo w w'):eh lo w' v bs:=by
 obtain⟨ao,cap,rfl,hm,h⟩:=h;refine⟨ao,cap,rfl,hm,λh0=>?_⟩;obtain⟨b,o,rfl,fY,hlt,hc⟩:=h h0;refine⟨b,o,rfl,fY,bA hlt hb.size,λi hi=>?_⟩;obtain⟨c0,c1,⟨nv,c2,hn⟩⟩:=hc i hi;have hcell:∀off,w'.cell? ⟨b,off,za⟩=w.cell? ⟨b,off,za⟩:=λoff=>hb.cell (by exact fY) (by exact hlt)
 exact⟨(hcell _).trans c0,(hcell _).trans c1,⟨nv,(hcell _).trans c2,hn.same hb⟩⟩
theorem dR.below(h:dR lo w v rs)(hb:zf w.heap.size w w'):dR lo w' v rs:=h.same (.bR hb)
theorem dZ.below{ns:List aL}(h:dZ lo w v ns)(hb:zf w.heap.size w w'):dZ lo w' v ns:=h.same (.bR hb)
theorem eh.below{bs:List aV}(h:eh lo w v bs)(hb:zf w.heap.size w w'):eh lo w' v bs:=h.same (.bR hb)
theorem dR.mono(h:dR lo w v rs)(hl:cE<=lo):dR cE w v rs:=by
 obtain⟨ao,cap,rfl,hm,h⟩:=h;refine⟨ao,cap,rfl,hm,λh0=>?_⟩;obtain⟨b,o,rfl,fY,r⟩:=h h0;exact⟨b,o,rfl,aW hl fY,r⟩
theorem dZ.mono{rs:List aL}(h:dZ lo w v rs)(hl:cE<=lo):dZ cE w v rs:=by
 obtain⟨ao,cap,rfl,hm,h⟩:=h;refine⟨ao,cap,rfl,hm,λh0=>?_⟩;obtain⟨b,o,rfl,fY,hlt,hc⟩:=h h0;refine⟨b,o,rfl,aW hl fY,hlt,λi hi=>?_⟩;obtain⟨c0,⟨sv,c1,hs⟩,r⟩:=hc i hi;exact⟨c0,⟨sv,c1,hs.mono hl⟩,r⟩
theorem Xm.elem(h:Xm lo w ao rs)(hb:zf w.heap.size w wr){k:Nat}(hk:k<rs.length):
  ∃(b o:Nat) (lo hi:Int),ao=zb ⟨b,o,za⟩/\zk (rs.getD k (0,0)=(lo,hi))/\b<w.heap.size/\wr.cell? ⟨b,o+k*2,za⟩=zb (zc .i64 lo)/\wr.cell? ⟨b,o+k*2+1,za⟩=zb (zc .i64 hi):=by
 obtain⟨b,o,rfl,_,hlt,hc⟩:=h (by omega);obtain⟨c0,c1⟩:=hc k hk;exact⟨b,o,_,_,rfl,rfl,hlt,(hb.cell (by exact hlt)).trans c0,(hb.cell (by exact hlt)).trans c1⟩
theorem XM.elem{ns:List aL}(h:XM lo w ao ns)(hb:zf w.heap.size w wr){k:Nat}(hk:k<ns.length):
  ∃(b o:Nat) (sv:zd) (nd:aL),ao=zb ⟨b,o,za⟩/\zk (ns.getD k .zero=nd)/\b<w.heap.size/\wr.cell? ⟨b,o+k*5,za⟩=zb (zc .i64 nd.kind)/\wr.cell? ⟨b,o+k*5+1,za⟩=zb sv/\
   wr.cell? ⟨b,o+k*5+2,za⟩=zb (zc .i64 nd.min)/\wr.cell? ⟨b,o+k*5+3,za⟩=zb (zc .i64 nd.max)/\wr.cell? ⟨b,o+k*5+4,za⟩=zb (zc .i64 nd.group)/\dR lo wr sv nd.set:=by
 obtain⟨b,o,rfl,_,hlt,hc⟩:=h (by omega);obtain⟨c0,⟨sv,c1,hs⟩,c2,c3,c4⟩:=hc k hk;exact⟨b,o,sv,_,rfl,rfl,hlt,(hb.cell (by exact hlt)).trans c0,(hb.cell (by exact hlt)).trans c1,(hb.cell (by exact hlt)).trans c2,(hb.cell (by exact hlt)).trans c3,(hb.cell (by exact hlt)).trans c4,hs.below hb⟩
theorem WU.elem{bs:List aV}(h:WU lo w ao bs)(hb:zf w.heap.size w wr){k:Nat}(hk:k<bs.length):
  ∃(b o:Nat) (nv:zd) (bd:aV),ao=zb ⟨b,o,za⟩/\zk (bs.getD k .zero=bd)/\b<w.heap.size/\wr.cell? ⟨b,o+k*3,za⟩=zb (.bool bd.aX)/\wr.cell? ⟨b,o+k*3+1,za⟩=zb (.bool bd.bm)/\
   wr.cell? ⟨b,o+k*3+2,za⟩=zb nv/\dZ lo wr nv bd.nodes:=by
 obtain⟨b,o,rfl,_,hlt,hc⟩:=h (by omega);obtain⟨c0,c1,⟨nv,c2,hn⟩⟩:=hc k hk;exact⟨b,o,nv,_,rfl,rfl,hlt,(hb.cell (by exact hlt)).trans c0,(hb.cell (by exact hlt)).trans c1,(hb.cell (by exact hlt)).trans c2,hn.below hb⟩
def lO(rs:List (Int×Int))(left:Int):Int:=if left-rs.length<0 then -1 else left-rs.length
def nA:List aL->Int->Int
 |[],l=>l
 |n::ns,l=>if lO n.set l<0 then -1 else nA ns (lO n.set l)
def jc(ns:List aL)(left:Int):Int:=if left-ns.length<0 then -1 else nA ns (left-ns.length)
def nr:List aV->Int->Int
 |[],l=>l
 |b::bs,l=>if jc b.nodes l<0 then -1 else nr bs (jc b.nodes l)
def jd(bs:List aV)(left:Int):Int:=if left-bs.length<0 then -1 else nr bs (left-bs.length)
theorem M9(rs:List (Int×Int))(l:Int)(h:0<=l):-1<=lO rs l/\lO rs l<=l:=by unfold lO;split<;>omega
theorem zhb(ns:List aL):∀l:Int,0<=l->-1<=nA ns l/\nA ns l<=l:=by
 induction ns with
 |nil=>intro l h;simp[nA];omega
 |cons n ns ih=>
  intro l h;have:=M9 n.set l h;unfold nA;split
  ·omega
  ·have:=ih (lO n.set l) (by omega);omega
theorem M0(ns:List aL)(l:Int)(h:0<=l):-1<=jc ns l/\jc ns l<=l:=by
 unfold jc;split
 ·omega
 ·have:=zhb ns (l-ns.length) (by omega);omega
theorem zey(ns:List aV):∀l:Int,0<=l->-1<=nr ns l/\nr ns l<=l:=by
 induction ns with
 |nil=>intro l h;simp[nr];omega
 |cons n ns ih=>
  intro l h;have:=M0 n.nodes l h;unfold nr;split
  ·omega
  ·have:=ih (jc n.nodes l) (by omega);omega
theorem MY(ns:List aV)(l:Int)(h:0<=l):-1<=jd ns l/\jd ns l<=l:=by
 unfold jd;split
 ·omega
 ·have:=zey ns (l-ns.length) (by omega);omega
theorem zje(ns:List aL)(i:Nat)(hi:i<ns.length)(l:Int):
  nA (ns.drop i) l=if lO (ns.getD i .zero).set l<0 then -1 else nA (ns.drop (i+1)) (lO (ns.getD i .zero).set l):=by
 rw[oK hi];simp[nA,List.getD,hi]
theorem zf5(ns:List aV)(i:Nat)(hi:i<ns.length)(l:Int):
  nr (ns.drop i) l=if jc (ns.getD i .zero).nodes l<0 then -1 else nr (ns.drop (i+1)) (jc (ns.getD i .zero).nodes l):=by
 rw[oK hi];simp[nr,List.getD,hi]
end
section
variable {lo:Nat}
theorem zlU(a:Option Addr)(rs:List (Int×Int))(cap:Nat)(left:Int)(w:ze)(h0:0<=left)(h1:left<=1048576)(h2:rs.length<=9223372036854775807):
  zh prog 174 #[.slice a rs.length cap,zc .i64 left] w λe w'=>e=.returned (zc .i64 (lO rs left))/\w'=w:=by
 by_cases hle:left-rs.length<0
 all_goals
  go_enter func174,ntmps174
  go_wp2;go_ret;exact⟨gh (by unfold lO;split<;>omega),rfl⟩
theorem zku(k mn mx g:Int)(sv:zd)(rs:List (Int×Int))(left:Int)(w:ze)(hs:dR lo w sv rs)(h0:0<=left)(h1:left<=1048576):
  zh prog 153 #[zi #[zc .i64 k,sv,zc .i64 mn,zc .i64 mx,zc .i64 g],zc .i64 left] w λe w'=>e=.returned (zc .i64 (lO rs left))/\zf w.heap.size w w':=by
 obtain⟨ao,cap,rfl,hm,hc⟩:=hs;have hb:=M9 rs left h0
 by_cases hle:lO rs left<0
 all_goals
  go_enter func153,ntmps153
  go_wp2_with (go_at_call 174;refine(zlU _ _ _ _ _ h0 h1 hm).mono ?_;rintro e w' ⟨rfl,rfl⟩)
  go_ret
  exact⟨gh (by omega),aw⟩
theorem zn7(v:zd)(ns:List aL)(left:Int)(w:ze)(hs:dZ lo w v ns)(h0:0<=left)(h1:left<=1048576):
  zh prog 134 #[v,zc .i64 left] w λe w'=>e=.returned (zc .i64 (jc ns left))/\zf w.heap.size w w':=by
 obtain⟨ao,cap,rfl,hm,hc⟩:=hs
 by_cases hle:left-ns.length<0
 ·go_enter func134,ntmps134
  go_wp2;go_ret;exact⟨gh (by unfold jc;split<;>omega),Below.refl _ _⟩
 ·have HS:zk (jc ns left=nA (ns.drop 0) (left-ns.length)):=by show _=_;rw[jc,ak hle];rfl
  go_enter func134,ntmps134
  go_wp2
  go_loopw [1,5] (λl i wr=>∃k:Nat,k<=ns.length/\i=zc .i64 k/\∃L:Int,l=zc .i64 L/\0<=L/\L<=1048576/\zk (jc ns left=nA (ns.drop k) L)/\zf w.heap.size w wr)
   (λ_ i _=>ns.length-(intOf i).toNat)
  case atStart=>exact⟨0,aR _,rfl,_,rfl,by omega,by omega,HS,Below.refl _ _⟩
  case round=>
   obtain⟨k,hk,rfl,L,rfl,uE,mN,HS,hb⟩:=hrel
   by_cases hlt:k<ns.length
   ·obtain⟨b,o,sv,nd,rfl,Hn,aZ,c0,c1,c2,c3,c4,dr⟩:=hc.elem hb hlt;have hz:=hb.size;have hq:=M9 nd.set L uE;have HD:zk (nA (ns.drop k) L=if lO nd.set L<0 then -1 else nA (ns.drop (k+1)) (lO nd.set L)):=by have:=zje ns k hlt L;rw[Hn.out]at this;exact this
    by_cases ky:lO nd.set L<0
    ·go_wp2_with (go_at_call 153;refine(zku _ _ _ _ _ _ _ _ dr uE mN).mono ?_;rintro e w1 ⟨rfl,ag⟩)
     go_ret
     exact⟨gh (by rw[HS.out,HD.out,aC ky]),aq hb hz ag⟩
    ·go_wp2_with (go_at_call 153;refine(zku _ _ _ _ _ _ _ _ dr uE mN).mono ?_;rintro e w1 ⟨rfl,ag⟩)
     go_roundw
     case rel=>exact⟨k+1,by omega,by go_num,_,rfl,by omega,by omega,by show _=_;rw[HS.out,HD.out,ak (by omega)],aq hb hz ag⟩
     case measure=>simp[intOf];omega
   ·go_wp2;go_ret;exact⟨gh (by rw[HS.out,sI (by omega)];rfl),hb⟩
theorem zha(aX bm:Bool)(nv:zd)(ns:List aL)(left:Int)(w:ze)(hs:dZ lo w nv ns)(h0:0<=left)(h1:left<=1048576):
  zh prog 109 #[zi #[.bool aX,.bool bm,nv],zc .i64 left] w λe w'=>e=.returned (zc .i64 (jc ns left))/\zf w.heap.size w w':=by
 have hb:=M0 ns left h0;have ha:=(Below.refl w.heap.size w).alloc (aj _) (.cells #[.bool aX,.bool bm,nv] 172);have mW:=hs.below ha
 by_cases hle:jc ns left<0
 all_goals
  go_enter func109,ntmps109
  go_wp2_with (go_at_call 134;refine(zn7 _ _ _ _ mW h0 h1).mono ?_;rintro e w' ⟨rfl,ag⟩)
  go_ret
  exact⟨gh (by omega),aq ha (by simp) ag⟩
theorem zkr(v:zd)(ns:List aV)(left:Int)(w:ze)(hs:eh lo w v ns)(h0:0<=left)(h1:left<=1048576):
  zh prog 86 #[v,zc .i64 left] w λe w'=>e=.returned (zc .i64 (jd ns left))/\zf w.heap.size w w':=by
 obtain⟨ao,cap,rfl,hm,hc⟩:=hs
 by_cases hle:left-ns.length<0
 ·go_enter func86,ntmps86
  go_wp2;go_ret;exact⟨gh (by unfold jd;split<;>omega),Below.refl _ _⟩
 ·have HS:zk (jd ns left=nr (ns.drop 0) (left-ns.length)):=by show _=_;rw[jd,ak hle];rfl
  go_enter func86,ntmps86
  go_wp2
  go_loopw [1,5] (λl i wr=>∃k:Nat,k<=ns.length/\i=zc .i64 k/\∃L:Int,l=zc .i64 L/\0<=L/\L<=1048576/\zk (jd ns left=nr (ns.drop k) L)/\zf w.heap.size w wr)
   (λ_ i _=>ns.length-(intOf i).toNat)
  case atStart=>exact⟨0,aR _,rfl,_,rfl,by omega,by omega,HS,Below.refl _ _⟩
  case round=>
   obtain⟨k,hk,rfl,L,rfl,uE,mN,HS,hb⟩:=hrel
   by_cases hlt:k<ns.length
   ·obtain⟨b,o,nv,nd,rfl,Hn,aZ,c0,c1,c2,ir⟩:=hc.elem hb hlt;have hz:=hb.size;have hq:=M0 nd.nodes L uE;have HD:zk (nr (ns.drop k) L=if jc nd.nodes L<0 then -1 else nr (ns.drop (k+1)) (jc nd.nodes L)):=by have:=zf5 ns k hlt L;rw[Hn.out]at this;exact this
    by_cases ky:jc nd.nodes L<0
    ·go_wp2_with (go_at_call 109;refine(zha _ _ _ _ _ _ ir uE mN).mono ?_;rintro e w1 ⟨rfl,ag⟩)
     go_ret
     exact⟨gh (by rw[HS.out,HD.out,aC ky]),aq hb hz ag⟩
    ·go_wp2_with (go_at_call 109;refine(zha _ _ _ _ _ _ ir uE mN).mono ?_;rintro e w1 ⟨rfl,ag⟩)
     go_roundw
     case rel=>exact⟨k+1,by omega,by go_num,_,rfl,by omega,by omega,by show _=_;rw[HS.out,HD.out,ak (by omega)],aq hb hz ag⟩
     case measure=>simp[intOf];omega
   ·go_wp2;go_ret;exact⟨gh (by rw[HS.out,sI (by omega)];rfl),hb⟩
theorem zkw(g:Int)(bv:zd)(bs:List aV)(left:Int)(w:ze)(hs:eh lo w bv bs)(h0:0<=left)(h1:left<=1048576):
  zh prog 59 #[zi #[bv,zc .i64 g],zc .i64 left] w λe w'=>e=.returned (zc .i64 (jd bs left))/\zf w.heap.size w w':=by
 have hb:=MY bs left h0;have ha:=(Below.refl w.heap.size w).alloc (aj _) (.cells #[bv,zc .i64 g] 107);have mW:=hs.below ha
 by_cases hle:jd bs left<0
 all_goals
  go_enter func59,ntmps59
  go_wp2_with (go_at_call 86;refine(zkr _ _ _ _ mW h0 h1).mono ?_;rintro e w' ⟨rfl,ag⟩)
  go_ret
  exact⟨gh (by omega),aq ha (by simp) ag⟩
end
theorem Tryz.zAn:(prog.info? 149).map (λi=>(i.zero,i.size,i.bytes))=zb (zb (zi #[zc .i64 0,zg za 0 0,zc .i64 0,zc .i64 0,zc .i64 0]),5,56):=by kernel_rfl
theorem Tryz.zAl:(prog.info? 115).map (λi=>(i.zero,i.size,i.bytes))=zb (zb (zi #[.bool false,.bool false,zg za 0 0]),3,32):=by kernel_rfl
theorem Tryz.zAs:(prog.info? 211).map (λi=>(i.zero,i.size,i.bytes))=zb (zb (zi #[zc .i64 0,zc .i64 0]),2,16):=by kernel_rfl
theorem zoc(lo hi:Int)(w:ze):
  zh prog 197 #[zi #[zc .i64 lo,zc .i64 hi]] w λe w'=>e=.returned (zi #[zc .i64 lo,zc .i64 hi])/\zf w.heap.size w w':=by
 go_enter func197,ntmps197
 go_wp2;exact bh (v:=zi #[zc .i64 lo,zc .i64 hi]) (by simp[results,results197,go_sem]) rfl ⟨rfl,((aw).alloc (by simp) _).alloc (by simp;omega) _⟩
section
variable {lo:Nat}{w:ze}{v:zd}{rs:List aV}
theorem dR.setCell{rs:List (Int×Int)}(h:dR lo w v rs){a:Addr}(ha:a.block<lo)(u:zd):dR lo (w.setCell a u) v rs:=h.same (Same.setCell w ha u)
theorem dZ.setCell{rs:List aL}(h:dZ lo w v rs){a:Addr}(ha:a.block<lo)(u:zd):dZ lo (w.setCell a u) v rs:=h.same (Same.setCell w ha u)
theorem eh.setCell(h:eh lo w v rs){a:Addr}(ha:a.block<lo)(u:zd):eh lo (w.setCell a u) v rs:=h.same (Same.setCell w ha u)
theorem eh.mono{cE:Nat}(h:eh lo w v rs)(hl:cE<=lo):eh cE w v rs:=by
 obtain⟨ao,cap,rfl,hm,h⟩:=h;refine⟨ao,cap,rfl,hm,λh0=>?_⟩;obtain⟨b,o,rfl,fY,hlt,hc⟩:=h h0;refine⟨b,o,rfl,aW hl fY,hlt,λi hi=>?_⟩;obtain⟨c0,c1,⟨sv,c2,hs⟩⟩:=hc i hi;exact⟨c0,c1,⟨sv,c2,hs.mono hl⟩⟩
def Q5(ns:List aL)(S:Nat->zd)(j:Nat):List zd:=[zc .i64 (ns.getD j .zero).kind,S j,zc .i64 (ns.getD j .zero).min,zc .i64 (ns.getD j .zero).max,zc .i64 (ns.getD j .zero).group]
def QD(bs:List aV)(S:Nat->zd)(j:Nat):List zd:=[.bool (bs.getD j .zero).aX,.bool (bs.getD j .zero).bm,S j]
def Small(bs:List aV):Prop:=bs.length<=1048576/\∀i,i<bs.length->(bs.getD i .zero).nodes.length<=1048576/\∀j,j<(bs.getD i .zero).nodes.length->((bs.getD i .zero).nodes.getD j .zero).set.length<=1048576
end
section
attribute [local go_sem ↓] wp_at_zero wp_at_succ
section
variable {l1 l2:Nat}
theorem znh(lo hi:Int)(w:ze):
  zh prog 203 #[zi #[zc .i64 lo,zc .i64 hi],zi #[zc .i64 lo,zc .i64 hi]] w λe w'=>e=.returned (.bool true)/\zf w.heap.size w w':=by
 go_enter func203,ntmps203
 go_wp2;go_ret;exact⟨rfl,(aw).alloc (by simp) _⟩
theorem zk5(v v2:zd)(rs:List (Int×Int))(w:ze)(hs:dR l1 w v rs)(cV:dR l2 w v2 rs):
  zh prog 196 #[v,v2] w λe w'=>e=.returned (.bool true)/\zf w.heap.size w w':=by
 obtain⟨ao,cap,rfl,hm,hc⟩:=hs;obtain⟨iD,fB,rfl,_,eW⟩:=cV
 go_enter func196,ntmps196
 go_wp2
 go_loopw [5] (λi wr=>∃k:Nat,k<=rs.length/\i=zc .i64 k/\zf w.heap.size w wr)
  (λi _=>rs.length-(intOf i).toNat)
 case atStart=>exact⟨0,aR _,rfl,Below.refl _ _⟩
 case round=>
  obtain⟨k,hk,rfl,hb⟩:=hrel
  by_cases hlt:k<rs.length
  ·obtain⟨b,o,lo,hi,rfl,Hn,aZ,c0,c1⟩:=hc.elem hb hlt;obtain⟨b2,o2,lo2,uM,rfl,fJ,jl,d0,d1⟩:=eW.elem hb hlt;have qI:=Hn.out.symm.trans fJ.out;simp only[Prod.mk.injEq]at qI;obtain⟨rfl,rfl⟩:=qI;have aD:b<wr.heap.size:=bA aZ hb.size;have iE:b2<wr.heap.size:=bA jl hb.size;have da:(0:Int)<=(k:Int):=by omega
   have cO:(k:Int)<(rs.length:Int):=by omega
   go_wp2
   go_region_held3 (λw'=>w'.cell? ⟨b,o+k*2,za⟩=zb (zc .i64 lo)/\w'.cell? ⟨b,o+k*2+1,za⟩=zb (zc .i64 hi)/\w'.cell? ⟨b2,o2+k*2,za⟩=zb (zc .i64 lo)/\w'.cell? ⟨b2,o2+k*2+1,za⟩=zb (zc .i64 hi)) ((first|go_keep|exact⟨(hcc _ _ aD).trans c0,(hcc _ _ aD).trans c1,(hcc _ _ iE).trans d0,(hcc _ _ iE).trans d1⟩)) ((go_at_call 203;refine(znh _ _ _).mono ?_;rintro e w2 ⟨rfl,ae⟩;obtain⟨hcc,_⟩:=uc ae))
   go_wp2
   go_roundw
   case rel=>exact⟨k+1,by omega,by go_num,aq hb.drew hb.size ae⟩
   case measure=>simp[intOf];omega
  ·go_wp2;go_ret;exact⟨rfl,hb⟩
theorem zoU(k mn mx g:Int)(v v2:zd)(rs:List (Int×Int))(w:ze)(hs:dR l1 w v rs)(cV:dR l2 w v2 rs):
  zh prog 173 #[zi #[zc .i64 k,v,zc .i64 mn,zc .i64 mx,zc .i64 g],zi #[zc .i64 k,v2,zc .i64 mn,zc .i64 mx,zc .i64 g]] w λe w'=>e=.returned (.bool true)/\zf w.heap.size w w':=by
 go_enter func173,ntmps173
 go_wp2_with fail
 refine(zk5 (l1:=l1) (l2:=l2) _ _ rs _ (hs.below ?_) (cV.below ?_)).mono ?_
 ·exact(aw).alloc (by simp) _
 ·exact(aw).alloc (by simp) _
 rintro e w2 ⟨rfl,hb⟩;obtain⟨hcc,EZ⟩:=uc hb;have cN:=((((Below.refl w.heap.size w).alloc (aj _) _).alloc (by simp) _).trans (hb.mono (by simp;omega)));clear hb;go_wp2;go_ret;exact⟨rfl,cN⟩
theorem znf(v v2:zd)(rs:List aL)(w:ze)(hs:dZ l1 w v rs)(cV:dZ l2 w v2 rs):
  zh prog 152 #[v,v2] w λe w'=>e=.returned (.bool true)/\zf w.heap.size w w':=by
 obtain⟨ao,cap,rfl,hm,hc⟩:=hs;obtain⟨iD,fB,rfl,_,eW⟩:=cV
 go_enter func152,ntmps152
 go_wp2
 go_loopw [5] (λi wr=>∃k:Nat,k<=rs.length/\i=zc .i64 k/\zf w.heap.size w wr)
  (λi _=>rs.length-(intOf i).toNat)
 case atStart=>exact⟨0,aR _,rfl,Below.refl _ _⟩
 case round=>
  obtain⟨k,hk,rfl,hb⟩:=hrel
  by_cases hlt:k<rs.length
  ·obtain⟨b,o,sv,nd,rfl,Hn,aZ,c0,c1,c2,c3,c4,dr⟩:=hc.elem hb hlt;obtain⟨b2,o2,Dw,MI,rfl,fJ,jl,d0,d1,d2,d3,d4,IY⟩:=eW.elem hb hlt;have qI:nd=MI:=Hn.out.symm.trans fJ.out;subst qI;have aD:b<wr.heap.size:=bA aZ hb.size;have iE:b2<wr.heap.size:=bA jl hb.size;have da:(0:Int)<=(k:Int):=by omega
   have cO:(k:Int)<(rs.length:Int):=by omega
   have uS:dR l1 wr.drew sv nd.set:=dr;have mS:dR l2 wr.drew Dw nd.set:=IY;go_wp2
   go_region_held3 (λw'=>w'.cell? ⟨b,o+k*5,za⟩=zb (zc .i64 nd.kind)/\w'.cell? ⟨b,o+k*5+1,za⟩=zb sv/\w'.cell? ⟨b,o+k*5+2,za⟩=zb (zc .i64 nd.min)/\w'.cell? ⟨b,o+k*5+3,za⟩=zb (zc .i64 nd.max)/\w'.cell? ⟨b,o+k*5+4,za⟩=zb (zc .i64 nd.group)/\w'.cell? ⟨b2,o2+k*5,za⟩=zb (zc .i64 nd.kind)/\w'.cell? ⟨b2,o2+k*5+1,za⟩=zb Dw/\w'.cell? ⟨b2,o2+k*5+2,za⟩=zb (zc .i64 nd.min)/\w'.cell? ⟨b2,o2+k*5+3,za⟩=zb (zc .i64 nd.max)/\w'.cell? ⟨b2,o2+k*5+4,za⟩=zb (zc .i64 nd.group)) ((first|go_keep|exact⟨(hcc _ _ aD).trans c0,(hcc _ _ aD).trans c1,(hcc _ _ aD).trans c2,(hcc _ _ aD).trans c3,(hcc _ _ aD).trans c4,(hcc _ _ iE).trans d0,(hcc _ _ iE).trans d1,(hcc _ _ iE).trans d2,(hcc _ _ iE).trans d3,(hcc _ _ iE).trans d4⟩)) ((go_at_call 173;refine(zoU _ _ _ _ _ _ _ _ uS mS).mono ?_;rintro e w2 ⟨rfl,ae⟩;obtain⟨hcc,_⟩:=uc ae))
   go_wp2
   go_roundw
   case rel=>exact⟨k+1,by omega,by go_num,aq hb.drew hb.size ae⟩
   case measure=>simp[intOf];omega
  ·go_wp2;go_ret;exact⟨rfl,hb⟩
theorem zk4(aX bm:Bool)(v v2:zd)(ns:List aL)(w:ze)(hs:dZ l1 w v ns)(cV:dZ l2 w v2 ns):
  zh prog 132 #[zi #[.bool aX,.bool bm,v],zi #[.bool aX,.bool bm,v2]] w λe w'=>e=.returned (.bool true)/\zf w.heap.size w w':=by
 go_enter func132,ntmps132
 go_wp2_with fail
 refine(znf (l1:=l1) (l2:=l2) _ _ ns _ (hs.below ?_) (cV.below ?_)).mono ?_
 ·exact(aw).alloc (by simp) _
 ·exact(aw).alloc (by simp) _
 rintro e w2 ⟨rfl,hb⟩;have cN:=((((Below.refl w.heap.size w).alloc (aj _) _).alloc (by simp) _).trans (hb.mono (by simp;omega)));clear hb;go_wp2;go_ret;exact⟨rfl,cN⟩
theorem zjB(v v2:zd)(rs:List aV)(w:ze)(hs:eh l1 w v rs)(cV:eh l2 w v2 rs):
  zh prog 106 #[v,v2] w λe w'=>e=.returned (.bool true)/\zf w.heap.size w w':=by
 obtain⟨ao,cap,rfl,hm,hc⟩:=hs;obtain⟨iD,fB,rfl,_,eW⟩:=cV
 go_enter func106,ntmps106
 go_wp2
 go_loopw [5] (λi wr=>∃k:Nat,k<=rs.length/\i=zc .i64 k/\zf w.heap.size w wr)
  (λi _=>rs.length-(intOf i).toNat)
 case atStart=>exact⟨0,aR _,rfl,Below.refl _ _⟩
 case round=>
  obtain⟨k,hk,rfl,hb⟩:=hrel
  by_cases hlt:k<rs.length
  ·obtain⟨b,o,nv,nd,rfl,Hn,aZ,c0,c1,c2,dr⟩:=hc.elem hb hlt;obtain⟨b2,o2,py,MI,rfl,fJ,jl,d0,d1,d2,IY⟩:=eW.elem hb hlt;have qI:nd=MI:=Hn.out.symm.trans fJ.out;subst qI;have aD:b<wr.heap.size:=bA aZ hb.size;have iE:b2<wr.heap.size:=bA jl hb.size;have da:(0:Int)<=(k:Int):=by omega
   have cO:(k:Int)<(rs.length:Int):=by omega
   have uS:dZ l1 wr.drew nv nd.nodes:=dr;have mS:dZ l2 wr.drew py nd.nodes:=IY;go_wp2
   go_region_held3 (λw'=>w'.cell? ⟨b,o+k*3,za⟩=zb (.bool nd.aX)/\w'.cell? ⟨b,o+k*3+1,za⟩=zb (.bool nd.bm)/\w'.cell? ⟨b,o+k*3+2,za⟩=zb nv/\w'.cell? ⟨b2,o2+k*3,za⟩=zb (.bool nd.aX)/\w'.cell? ⟨b2,o2+k*3+1,za⟩=zb (.bool nd.bm)/\w'.cell? ⟨b2,o2+k*3+2,za⟩=zb py) ((first|go_keep|exact⟨(hcc _ _ aD).trans c0,(hcc _ _ aD).trans c1,(hcc _ _ aD).trans c2,(hcc _ _ iE).trans d0,(hcc _ _ iE).trans d1,(hcc _ _ iE).trans d2⟩)) ((go_at_call 132;refine(zk4 _ _ _ _ _ _ uS mS).mono ?_;rintro e w2 ⟨rfl,ae⟩;obtain⟨hcc,_⟩:=uc ae))
   go_wp2
   go_roundw
   case rel=>exact⟨k+1,by omega,by go_num,aq hb.drew hb.size ae⟩
   case measure=>simp[intOf];omega
  ·go_wp2;go_ret;exact⟨rfl,hb⟩
theorem zoW(g:Int)(v v2:zd)(bs:List aV)(w:ze)(hs:eh l1 w v bs)(cV:eh l2 w v2 bs):
  zh prog 78 #[zi #[v,zc .i64 g],zi #[v2,zc .i64 g]] w λe w'=>e=.returned (.bool true)/\zf w.heap.size w w':=by
 go_enter func78,ntmps78
 go_wp2_with fail
 refine(zjB (l1:=l1) (l2:=l2) _ _ bs _ (hs.below ?_) (cV.below ?_)).mono ?_
 ·exact(aw).alloc (by simp) _
 ·exact(aw).alloc (by simp) _
 rintro e w2 ⟨rfl,hb⟩;obtain⟨hcc,EZ⟩:=uc hb;have cN:=((((Below.refl w.heap.size w).alloc (aj _) _).alloc (by simp) _).trans (hb.mono (by simp;omega)));clear hb;go_wp2;go_ret;exact⟨rfl,cN⟩
end
end
def bF(c lo hi:Int):Bool:=decide (lo<=c/\c<=hi)
theorem oz(c lo hi:Int)(w:ze):zh prog 47 #[zc .i64 c,zc .i64 lo,zc .i64 hi] w λe w'=>e=.returned (.bool (bF c lo hi))/\w'=w:=by
 by_cases h1:lo<=c
 ·by_cases h2:c<=hi
  all_goals
   go_enter func47,ntmps47
   go_wp2;go_ret;exact⟨bz (by simp[bF];omega),rfl⟩
 ·go_enter func47,ntmps47
  go_wp2;go_ret;exact⟨bz (by simp[bF];omega),rfl⟩
def bC(k:Int):Nat:=if k=2\/k=3 then 2 else if k=4\/k=5 then 1 else 0
def ed(mn mx:Int):Int:=if mx=-1 then mn+1 else if mx<1 then 1 else mx
def cM(n:Int):Int:=if n<=2001 then n else 2001
def fj(mn mx:Int):Bool:=decide (0<=mn/\mn<=255)&&decide (mx=-1\/(mn<=mx/\mx<=255))
def gT(mn mx:Int):Bool:=decide (mn=0/\(mx=1\/mx=-1))
theorem zl8(k:Int):bC k<=2:=by unfold bC;split<;>(try split)<;>omega
theorem QH(k:Int)(w:ze):zh prog 116 #[zc .i64 k] w λe w'=>e=.returned (zc .i64 (bC k))/\w'=w:=by
 by_cases h2:k=2
 ·subst h2;go_enter func116,ntmps116;go_wp2;go_ret;exact⟨rfl,rfl⟩
 by_cases h3:k=3
 ·subst h3;go_enter func116,ntmps116;go_wp2;go_ret;exact⟨rfl,rfl⟩
 by_cases h4:k=4
 ·subst h4;go_enter func116,ntmps116;go_wp2;go_ret;exact⟨rfl,rfl⟩
 by_cases h5:k=5
 ·subst h5;go_enter func116,ntmps116;go_wp2;go_ret;exact⟨rfl,rfl⟩
 have e2:(k==2)=false:=eB.2 h2;have e3:(k==3)=false:=eB.2 h3;have e4:(k==4)=false:=eB.2 h4;have e5:(k==5)=false:=eB.2 h5;have ha:zk (bC k=0):=by show _=_;simp[bC,h2,h3,h4,h5]
 clear h2 h3 h4 h5
 go_enter func116,ntmps116
 go_wp2;go_ret;exact⟨gh (by rw[ha.out];rfl),rfl⟩
theorem WX(k:Int)(w:ze):zh prog 155 #[zc .i64 k] w λe w'=>e=.returned (zc .i64 (bC k))/\w'=w:=by
 by_cases h2:k=2
 ·subst h2;go_enter func155,ntmps155;go_wp2;go_ret;exact⟨rfl,rfl⟩
 by_cases h3:k=3
 ·subst h3;go_enter func155,ntmps155;go_wp2;go_ret;exact⟨rfl,rfl⟩
 by_cases h4:k=4
 ·subst h4;go_enter func155,ntmps155;go_wp2;go_ret;exact⟨rfl,rfl⟩
 by_cases h5:k=5
 ·subst h5;go_enter func155,ntmps155;go_wp2;go_ret;exact⟨rfl,rfl⟩
 have e2:(k==2)=false:=eB.2 h2;have e3:(k==3)=false:=eB.2 h3;have e4:(k==4)=false:=eB.2 h4;have e5:(k==5)=false:=eB.2 h5;have ha:zk (bC k=0):=by show _=_;simp[bC,h2,h3,h4,h5]
 clear h2 h3 h4 h5
 go_enter func155,ntmps155
 go_wp2;go_ret;exact⟨gh (by rw[ha.out];rfl),rfl⟩
theorem zoD(k mn mx g:Int)(sv:zd)(w:ze)(h0:0<=mn)(h1:mn<=255):
  zh prog 135 #[zi #[zc .i64 k,sv,zc .i64 mn,zc .i64 mx,zc .i64 g]] w λe w'=>e=.returned (zc .i64 (ed mn mx))/\zf w.heap.size w w':=by
 rcases(show mx=-1\/(mx≠-1/\mx<1)\/(mx≠-1/\1<=mx) by omega) with rfl|⟨ha,hb⟩|⟨ha,hb⟩
 all_goals
  go_enter func135,ntmps135
  go_wp2;go_ret;refine⟨gh ?_,aw⟩;simp[ed]<;>omega
theorem Jk(n:Int)(w:ze):zh prog 121 #[zc .i64 n] w λe w'=>e=.returned (zc .i64 (cM n))/\w'=w:=by
 by_cases h:n<=2001
 all_goals
  go_enter func121,ntmps121
  go_wp2;go_ret;refine⟨gh ?_,rfl⟩;simp[cM]<;>omega
theorem zkQ(mn mx:Int)(w:ze):zh prog 177 #[zc .i64 mn,zc .i64 mx] w λe w'=>e=.returned (.bool (fj mn mx))/\w'=w:=by
 by_cases h0:mn<0
 ·go_enter func177,ntmps177;go_wp2;go_ret;exact⟨bz (by simp[fj];omega),rfl⟩
 by_cases h1:255<mn
 ·go_enter func177,ntmps177;go_wp2;go_ret;exact⟨bz (by simp[fj];omega),rfl⟩
 by_cases h2:mx=-1
 ·subst h2;go_enter func177,ntmps177;go_wp2;go_ret;exact⟨bz (by simp[fj];omega),rfl⟩
 have e2:(mx == -1)=false:=eB.2 h2;have H2:zk (mx≠-1):=h2;clear h2
 by_cases h3:mn<=mx
 ·by_cases h4:mx<=255
  ·go_enter func177,ntmps177;go_wp2;go_ret;exact⟨bz (by have:=H2.out;simp[fj];omega),rfl⟩
  ·go_enter func177,ntmps177;go_wp2;go_ret;exact⟨bz (by have:=H2.out;simp[fj];omega),rfl⟩
 ·go_enter func177,ntmps177;go_wp2;go_ret;exact⟨bz (by have:=H2.out;simp[fj];omega),rfl⟩
theorem Nj(v:zd)(mn mx:Int)(w:ze):zh prog 198 #[zi #[v,zc .i64 mn,zc .i64 mx]] w λe w'=>e=.returned (.bool (gT mn mx))/\zf w.heap.size w w':=by
 by_cases h0:mn=0
 ·subst h0
  by_cases h1:mx=1
  ·subst h1;go_enter func198,ntmps198;go_wp2;go_ret;exact⟨rfl,aw⟩
  by_cases h2:mx=-1
  ·subst h2;go_enter func198,ntmps198;go_wp2;go_ret;exact⟨rfl,aw⟩
  have e1:(mx==1)=false:=eB.2 h1;have e2:(mx == -1)=false:=eB.2 h2;have H:zk (gT 0 mx=false):=by show _=_;simp[gT,h1,h2]
  clear h1 h2
  go_enter func198,ntmps198;go_wp2;go_ret;exact⟨bz H.out.symm,aw⟩
 ·have e0:(mn==0)=false:=eB.2 h0;have H:zk (gT mn mx=false):=by show _=_;simp[gT,h0]
  clear h0
  go_enter func198,ntmps198;go_wp2;go_ret;exact⟨bz H.out.symm,aw⟩
end Go.Proofs.YtdimhpfiieepiaaGreatDoor
