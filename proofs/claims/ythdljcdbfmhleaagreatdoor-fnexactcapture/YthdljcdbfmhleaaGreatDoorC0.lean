import Derived.Test.YthdljcdbfmhleaaGreatDoorRows
import Derived.WalkKit
import Derived.WalkSpells
import Derived.WalkLawsBesides
import Derived.ProofKit
import Derived.Deep.AppendLies
import Derived.Deep.Slices
import Derived.Laws.Tables
import Derived.Deep.RegionHeld3
import Derived.Deep.DrawnRows
import Derived.Deep.QuietTactic
import Derived.BigQuiet
namespace Go.Proofs.YthdljcdbfmhleaaGreatDoor
set_option maxHeartbeats 400000
open Go.RowKit
section
variable {lo B k base n sz cap g:Nat}{w w' w1 W:World}{a:Act}{v a0 a1 a2:Value}{xs:List Value}{f:Nat -> List Value}{o:Oper}{P:Program}{ops:Array Oper}{rest:List Oper}{Q:Exit -> Act -> World -> Prop}
theorem zrb:type_of% @Array.getElem?_eq_none:=@Array.getElem?_eq_none
theorem zrc:type_of% @Array.getElem?_eq_some_iff:=@Array.getElem?_eq_some_iff
theorem zrd:type_of% @Array.replicate_succ:=@Array.replicate_succ
theorem zre:type_of% @Array.replicate_zero:=@Array.replicate_zero
theorem zrf:type_of% @Bool.and_eq_true:=@Bool.and_eq_true
theorem zrg:type_of% @Bool.or_eq_true:=@Bool.or_eq_true
theorem zrh:type_of% @Bool.true_and:=@Bool.true_and
theorem zri:type_of% @Int.toNat_natCast:=@Int.toNat_natCast
theorem zrj:type_of% @List.all_eq_true:=@List.all_eq_true
theorem zrk:type_of% @List.any_eq_true:=@List.any_eq_true
theorem zrl:type_of% @List.append_assoc:=@List.append_assoc
theorem zrm:type_of% @List.append_nil:=@List.append_nil
theorem zrn:type_of% @List.append_toArray:=@List.append_toArray
theorem zro:type_of% @List.cons_append:=@List.cons_append
theorem zrp:type_of% @List.drop_eq_getElem_cons:=@List.drop_eq_getElem_cons
theorem zrq:type_of% @List.drop_eq_nil_of_le:=@List.drop_eq_nil_of_le
theorem zrr:type_of% @List.drop_succ_cons:=@List.drop_succ_cons
theorem zrs:type_of% @List.eq_nil_of_length_eq_zero:=@List.eq_nil_of_length_eq_zero
theorem zrt:type_of% @List.ext_getElem?:=@List.ext_getElem?
theorem zru:type_of% @List.filterMap_cons:=@List.filterMap_cons
theorem zrv:type_of% @List.filterMap_nil:=@List.filterMap_nil
theorem zrw:type_of% @List.getD_eq_getElem?_getD:=@List.getD_eq_getElem?_getD
theorem zrx:type_of% @List.getElem?_append:=@List.getElem?_append
theorem zry:type_of% @List.getElem?_append_left:=@List.getElem?_append_left
theorem zrz:type_of% @List.getElem?_append_right:=@List.getElem?_append_right
theorem zrA:type_of% @List.getElem?_cons_succ:=@List.getElem?_cons_succ
theorem zrB:type_of% @List.getElem?_cons_zero:=@List.getElem?_cons_zero
theorem zrC:type_of% @List.getElem?_drop:=@List.getElem?_drop
theorem zrD:type_of% @List.getElem?_eq_getElem:=@List.getElem?_eq_getElem
theorem zrE:type_of% @List.getElem?_eq_none:=@List.getElem?_eq_none
theorem zrF:type_of% @List.getElem?_eq_some_iff:=@List.getElem?_eq_some_iff
theorem zrG:type_of% @List.getElem?_map:=@List.getElem?_map
theorem zrH:type_of% @List.getElem?_set:=@List.getElem?_set
theorem zrI:type_of% @List.getElem?_take:=@List.getElem?_take
theorem zrJ:type_of% @List.getElem_mem:=@List.getElem_mem
theorem zrK:type_of% @List.length_append:=@List.length_append
theorem zrL:type_of% @List.length_cons:=@List.length_cons
theorem zrM:type_of% @List.length_map:=@List.length_map
theorem zrN:type_of% @List.length_nil:=@List.length_nil
theorem zrO:type_of% @List.map_append:=@List.map_append
theorem zrP:type_of% @List.map_congr_left:=@List.map_congr_left
theorem zrQ:type_of% @List.map_cons:=@List.map_cons
theorem zrR:type_of% @List.mem_append:=@List.mem_append
theorem zrS:type_of% @List.mem_cons:=@List.mem_cons
theorem zrT:type_of% @List.mem_cons_of_mem:=@List.mem_cons_of_mem
theorem zrU:type_of% @List.mem_cons_self:=@List.mem_cons_self
theorem zrV:type_of% @List.mem_map:=@List.mem_map
theorem zrW:type_of% @List.mem_of_getElem?:=@List.mem_of_getElem?
theorem zrX:type_of% @List.mem_range:=@List.mem_range
theorem zrY:type_of% @List.mem_singleton:=@List.mem_singleton
theorem zrZ:type_of% @List.nil_append:=@List.nil_append
theorem zr1:type_of% @List.push_toArray:=@List.push_toArray
theorem zr3:type_of% @List.range_succ:=@List.range_succ
theorem zr4:type_of% @List.size_toArray:=@List.size_toArray
theorem zr5:type_of% @List.take_of_length_le:=@List.take_of_length_le
theorem zr6:type_of% @List.take_succ_cons:=@List.take_succ_cons
theorem zr7:type_of% @List.take_succ_eq_append_getElem:=@List.take_succ_eq_append_getElem
theorem zr8:type_of% @List.take_zero:=@List.take_zero
theorem zr9:type_of% @Nat.add_zero:=@Nat.add_zero
theorem zsa:type_of% @Nat.le_refl:=@Nat.le_refl
theorem zsb:type_of% @Nat.le_trans:=@Nat.le_trans
theorem zsc:type_of% @Nat.lt_of_lt_of_le:=@Nat.lt_of_lt_of_le
theorem zsd:type_of% @Nat.lt_or_ge:=@Nat.lt_or_ge
theorem zse:type_of% @Nat.lt_trichotomy:=@Nat.lt_trichotomy
theorem zsf:type_of% @Nat.mod_eq_of_lt:=@Nat.mod_eq_of_lt
theorem zsg:type_of% @Nat.not_lt_zero:=@Nat.not_lt_zero
theorem zsh:type_of% @Nat.sub_self:=@Nat.sub_self
theorem zsi:type_of% @Nat.zero_add:=@Nat.zero_add
theorem zsj:type_of% @Nat.zero_le:=@Nat.zero_le
theorem zsk:type_of% @beq_eq_false_iff_ne:=@beq_eq_false_iff_ne
theorem zsl:type_of% @bodyPost_ret:=@bodyPost_ret
theorem zsm:type_of% @cell_of_row:=@cell_of_row
theorem zsn:type_of% @decide_eq_true_eq:=@decide_eq_true_eq
theorem zso:type_of% @frozen_of_row:=@frozen_of_row
theorem zsp:type_of% @heap_alloc_new:=@heap_alloc_new
theorem zsq:type_of% @heap_setCell_other:=@heap_setCell_other
theorem zsr:type_of% @heap_setCell_same:=@heap_setCell_same
theorem zss:type_of% @if_neg:=@if_neg
theorem zst:type_of% @if_pos:=@if_pos
structure Same(lo:Nat)(w w':World):Prop where
 size:w.heap.size<=w'.heap.size
 block:∀k,lo<=k->k<w.heap.size->w'.heap[k]?=w.heap[k]?
theorem Same.of_below(h:Below w.heap.size w w'):Same lo w w':=⟨h.size,fun k _ hk=>h.block k hk⟩
theorem Same.setCell(w:World){a:Addr}(h:a.block<lo)(u:Value):Same lo w (w.setCell a u):=⟨by simp[World.setCell],fun _ hk _=>Below.heap_setCell _ _ _ _ (by omega)⟩
theorem Same.cell(h:Same lo w w'){p:Addr}(h1:lo<=p.block)(h2:p.block<w.heap.size):w'.cell? p=w.cell? p:=World.cell?_of_block (w:=w) (h.block p.block h1 h2)
theorem zaa{w2:World}(h:Below B w w1)(hB:B<=w1.heap.size)(k:Below w1.heap.size w1 w2):Below B w w2:=h.trans (k.mono hB)
theorem zbi{k:IntKind}{a b:Int}(h:a=b):Ending.returned (.int k a)=.returned (.int k b):=by rw[h]
theorem zab{e:TypeId}{size:Nat}(h:w.ownsRow base e size v n xs)(hb:Below w.heap.size w w'):w'.ownsRow base e size v n xs:=by
 refine⟨h.1,?_⟩;rcases h.2 with h2|⟨g,cap,cur,hv,hg,hh,r⟩
 ·exact .inl h2
 ·exact .inr ⟨g,cap,cur,hv,hg,by rw[hb.block g (zrc.1 hh).1];exact hh,r⟩
def zbG(xs:List Value)(sz k:Nat)(f:Nat->List Value):Prop:=∀j,j<k->∀c,c<sz->xs[j*sz+c]?=(f j)[c]?
theorem zbk{e:TypeId}(h:w.ownsRow base e sz (.slice (some ⟨g,0,none⟩) n cap) n xs){j:Nat}(hj:j<n*sz):
  ∃u,w.cell? ⟨g,j,none⟩=some u:=by
 rw[h.cellAt j hj];exact⟨_,zrD (by rw[h.1];exact hj)⟩
theorem zfS{e:TypeId}(h:w.ownsRow base e 2 (.slice (some ⟨g,0,none⟩) n cap) n xs){k:Nat}(hk:k<n):
  ∃u0 u1,w.cell? ⟨g,k*2,none⟩=some u0/\w.cell? ⟨g,k*2+1,none⟩=some u1/\w.frozen? ⟨g,k*2,none⟩=false/\w.frozen? ⟨g,k*2+1,none⟩=false:=by
 obtain⟨u0,h0⟩:=zbk h (j:=k*2) (by omega);obtain⟨u1,h1⟩:=zbk h (j:=k*2+1) (by omega);exact⟨u0,u1,h0,h1,h.frozenAt _,h.frozenAt _⟩
theorem zgB{a b:Value}(h:zbG xs 2 k f)(hl:k*2+1<xs.length)(hk:f k=[a,b]):zbG ((xs.set (k*2) a).set (k*2+1) b) 2 (k+1) f:=by
 intro j hj c hc;rw[zrH,zrH]
 by_cases e:j=k
 ·subst e;rw[hk]
  match c,hc with
  |0,_=>simp;omega
  |1,_=>simp;omega
 ·rw[zss (by omega),zss (by omega)];exact h j (by omega) c hc
theorem zfq{a3 a4:Value}(h:zbG xs 5 k f)(hl:k*5+4<xs.length)(hk:f k=[a0,a1,a2,a3,a4]):
  zbG (((((xs.set (k*5) a0).set (k*5+1) a1).set (k*5+2) a2).set (k*5+3) a3).set (k*5+4) a4) 5 (k+1) f:=by
 intro j hj c hc;rw[zrH,zrH,zrH,zrH,zrH]
 by_cases e:j=k
 ·subst e;rw[hk]
  match c,hc with
  |0,_=>simp;omega
  |1,_=>simp;omega
  |2,_=>simp;omega
  |3,_=>simp;omega
  |4,_=>simp;omega
 ·rw[zss (by omega),zss (by omega),zss (by omega),zss (by omega),zss (by omega)];exact h j (by omega) c hc
theorem zeM(h:zbG xs 3 k f)(hl:k*3+2<xs.length)(hk:f k=[a0,a1,a2]):
  zbG (((xs.set (k*3) a0).set (k*3+1) a1).set (k*3+2) a2) 3 (k+1) f:=by
 intro j hj c hc;rw[zrH,zrH,zrH]
 by_cases e:j=k
 ·subst e;rw[hk]
  match c,hc with
  |0,_=>simp;omega
  |1,_=>simp;omega
  |2,_=>simp;omega
 ·rw[zss (by omega),zss (by omega),zss (by omega)];exact h j (by omega) c hc
theorem ziv{e:TypeId}(h:w.ownsRow base e 3 (.slice (some ⟨g,0,none⟩) n cap) n xs){k:Nat}(hk:k<n):
  ∃u0 u1 u2,w.cell? ⟨g,k*3,none⟩=some u0/\w.cell? ⟨g,k*3+1,none⟩=some u1/\w.cell? ⟨g,k*3+2,none⟩=some u2/\w.frozen? ⟨g,k*3,none⟩=false/\w.frozen? ⟨g,k*3+1,none⟩=false/\w.frozen? ⟨g,k*3+2,none⟩=false:=by
 obtain⟨u0,h0⟩:=zbk h (j:=k*3) (by omega);obtain⟨u1,h1⟩:=zbk h (j:=k*3+1) (by omega);obtain⟨u2,h2⟩:=zbk h (j:=k*3+2) (by omega);exact⟨u0,u1,u2,h0,h1,h2,h.frozenAt _,h.frozenAt _,h.frozenAt _⟩
theorem zkL{e:TypeId}(h:w.ownsRow base e 5 (.slice (some ⟨g,0,none⟩) n cap) n xs){k:Nat}(hk:k<n):
  ∃u0 u1 u2 u3 u4,w.cell? ⟨g,k*5,none⟩=some u0/\w.cell? ⟨g,k*5+1,none⟩=some u1/\w.cell? ⟨g,k*5+2,none⟩=some u2/\w.cell? ⟨g,k*5+3,none⟩=some u3/\w.cell? ⟨g,k*5+4,none⟩=some u4/\
   w.frozen? ⟨g,k*5,none⟩=false/\w.frozen? ⟨g,k*5+1,none⟩=false/\w.frozen? ⟨g,k*5+2,none⟩=false/\w.frozen? ⟨g,k*5+3,none⟩=false/\w.frozen? ⟨g,k*5+4,none⟩=false:=by
 obtain⟨u0,h0⟩:=zbk h (j:=k*5) (by omega);obtain⟨u1,h1⟩:=zbk h (j:=k*5+1) (by omega);obtain⟨u2,h2⟩:=zbk h (j:=k*5+2) (by omega);obtain⟨u3,h3⟩:=zbk h (j:=k*5+3) (by omega);obtain⟨u4,h4⟩:=zbk h (j:=k*5+4) (by omega);exact⟨u0,u1,u2,u3,u4,h0,h1,h2,h3,h4,h.frozenAt _,h.frozenAt _,h.frozenAt _,h.frozenAt _,h.frozenAt _⟩
theorem zaw{e:TypeId}(h:w.ownsRow base e sz (.slice (some ⟨g,0,none⟩) n cap) n xs)(hf:zbG xs sz n f){i c:Nat}(hi:i<n)(hc:c<sz):
  w.cell? ⟨g,i*sz+c,none⟩=(f i)[c]?:=by
 have:i*sz+c<n*sz:=zsc (by omega:i*sz+c<i*sz+sz) (by rw[<-Nat.succ_mul];exact Nat.mul_le_mul_right _ hi);rw[h.cellAt _ this];exact hf i hi c hc
theorem zb0{e:TypeId}(h:w.ownsRow base e sz (.slice (some ⟨g,0,none⟩) n cap) n xs):g<w.heap.size:=(h.lt g rfl).2
theorem zdI(hb:Below W.heap.size W w1):(∀b o,b<W.heap.size->w1.cell? ⟨b,o,none⟩=W.cell? ⟨b,o,none⟩)/\(∀b o,b<W.heap.size->w1.frozen? ⟨b,o,none⟩=W.frozen? ⟨b,o,none⟩):=
 ⟨fun b o h=>hb.cell (p:=⟨b,o,none⟩) h,fun b o h=>hb.frozen (p:=⟨b,o,none⟩) h⟩
theorem zbG.congr{g:Nat->List Value}(h:zbG xs sz k f)(hfg:∀j,j<k->f j=g j):zbG xs sz k g:=fun j hj c hc=>by rw[<-hfg j hj];exact h j hj c hc
def upd(S:Nat->Value)(k:Nat)(v:Value):Nat->Value:=fun j=>if j=k then v else S j
theorem zct(S:Nat->Value)(k:Nat)(v:Value):upd S k v k=v:=by simp[upd]
theorem ze0(S:Nat->Value)(v:Value){j k:Nat}(h:j<k):upd S k v j=S j:=by simp[upd];omega
theorem zam{a b:Bool}(h:a=b):Ending.returned (.bool a)=.returned (.bool b):=by rw[h]
theorem zah{o ob:Obj}(h:w.heap[g]?=some o):(w.alloc ob).heap[g]?=some o:=by
 rw[Below.heap_alloc _ _ _ (zrc.1 h).1];exact h
theorem Below.setRow{a:World}(h:Below B a w){g:Nat}(hg:B<=g)(cs:Array Value):Below B a (w.setRow g cs):=
 h.trans ⟨rfl,rfl,rfl,by simp,fun k hk=>setRow_other _ _ _ _ (by omega)⟩
theorem za7{e:TypeId}{m:Nat}(h:w.ownsRow base e 1 (.slice (some ⟨g,0,none⟩) n cap) n xs)(hm:m<=n):
  w.ownsRow base e 1 (.slice (some ⟨g,0,none⟩) m cap) m (xs.take m):=by
 obtain⟨h1,h2⟩:=h;rcases h2 with ⟨h0,_⟩|⟨g',cap',cur,hv,hg,hh,hn,hcap,hsz,htake⟩
 ·cases h0
 ·cases hv
  refine⟨by simp at h1 ⊢;omega,.inr ⟨g,cap,cur,rfl,hg,hh,by omega,hcap,hsz,?_⟩⟩;rw[<-htake,List.take_take]
  congr 1
  omega
theorem zfT(w:World)(e:TypeId):(w.alloc (.cells #[] e)).ownsRow w.heap.size e 1 (.slice (some ⟨w.heap.size,0,none⟩) 0 0) 0 []:=
 ⟨rfl,.inr ⟨w.heap.size,0,#[],rfl,zsa _,zsp _ _,zsa _,zsj _,rfl,rfl⟩⟩
theorem zbb{e:TypeId}(h:w.ownsRow base e 1 (.slice (some ⟨g,0,none⟩) n cap) n xs):base<=g/\g<w.heap.size/\n<=cap/\cap<=maxLen:=by
 obtain⟨h1,h2⟩:=h;rcases h2 with ⟨h0,_⟩|⟨g',cap',cur,hv,hg,hh,hn,hcap,hsz,htake⟩
 ·cases h0
 ·cases hv
  exact⟨hg,(zrc.1 hh).1,hn,hcap⟩
theorem zaq(w:World)(hgd:o.guard=none)(s x:Operand)(t:TypeId)
  (ho:o.op=.call {callee:=.builtin .append,args:=#[s,x],argTypes:=#[t,t]})
  (base:Nat) (e:TypeId) (i:TypeInfo) (z:Value) (bytes:Nat) (ht:P.underlying t=some (.slice e)) (hi:P.info? e=some i) (hz:i.zero=some z)
  (hsize:i.size=1) (hby:i.bytes=bytes) (hzs:z.cells.size=1)
  (g cap n:Nat) (xs:List Value) (u:Value) (hs:a.eval s=.slice (some ⟨g,0,none⟩) n cap) (hown:w.ownsRow base e 1 (.slice (some ⟨g,0,none⟩) n cap) n xs)
  (hx:a.eval x=.slice (some ⟨w.heap.size,0,none⟩) 1 1) (h1:u.oneCell'=true) (hn:n<=2000000) (hbytes:bytes<=64) (hbase:base<=w.heap.size)
  (h:∀g' cap' w',w'.ownsRow base e 1 (.slice (some ⟨g',0,none⟩) (n+1) cap') (n+1) (xs++[u])->w.grownBy w' (some g)->(g'=g\/g'=w.heap.size+1)->wpList P ops Q rest (a.put o.dst (.slice (some ⟨g',0,none⟩) (n+1) cap')) w'):
  wpList P ops Q (o::rest) a (w.alloc (.cells #[u] e)):=by
 refine wpList_append_lies _ hgd s x t ho base e i z 1 bytes ht hi hz hsize hby hzs (by omega) _ n xs hs (hown.alloc _) ⟨w.heap.size,0,none⟩ 1 1 [u] hx rfl ?_ ?_ (by omega) (by unfold maxLen;omega) ?_ (by simp;omega) (w.heap.size+1) (by simp) ?_
 ·intro j v hv
  match j,hv with
  |0,hv=>simp at hv;subst hv;simp[Addr.add]
 ·intro v hv;simp at hv;subst hv;exact h1
 ·have:(n+1)*bytes<=2000001*64:=Nat.mul_le_mul (by omega) hbytes;omega
 ·intro g' cap' w' ho2 hgr hat hlt;refine h g' cap' w' ho2 ⟨hgr.os,hgr.tape,hgr.output,zsb (by simp) hgr.size,fun k hk hne=>?_⟩ ?_
  ·rw[hgr.block k (by simp;omega) (by simpa [Value.ownBlock] using hne),Below.heap_alloc _ _ _ hk]
  ·rcases hat with hat|hat
   ·left;simp[Value.ownBlock] at hat;exact hat.symm
   ·exact .inr hat
theorem zcx(w:World)(e:TypeId)(B H:Nat)(hB:B<=H)(hH:w.heap.size=H):(w.alloc (.cells #[] e)).ownsRow B e 1 (.slice (some ⟨H,0,none⟩) 0 0) 0 []:=by
 subst hH;exact⟨rfl,.inr ⟨w.heap.size,0,#[],rfl,hB,zsp _ _,zsa _,zsj _,rfl,rfl⟩⟩
theorem zbK(w:World)(H:Nat)(hH:w.heap.size=H)(hgd:o.guard=none)(s x:Operand)(t:TypeId)
  (ho:o.op=.call {callee:=.builtin .append,args:=#[s,x],argTypes:=#[t,t]})
  (base:Nat) (e:TypeId) (i:TypeInfo) (z:Value) (bytes:Nat) (ht:P.underlying t=some (.slice e)) (hi:P.info? e=some i) (hz:i.zero=some z)
  (hsize:i.size=1) (hby:i.bytes=bytes) (hzs:z.cells.size=1)
  (g cap n:Nat) (xs:List Value) (u:Value) (hs:a.eval s=.slice (some ⟨g,0,none⟩) n cap) (hown:w.ownsRow base e 1 (.slice (some ⟨g,0,none⟩) n cap) n xs)
  (hx:a.eval x=.slice (some ⟨H,0,none⟩) 1 1) (h1:u.oneCell'=true) (hn:n<=2000000) (hbytes:bytes<=64) (hbase:base<=w.heap.size)
  (h:∀g' cap' w',w'.ownsRow base e 1 (.slice (some ⟨g',0,none⟩) (n+1) cap') (n+1) (xs++[u])->w.grownBy w' (some g)->(g'=g\/g'=w.heap.size+1)->wpList P ops Q rest (a.put o.dst (.slice (some ⟨g',0,none⟩) (n+1) cap')) w'):
  wpList P ops Q (o::rest) a (w.alloc (.cells #[u] e)):=by
 subst hH;exact zaq w hgd s x t ho base e i z bytes ht hi hz hsize hby hzs g cap n xs u hs hown hx h1 hn hbytes hbase h
theorem zqK{α:Type}{l:List α}(h:l.length=3):∃a b c,l=[a,b,c]:=by
 match l,h with
 |[a,b,c],_=>exact⟨a,b,c,rfl⟩
theorem zqL{α:Type}{l:List α}(h:l.length=5):∃a b c d e,l=[a,b,c,d,e]:=by
 match l,h with
 |[a,b,c,d,e],_=>exact⟨a,b,c,d,e,rfl⟩
theorem znQ{a:Addr}(h:W.cell? a=some v):a=⟨a.block,a.off,none⟩:=by
 obtain⟨b,o,s⟩:=a;cases s with
 |none=>rfl
 |some q=>
  simp only[World.cell?] at h;split at h<;>simp at h
theorem zfP{a:Addr}{len:Nat}{E:List Value->Prop}(hsz:0<sz)(h:∀i,i<len->∃cs,W.cells? 0 (a.add (i*sz)) sz=some cs/\E cs)(h0:0<len):
  ∃(b o:Nat) (C:Nat->List Value),a=⟨b,o,none⟩/\b<W.heap.size/\∀i,i<len->E (C i)/\∀j,j<sz->W.cell? ⟨b,o+i*sz+j,none⟩=(C i)[j]?:=by
 obtain⟨cs0,h1,_⟩:=h 0 h0;obtain⟨_,hl,hc⟩:=World.cells?_some h1;have hz:=hc 0 hsz;rw[Nat.zero_mul,zrD (by omega)] at hz;have ha:a.add 0=a:=by simp[Addr.add]
 rw[ha,ha] at hz;have hs:=znQ hz;obtain⟨C,hC⟩:=Go.Deep.choose_lt (α:=List Value) (p:=fun i cs=>W.cells? 0 (a.add (i*sz)) sz=some cs/\E cs) h;refine⟨a.block,a.off,C,hs,block_lt_of_cell hz,fun i hi=>⟨(hC i hi).2,fun j hj=>?_⟩⟩;obtain⟨_,_,hc2⟩:=World.cells?_some (hC i hi).1;rw[<-hc2 j hj,Go.Deep.add_add]
 congr 1
 rw[hs];unfold Addr.add;split
 ·rename_i h
  simp only[Addr.mk.injEq,true_and,and_true];omega
 ·simp
theorem zcS{α:Type}(f:Nat->α)(d:α)(n i:Nat)(h:i<n):((List.range n).map f).getD i d=f i:=by
 simp[List.getD,h]
theorem zeC(h:n<=maxLen):n<=9223372036854775807:=by simpa [maxLen] using h
theorem Tryz.infoInt:(Tryz.prog.info? 3).map (fun i=>(i.zero,i.size,i.bytes))=some (some (.int .i64 0),1,8):=by kernel_rfl
end
def btw(c lo hi:Int):Bool:=decide (lo<=c/\c<=hi)
theorem zax(c lo hi:Int)(w:World):Calls Tryz.prog 49 #[.int .i64 c,.int .i64 lo,.int .i64 hi] w fun e w'=>e=.returned (.bool (btw c lo hi))/\w'=w:=by
 by_cases h1:lo<=c
 ·by_cases h2:c<=hi
  all_goals
   go_enter Tryz.func49,Tryz.ntmps49
   go_wp2;go_ret;exact⟨zam (by simp[btw];omega),rfl⟩
 ·go_enter Tryz.func49,Tryz.ntmps49
  go_wp2;go_ret;exact⟨zam (by simp[btw];omega),rfl⟩
section
attribute [local go_sem ↓] Go.wp_at_zero Go.wp_at_succ
end
end Go.Proofs.YthdljcdbfmhleaaGreatDoor
