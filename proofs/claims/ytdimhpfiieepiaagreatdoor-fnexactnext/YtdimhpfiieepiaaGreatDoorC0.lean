import Derived.Test.YtdimhpfiieepiaaGreatDoorRows
import Derived.WalkKit
import Derived.WalkSpells
import Derived.WalkLawsBesides
import Derived.ProofKit
import Derived.Deep.AppendLies
import Derived.Deep.Slices
import Derived.Laws.Tables
namespace Go.Proofs.YtdimhpfiieepiaaGreatDoor
set_option maxHeartbeats 400000
open Go.RowKit
section
variable{lo B k base n sz cap g:Nat}{w w' a w1 W:World}{v a0 a1 a2:Value}{xs:List Value}{f:Nat -> List Value}{o:Oper}{P:Program}{ops:Array Oper}{rest:List Oper}{Q:Exit -> Act -> World -> Prop}
theorem zuE:type_of% @Array.getD_eq_getD_getElem?:=@Array.getD_eq_getD_getElem?
theorem zuF:type_of% @Array.getElem?_eq_getElem:=@Array.getElem?_eq_getElem
theorem zuG:type_of% @Array.getElem?_eq_none:=@Array.getElem?_eq_none
theorem zuH:type_of% @Array.getElem?_eq_some_iff:=@Array.getElem?_eq_some_iff
theorem zuI:type_of% @Array.replicate_succ:=@Array.replicate_succ
theorem zuJ:type_of% @Array.replicate_zero:=@Array.replicate_zero
theorem zuK:type_of% @Bool.and_eq_true:=@Bool.and_eq_true
theorem zuL:type_of% @Bool.false_eq_true:=@Bool.false_eq_true
theorem zuM:type_of% @Bool.or_eq_true:=@Bool.or_eq_true
theorem zuN:type_of% @Bool.true_and:=@Bool.true_and
theorem zuO:type_of% @Int.toNat_natCast:=@Int.toNat_natCast
theorem zuP:type_of% @List.all_eq_true:=@List.all_eq_true
theorem zuQ:type_of% @List.any_eq_true:=@List.any_eq_true
theorem zuR:type_of% @List.append_assoc:=@List.append_assoc
theorem zuS:type_of% @List.append_nil:=@List.append_nil
theorem zuT:type_of% @List.append_toArray:=@List.append_toArray
theorem zuU:type_of% @List.cons_append:=@List.cons_append
theorem zuV:type_of% @List.drop_eq_getElem_cons:=@List.drop_eq_getElem_cons
theorem zuW:type_of% @List.drop_eq_nil_of_le:=@List.drop_eq_nil_of_le
theorem zuX:type_of% @List.drop_succ_cons:=@List.drop_succ_cons
theorem zuY:type_of% @List.drop_zero:=@List.drop_zero
theorem zuZ:type_of% @List.eq_nil_of_length_eq_zero:=@List.eq_nil_of_length_eq_zero
theorem zu0:type_of% @List.ext_getElem?:=@List.ext_getElem?
theorem zu1:type_of% @List.filterMap_cons:=@List.filterMap_cons
theorem zu2:type_of% @List.filterMap_nil:=@List.filterMap_nil
theorem zu3:type_of% @List.getD_eq_getElem?_getD:=@List.getD_eq_getElem?_getD
theorem zu4:type_of% @List.getElem?_append:=@List.getElem?_append
theorem zu5:type_of% @List.getElem?_append_left:=@List.getElem?_append_left
theorem zu6:type_of% @List.getElem?_append_right:=@List.getElem?_append_right
theorem zu7:type_of% @List.getElem?_cons_succ:=@List.getElem?_cons_succ
theorem zu8:type_of% @List.getElem?_cons_zero:=@List.getElem?_cons_zero
theorem zu9:type_of% @List.getElem?_drop:=@List.getElem?_drop
theorem zva:type_of% @List.getElem?_eq_getElem:=@List.getElem?_eq_getElem
theorem zvb:type_of% @List.getElem?_eq_none:=@List.getElem?_eq_none
theorem zvc:type_of% @List.getElem?_eq_some_iff:=@List.getElem?_eq_some_iff
theorem zvd:type_of% @List.getElem?_map:=@List.getElem?_map
theorem zve:type_of% @List.getElem?_set:=@List.getElem?_set
theorem zvf:type_of% @List.getElem?_take:=@List.getElem?_take
theorem zvg:type_of% @List.getElem_mem:=@List.getElem_mem
theorem zvh:type_of% @List.length_append:=@List.length_append
theorem zvi:type_of% @List.length_cons:=@List.length_cons
theorem zvj:type_of% @List.length_map:=@List.length_map
theorem zvk:type_of% @List.length_nil:=@List.length_nil
theorem zvl:type_of% @List.map_append:=@List.map_append
theorem zvm:type_of% @List.map_congr_left:=@List.map_congr_left
theorem zvn:type_of% @List.map_cons:=@List.map_cons
theorem zvo:type_of% @List.mem_append:=@List.mem_append
theorem zvp:type_of% @List.mem_cons:=@List.mem_cons
theorem zvq:type_of% @List.mem_cons_of_mem:=@List.mem_cons_of_mem
theorem zvr:type_of% @List.mem_cons_self:=@List.mem_cons_self
theorem zvs:type_of% @List.mem_map:=@List.mem_map
theorem zvt:type_of% @List.mem_of_getElem?:=@List.mem_of_getElem?
theorem zvu:type_of% @List.mem_range:=@List.mem_range
theorem zvv:type_of% @List.mem_singleton:=@List.mem_singleton
theorem zvw:type_of% @List.nil_append:=@List.nil_append
theorem zvx:type_of% @List.push_toArray:=@List.push_toArray
theorem zvy:type_of% @List.range_succ:=@List.range_succ
theorem zvz:type_of% @List.setIfInBounds_toArray:=@List.setIfInBounds_toArray
theorem zvA:type_of% @List.size_toArray:=@List.size_toArray
theorem zvB:type_of% @List.take_length:=@List.take_length
theorem zvC:type_of% @List.take_of_length_le:=@List.take_of_length_le
theorem zvD:type_of% @List.take_succ_cons:=@List.take_succ_cons
theorem zvE:type_of% @List.take_succ_eq_append_getElem:=@List.take_succ_eq_append_getElem
theorem zvF:type_of% @List.take_zero:=@List.take_zero
theorem zvG:type_of% @Nat.add_sub_cancel:=@Nat.add_sub_cancel
theorem zvH:type_of% @Nat.add_zero:=@Nat.add_zero
theorem zvI:type_of% @Nat.eq_zero_or_pos:=@Nat.eq_zero_or_pos
theorem zvJ:type_of% @Nat.le_refl:=@Nat.le_refl
theorem zvK:type_of% @Nat.le_trans:=@Nat.le_trans
theorem zvL:type_of% @Nat.lt_of_lt_of_le:=@Nat.lt_of_lt_of_le
theorem zvM:type_of% @Nat.lt_or_ge:=@Nat.lt_or_ge
theorem zvN:type_of% @Nat.lt_trichotomy:=@Nat.lt_trichotomy
theorem zvO:type_of% @Nat.min_eq_left:=@Nat.min_eq_left
theorem zvP:type_of% @Nat.mod_eq_of_lt:=@Nat.mod_eq_of_lt
theorem zvQ:type_of% @Nat.not_lt_zero:=@Nat.not_lt_zero
theorem zvR:type_of% @Nat.sub_self:=@Nat.sub_self
theorem zvS:type_of% @Nat.zero_add:=@Nat.zero_add
theorem zvT:type_of% @Nat.zero_le:=@Nat.zero_le
theorem zvU:type_of% @beq_eq_false_iff_ne:=@beq_eq_false_iff_ne
theorem zvV:type_of% @bodyPost_ret:=@bodyPost_ret
theorem zvW:type_of% @cell_of_row:=@cell_of_row
theorem zvX:type_of% @decide_eq_true_eq:=@decide_eq_true_eq
theorem zvY:type_of% @frozen_of_row:=@frozen_of_row
theorem zvZ:type_of% @heap_alloc_new:=@heap_alloc_new
theorem zv0:type_of% @heap_setCell_other:=@heap_setCell_other
theorem zv1:type_of% @heap_setCell_same:=@heap_setCell_same
theorem zv2:type_of% @if_neg:=@if_neg
theorem zv3:type_of% @if_pos:=@if_pos
structure Same(lo:Nat)(w w':World):Prop where
 size:w.heap.size<=w'.heap.size
 block:∀k,lo<=k->k<w.heap.size->w'.heap[k]?=w.heap[k]?
theorem Same.of_below(h:Below w.heap.size w w'):Same lo w w':=⟨h.size,fun k _ hk=>h.block k hk⟩
theorem Same.trans{b c:World}(h:Same lo a b)(k:Same lo b c):Same lo a c:=
 ⟨zvK h.size k.size,fun i hi hl=>(k.block i hi (zvL hl h.size)).trans (h.block i hi hl)⟩
theorem Same.setCell(w:World){a:Addr}(h:a.block<lo)(u:Value):Same lo w (w.setCell a u):=⟨by simp[World.setCell],fun _ hk _=>Below.heap_setCell _ _ _ _ (by omega)⟩
theorem Same.cell(h:Same lo w w'){p:Addr}(h1:lo<=p.block)(h2:p.block<w.heap.size):w'.cell? p=w.cell? p:=World.cell?_of_block (w:=w) (h.block p.block h1 h2)
theorem zaa{w2:World}(h:Below B w w1)(hB:B<=w1.heap.size)(k:Below w1.heap.size w1 w2):Below B w w2:=h.trans (k.mono hB)
theorem zaR{k:IntKind}{a b:Int}(h:a=b):Ending.returned (.int k a)=.returned (.int k b):=by rw[h]
theorem zac{e:TypeId}{size:Nat}(h:w.ownsRow base e size v n xs)(hb:Below w.heap.size w w'):w'.ownsRow base e size v n xs:=by
 refine⟨h.1,?_⟩;rcases h.2 with h2|⟨g,cap,cur,hv,hg,hh,r⟩
 ·exact .inl h2
 ·exact .inr ⟨g,cap,cur,hv,hg,by rw[hb.block g (zuH.1 hh).1];exact hh,r⟩
def zb4(xs:List Value)(sz k:Nat)(f:Nat->List Value):Prop:=∀j,j<k->∀c,c<sz->xs[j*sz+c]?=(f j)[c]?
theorem zbC{e:TypeId}(h:w.ownsRow base e sz (.slice (some ⟨g,0,none⟩) n cap) n xs){j:Nat}(hj:j<n*sz):
  ∃u,w.cell? ⟨g,j,none⟩=some u:=by
 rw[h.cellAt j hj];exact⟨_,zva (by rw[h.1];exact hj)⟩
theorem zhb{e:TypeId}(h:w.ownsRow base e 2 (.slice (some ⟨g,0,none⟩) n cap) n xs){k:Nat}(hk:k<n):
  ∃u0 u1,w.cell? ⟨g,k*2,none⟩=some u0/\w.cell? ⟨g,k*2+1,none⟩=some u1/\w.frozen? ⟨g,k*2,none⟩=false/\w.frozen? ⟨g,k*2+1,none⟩=false:=by
 obtain⟨u0,h0⟩:=zbC h (j:=k*2) (by omega);obtain⟨u1,h1⟩:=zbC h (j:=k*2+1) (by omega);exact⟨u0,u1,h0,h1,h.frozenAt _,h.frozenAt _⟩
theorem zig{a b:Value}(h:zb4 xs 2 k f)(hl:k*2+1<xs.length)(hk:f k=[a,b]):zb4 ((xs.set (k*2) a).set (k*2+1) b) 2 (k+1) f:=by
 intro j hj c hc;rw[zve,zve]
 by_cases e:j=k
 ·subst e;rw[hk]
  match c,hc with
  |0,_=>simp;omega
  |1,_=>simp;omega
 ·rw[zv2 (by omega),zv2 (by omega)];exact h j (by omega) c hc
theorem zlo{a3 a4:Value}(h:zb4 xs 5 k f)(hl:k*5+4<xs.length)(hk:f k=[a0,a1,a2,a3,a4]):
  zb4 (((((xs.set (k*5) a0).set (k*5+1) a1).set (k*5+2) a2).set (k*5+3) a3).set (k*5+4) a4) 5 (k+1) f:=by
 intro j hj c hc;rw[zve,zve,zve,zve,zve]
 by_cases e:j=k
 ·subst e;rw[hk]
  match c,hc with
  |0,_=>simp;omega
  |1,_=>simp;omega
  |2,_=>simp;omega
  |3,_=>simp;omega
  |4,_=>simp;omega
 ·rw[zv2 (by omega),zv2 (by omega),zv2 (by omega),zv2 (by omega),zv2 (by omega)];exact h j (by omega) c hc
theorem zjX(h:zb4 xs 3 k f)(hl:k*3+2<xs.length)(hk:f k=[a0,a1,a2]):
  zb4 (((xs.set (k*3) a0).set (k*3+1) a1).set (k*3+2) a2) 3 (k+1) f:=by
 intro j hj c hc;rw[zve,zve,zve]
 by_cases e:j=k
 ·subst e;rw[hk]
  match c,hc with
  |0,_=>simp;omega
  |1,_=>simp;omega
  |2,_=>simp;omega
 ·rw[zv2 (by omega),zv2 (by omega),zv2 (by omega)];exact h j (by omega) c hc
theorem zp8{e:TypeId}(h:w.ownsRow base e 3 (.slice (some ⟨g,0,none⟩) n cap) n xs){k:Nat}(hk:k<n):
  ∃u0 u1 u2,w.cell? ⟨g,k*3,none⟩=some u0/\w.cell? ⟨g,k*3+1,none⟩=some u1/\w.cell? ⟨g,k*3+2,none⟩=some u2/\w.frozen? ⟨g,k*3,none⟩=false/\w.frozen? ⟨g,k*3+1,none⟩=false/\w.frozen? ⟨g,k*3+2,none⟩=false:=by
 obtain⟨u0,h0⟩:=zbC h (j:=k*3) (by omega);obtain⟨u1,h1⟩:=zbC h (j:=k*3+1) (by omega);obtain⟨u2,h2⟩:=zbC h (j:=k*3+2) (by omega);exact⟨u0,u1,u2,h0,h1,h2,h.frozenAt _,h.frozenAt _,h.frozenAt _⟩
theorem zr3{e:TypeId}(h:w.ownsRow base e 5 (.slice (some ⟨g,0,none⟩) n cap) n xs){k:Nat}(hk:k<n):
  ∃u0 u1 u2 u3 u4,w.cell? ⟨g,k*5,none⟩=some u0/\w.cell? ⟨g,k*5+1,none⟩=some u1/\w.cell? ⟨g,k*5+2,none⟩=some u2/\w.cell? ⟨g,k*5+3,none⟩=some u3/\w.cell? ⟨g,k*5+4,none⟩=some u4/\
   w.frozen? ⟨g,k*5,none⟩=false/\w.frozen? ⟨g,k*5+1,none⟩=false/\w.frozen? ⟨g,k*5+2,none⟩=false/\w.frozen? ⟨g,k*5+3,none⟩=false/\w.frozen? ⟨g,k*5+4,none⟩=false:=by
 obtain⟨u0,h0⟩:=zbC h (j:=k*5) (by omega);obtain⟨u1,h1⟩:=zbC h (j:=k*5+1) (by omega);obtain⟨u2,h2⟩:=zbC h (j:=k*5+2) (by omega);obtain⟨u3,h3⟩:=zbC h (j:=k*5+3) (by omega);obtain⟨u4,h4⟩:=zbC h (j:=k*5+4) (by omega);exact⟨u0,u1,u2,u3,u4,h0,h1,h2,h3,h4,h.frozenAt _,h.frozenAt _,h.frozenAt _,h.frozenAt _,h.frozenAt _⟩
theorem zaJ{e:TypeId}(h:w.ownsRow base e sz (.slice (some ⟨g,0,none⟩) n cap) n xs)(hf:zb4 xs sz n f){i c:Nat}(hi:i<n)(hc:c<sz):
  w.cell? ⟨g,i*sz+c,none⟩=(f i)[c]?:=by
 have:i*sz+c<n*sz:=zvL (by omega:i*sz+c<i*sz+sz) (by rw[<-Nat.succ_mul];exact Nat.mul_le_mul_right _ hi);rw[h.cellAt _ this];exact hf i hi c hc
theorem zcE{e:TypeId}(h:w.ownsRow base e sz (.slice (some ⟨g,0,none⟩) n cap) n xs):g<w.heap.size:=(h.lt g rfl).2
theorem zfA(hb:Below W.heap.size W w1):(∀b o,b<W.heap.size->w1.cell? ⟨b,o,none⟩=W.cell? ⟨b,o,none⟩)/\(∀b o,b<W.heap.size->w1.frozen? ⟨b,o,none⟩=W.frozen? ⟨b,o,none⟩):=
 ⟨fun b o h=>hb.cell (p:=⟨b,o,none⟩) h,fun b o h=>hb.frozen (p:=⟨b,o,none⟩) h⟩
theorem zb4.congr{g:Nat->List Value}(h:zb4 xs sz k f)(hfg:∀j,j<k->f j=g j):zb4 xs sz k g:=fun j hj c hc=>by rw[<-hfg j hj];exact h j hj c hc
def upd(S:Nat->Value)(k:Nat)(v:Value):Nat->Value:=fun j=>if j=k then v else S j
theorem zet(S:Nat->Value)(k:Nat)(v:Value):upd S k v k=v:=by simp[upd]
theorem ziE(S:Nat->Value)(v:Value){j k:Nat}(h:j<k):upd S k v j=S j:=by simp[upd];omega
theorem zae{a b:Bool}(h:a=b):Ending.returned (.bool a)=.returned (.bool b):=by rw[h]
theorem zak{o ob:Obj}(h:w.heap[g]?=some o):(w.alloc ob).heap[g]?=some o:=by
 rw[Below.heap_alloc _ _ _ (zuH.1 h).1];exact h
theorem Below.setRow(h:Below B a w){g:Nat}(hg:B<=g)(cs:Array Value):Below B a (w.setRow g cs):=
 h.trans ⟨rfl,rfl,rfl,by simp,fun k hk=>setRow_other _ _ _ _ (by omega)⟩
theorem zbv{e:TypeId}{m:Nat}(h:w.ownsRow base e 1 (.slice (some ⟨g,0,none⟩) n cap) n xs)(hm:m<=n):
  w.ownsRow base e 1 (.slice (some ⟨g,0,none⟩) m cap) m (xs.take m):=by
 obtain⟨h1,h2⟩:=h;rcases h2 with ⟨h0,_⟩|⟨g',cap',cur,hv,hg,hh,hn,hcap,hsz,htake⟩
 ·cases h0
 ·cases hv
  refine⟨by simp at h1 ⊢;omega,.inr ⟨g,cap,cur,rfl,hg,hh,by omega,hcap,hsz,?_⟩⟩;rw[<-htake,List.take_take]
  congr 1
  omega
theorem zhc(w:World)(e:TypeId):(w.alloc (.cells #[] e)).ownsRow w.heap.size e 1 (.slice (some ⟨w.heap.size,0,none⟩) 0 0) 0 []:=
 ⟨rfl,.inr ⟨w.heap.size,0,#[],rfl,zvJ _,zvZ _ _,zvJ _,zvT _,rfl,rfl⟩⟩
theorem zbu{e:TypeId}(h:w.ownsRow base e 1 (.slice (some ⟨g,0,none⟩) n cap) n xs):base<=g/\g<w.heap.size/\n<=cap/\cap<=maxLen:=by
 obtain⟨h1,h2⟩:=h;rcases h2 with ⟨h0,_⟩|⟨g',cap',cur,hv,hg,hh,hn,hcap,hsz,htake⟩
 ·cases h0
 ·cases hv
  exact⟨hg,(zuH.1 hh).1,hn,hcap⟩
theorem zau{a:Act}(w:World)(hgd:o.guard=none)(s x:Operand)(t:TypeId)
  (ho:o.op=.call {callee:=.builtin .append,args:=#[s,x],argTypes:=#[t,t]})
  (base:Nat) (e:TypeId) (i:TypeInfo) (z:Value) (bytes:Nat) (ht:P.underlying t=some (.slice e)) (hi:P.info? e=some i) (hz:i.zero=some z)
  (hsize:i.size=1) (hby:i.bytes=bytes) (hzs:z.cells.size=1)
  (g cap n:Nat) (xs:List Value) (u:Value) (hs:a.eval s=.slice (some ⟨g,0,none⟩) n cap) (hown:w.ownsRow base e 1 (.slice (some ⟨g,0,none⟩) n cap) n xs)
  (hx:a.eval x=.slice (some ⟨w.heap.size,0,none⟩) 1 1) (h1:u.oneCell'=true) (hn:n<=2000000) (hbytes:bytes<=64) (hbase:base<=w.heap.size)
  (h:∀g' cap' w',w'.ownsRow base e 1 (.slice (some ⟨g',0,none⟩) (n+1) cap') (n+1) (xs++[u])->w.grownBy w' (some g)->(g'=g\/g'=w.heap.size+1)->wpList P ops Q rest (a.put o.dst (.slice (some ⟨g',0,none⟩) (n+1) cap')) w'):
  wpList P ops Q (o::rest) a (w.alloc (.cells #[u] e)):=by
 refine wpList_append_lies _ hgd s x t ho base e i z 1 bytes ht hi hz hsize hby hzs (by omega) _ n xs hs (hown.alloc _) ⟨w.heap.size,0,none⟩ 1 1 [u] hx rfl ?_ ?_ (by omega) (by unfold maxLen;omega) ?_ (by simp;omega) (w.heap.size+1) (by simp) ?_
 ·intro j v hv
  match j,hv with
  |0,hv=>simp at hv;subst hv;simp[Addr.add]
 ·intro v hv;simp at hv;subst hv;exact h1
 ·have:(n+1)*bytes<=2000001*64:=Nat.mul_le_mul (by omega) hbytes;omega
 ·intro g' cap' w' ho2 hgr hat hlt;refine h g' cap' w' ho2 ⟨hgr.os,hgr.tape,hgr.output,zvK (by simp) hgr.size,fun k hk hne=>?_⟩ ?_
  ·rw[hgr.block k (by simp;omega) (by simpa [Value.ownBlock] using hne),Below.heap_alloc _ _ _ hk]
  ·rcases hat with hat|hat
   ·left;simp[Value.ownBlock] at hat;exact hat.symm
   ·exact .inr hat
theorem zcw(w:World)(e:TypeId)(B H:Nat)(hB:B<=H)(hH:w.heap.size=H):(w.alloc (.cells #[] e)).ownsRow B e 1 (.slice (some ⟨H,0,none⟩) 0 0) 0 []:=by
 subst hH;exact⟨rfl,.inr ⟨w.heap.size,0,#[],rfl,hB,zvZ _ _,zvJ _,zvT _,rfl,rfl⟩⟩
theorem zcf{a:Act}(w:World)(H:Nat)(hH:w.heap.size=H)(hgd:o.guard=none)(s x:Operand)(t:TypeId)
  (ho:o.op=.call {callee:=.builtin .append,args:=#[s,x],argTypes:=#[t,t]})
  (base:Nat) (e:TypeId) (i:TypeInfo) (z:Value) (bytes:Nat) (ht:P.underlying t=some (.slice e)) (hi:P.info? e=some i) (hz:i.zero=some z)
  (hsize:i.size=1) (hby:i.bytes=bytes) (hzs:z.cells.size=1)
  (g cap n:Nat) (xs:List Value) (u:Value) (hs:a.eval s=.slice (some ⟨g,0,none⟩) n cap) (hown:w.ownsRow base e 1 (.slice (some ⟨g,0,none⟩) n cap) n xs)
  (hx:a.eval x=.slice (some ⟨H,0,none⟩) 1 1) (h1:u.oneCell'=true) (hn:n<=2000000) (hbytes:bytes<=64) (hbase:base<=w.heap.size)
  (h:∀g' cap' w',w'.ownsRow base e 1 (.slice (some ⟨g',0,none⟩) (n+1) cap') (n+1) (xs++[u])->w.grownBy w' (some g)->(g'=g\/g'=w.heap.size+1)->wpList P ops Q rest (a.put o.dst (.slice (some ⟨g',0,none⟩) (n+1) cap')) w'):
  wpList P ops Q (o::rest) a (w.alloc (.cells #[u] e)):=by
 subst hH;exact zau w hgd s x t ho base e i z bytes ht hi hz hsize hby hzs g cap n xs u hs hown hx h1 hn hbytes hbase h
theorem zub{α:Type}{l:List α}(h:l.length=3):∃a b c,l=[a,b,c]:=by
 match l,h with
 |[a,b,c],_=>exact⟨a,b,c,rfl⟩
theorem ztr{α:Type}{l:List α}(h:l.length=5):∃a b c d e,l=[a,b,c,d,e]:=by
 match l,h with
 |[a,b,c,d,e],_=>exact⟨a,b,c,d,e,rfl⟩
theorem zqF{a:Addr}(h:W.cell? a=some v):a=⟨a.block,a.off,none⟩:=by
 obtain⟨b,o,s⟩:=a;cases s with
 |none=>rfl
 |some q=>
  simp only[World.cell?] at h;split at h<;>simp at h
theorem zd5{a:Addr}{len:Nat}{E:List Value->Prop}(hsz:0<sz)(h:∀i,i<len->∃cs,W.cells? 0 (a.add (i*sz)) sz=some cs/\E cs)(h0:0<len):
  ∃(b o:Nat) (C:Nat->List Value),a=⟨b,o,none⟩/\b<W.heap.size/\∀i,i<len->E (C i)/\∀j,j<sz->W.cell? ⟨b,o+i*sz+j,none⟩=(C i)[j]?:=by
 obtain⟨cs0,h1,_⟩:=h 0 h0;obtain⟨_,hl,hc⟩:=World.cells?_some h1;have hz:=hc 0 hsz;rw[Nat.zero_mul,zva (by omega)] at hz;have ha:a.add 0=a:=by simp[Addr.add]
 rw[ha,ha] at hz;have hs:=zqF hz;obtain⟨C,hC⟩:=Go.Deep.choose_lt (α:=List Value) (p:=fun i cs=>W.cells? 0 (a.add (i*sz)) sz=some cs/\E cs) h;refine⟨a.block,a.off,C,hs,block_lt_of_cell hz,fun i hi=>⟨(hC i hi).2,fun j hj=>?_⟩⟩;obtain⟨_,_,hc2⟩:=World.cells?_some (hC i hi).1;rw[<-hc2 j hj,Go.Deep.add_add]
 congr 1
 rw[hs];unfold Addr.add;split
 ·rename_i h
  simp only[Addr.mk.injEq,true_and,and_true];omega
 ·simp
theorem zcc{α:Type}(f:Nat->α)(d:α)(n i:Nat)(h:i<n):((List.range n).map f).getD i d=f i:=by
 simp[List.getD,h]
theorem zcV(h:n<=maxLen):n<=9223372036854775807:=by simpa [maxLen] using h
theorem Tryz.infoInt:(Tryz.prog.info? 3).map (fun i=>(i.zero,i.size,i.bytes))=some (some (.int .i64 0),1,8):=by kernel_rfl
end
section
variable{lo lo':Nat}{w w' wr:World}{v:Value}{rs:List (Int×Int)}{ao:Option Addr}
structure zaq where
 kind:Int
 set:List (Int×Int)
 min:Int
 max:Int
 group:Int
structure zah where
 bol:Bool
 eol:Bool
 nodes:List zaq
structure zaG where
 branches:List zah
 groups:Int
def zaq.zero:zaq:=⟨0,[],0,0,0⟩
def zah.zero:zah:=⟨false,false,[]⟩
def zft(lo:Nat)(w:World)(ao:Option Addr)(rs:List (Int×Int)):Prop:=
 0<rs.length->∃b o,ao=some ⟨b,o,none⟩/\lo<=b/\b<w.heap.size/\
  ∀i,i<rs.length->w.cell? ⟨b,o+i*2,none⟩=some (.int .i64 (rs.getD i (0,0)).1)/\w.cell? ⟨b,o+i*2+1,none⟩=some (.int .i64 (rs.getD i (0,0)).2)
def zal(lo:Nat)(w:World)(v:Value)(rs:List (Int×Int)):Prop:=∃ao cap,v=.slice ao rs.length cap/\rs.length<=9223372036854775807/\zft lo w ao rs
def zgx(lo:Nat)(w:World)(ao:Option Addr)(ns:List zaq):Prop:=
 0<ns.length->∃b o,ao=some ⟨b,o,none⟩/\lo<=b/\b<w.heap.size/\
  ∀i,i<ns.length->w.cell? ⟨b,o+i*5,none⟩=some (.int .i64 (ns.getD i .zero).kind)/\
   (∃sv,w.cell? ⟨b,o+i*5+1,none⟩=some sv/\zal lo w sv (ns.getD i .zero).set)/\
   w.cell? ⟨b,o+i*5+2,none⟩=some (.int .i64 (ns.getD i .zero).min)/\w.cell? ⟨b,o+i*5+3,none⟩=some (.int .i64 (ns.getD i .zero).max)/\
   w.cell? ⟨b,o+i*5+4,none⟩=some (.int .i64 (ns.getD i .zero).group)
def zaI(lo:Nat)(w:World)(v:Value)(ns:List zaq):Prop:=∃ao cap,v=.slice ao ns.length cap/\ns.length<=9223372036854775807/\zgx lo w ao ns
def zeD(lo:Nat)(w:World)(ao:Option Addr)(bs:List zah):Prop:=
 0<bs.length->∃b o,ao=some ⟨b,o,none⟩/\lo<=b/\b<w.heap.size/\
  ∀i,i<bs.length->w.cell? ⟨b,o+i*3,none⟩=some (.bool (bs.getD i .zero).bol)/\w.cell? ⟨b,o+i*3+1,none⟩=some (.bool (bs.getD i .zero).eol)/\
   (∃nv,w.cell? ⟨b,o+i*3+2,none⟩=some nv/\zaI lo w nv (bs.getD i .zero).nodes)
def zao(lo:Nat)(w:World)(v:Value)(bs:List zah):Prop:=∃ao cap,v=.slice ao bs.length cap/\bs.length<=9223372036854775807/\zeD lo w ao bs
theorem zal.same(h:zal lo w v rs)(hb:Same lo w w'):zal lo w' v rs:=by
 obtain⟨ao,cap,rfl,hm,h⟩:=h;refine⟨ao,cap,rfl,hm,fun h0=>?_⟩;obtain⟨b,o,rfl,hge,hlt,hc⟩:=h h0;refine⟨b,o,rfl,hge,zvL hlt hb.size,fun i hi=>?_⟩;obtain⟨c0,c1⟩:=hc i hi;exact⟨(hb.cell (by exact hge) (by exact hlt)).trans c0,(hb.cell (by exact hge) (by exact hlt)).trans c1⟩
theorem zaI.same{ns:List zaq}(h:zaI lo w v ns)(hb:Same lo w w'):zaI lo w' v ns:=by
 obtain⟨ao,cap,rfl,hm,h⟩:=h;refine⟨ao,cap,rfl,hm,fun h0=>?_⟩;obtain⟨b,o,rfl,hge,hlt,hc⟩:=h h0;refine⟨b,o,rfl,hge,zvL hlt hb.size,fun i hi=>?_⟩;obtain⟨c0,⟨sv,c1,hs⟩,c2,c3,c4⟩:=hc i hi;have hcell:∀off,w'.cell? ⟨b,off,none⟩=w.cell? ⟨b,off,none⟩:=fun off=>hb.cell (by exact hge) (by exact hlt)
 exact⟨(hcell _).trans c0,⟨sv,(hcell _).trans c1,hs.same hb⟩,(hcell _).trans c2,(hcell _).trans c3,(hcell _).trans c4⟩
theorem zao.same{bs:List zah}(h:zao lo w v bs)(hb:Same lo w w'):zao lo w' v bs:=by
 obtain⟨ao,cap,rfl,hm,h⟩:=h;refine⟨ao,cap,rfl,hm,fun h0=>?_⟩;obtain⟨b,o,rfl,hge,hlt,hc⟩:=h h0;refine⟨b,o,rfl,hge,zvL hlt hb.size,fun i hi=>?_⟩;obtain⟨c0,c1,⟨nv,c2,hn⟩⟩:=hc i hi;have hcell:∀off,w'.cell? ⟨b,off,none⟩=w.cell? ⟨b,off,none⟩:=fun off=>hb.cell (by exact hge) (by exact hlt)
 exact⟨(hcell _).trans c0,(hcell _).trans c1,⟨nv,(hcell _).trans c2,hn.same hb⟩⟩
theorem zal.below(h:zal lo w v rs)(hb:Below w.heap.size w w'):zal lo w' v rs:=h.same (.of_below hb)
theorem zaI.below{ns:List zaq}(h:zaI lo w v ns)(hb:Below w.heap.size w w'):zaI lo w' v ns:=h.same (.of_below hb)
theorem zao.below{bs:List zah}(h:zao lo w v bs)(hb:Below w.heap.size w w'):zao lo w' v bs:=h.same (.of_below hb)
theorem zal.mono(h:zal lo w v rs)(hl:lo'<=lo):zal lo' w v rs:=by
 obtain⟨ao,cap,rfl,hm,h⟩:=h;refine⟨ao,cap,rfl,hm,fun h0=>?_⟩;obtain⟨b,o,rfl,hge,r⟩:=h h0;exact⟨b,o,rfl,zvK hl hge,r⟩
theorem zaI.mono{rs:List zaq}(h:zaI lo w v rs)(hl:lo'<=lo):zaI lo' w v rs:=by
 obtain⟨ao,cap,rfl,hm,h⟩:=h;refine⟨ao,cap,rfl,hm,fun h0=>?_⟩;obtain⟨b,o,rfl,hge,hlt,hc⟩:=h h0;refine⟨b,o,rfl,zvK hl hge,hlt,fun i hi=>?_⟩;obtain⟨c0,⟨sv,c1,hs⟩,r⟩:=hc i hi;exact⟨c0,⟨sv,c1,hs.mono hl⟩,r⟩
theorem zft.elem(h:zft lo w ao rs)(hb:Below w.heap.size w wr){k:Nat}(hk:k<rs.length):
  ∃(b o:Nat) (lo hi:Int),ao=some ⟨b,o,none⟩/\Hid (rs.getD k (0,0)=(lo,hi))/\b<w.heap.size/\wr.cell? ⟨b,o+k*2,none⟩=some (.int .i64 lo)/\wr.cell? ⟨b,o+k*2+1,none⟩=some (.int .i64 hi):=by
 obtain⟨b,o,rfl,_,hlt,hc⟩:=h (by omega);obtain⟨c0,c1⟩:=hc k hk;exact⟨b,o,_,_,rfl,rfl,hlt,(hb.cell (by exact hlt)).trans c0,(hb.cell (by exact hlt)).trans c1⟩
theorem zgx.elem{ns:List zaq}(h:zgx lo w ao ns)(hb:Below w.heap.size w wr){k:Nat}(hk:k<ns.length):
  ∃(b o:Nat) (sv:Value) (nd:zaq),ao=some ⟨b,o,none⟩/\Hid (ns.getD k .zero=nd)/\b<w.heap.size/\wr.cell? ⟨b,o+k*5,none⟩=some (.int .i64 nd.kind)/\wr.cell? ⟨b,o+k*5+1,none⟩=some sv/\
   wr.cell? ⟨b,o+k*5+2,none⟩=some (.int .i64 nd.min)/\wr.cell? ⟨b,o+k*5+3,none⟩=some (.int .i64 nd.max)/\wr.cell? ⟨b,o+k*5+4,none⟩=some (.int .i64 nd.group)/\zal lo wr sv nd.set:=by
 obtain⟨b,o,rfl,_,hlt,hc⟩:=h (by omega);obtain⟨c0,⟨sv,c1,hs⟩,c2,c3,c4⟩:=hc k hk;exact⟨b,o,sv,_,rfl,rfl,hlt,(hb.cell (by exact hlt)).trans c0,(hb.cell (by exact hlt)).trans c1,(hb.cell (by exact hlt)).trans c2,(hb.cell (by exact hlt)).trans c3,(hb.cell (by exact hlt)).trans c4,hs.below hb⟩
theorem zeD.elem{bs:List zah}(h:zeD lo w ao bs)(hb:Below w.heap.size w wr){k:Nat}(hk:k<bs.length):
  ∃(b o:Nat) (nv:Value) (bd:zah),ao=some ⟨b,o,none⟩/\Hid (bs.getD k .zero=bd)/\b<w.heap.size/\wr.cell? ⟨b,o+k*3,none⟩=some (.bool bd.bol)/\wr.cell? ⟨b,o+k*3+1,none⟩=some (.bool bd.eol)/\
   wr.cell? ⟨b,o+k*3+2,none⟩=some nv/\zaI lo wr nv bd.nodes:=by
 obtain⟨b,o,rfl,_,hlt,hc⟩:=h (by omega);obtain⟨c0,c1,⟨nv,c2,hn⟩⟩:=hc k hk;exact⟨b,o,nv,_,rfl,rfl,hlt,(hb.cell (by exact hlt)).trans c0,(hb.cell (by exact hlt)).trans c1,(hb.cell (by exact hlt)).trans c2,hn.below hb⟩
def zaX(rs:List (Int×Int))(left:Int):Int:=if left-rs.length<0 then -1 else left-rs.length
def zbi:List zaq->Int->Int
 |[],l=>l
 |n::ns,l=>if zaX n.set l<0 then -1 else zbi ns (zaX n.set l)
def zaU(ns:List zaq)(left:Int):Int:=if left-ns.length<0 then -1 else zbi ns (left-ns.length)
def zaN:List zah->Int->Int
 |[],l=>l
 |b::bs,l=>if zaU b.nodes l<0 then -1 else zaN bs (zaU b.nodes l)
def zay(bs:List zah)(left:Int):Int:=if left-bs.length<0 then -1 else zaN bs (left-bs.length)
theorem zcH(rs:List (Int×Int))(l:Int)(h:0<=l):-1<=zaX rs l/\zaX rs l<=l:=by unfold zaX;split<;>omega
theorem zhx(ns:List zaq):∀l:Int,0<=l->-1<=zbi ns l/\zbi ns l<=l:=by
 induction ns with
 |nil=>intro l h;simp[zbi];omega
 |cons n ns ih=>
  intro l h;have:=zcH n.set l h;unfold zbi;split
  ·omega
  ·have:=ih (zaX n.set l) (by omega);omega
theorem zc9(ns:List zaq)(l:Int)(h:0<=l):-1<=zaU ns l/\zaU ns l<=l:=by
 unfold zaU;split
 ·omega
 ·have:=zhx ns (l-ns.length) (by omega);omega
theorem zeC(ns:List zah):∀l:Int,0<=l->-1<=zaN ns l/\zaN ns l<=l:=by
 induction ns with
 |nil=>intro l h;simp[zaN];omega
 |cons n ns ih=>
  intro l h;have:=zc9 n.nodes l h;unfold zaN;split
  ·omega
  ·have:=ih (zaU n.nodes l) (by omega);omega
theorem zbW(ns:List zah)(l:Int)(h:0<=l):-1<=zay ns l/\zay ns l<=l:=by
 unfold zay;split
 ·omega
 ·have:=zeC ns (l-ns.length) (by omega);omega
theorem zjy(ns:List zaq)(i:Nat)(hi:i<ns.length)(l:Int):
  zbi (ns.drop i) l=if zaX (ns.getD i .zero).set l<0 then -1 else zbi (ns.drop (i+1)) (zaX (ns.getD i .zero).set l):=by
 rw[zuV hi];simp[zbi,List.getD,hi]
theorem zgk(ns:List zah)(i:Nat)(hi:i<ns.length)(l:Int):
  zaN (ns.drop i) l=if zaU (ns.getD i .zero).nodes l<0 then -1 else zaN (ns.drop (i+1)) (zaU (ns.getD i .zero).nodes l):=by
 rw[zuV hi];simp[zaN,List.getD,hi]
end
section
variable{lo:Nat}
theorem zmi(a:Option Addr)(rs:List (Int×Int))(cap:Nat)(left:Int)(w:World)(h0:0<=left)(h1:left<=1048576)(h2:rs.length<=9223372036854775807):
  Calls Tryz.prog 174 #[.slice a rs.length cap,.int .i64 left] w fun e w'=>e=.returned (.int .i64 (zaX rs left))/\w'=w:=by
 by_cases hle:left-rs.length<0
 all_goals
  go_enter Tryz.func174,Tryz.ntmps174
  go_wp2;go_ret;exact⟨zaR (by unfold zaX;split<;>omega),rfl⟩
theorem zkM(k mn mx g:Int)(sv:Value)(rs:List (Int×Int))(left:Int)(w:World)(hs:zal lo w sv rs)(h0:0<=left)(h1:left<=1048576):
  Calls Tryz.prog 153 #[.agg #[.int .i64 k,sv,.int .i64 mn,.int .i64 mx,.int .i64 g],.int .i64 left] w fun e w'=>e=.returned (.int .i64 (zaX rs left))/\Below w.heap.size w w':=by
 obtain⟨ao,cap,rfl,hm,hc⟩:=hs;have hb:=zcH rs left h0
 by_cases hle:zaX rs left<0
 all_goals
  go_enter Tryz.func153,Tryz.ntmps153
  go_wp2_with (go_at_call 174;refine(zmi _ _ _ _ _ h0 h1 hm).mono ?_;rintro e w' ⟨rfl,rfl⟩)
  go_ret
  exact⟨zaR (by omega),(Below.refl _ _).alloc (zvJ _) _⟩
theorem zou(v:Value)(ns:List zaq)(left:Int)(w:World)(hs:zaI lo w v ns)(h0:0<=left)(h1:left<=1048576):
  Calls Tryz.prog 134 #[v,.int .i64 left] w fun e w'=>e=.returned (.int .i64 (zaU ns left))/\Below w.heap.size w w':=by
 obtain⟨ao,cap,rfl,hm,hc⟩:=hs
 by_cases hle:left-ns.length<0
 ·go_enter Tryz.func134,Tryz.ntmps134
  go_wp2;go_ret;exact⟨zaR (by unfold zaU;split<;>omega),Below.refl _ _⟩
 ·have HS:Hid (zaU ns left=zbi (ns.drop 0) (left-ns.length)):=by show _=_;rw[zaU,zv2 hle];rfl
  go_enter Tryz.func134,Tryz.ntmps134
  go_wp2
  go_loopw [1,5] (fun l i wr=>∃k:Nat,k<=ns.length/\i=.int .i64 k/\∃L:Int,l=.int .i64 L/\0<=L/\L<=1048576/\Hid (zaU ns left=zbi (ns.drop k) L)/\Below w.heap.size w wr)
   (fun _ i _=>ns.length-(intOf i).toNat)
  case atStart=>exact⟨0,zvT _,rfl,_,rfl,by omega,by omega,HS,Below.refl _ _⟩
  case round=>
   obtain⟨k,hk,rfl,L,rfl,hL0,hL1,HS,hb⟩:=hrel
   by_cases hlt:k<ns.length
   ·obtain⟨b,o,sv,nd,rfl,Hn,hbl,c0,c1,c2,c3,c4,hsv⟩:=hc.elem hb hlt;have hz:=hb.size;have hq:=zcH nd.set L hL0;have HD:Hid (zbi (ns.drop k) L=if zaX nd.set L<0 then -1 else zbi (ns.drop (k+1)) (zaX nd.set L)):=by have:=zjy ns k hlt L;rw[Hn.out] at this;exact this
    by_cases hneg:zaX nd.set L<0
    ·go_wp2_with (go_at_call 153;refine(zkM _ _ _ _ _ _ _ _ hsv hL0 hL1).mono ?_;rintro e w1 ⟨rfl,hb1⟩)
     go_ret
     exact⟨zaR (by rw[HS.out,HD.out,zv3 hneg]),zaa hb hz hb1⟩
    ·go_wp2_with (go_at_call 153;refine(zkM _ _ _ _ _ _ _ _ hsv hL0 hL1).mono ?_;rintro e w1 ⟨rfl,hb1⟩)
     go_roundw
     case rel=>exact⟨k+1,by omega,by go_num,_,rfl,by omega,by omega,by show _=_;rw[HS.out,HD.out,zv2 (by omega)],zaa hb hz hb1⟩
     case measure=>simp[intOf];omega
   ·go_wp2;go_ret;exact⟨zaR (by rw[HS.out,zuW (by omega)];rfl),hb⟩
theorem zhw(bol eol:Bool)(nv:Value)(ns:List zaq)(left:Int)(w:World)(hs:zaI lo w nv ns)(h0:0<=left)(h1:left<=1048576):
  Calls Tryz.prog 109 #[.agg #[.bool bol,.bool eol,nv],.int .i64 left] w fun e w'=>e=.returned (.int .i64 (zaU ns left))/\Below w.heap.size w w':=by
 have hb:=zc9 ns left h0;have ha:=(Below.refl w.heap.size w).alloc (zvJ _) (.cells #[.bool bol,.bool eol,nv] 172);have hs':=hs.below ha
 by_cases hle:zaU ns left<0
 all_goals
  go_enter Tryz.func109,Tryz.ntmps109
  go_wp2_with (go_at_call 134;refine(zou _ _ _ _ hs' h0 h1).mono ?_;rintro e w' ⟨rfl,hb1⟩)
  go_ret
  exact⟨zaR (by omega),zaa ha (by simp) hb1⟩
theorem zkJ(v:Value)(ns:List zah)(left:Int)(w:World)(hs:zao lo w v ns)(h0:0<=left)(h1:left<=1048576):
  Calls Tryz.prog 86 #[v,.int .i64 left] w fun e w'=>e=.returned (.int .i64 (zay ns left))/\Below w.heap.size w w':=by
 obtain⟨ao,cap,rfl,hm,hc⟩:=hs
 by_cases hle:left-ns.length<0
 ·go_enter Tryz.func86,Tryz.ntmps86
  go_wp2;go_ret;exact⟨zaR (by unfold zay;split<;>omega),Below.refl _ _⟩
 ·have HS:Hid (zay ns left=zaN (ns.drop 0) (left-ns.length)):=by show _=_;rw[zay,zv2 hle];rfl
  go_enter Tryz.func86,Tryz.ntmps86
  go_wp2
  go_loopw [1,5] (fun l i wr=>∃k:Nat,k<=ns.length/\i=.int .i64 k/\∃L:Int,l=.int .i64 L/\0<=L/\L<=1048576/\Hid (zay ns left=zaN (ns.drop k) L)/\Below w.heap.size w wr)
   (fun _ i _=>ns.length-(intOf i).toNat)
  case atStart=>exact⟨0,zvT _,rfl,_,rfl,by omega,by omega,HS,Below.refl _ _⟩
  case round=>
   obtain⟨k,hk,rfl,L,rfl,hL0,hL1,HS,hb⟩:=hrel
   by_cases hlt:k<ns.length
   ·obtain⟨b,o,nv,nd,rfl,Hn,hbl,c0,c1,c2,hnv⟩:=hc.elem hb hlt;have hz:=hb.size;have hq:=zc9 nd.nodes L hL0;have HD:Hid (zaN (ns.drop k) L=if zaU nd.nodes L<0 then -1 else zaN (ns.drop (k+1)) (zaU nd.nodes L)):=by have:=zgk ns k hlt L;rw[Hn.out] at this;exact this
    by_cases hneg:zaU nd.nodes L<0
    ·go_wp2_with (go_at_call 109;refine(zhw _ _ _ _ _ _ hnv hL0 hL1).mono ?_;rintro e w1 ⟨rfl,hb1⟩)
     go_ret
     exact⟨zaR (by rw[HS.out,HD.out,zv3 hneg]),zaa hb hz hb1⟩
    ·go_wp2_with (go_at_call 109;refine(zhw _ _ _ _ _ _ hnv hL0 hL1).mono ?_;rintro e w1 ⟨rfl,hb1⟩)
     go_roundw
     case rel=>exact⟨k+1,by omega,by go_num,_,rfl,by omega,by omega,by show _=_;rw[HS.out,HD.out,zv2 (by omega)],zaa hb hz hb1⟩
     case measure=>simp[intOf];omega
   ·go_wp2;go_ret;exact⟨zaR (by rw[HS.out,zuW (by omega)];rfl),hb⟩
theorem zkO(g:Int)(bv:Value)(bs:List zah)(left:Int)(w:World)(hs:zao lo w bv bs)(h0:0<=left)(h1:left<=1048576):
  Calls Tryz.prog 59 #[.agg #[bv,.int .i64 g],.int .i64 left] w fun e w'=>e=.returned (.int .i64 (zay bs left))/\Below w.heap.size w w':=by
 have hb:=zbW bs left h0;have ha:=(Below.refl w.heap.size w).alloc (zvJ _) (.cells #[bv,.int .i64 g] 107);have hs':=hs.below ha
 by_cases hle:zay bs left<0
 all_goals
  go_enter Tryz.func59,Tryz.ntmps59
  go_wp2_with (go_at_call 86;refine(zkJ _ _ _ _ hs' h0 h1).mono ?_;rintro e w' ⟨rfl,hb1⟩)
  go_ret
  exact⟨zaR (by omega),zaa ha (by simp) hb1⟩
end
theorem Tryz.infoNode:(Tryz.prog.info? 149).map (fun i=>(i.zero,i.size,i.bytes))=some (some (.agg #[.int .i64 0,.slice none 0 0,.int .i64 0,.int .i64 0,.int .i64 0]),5,56):=by kernel_rfl
theorem Tryz.infoBranch:(Tryz.prog.info? 115).map (fun i=>(i.zero,i.size,i.bytes))=some (some (.agg #[.bool false,.bool false,.slice none 0 0]),3,32):=by kernel_rfl
theorem Tryz.infoRange:(Tryz.prog.info? 211).map (fun i=>(i.zero,i.size,i.bytes))=some (some (.agg #[.int .i64 0,.int .i64 0]),2,16):=by kernel_rfl
theorem zoz(lo hi:Int)(w:World):
  Calls Tryz.prog 197 #[.agg #[.int .i64 lo,.int .i64 hi]] w fun e w'=>e=.returned (.agg #[.int .i64 lo,.int .i64 hi])/\Below w.heap.size w w':=by
 go_enter Tryz.func197,Tryz.ntmps197
 go_wp2;exact zvV (v:=.agg #[.int .i64 lo,.int .i64 hi]) (by simp[results,Tryz.results197,go_sem]) rfl ⟨rfl,(((Below.refl _ _).alloc (zvJ _) _).alloc (by simp) _).alloc (by simp;omega) _⟩
variable{lo:Nat}{w:World}{v:Value}{rs:List zah}
theorem zal.setCell{rs:List (Int×Int)}(h:zal lo w v rs){a:Addr}(ha:a.block<lo)(u:Value):zal lo (w.setCell a u) v rs:=h.same (Same.setCell w ha u)
theorem zaI.setCell{rs:List zaq}(h:zaI lo w v rs){a:Addr}(ha:a.block<lo)(u:Value):zaI lo (w.setCell a u) v rs:=h.same (Same.setCell w ha u)
theorem zao.setCell(h:zao lo w v rs){a:Addr}(ha:a.block<lo)(u:Value):zao lo (w.setCell a u) v rs:=h.same (Same.setCell w ha u)
theorem zao.mono{lo':Nat}(h:zao lo w v rs)(hl:lo'<=lo):zao lo' w v rs:=by
 obtain⟨ao,cap,rfl,hm,h⟩:=h;refine⟨ao,cap,rfl,hm,fun h0=>?_⟩;obtain⟨b,o,rfl,hge,hlt,hc⟩:=h h0;refine⟨b,o,rfl,zvK hl hge,hlt,fun i hi=>?_⟩;obtain⟨c0,c1,⟨sv,c2,hs⟩⟩:=hc i hi;exact⟨c0,c1,⟨sv,c2,hs.mono hl⟩⟩
def zjf(ns:List zaq)(S:Nat->Value)(j:Nat):List Value:=[.int .i64 (ns.getD j .zero).kind,S j,.int .i64 (ns.getD j .zero).min,.int .i64 (ns.getD j .zero).max,.int .i64 (ns.getD j .zero).group]
def zeY(bs:List zah)(S:Nat->Value)(j:Nat):List Value:=[.bool (bs.getD j .zero).bol,.bool (bs.getD j .zero).eol,S j]
def Small(bs:List zah):Prop:=bs.length<=1048576/\∀i,i<bs.length->(bs.getD i .zero).nodes.length<=1048576/\∀j,j<(bs.getD i .zero).nodes.length->((bs.getD i .zero).nodes.getD j .zero).set.length<=1048576
end Go.Proofs.YtdimhpfiieepiaaGreatDoor
