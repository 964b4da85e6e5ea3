import Derived.Test.YthddplbodacjgaaGreatDoorRows
import Derived.WalkKit
import Derived.WalkSpells
import Derived.WalkLawsBesides
import Derived.ProofKit
import Derived.Deep.AppendLies
import Derived.Deep.Slices
import Derived.Laws.Tables
namespace Go.Proofs.YthddplbodacjgaaGreatDoor
set_option maxHeartbeats 400000
section
variable {lo B k base n sz cap g:Nat}{w w' w1 W:World}{a:Act}{v a0 a1 a2:Value}{xs:List Value}{f:Nat -> List Value}{o:Oper}{P:Program}{ops:Array Oper}{rest:List Oper}{Q:Exit -> Act -> World -> Prop}
open Go.RowKit
theorem ztn:type_of% @Array.ext_getElem?:=@Array.ext_getElem?
theorem zto:type_of% @Array.getElem?_eq_none:=@Array.getElem?_eq_none
theorem ztp:type_of% @Array.getElem?_eq_some_iff:=@Array.getElem?_eq_some_iff
theorem ztq:type_of% @Array.getElem?_setIfInBounds:=@Array.getElem?_setIfInBounds
theorem ztr:type_of% @Array.replicate_succ:=@Array.replicate_succ
theorem zts:type_of% @Array.replicate_zero:=@Array.replicate_zero
theorem ztt:type_of% @Bool.and_eq_true:=@Bool.and_eq_true
theorem ztu:type_of% @Bool.eq_iff_iff:=@Bool.eq_iff_iff
theorem ztv:type_of% @Bool.or_assoc:=@Bool.or_assoc
theorem ztw:type_of% @Bool.or_eq_true:=@Bool.or_eq_true
theorem ztx:type_of% @Bool.or_false:=@Bool.or_false
theorem zty:type_of% @Bool.true_and:=@Bool.true_and
theorem ztz:type_of% @Bool.true_or:=@Bool.true_or
theorem ztA:type_of% @Int.mul_le_mul:=@Int.mul_le_mul
theorem ztB:type_of% @Int.toNat_natCast:=@Int.toNat_natCast
theorem ztC:type_of% @List.all_eq_true:=@List.all_eq_true
theorem ztD:type_of% @List.append_assoc:=@List.append_assoc
theorem ztE:type_of% @List.append_toArray:=@List.append_toArray
theorem ztF:type_of% @List.cons_append:=@List.cons_append
theorem ztG:type_of% @List.drop_eq_getElem_cons:=@List.drop_eq_getElem_cons
theorem ztH:type_of% @List.drop_eq_nil_of_le:=@List.drop_eq_nil_of_le
theorem ztI:type_of% @List.drop_succ_cons:=@List.drop_succ_cons
theorem ztJ:type_of% @List.drop_zero:=@List.drop_zero
theorem ztK:type_of% @List.eq_nil_of_length_eq_zero:=@List.eq_nil_of_length_eq_zero
theorem ztL:type_of% @List.ext_getElem?:=@List.ext_getElem?
theorem ztM:type_of% @List.findIdx_cons:=@List.findIdx_cons
theorem ztN:type_of% @List.findIdx_le_length:=@List.findIdx_le_length
theorem ztO:type_of% @List.getD_eq_getElem?_getD:=@List.getD_eq_getElem?_getD
theorem ztP:type_of% @List.getElem?_append:=@List.getElem?_append
theorem ztQ:type_of% @List.getElem?_append_left:=@List.getElem?_append_left
theorem ztR:type_of% @List.getElem?_append_right:=@List.getElem?_append_right
theorem ztS:type_of% @List.getElem?_drop:=@List.getElem?_drop
theorem ztT:type_of% @List.getElem?_eq_getElem:=@List.getElem?_eq_getElem
theorem ztU:type_of% @List.getElem?_eq_none:=@List.getElem?_eq_none
theorem ztV:type_of% @List.getElem?_eq_some_iff:=@List.getElem?_eq_some_iff
theorem ztW:type_of% @List.getElem?_map:=@List.getElem?_map
theorem ztX:type_of% @List.getElem?_set:=@List.getElem?_set
theorem ztY:type_of% @List.getElem?_take:=@List.getElem?_take
theorem ztZ:type_of% @List.getElem?_toArray:=@List.getElem?_toArray
theorem zt0:type_of% @List.getElem_mem:=@List.getElem_mem
theorem zt1:type_of% @List.length_append:=@List.length_append
theorem zt2:type_of% @List.length_cons:=@List.length_cons
theorem zt3:type_of% @List.length_map:=@List.length_map
theorem zt4:type_of% @List.length_nil:=@List.length_nil
theorem zt5:type_of% @List.length_range:=@List.length_range
theorem zt6:type_of% @List.length_replicate:=@List.length_replicate
theorem zt7:type_of% @List.length_singleton:=@List.length_singleton
theorem zt8:type_of% @List.length_take:=@List.length_take
theorem zt9:type_of% @List.map_append:=@List.map_append
theorem zua:type_of% @List.map_congr_left:=@List.map_congr_left
theorem zub:type_of% @List.map_cons:=@List.map_cons
theorem zuc:type_of% @List.mem_append:=@List.mem_append
theorem zud:type_of% @List.mem_cons:=@List.mem_cons
theorem zue:type_of% @List.mem_cons_of_mem:=@List.mem_cons_of_mem
theorem zuf:type_of% @List.mem_iff_getElem:=@List.mem_iff_getElem
theorem zug:type_of% @List.mem_map:=@List.mem_map
theorem zuh:type_of% @List.mem_range:=@List.mem_range
theorem zui:type_of% @List.mem_singleton:=@List.mem_singleton
theorem zuj:type_of% @List.nil_append:=@List.nil_append
theorem zuk:type_of% @List.nodup_append:=@List.nodup_append
theorem zul:type_of% @List.nodup_cons:=@List.nodup_cons
theorem zum:type_of% @List.push_toArray:=@List.push_toArray
theorem zun:type_of% @List.range_succ:=@List.range_succ
theorem zuo:type_of% @List.size_toArray:=@List.size_toArray
theorem zup:type_of% @List.sum_cons:=@List.sum_cons
theorem zuq:type_of% @List.take_length:=@List.take_length
theorem zur:type_of% @List.take_of_length_le:=@List.take_of_length_le
theorem zus:type_of% @List.take_succ_cons:=@List.take_succ_cons
theorem zut:type_of% @List.take_succ_eq_append_getElem:=@List.take_succ_eq_append_getElem
theorem zuu:type_of% @List.take_zero:=@List.take_zero
theorem zuv:type_of% @Nat.add_mul:=@Nat.add_mul
theorem zuw:type_of% @Nat.add_sub_cancel:=@Nat.add_sub_cancel
theorem zux:type_of% @Nat.add_sub_cancel_left:=@Nat.add_sub_cancel_left
theorem zuy:type_of% @Nat.eq_zero_or_pos:=@Nat.eq_zero_or_pos
theorem zuz:type_of% @Nat.le_refl:=@Nat.le_refl
theorem zuA:type_of% @Nat.le_trans:=@Nat.le_trans
theorem zuB:type_of% @Nat.lt_of_lt_of_le:=@Nat.lt_of_lt_of_le
theorem zuC:type_of% @Nat.lt_or_ge:=@Nat.lt_or_ge
theorem zuD:type_of% @Nat.lt_trichotomy:=@Nat.lt_trichotomy
theorem zuE:type_of% @Nat.min_eq_left:=@Nat.min_eq_left
theorem zuF:type_of% @Nat.mod_eq_of_lt:=@Nat.mod_eq_of_lt
theorem zuG:type_of% @Nat.mul_le_mul:=@Nat.mul_le_mul
theorem zuH:type_of% @Nat.mul_le_mul_right:=@Nat.mul_le_mul_right
theorem zuI:type_of% @Nat.not_lt_zero:=@Nat.not_lt_zero
theorem zuJ:type_of% @Nat.succ_mul:=@Nat.succ_mul
theorem zuK:type_of% @Nat.zero_add:=@Nat.zero_add
theorem zuL:type_of% @Nat.zero_le:=@Nat.zero_le
theorem zuM:type_of% @beq_eq_false_iff_ne:=@beq_eq_false_iff_ne
theorem zuN:type_of% @bodyPost_ret:=@bodyPost_ret
theorem zuO:type_of% @cell_of_row:=@cell_of_row
theorem zuP:type_of% @decide_eq_true_eq:=@decide_eq_true_eq
theorem zuQ:type_of% @frozen_of_row:=@frozen_of_row
theorem zuR:type_of% @heap_alloc_new:=@heap_alloc_new
theorem zuS:type_of% @heap_setCell_other:=@heap_setCell_other
theorem zuT:type_of% @heap_setCell_same:=@heap_setCell_same
theorem zuU:type_of% @if_neg:=@if_neg
theorem zuV:type_of% @if_pos:=@if_pos
structure Same(lo:Nat)(w w':World):Prop where
 size:w.heap.size<=w'.heap.size
 block:∀k,lo<=k->k<w.heap.size->w'.heap[k]?=w.heap[k]?
theorem Same.of_below(h:Below w.heap.size w w'):Same lo w w':=⟨h.size,fun k _ hk=>h.block k hk⟩
theorem Same.setCell(w:World){a:Addr}(h:a.block<lo)(u:Value):Same lo w (w.setCell a u):=⟨by simp[World.setCell],fun _ hk _=>Below.heap_setCell _ _ _ _ (by omega)⟩
theorem Same.cell(h:Same lo w w'){p:Addr}(h1:lo<=p.block)(h2:p.block<w.heap.size):w'.cell? p=w.cell? p:=World.cell?_of_block (w:=w) (h.block p.block h1 h2)
theorem zaa{w2:World}(h:Below B w w1)(hB:B<=w1.heap.size)(k:Below w1.heap.size w1 w2):Below B w w2:=h.trans (k.mono hB)
theorem zbl{k:IntKind}{a b:Int}(h:a=b):Ending.returned (.int k a)=.returned (.int k b):=by rw[h]
theorem zad{e:TypeId}{size:Nat}(h:w.ownsRow base e size v n xs)(hb:Below w.heap.size w w'):w'.ownsRow base e size v n xs:=by
 refine⟨h.1,?_⟩;rcases h.2 with h2|⟨g,cap,cur,hv,hg,hh,r⟩
 ·exact .inl h2
 ·exact .inr ⟨g,cap,cur,hv,hg,by rw[hb.block g (ztp.1 hh).1];exact hh,r⟩
def zdl(xs:List Value)(sz k:Nat)(f:Nat->List Value):Prop:=∀j,j<k->∀c,c<sz->xs[j*sz+c]?=(f j)[c]?
theorem zbN{e:TypeId}(h:w.ownsRow base e sz (.slice (some ⟨g,0,none⟩) n cap) n xs){j:Nat}(hj:j<n*sz):
  ∃u,w.cell? ⟨g,j,none⟩=some u:=by
 rw[h.cellAt j hj];exact⟨_,ztT (by rw[h.1];exact hj)⟩
theorem zo5{e:TypeId}(h:w.ownsRow base e 2 (.slice (some ⟨g,0,none⟩) n cap) n xs){k:Nat}(hk:k<n):
  ∃u0 u1,w.cell? ⟨g,k*2,none⟩=some u0/\w.cell? ⟨g,k*2+1,none⟩=some u1/\w.frozen? ⟨g,k*2,none⟩=false/\w.frozen? ⟨g,k*2+1,none⟩=false:=by
 obtain⟨u0,h0⟩:=zbN h (j:=k*2) (by omega);obtain⟨u1,h1⟩:=zbN h (j:=k*2+1) (by omega);exact⟨u0,u1,h0,h1,h.frozenAt _,h.frozenAt _⟩
theorem zhP{a b:Value}(h:zdl xs 2 k f)(hl:k*2+1<xs.length)(hk:f k=[a,b]):zdl ((xs.set (k*2) a).set (k*2+1) b) 2 (k+1) f:=by
 intro j hj c hc;rw[ztX,ztX]
 by_cases e:j=k
 ·subst e;rw[hk]
  match c,hc with
  |0,_=>simp;omega
  |1,_=>simp;omega
 ·rw[zuU (by omega),zuU (by omega)];exact h j (by omega) c hc
theorem zkT{a3 a4:Value}(h:zdl xs 5 k f)(hl:k*5+4<xs.length)(hk:f k=[a0,a1,a2,a3,a4]):
  zdl (((((xs.set (k*5) a0).set (k*5+1) a1).set (k*5+2) a2).set (k*5+3) a3).set (k*5+4) a4) 5 (k+1) f:=by
 intro j hj c hc;rw[ztX,ztX,ztX,ztX,ztX]
 by_cases e:j=k
 ·subst e;rw[hk]
  match c,hc with
  |0,_=>simp;omega
  |1,_=>simp;omega
  |2,_=>simp;omega
  |3,_=>simp;omega
  |4,_=>simp;omega
 ·rw[zuU (by omega),zuU (by omega),zuU (by omega),zuU (by omega),zuU (by omega)];exact h j (by omega) c hc
theorem zjp(h:zdl xs 3 k f)(hl:k*3+2<xs.length)(hk:f k=[a0,a1,a2]):
  zdl (((xs.set (k*3) a0).set (k*3+1) a1).set (k*3+2) a2) 3 (k+1) f:=by
 intro j hj c hc;rw[ztX,ztX,ztX]
 by_cases e:j=k
 ·subst e;rw[hk]
  match c,hc with
  |0,_=>simp;omega
  |1,_=>simp;omega
  |2,_=>simp;omega
 ·rw[zuU (by omega),zuU (by omega),zuU (by omega)];exact h j (by omega) c hc
theorem zo4{e:TypeId}(h:w.ownsRow base e 3 (.slice (some ⟨g,0,none⟩) n cap) n xs){k:Nat}(hk:k<n):
  ∃u0 u1 u2,w.cell? ⟨g,k*3,none⟩=some u0/\w.cell? ⟨g,k*3+1,none⟩=some u1/\w.cell? ⟨g,k*3+2,none⟩=some u2/\w.frozen? ⟨g,k*3,none⟩=false/\w.frozen? ⟨g,k*3+1,none⟩=false/\w.frozen? ⟨g,k*3+2,none⟩=false:=by
 obtain⟨u0,h0⟩:=zbN h (j:=k*3) (by omega);obtain⟨u1,h1⟩:=zbN h (j:=k*3+1) (by omega);obtain⟨u2,h2⟩:=zbN h (j:=k*3+2) (by omega);exact⟨u0,u1,u2,h0,h1,h2,h.frozenAt _,h.frozenAt _,h.frozenAt _⟩
theorem zq6{e:TypeId}(h:w.ownsRow base e 5 (.slice (some ⟨g,0,none⟩) n cap) n xs){k:Nat}(hk:k<n):
  ∃u0 u1 u2 u3 u4,w.cell? ⟨g,k*5,none⟩=some u0/\w.cell? ⟨g,k*5+1,none⟩=some u1/\w.cell? ⟨g,k*5+2,none⟩=some u2/\w.cell? ⟨g,k*5+3,none⟩=some u3/\w.cell? ⟨g,k*5+4,none⟩=some u4/\
   w.frozen? ⟨g,k*5,none⟩=false/\w.frozen? ⟨g,k*5+1,none⟩=false/\w.frozen? ⟨g,k*5+2,none⟩=false/\w.frozen? ⟨g,k*5+3,none⟩=false/\w.frozen? ⟨g,k*5+4,none⟩=false:=by
 obtain⟨u0,h0⟩:=zbN h (j:=k*5) (by omega);obtain⟨u1,h1⟩:=zbN h (j:=k*5+1) (by omega);obtain⟨u2,h2⟩:=zbN h (j:=k*5+2) (by omega);obtain⟨u3,h3⟩:=zbN h (j:=k*5+3) (by omega);obtain⟨u4,h4⟩:=zbN h (j:=k*5+4) (by omega);exact⟨u0,u1,u2,u3,u4,h0,h1,h2,h3,h4,h.frozenAt _,h.frozenAt _,h.frozenAt _,h.frozenAt _,h.frozenAt _⟩
theorem zaU{e:TypeId}(h:w.ownsRow base e sz (.slice (some ⟨g,0,none⟩) n cap) n xs)(hf:zdl xs sz n f){i c:Nat}(hi:i<n)(hc:c<sz):
  w.cell? ⟨g,i*sz+c,none⟩=(f i)[c]?:=by
 have:i*sz+c<n*sz:=zuB (by omega:i*sz+c<i*sz+sz) (by rw[<-zuJ];exact zuH _ hi);rw[h.cellAt _ this];exact hf i hi c hc
theorem zcj{e:TypeId}(h:w.ownsRow base e sz (.slice (some ⟨g,0,none⟩) n cap) n xs):g<w.heap.size:=(h.lt g rfl).2
theorem zfX(hb:Below W.heap.size W w1):(∀b o,b<W.heap.size->w1.cell? ⟨b,o,none⟩=W.cell? ⟨b,o,none⟩)/\(∀b o,b<W.heap.size->w1.frozen? ⟨b,o,none⟩=W.frozen? ⟨b,o,none⟩):=
 ⟨fun b o h=>hb.cell (p:=⟨b,o,none⟩) h,fun b o h=>hb.frozen (p:=⟨b,o,none⟩) h⟩
theorem zdl.congr{g:Nat->List Value}(h:zdl xs sz k f)(hfg:∀j,j<k->f j=g j):zdl xs sz k g:=fun j hj c hc=>by rw[<-hfg j hj];exact h j hj c hc
def upd(S:Nat->Value)(k:Nat)(v:Value):Nat->Value:=fun j=>if j=k then v else S j
theorem zaH(S:Nat->Value)(k:Nat)(v:Value):upd S k v k=v:=by simp[upd]
theorem zid(S:Nat->Value)(v:Value){j k:Nat}(h:j<k):upd S k v j=S j:=by simp[upd];omega
theorem zay{a b:Bool}(h:a=b):Ending.returned (.bool a)=.returned (.bool b):=by rw[h]
theorem zao{o ob:Obj}(h:w.heap[g]?=some o):(w.alloc ob).heap[g]?=some o:=by
 rw[Below.heap_alloc _ _ _ (ztp.1 h).1];exact h
theorem Below.setRow{a:World}(h:Below B a w){g:Nat}(hg:B<=g)(cs:Array Value):Below B a (w.setRow g cs):=
 h.trans ⟨rfl,rfl,rfl,by simp,fun k hk=>setRow_other _ _ _ _ (by omega)⟩
theorem zbC{e:TypeId}{m:Nat}(h:w.ownsRow base e 1 (.slice (some ⟨g,0,none⟩) n cap) n xs)(hm:m<=n):
  w.ownsRow base e 1 (.slice (some ⟨g,0,none⟩) m cap) m (xs.take m):=by
 obtain⟨h1,h2⟩:=h;rcases h2 with ⟨h0,_⟩|⟨g',cap',cur,hv,hg,hh,hn,hcap,hsz,htake⟩
 ·cases h0
 ·cases hv
  refine⟨by simp at h1 ⊢;omega,.inr ⟨g,cap,cur,rfl,hg,hh,by omega,hcap,hsz,?_⟩⟩;rw[<-htake,List.take_take]
  congr 1
  omega
theorem zcc(w:World)(e:TypeId):(w.alloc (.cells #[] e)).ownsRow w.heap.size e 1 (.slice (some ⟨w.heap.size,0,none⟩) 0 0) 0 []:=
 ⟨rfl,.inr ⟨w.heap.size,0,#[],rfl,zuz _,zuR _ _,zuz _,zuL _,rfl,rfl⟩⟩
theorem zaV{e:TypeId}(h:w.ownsRow base e 1 (.slice (some ⟨g,0,none⟩) n cap) n xs):base<=g/\g<w.heap.size/\n<=cap/\cap<=maxLen:=by
 obtain⟨h1,h2⟩:=h;rcases h2 with ⟨h0,_⟩|⟨g',cap',cur,hv,hg,hh,hn,hcap,hsz,htake⟩
 ·cases h0
 ·cases hv
  exact⟨hg,(ztp.1 hh).1,hn,hcap⟩
theorem zaC(w:World)(hgd:o.guard=none)(s x:Operand)(t:TypeId)
  (ho:o.op=.call {callee:=.builtin .append,args:=#[s,x],argTypes:=#[t,t]})
  (base:Nat) (e:TypeId) (i:TypeInfo) (z:Value) (bytes:Nat) (ht:P.underlying t=some (.slice e)) (hi:P.info? e=some i) (hz:i.zero=some z)
  (hsize:i.size=1) (hby:i.bytes=bytes) (hzs:z.cells.size=1)
  (g cap n:Nat) (xs:List Value) (u:Value) (hs:a.eval s=.slice (some ⟨g,0,none⟩) n cap) (hown:w.ownsRow base e 1 (.slice (some ⟨g,0,none⟩) n cap) n xs)
  (hx:a.eval x=.slice (some ⟨w.heap.size,0,none⟩) 1 1) (h1:u.oneCell'=true) (hn:n<=2000000) (hbytes:bytes<=64) (hbase:base<=w.heap.size)
  (h:∀g' cap' w',w'.ownsRow base e 1 (.slice (some ⟨g',0,none⟩) (n+1) cap') (n+1) (xs++[u])->w.grownBy w' (some g)->(g'=g\/g'=w.heap.size+1)->wpList P ops Q rest (a.put o.dst (.slice (some ⟨g',0,none⟩) (n+1) cap')) w'):
  wpList P ops Q (o::rest) a (w.alloc (.cells #[u] e)):=by
 refine wpList_append_lies _ hgd s x t ho base e i z 1 bytes ht hi hz hsize hby hzs (by omega) _ n xs hs (hown.alloc _) ⟨w.heap.size,0,none⟩ 1 1 [u] hx rfl ?_ ?_ (by omega) (by unfold maxLen;omega) ?_ (by simp;omega) (w.heap.size+1) (by simp) ?_
 ·intro j v hv
  match j,hv with
  |0,hv=>simp at hv;subst hv;simp[Addr.add]
 ·intro v hv;simp at hv;subst hv;exact h1
 ·have:(n+1)*bytes<=2000001*64:=zuG (by omega) hbytes;omega
 ·intro g' cap' w' ho2 hgr hat hlt;refine h g' cap' w' ho2 ⟨hgr.os,hgr.tape,hgr.output,zuA (by simp) hgr.size,fun k hk hne=>?_⟩ ?_
  ·rw[hgr.block k (by simp;omega) (by simpa [Value.ownBlock] using hne),Below.heap_alloc _ _ _ hk]
  ·rcases hat with hat|hat
   ·left;simp[Value.ownBlock] at hat;exact hat.symm
   ·exact .inr hat
theorem zcI(w:World)(e:TypeId)(B H:Nat)(hB:B<=H)(hH:w.heap.size=H):(w.alloc (.cells #[] e)).ownsRow B e 1 (.slice (some ⟨H,0,none⟩) 0 0) 0 []:=by
 subst hH;exact⟨rfl,.inr ⟨w.heap.size,0,#[],rfl,hB,zuR _ _,zuz _,zuL _,rfl,rfl⟩⟩
theorem zaO(w:World)(H:Nat)(hH:w.heap.size=H)(hgd:o.guard=none)(s x:Operand)(t:TypeId)
  (ho:o.op=.call {callee:=.builtin .append,args:=#[s,x],argTypes:=#[t,t]})
  (base:Nat) (e:TypeId) (i:TypeInfo) (z:Value) (bytes:Nat) (ht:P.underlying t=some (.slice e)) (hi:P.info? e=some i) (hz:i.zero=some z)
  (hsize:i.size=1) (hby:i.bytes=bytes) (hzs:z.cells.size=1)
  (g cap n:Nat) (xs:List Value) (u:Value) (hs:a.eval s=.slice (some ⟨g,0,none⟩) n cap) (hown:w.ownsRow base e 1 (.slice (some ⟨g,0,none⟩) n cap) n xs)
  (hx:a.eval x=.slice (some ⟨H,0,none⟩) 1 1) (h1:u.oneCell'=true) (hn:n<=2000000) (hbytes:bytes<=64) (hbase:base<=w.heap.size)
  (h:∀g' cap' w',w'.ownsRow base e 1 (.slice (some ⟨g',0,none⟩) (n+1) cap') (n+1) (xs++[u])->w.grownBy w' (some g)->(g'=g\/g'=w.heap.size+1)->wpList P ops Q rest (a.put o.dst (.slice (some ⟨g',0,none⟩) (n+1) cap')) w'):
  wpList P ops Q (o::rest) a (w.alloc (.cells #[u] e)):=by
 subst hH;exact zaC w hgd s x t ho base e i z bytes ht hi hz hsize hby hzs g cap n xs u hs hown hx h1 hn hbytes hbase h
theorem zs8{α:Type}{l:List α}(h:l.length=3):∃a b c,l=[a,b,c]:=by
 match l,h with
 |[a,b,c],_=>exact⟨a,b,c,rfl⟩
theorem zs9{α:Type}{l:List α}(h:l.length=5):∃a b c d e,l=[a,b,c,d,e]:=by
 match l,h with
 |[a,b,c,d,e],_=>exact⟨a,b,c,d,e,rfl⟩
theorem zpD{a:Addr}(h:W.cell? a=some v):a=⟨a.block,a.off,none⟩:=by
 obtain⟨b,o,s⟩:=a;cases s with
 |none=>rfl
 |some q=>
  simp only[World.cell?] at h;split at h<;>simp at h
theorem ze8{a:Addr}{len:Nat}{E:List Value->Prop}(hsz:0<sz)(h:∀i,i<len->∃cs,W.cells? 0 (a.add (i*sz)) sz=some cs/\E cs)(h0:0<len):
  ∃(b o:Nat) (C:Nat->List Value),a=⟨b,o,none⟩/\b<W.heap.size/\∀i,i<len->E (C i)/\∀j,j<sz->W.cell? ⟨b,o+i*sz+j,none⟩=(C i)[j]?:=by
 obtain⟨cs0,h1,_⟩:=h 0 h0;obtain⟨_,hl,hc⟩:=World.cells?_some h1;have hz:=hc 0 hsz;rw[Nat.zero_mul,ztT (by omega)] at hz;have ha:a.add 0=a:=by simp[Addr.add]
 rw[ha,ha] at hz;have hs:=zpD hz;obtain⟨C,hC⟩:=Go.Deep.choose_lt (α:=List Value) (p:=fun i cs=>W.cells? 0 (a.add (i*sz)) sz=some cs/\E cs) h;refine⟨a.block,a.off,C,hs,block_lt_of_cell hz,fun i hi=>⟨(hC i hi).2,fun j hj=>?_⟩⟩;obtain⟨_,_,hc2⟩:=World.cells?_some (hC i hi).1;rw[<-hc2 j hj,Go.Deep.add_add]
 congr 1
 rw[hs];unfold Addr.add;split
 ·rename_i h
  simp only[Addr.mk.injEq,true_and,and_true];omega
 ·simp
theorem zct{α:Type}(f:Nat->α)(d:α)(n i:Nat)(h:i<n):((List.range n).map f).getD i d=f i:=by
 simp[List.getD,h]
theorem zeA(h:n<=maxLen):n<=9223372036854775807:=by simpa [maxLen] using h
theorem Tryz.infoInt:(Tryz.prog.info? 3).map (fun i=>(i.zero,i.size,i.bytes))=some (some (.int .i64 0),1,8):=by kernel_rfl
end
section
variable {lo lo':Nat}{w w' wr:World}{v:Value}{rs:List (Int×Int)}{ao:Option Addr}
open Go.RowKit
structure zau where
 kind:Int
 set:List (Int×Int)
 min:Int
 max:Int
 group:Int
structure zai where
 bol:Bool
 eol:Bool
 nodes:List zau
structure za0 where
 branches:List zai
 groups:Int
def zau.zero:zau:=⟨0,[],0,0,0⟩
def zai.zero:zai:=⟨false,false,[]⟩
def zfs(lo:Nat)(w:World)(ao:Option Addr)(rs:List (Int×Int)):Prop:=
 0<rs.length->∃b o,ao=some ⟨b,o,none⟩/\lo<=b/\b<w.heap.size/\
  ∀i,i<rs.length->w.cell? ⟨b,o+i*2,none⟩=some (.int .i64 (rs.getD i (0,0)).1)/\w.cell? ⟨b,o+i*2+1,none⟩=some (.int .i64 (rs.getD i (0,0)).2)
def zan(lo:Nat)(w:World)(v:Value)(rs:List (Int×Int)):Prop:=∃ao cap,v=.slice ao rs.length cap/\rs.length<=9223372036854775807/\zfs lo w ao rs
def zgo(lo:Nat)(w:World)(ao:Option Addr)(ns:List zau):Prop:=
 0<ns.length->∃b o,ao=some ⟨b,o,none⟩/\lo<=b/\b<w.heap.size/\
  ∀i,i<ns.length->w.cell? ⟨b,o+i*5,none⟩=some (.int .i64 (ns.getD i .zero).kind)/\
   (∃sv,w.cell? ⟨b,o+i*5+1,none⟩=some sv/\zan lo w sv (ns.getD i .zero).set)/\
   w.cell? ⟨b,o+i*5+2,none⟩=some (.int .i64 (ns.getD i .zero).min)/\w.cell? ⟨b,o+i*5+3,none⟩=some (.int .i64 (ns.getD i .zero).max)/\
   w.cell? ⟨b,o+i*5+4,none⟩=some (.int .i64 (ns.getD i .zero).group)
def zaP(lo:Nat)(w:World)(v:Value)(ns:List zau):Prop:=∃ao cap,v=.slice ao ns.length cap/\ns.length<=9223372036854775807/\zgo lo w ao ns
def zeL(lo:Nat)(w:World)(ao:Option Addr)(bs:List zai):Prop:=
 0<bs.length->∃b o,ao=some ⟨b,o,none⟩/\lo<=b/\b<w.heap.size/\
  ∀i,i<bs.length->w.cell? ⟨b,o+i*3,none⟩=some (.bool (bs.getD i .zero).bol)/\w.cell? ⟨b,o+i*3+1,none⟩=some (.bool (bs.getD i .zero).eol)/\
   (∃nv,w.cell? ⟨b,o+i*3+2,none⟩=some nv/\zaP lo w nv (bs.getD i .zero).nodes)
def zax(lo:Nat)(w:World)(v:Value)(bs:List zai):Prop:=∃ao cap,v=.slice ao bs.length cap/\bs.length<=9223372036854775807/\zeL lo w ao bs
theorem zan.same(h:zan lo w v rs)(hb:Same lo w w'):zan lo w' v rs:=by
 obtain⟨ao,cap,rfl,hm,h⟩:=h;refine⟨ao,cap,rfl,hm,fun h0=>?_⟩;obtain⟨b,o,rfl,hge,hlt,hc⟩:=h h0;refine⟨b,o,rfl,hge,zuB hlt hb.size,fun i hi=>?_⟩;obtain⟨c0,c1⟩:=hc i hi;exact⟨(hb.cell (by exact hge) (by exact hlt)).trans c0,(hb.cell (by exact hge) (by exact hlt)).trans c1⟩
theorem zaP.same{ns:List zau}(h:zaP lo w v ns)(hb:Same lo w w'):zaP lo w' v ns:=by
 obtain⟨ao,cap,rfl,hm,h⟩:=h;refine⟨ao,cap,rfl,hm,fun h0=>?_⟩;obtain⟨b,o,rfl,hge,hlt,hc⟩:=h h0;refine⟨b,o,rfl,hge,zuB hlt hb.size,fun i hi=>?_⟩;obtain⟨c0,⟨sv,c1,hs⟩,c2,c3,c4⟩:=hc i hi;have hcell:∀off,w'.cell? ⟨b,off,none⟩=w.cell? ⟨b,off,none⟩:=fun off=>hb.cell (by exact hge) (by exact hlt)
 exact⟨(hcell _).trans c0,⟨sv,(hcell _).trans c1,hs.same hb⟩,(hcell _).trans c2,(hcell _).trans c3,(hcell _).trans c4⟩
theorem zax.same{bs:List zai}(h:zax lo w v bs)(hb:Same lo w w'):zax lo w' v bs:=by
 obtain⟨ao,cap,rfl,hm,h⟩:=h;refine⟨ao,cap,rfl,hm,fun h0=>?_⟩;obtain⟨b,o,rfl,hge,hlt,hc⟩:=h h0;refine⟨b,o,rfl,hge,zuB hlt hb.size,fun i hi=>?_⟩;obtain⟨c0,c1,⟨nv,c2,hn⟩⟩:=hc i hi;have hcell:∀off,w'.cell? ⟨b,off,none⟩=w.cell? ⟨b,off,none⟩:=fun off=>hb.cell (by exact hge) (by exact hlt)
 exact⟨(hcell _).trans c0,(hcell _).trans c1,⟨nv,(hcell _).trans c2,hn.same hb⟩⟩
theorem zan.below(h:zan lo w v rs)(hb:Below w.heap.size w w'):zan lo w' v rs:=h.same (.of_below hb)
theorem zaP.below{ns:List zau}(h:zaP lo w v ns)(hb:Below w.heap.size w w'):zaP lo w' v ns:=h.same (.of_below hb)
theorem zax.below{bs:List zai}(h:zax lo w v bs)(hb:Below w.heap.size w w'):zax lo w' v bs:=h.same (.of_below hb)
theorem zan.mono(h:zan lo w v rs)(hl:lo'<=lo):zan lo' w v rs:=by
 obtain⟨ao,cap,rfl,hm,h⟩:=h;refine⟨ao,cap,rfl,hm,fun h0=>?_⟩;obtain⟨b,o,rfl,hge,r⟩:=h h0;exact⟨b,o,rfl,zuA hl hge,r⟩
theorem zaP.mono{rs:List zau}(h:zaP lo w v rs)(hl:lo'<=lo):zaP lo' w v rs:=by
 obtain⟨ao,cap,rfl,hm,h⟩:=h;refine⟨ao,cap,rfl,hm,fun h0=>?_⟩;obtain⟨b,o,rfl,hge,hlt,hc⟩:=h h0;refine⟨b,o,rfl,zuA hl hge,hlt,fun i hi=>?_⟩;obtain⟨c0,⟨sv,c1,hs⟩,r⟩:=hc i hi;exact⟨c0,⟨sv,c1,hs.mono hl⟩,r⟩
theorem zfs.elem(h:zfs lo w ao rs)(hb:Below w.heap.size w wr){k:Nat}(hk:k<rs.length):
  ∃(b o:Nat) (lo hi:Int),ao=some ⟨b,o,none⟩/\Hid (rs.getD k (0,0)=(lo,hi))/\b<w.heap.size/\wr.cell? ⟨b,o+k*2,none⟩=some (.int .i64 lo)/\wr.cell? ⟨b,o+k*2+1,none⟩=some (.int .i64 hi):=by
 obtain⟨b,o,rfl,_,hlt,hc⟩:=h (by omega);obtain⟨c0,c1⟩:=hc k hk;exact⟨b,o,_,_,rfl,rfl,hlt,(hb.cell (by exact hlt)).trans c0,(hb.cell (by exact hlt)).trans c1⟩
theorem zgo.elem{ns:List zau}(h:zgo lo w ao ns)(hb:Below w.heap.size w wr){k:Nat}(hk:k<ns.length):
  ∃(b o:Nat) (sv:Value) (nd:zau),ao=some ⟨b,o,none⟩/\Hid (ns.getD k .zero=nd)/\b<w.heap.size/\wr.cell? ⟨b,o+k*5,none⟩=some (.int .i64 nd.kind)/\wr.cell? ⟨b,o+k*5+1,none⟩=some sv/\
   wr.cell? ⟨b,o+k*5+2,none⟩=some (.int .i64 nd.min)/\wr.cell? ⟨b,o+k*5+3,none⟩=some (.int .i64 nd.max)/\wr.cell? ⟨b,o+k*5+4,none⟩=some (.int .i64 nd.group)/\zan lo wr sv nd.set:=by
 obtain⟨b,o,rfl,_,hlt,hc⟩:=h (by omega);obtain⟨c0,⟨sv,c1,hs⟩,c2,c3,c4⟩:=hc k hk;exact⟨b,o,sv,_,rfl,rfl,hlt,(hb.cell (by exact hlt)).trans c0,(hb.cell (by exact hlt)).trans c1,(hb.cell (by exact hlt)).trans c2,(hb.cell (by exact hlt)).trans c3,(hb.cell (by exact hlt)).trans c4,hs.below hb⟩
theorem zeL.elem{bs:List zai}(h:zeL lo w ao bs)(hb:Below w.heap.size w wr){k:Nat}(hk:k<bs.length):
  ∃(b o:Nat) (nv:Value) (bd:zai),ao=some ⟨b,o,none⟩/\Hid (bs.getD k .zero=bd)/\b<w.heap.size/\wr.cell? ⟨b,o+k*3,none⟩=some (.bool bd.bol)/\wr.cell? ⟨b,o+k*3+1,none⟩=some (.bool bd.eol)/\
   wr.cell? ⟨b,o+k*3+2,none⟩=some nv/\zaP lo wr nv bd.nodes:=by
 obtain⟨b,o,rfl,_,hlt,hc⟩:=h (by omega);obtain⟨c0,c1,⟨nv,c2,hn⟩⟩:=hc k hk;exact⟨b,o,nv,_,rfl,rfl,hlt,(hb.cell (by exact hlt)).trans c0,(hb.cell (by exact hlt)).trans c1,(hb.cell (by exact hlt)).trans c2,hn.below hb⟩
def za5(rs:List (Int×Int))(left:Int):Int:=if left-rs.length<0 then -1 else left-rs.length
def zbr:List zau->Int->Int
 |[],l=>l
 |n::ns,l=>if za5 n.set l<0 then -1 else zbr ns (za5 n.set l)
def za1(ns:List zau)(left:Int):Int:=if left-ns.length<0 then -1 else zbr ns (left-ns.length)
def zaS:List zai->Int->Int
 |[],l=>l
 |b::bs,l=>if za1 b.nodes l<0 then -1 else zaS bs (za1 b.nodes l)
def zaF(bs:List zai)(left:Int):Int:=if left-bs.length<0 then -1 else zaS bs (left-bs.length)
theorem zcQ(rs:List (Int×Int))(l:Int)(h:0<=l):-1<=za5 rs l/\za5 rs l<=l:=by unfold za5;split<;>omega
theorem zhg(ns:List zau):∀l:Int,0<=l->-1<=zbr ns l/\zbr ns l<=l:=by
 induction ns with
 |nil=>intro l h;simp[zbr];omega
 |cons n ns ih=>
  intro l h;have:=zcQ n.set l h;unfold zbr;split
  ·omega
  ·have:=ih (za5 n.set l) (by omega);omega
theorem zdh(ns:List zau)(l:Int)(h:0<=l):-1<=za1 ns l/\za1 ns l<=l:=by
 unfold za1;split
 ·omega
 ·have:=zhg ns (l-ns.length) (by omega);omega
theorem zeK(ns:List zai):∀l:Int,0<=l->-1<=zaS ns l/\zaS ns l<=l:=by
 induction ns with
 |nil=>intro l h;simp[zaS];omega
 |cons n ns ih=>
  intro l h;have:=zdh n.nodes l h;unfold zaS;split
  ·omega
  ·have:=ih (za1 n.nodes l) (by omega);omega
theorem zcJ(ns:List zai)(l:Int)(h:0<=l):-1<=zaF ns l/\zaF ns l<=l:=by
 unfold zaF;split
 ·omega
 ·have:=zeK ns (l-ns.length) (by omega);omega
theorem zi3(ns:List zau)(i:Nat)(hi:i<ns.length)(l:Int):
  zbr (ns.drop i) l=if za5 (ns.getD i .zero).set l<0 then -1 else zbr (ns.drop (i+1)) (za5 (ns.getD i .zero).set l):=by
 rw[ztG hi];simp[zbr,List.getD,hi]
theorem zgb(ns:List zai)(i:Nat)(hi:i<ns.length)(l:Int):
  zaS (ns.drop i) l=if za1 (ns.getD i .zero).nodes l<0 then -1 else zaS (ns.drop (i+1)) (za1 (ns.getD i .zero).nodes l):=by
 rw[ztG hi];simp[zaS,List.getD,hi]
end
section
variable {lo:Nat}
open Go.RowKit
theorem zlJ(a:Option Addr)(rs:List (Int×Int))(cap:Nat)(left:Int)(w:World)(h0:0<=left)(h1:left<=1048576)(h2:rs.length<=9223372036854775807):
  Calls Tryz.prog 115 #[.slice a rs.length cap,.int .i64 left] w fun e w'=>e=.returned (.int .i64 (za5 rs left))/\w'=w:=by
 by_cases hle:left-rs.length<0
 all_goals
  go_enter Tryz.func115,Tryz.ntmps115
  go_wp2;go_ret;exact⟨zbl (by unfold za5;split<;>omega),rfl⟩
theorem zkf(k mn mx g:Int)(sv:Value)(rs:List (Int×Int))(left:Int)(w:World)(hs:zan lo w sv rs)(h0:0<=left)(h1:left<=1048576):
  Calls Tryz.prog 108 #[.agg #[.int .i64 k,sv,.int .i64 mn,.int .i64 mx,.int .i64 g],.int .i64 left] w fun e w'=>e=.returned (.int .i64 (za5 rs left))/\Below w.heap.size w w':=by
 obtain⟨ao,cap,rfl,hm,hc⟩:=hs;have hb:=zcQ rs left h0
 by_cases hle:za5 rs left<0
 all_goals
  go_enter Tryz.func108,Tryz.ntmps108
  go_wp2_with (go_at_call 115;refine(zlJ _ _ _ _ _ h0 h1 hm).mono ?_;rintro e w' ⟨rfl,rfl⟩)
  go_ret
  exact⟨zbl (by omega),(Below.refl _ _).alloc (zuz _) _⟩
theorem znI(v:Value)(ns:List zau)(left:Int)(w:World)(hs:zaP lo w v ns)(h0:0<=left)(h1:left<=1048576):
  Calls Tryz.prog 96 #[v,.int .i64 left] w fun e w'=>e=.returned (.int .i64 (za1 ns left))/\Below w.heap.size w w':=by
 obtain⟨ao,cap,rfl,hm,hc⟩:=hs
 by_cases hle:left-ns.length<0
 ·go_enter Tryz.func96,Tryz.ntmps96
  go_wp2;go_ret;exact⟨zbl (by unfold za1;split<;>omega),Below.refl _ _⟩
 ·have HS:Hid (za1 ns left=zbr (ns.drop 0) (left-ns.length)):=by show _=_;rw[za1,zuU hle];rfl
  go_enter Tryz.func96,Tryz.ntmps96
  go_wp2
  go_loopw [1,5] (fun l i wr=>∃k:Nat,k<=ns.length/\i=.int .i64 k/\∃L:Int,l=.int .i64 L/\0<=L/\L<=1048576/\Hid (za1 ns left=zbr (ns.drop k) L)/\Below w.heap.size w wr)
   (fun _ i _=>ns.length-(intOf i).toNat)
  case atStart=>exact⟨0,zuL _,rfl,_,rfl,by omega,by omega,HS,Below.refl _ _⟩
  case round=>
   obtain⟨k,hk,rfl,L,rfl,hL0,hL1,HS,hb⟩:=hrel
   by_cases hlt:k<ns.length
   ·obtain⟨b,o,sv,nd,rfl,Hn,hbl,c0,c1,c2,c3,c4,hsv⟩:=hc.elem hb hlt;have hz:=hb.size;have hq:=zcQ nd.set L hL0;have HD:Hid (zbr (ns.drop k) L=if za5 nd.set L<0 then -1 else zbr (ns.drop (k+1)) (za5 nd.set L)):=by have:=zi3 ns k hlt L;rw[Hn.out] at this;exact this
    by_cases hneg:za5 nd.set L<0
    ·go_wp2_with (go_at_call 108;refine(zkf _ _ _ _ _ _ _ _ hsv hL0 hL1).mono ?_;rintro e w1 ⟨rfl,hb1⟩)
     go_ret
     exact⟨zbl (by rw[HS.out,HD.out,zuV hneg]),zaa hb hz hb1⟩
    ·go_wp2_with (go_at_call 108;refine(zkf _ _ _ _ _ _ _ _ hsv hL0 hL1).mono ?_;rintro e w1 ⟨rfl,hb1⟩)
     go_roundw
     case rel=>exact⟨k+1,by omega,by go_num,_,rfl,by omega,by omega,by show _=_;rw[HS.out,HD.out,zuU (by omega)],zaa hb hz hb1⟩
     case measure=>simp[intOf];omega
   ·go_wp2;go_ret;exact⟨zbl (by rw[HS.out,ztH (by omega)];rfl),hb⟩
theorem zhf(bol eol:Bool)(nv:Value)(ns:List zau)(left:Int)(w:World)(hs:zaP lo w nv ns)(h0:0<=left)(h1:left<=1048576):
  Calls Tryz.prog 67 #[.agg #[.bool bol,.bool eol,nv],.int .i64 left] w fun e w'=>e=.returned (.int .i64 (za1 ns left))/\Below w.heap.size w w':=by
 have hb:=zdh ns left h0;have ha:=(Below.refl w.heap.size w).alloc (zuz _) (.cells #[.bool bol,.bool eol,nv] 140);have hs':=hs.below ha
 by_cases hle:za1 ns left<0
 all_goals
  go_enter Tryz.func67,Tryz.ntmps67
  go_wp2_with (go_at_call 96;refine(znI _ _ _ _ hs' h0 h1).mono ?_;rintro e w' ⟨rfl,hb1⟩)
  go_ret
  exact⟨zbl (by omega),zaa ha (by simp) hb1⟩
theorem zke(v:Value)(ns:List zai)(left:Int)(w:World)(hs:zax lo w v ns)(h0:0<=left)(h1:left<=1048576):
  Calls Tryz.prog 32 #[v,.int .i64 left] w fun e w'=>e=.returned (.int .i64 (zaF ns left))/\Below w.heap.size w w':=by
 obtain⟨ao,cap,rfl,hm,hc⟩:=hs
 by_cases hle:left-ns.length<0
 ·go_enter Tryz.func32,Tryz.ntmps32
  go_wp2;go_ret;exact⟨zbl (by unfold zaF;split<;>omega),Below.refl _ _⟩
 ·have HS:Hid (zaF ns left=zaS (ns.drop 0) (left-ns.length)):=by show _=_;rw[zaF,zuU hle];rfl
  go_enter Tryz.func32,Tryz.ntmps32
  go_wp2
  go_loopw [1,5] (fun l i wr=>∃k:Nat,k<=ns.length/\i=.int .i64 k/\∃L:Int,l=.int .i64 L/\0<=L/\L<=1048576/\Hid (zaF ns left=zaS (ns.drop k) L)/\Below w.heap.size w wr)
   (fun _ i _=>ns.length-(intOf i).toNat)
  case atStart=>exact⟨0,zuL _,rfl,_,rfl,by omega,by omega,HS,Below.refl _ _⟩
  case round=>
   obtain⟨k,hk,rfl,L,rfl,hL0,hL1,HS,hb⟩:=hrel
   by_cases hlt:k<ns.length
   ·obtain⟨b,o,nv,nd,rfl,Hn,hbl,c0,c1,c2,hnv⟩:=hc.elem hb hlt;have hz:=hb.size;have hq:=zdh nd.nodes L hL0;have HD:Hid (zaS (ns.drop k) L=if za1 nd.nodes L<0 then -1 else zaS (ns.drop (k+1)) (za1 nd.nodes L)):=by have:=zgb ns k hlt L;rw[Hn.out] at this;exact this
    by_cases hneg:za1 nd.nodes L<0
    ·go_wp2_with (go_at_call 67;refine(zhf _ _ _ _ _ _ hnv hL0 hL1).mono ?_;rintro e w1 ⟨rfl,hb1⟩)
     go_ret
     exact⟨zbl (by rw[HS.out,HD.out,zuV hneg]),zaa hb hz hb1⟩
    ·go_wp2_with (go_at_call 67;refine(zhf _ _ _ _ _ _ hnv hL0 hL1).mono ?_;rintro e w1 ⟨rfl,hb1⟩)
     go_roundw
     case rel=>exact⟨k+1,by omega,by go_num,_,rfl,by omega,by omega,by show _=_;rw[HS.out,HD.out,zuU (by omega)],zaa hb hz hb1⟩
     case measure=>simp[intOf];omega
   ·go_wp2;go_ret;exact⟨zbl (by rw[HS.out,ztH (by omega)];rfl),hb⟩
theorem zkh(g:Int)(bv:Value)(bs:List zai)(left:Int)(w:World)(hs:zax lo w bv bs)(h0:0<=left)(h1:left<=1048576):
  Calls Tryz.prog 13 #[.agg #[bv,.int .i64 g],.int .i64 left] w fun e w'=>e=.returned (.int .i64 (zaF bs left))/\Below w.heap.size w w':=by
 have hb:=zcJ bs left h0;have ha:=(Below.refl w.heap.size w).alloc (zuz _) (.cells #[bv,.int .i64 g] 39);have hs':=hs.below ha
 by_cases hle:zaF bs left<0
 all_goals
  go_enter Tryz.func13,Tryz.ntmps13
  go_wp2_with (go_at_call 32;refine(zke _ _ _ _ hs' h0 h1).mono ?_;rintro e w' ⟨rfl,hb1⟩)
  go_ret
  exact⟨zbl (by omega),zaa ha (by simp) hb1⟩
end
section
open Go.RowKit
theorem Tryz.infoNode:(Tryz.prog.info? 144).map (fun i=>(i.zero,i.size,i.bytes))=some (some (.agg #[.int .i64 0,.slice none 0 0,.int .i64 0,.int .i64 0,.int .i64 0]),5,56):=by kernel_rfl
theorem Tryz.infoBranch:(Tryz.prog.info? 76).map (fun i=>(i.zero,i.size,i.bytes))=some (some (.agg #[.bool false,.bool false,.slice none 0 0]),3,32):=by kernel_rfl
theorem Tryz.infoRange:(Tryz.prog.info? 150).map (fun i=>(i.zero,i.size,i.bytes))=some (some (.agg #[.int .i64 0,.int .i64 0]),2,16):=by kernel_rfl
theorem znL(lo hi:Int)(w:World):
  Calls Tryz.prog 122 #[.agg #[.int .i64 lo,.int .i64 hi]] w fun e w'=>e=.returned (.agg #[.int .i64 lo,.int .i64 hi])/\Below w.heap.size w w':=by
 go_enter Tryz.func122,Tryz.ntmps122
 go_wp2;exact zuN (v:=.agg #[.int .i64 lo,.int .i64 hi]) (by simp[results,Tryz.results122,go_sem]) rfl ⟨rfl,(((Below.refl _ _).alloc (zuz _) _).alloc (by simp) _).alloc (by simp;omega) _⟩
end
section
variable {lo:Nat}{w:World}{v:Value}{rs:List zai}
open Go.RowKit
theorem zan.setCell{rs:List (Int×Int)}(h:zan lo w v rs){a:Addr}(ha:a.block<lo)(u:Value):zan lo (w.setCell a u) v rs:=h.same (Same.setCell w ha u)
theorem zaP.setCell{rs:List zau}(h:zaP lo w v rs){a:Addr}(ha:a.block<lo)(u:Value):zaP lo (w.setCell a u) v rs:=h.same (Same.setCell w ha u)
theorem zax.setCell(h:zax lo w v rs){a:Addr}(ha:a.block<lo)(u:Value):zax lo (w.setCell a u) v rs:=h.same (Same.setCell w ha u)
theorem zax.mono{lo':Nat}(h:zax lo w v rs)(hl:lo'<=lo):zax lo' w v rs:=by
 obtain⟨ao,cap,rfl,hm,h⟩:=h;refine⟨ao,cap,rfl,hm,fun h0=>?_⟩;obtain⟨b,o,rfl,hge,hlt,hc⟩:=h h0;refine⟨b,o,rfl,zuA hl hge,hlt,fun i hi=>?_⟩;obtain⟨c0,c1,⟨sv,c2,hs⟩⟩:=hc i hi;exact⟨c0,c1,⟨sv,c2,hs.mono hl⟩⟩
def ziJ(ns:List zau)(S:Nat->Value)(j:Nat):List Value:=[.int .i64 (ns.getD j .zero).kind,S j,.int .i64 (ns.getD j .zero).min,.int .i64 (ns.getD j .zero).max,.int .i64 (ns.getD j .zero).group]
def zeW(bs:List zai)(S:Nat->Value)(j:Nat):List Value:=[.bool (bs.getD j .zero).bol,.bool (bs.getD j .zero).eol,S j]
def Small(bs:List zai):Prop:=bs.length<=1048576/\∀i,i<bs.length->(bs.getD i .zero).nodes.length<=1048576/\∀j,j<(bs.getD i .zero).nodes.length->((bs.getD i .zero).nodes.getD j .zero).set.length<=1048576
end
inductive Pt where
 |set (f:Nat->Bool)
 |seq (l r:Pt)
 |alt (l r:Pt)
 |rep (b:Pt) (mn mx:Int)
 |grp (b:Pt) (g:Int)
end Go.Proofs.YthddplbodacjgaaGreatDoor
