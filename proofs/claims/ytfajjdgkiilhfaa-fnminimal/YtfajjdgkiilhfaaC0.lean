import Derived.Test.YtfajjdgkiilhfaaRows
import Derived.WalkKit
import Derived.WalkSpells
import Derived.WalkLawsBesides
import Derived.ProofKit
import Derived.Deep.AppendLies
import Derived.Deep.Slices
import Derived.Laws.Tables
import Derived.Deep.DrawnRows
import Derived.Deep.RegionHeld3
import Derived.Deep.QuietTactic
import Derived.BigQuiet
namespace Go.Proofs.Ytfajjdgkiilhfaa
open Proofs.Try
open Option renaming some->za,none->zh
open Go renaming Value->zi,World->zn,TypeId->zw
open Value renaming slice->zp,int->zx
set_option maxHeartbeats 400000
open Go.RowKit
section
variable {lo base n sz cap g:Nat}{w w' W:zn}{a:Act}{v:zi}{xs:List zi}{o:Oper}{P:Program}{ops:Array Oper}{rest:List Oper}{Q:Exit -> Act -> zn -> Prop}
theorem Gu:type_of% @Array.ext_getElem?:=@Array.ext_getElem?
theorem Qx:type_of% @Array.getD_eq_getD_getElem?:=@Array.getD_eq_getD_getElem?
theorem Gv:type_of% @Array.getElem?_eq_getElem:=@Array.getElem?_eq_getElem
theorem zr:type_of% @Array.getElem?_eq_none:=@Array.getElem?_eq_none
theorem gF:type_of% @Array.getElem?_eq_some_iff:=@Array.getElem?_eq_some_iff
theorem Qw:type_of% @Array.getElem?_setIfInBounds:=@Array.getElem?_setIfInBounds
theorem jf:type_of% @Array.length_toList:=@Array.length_toList
theorem fQ:type_of% @Bool.and_eq_true:=@Bool.and_eq_true
theorem Ej:type_of% @Bool.eq_iff_iff:=@Bool.eq_iff_iff
theorem np:type_of% @Bool.or_eq_true:=@Bool.or_eq_true
theorem Cu:type_of% @Bool.true_and:=@Bool.true_and
theorem Bc:type_of% @Bool.true_or:=@Bool.true_or
theorem xH:type_of% @Int.mul_le_mul:=@Int.mul_le_mul
theorem Bd:type_of% @Int.mul_nonneg:=@Int.mul_nonneg
theorem uA:type_of% @Int.toNat_natCast:=@Int.toNat_natCast
theorem vG:type_of% @List.all_append:=@List.all_append
theorem qQ:type_of% @List.all_eq_true:=@List.all_eq_true
theorem jA:type_of% @List.append_assoc:=@List.append_assoc
theorem Gx:type_of% @List.append_nil:=@List.append_nil
theorem JP:type_of% @List.drop_eq_getElem_cons:=@List.drop_eq_getElem_cons
theorem Em:type_of% @List.drop_eq_nil_of_le:=@List.drop_eq_nil_of_le
theorem rT:type_of% @List.drop_succ_cons:=@List.drop_succ_cons
theorem qi:type_of% @List.drop_zero:=@List.drop_zero
theorem qj:type_of% @List.eq_nil_of_length_eq_zero:=@List.eq_nil_of_length_eq_zero
theorem tz:type_of% @List.ext_getElem?:=@List.ext_getElem?
theorem jL:type_of% @List.filterMap_cons:=@List.filterMap_cons
theorem jM:type_of% @List.filterMap_nil:=@List.filterMap_nil
theorem JQ:type_of% @List.filter_append:=@List.filter_append
theorem Gy:type_of% @List.findIdx_cons:=@List.findIdx_cons
theorem JR:type_of% @List.findIdx_le_length:=@List.findIdx_le_length
theorem Cy:type_of% @List.flatMap_append:=@List.flatMap_append
theorem bI:type_of% @List.getD_eq_getElem?_getD:=@List.getD_eq_getElem?_getD
theorem zur:type_of% @List.getElem?_append:=@List.getElem?_append
theorem rU:type_of% @List.getElem?_append_left:=@List.getElem?_append_left
theorem vH:type_of% @List.getElem?_append_right:=@List.getElem?_append_right
theorem jN:type_of% @List.getElem?_cons_succ:=@List.getElem?_cons_succ
theorem jO:type_of% @List.getElem?_cons_zero:=@List.getElem?_cons_zero
theorem En:type_of% @List.getElem?_drop:=@List.getElem?_drop
theorem bE:type_of% @List.getElem?_eq_getElem:=@List.getElem?_eq_getElem
theorem qR:type_of% @List.getElem?_eq_none:=@List.getElem?_eq_none
theorem n5:type_of% @List.getElem?_eq_some_iff:=@List.getElem?_eq_some_iff
theorem vE:type_of% @List.getElem?_map:=@List.getElem?_map
theorem JN:type_of% @List.getElem?_toArray:=@List.getElem?_toArray
theorem gy:type_of% @List.getElem_mem:=@List.getElem_mem
theorem a6:type_of% @List.length_append:=@List.length_append
theorem iG:type_of% @List.length_cons:=@List.length_cons
theorem jK:type_of% @List.length_map:=@List.length_map
theorem n4:type_of% @List.length_nil:=@List.length_nil
theorem qh:type_of% @List.length_pos_iff:=@List.length_pos_iff
theorem El:type_of% @List.length_range:=@List.length_range
theorem xI:type_of% @List.length_replicate:=@List.length_replicate
theorem qP:type_of% @List.length_set:=@List.length_set
theorem JO:type_of% @List.length_singleton:=@List.length_singleton
theorem nr:type_of% @List.length_take:=@List.length_take
theorem rR:type_of% @List.map_append:=@List.map_append
theorem uB:type_of% @List.map_congr_left:=@List.map_congr_left
theorem Be:type_of% @List.map_cons:=@List.map_cons
theorem gH:type_of% @List.mem_append:=@List.mem_append
theorem tn:type_of% @List.mem_cons:=@List.mem_cons
theorem tu:type_of% @List.mem_iff_getElem:=@List.mem_iff_getElem
theorem rS:type_of% @List.mem_map:=@List.mem_map
theorem mB:type_of% @List.mem_range:=@List.mem_range
theorem vF:type_of% @List.mem_singleton:=@List.mem_singleton
theorem Gw:type_of% @List.nodup_append:=@List.nodup_append
theorem oN:type_of% @List.range_succ:=@List.range_succ
theorem zv:type_of% @List.setIfInBounds_toArray:=@List.setIfInBounds_toArray
theorem zz:type_of% @List.set_cons_succ:=@List.set_cons_succ
theorem zt:type_of% @List.set_cons_zero:=@List.set_cons_zero
theorem th:type_of% @List.take_length:=@List.take_length
theorem tj:type_of% @List.take_of_length_le:=@List.take_of_length_le
theorem gG:type_of% @List.take_succ_cons:=@List.take_succ_cons
theorem vD:type_of% @List.take_succ_eq_append_getElem:=@List.take_succ_eq_append_getElem
theorem kQ:type_of% @List.take_zero:=@List.take_zero
theorem Cv:type_of% @Nat.add_assoc:=@Nat.add_assoc
theorem zu:type_of% @Nat.add_mul:=@Nat.add_mul
theorem Ek:type_of% @Nat.add_sub_cancel:=@Nat.add_sub_cancel
theorem lW:type_of% @Nat.add_sub_cancel_left:=@Nat.add_sub_cancel_left
theorem xJ:type_of% @Nat.add_zero:=@Nat.add_zero
theorem JS:type_of% @Nat.eq_zero_or_pos:=@Nat.eq_zero_or_pos
theorem ax:type_of% @Nat.le_refl:=@Nat.le_refl
theorem Gz:type_of% @Nat.le_succ_of_le:=@Nat.le_succ_of_le
theorem cM:type_of% @Nat.le_trans:=@Nat.le_trans
theorem fR:type_of% @Nat.lt_of_lt_of_le:=@Nat.lt_of_lt_of_le
theorem jP:type_of% @Nat.lt_or_ge:=@Nat.lt_or_ge
theorem GB:type_of% @Nat.lt_succ_self:=@Nat.lt_succ_self
theorem nt:type_of% @Nat.mul_le_mul:=@Nat.mul_le_mul
theorem dP:type_of% @Nat.not_lt_zero:=@Nat.not_lt_zero
theorem Eo:type_of% @Nat.succ_mul:=@Nat.succ_mul
theorem jB:type_of% @Nat.zero_add:=@Nat.zero_add
theorem bH:type_of% @Nat.zero_le:=@Nat.zero_le
theorem qS:type_of% @Option.map_some:=@Option.map_some
theorem lX:type_of% @beq_eq_false_iff_ne:=@beq_eq_false_iff_ne
theorem bw:type_of% @bodyPost_ret:=@bodyPost_ret
theorem dt:type_of% @cell_of_row:=@cell_of_row
theorem pF:type_of% @decide_eq_true_eq:=@decide_eq_true_eq
theorem aR:type_of% @frozen_of_row:=@frozen_of_row
theorem aU:type_of% @heap_alloc_new:=@heap_alloc_new
theorem cS:type_of% @heap_setCell_other:=@heap_setCell_other
theorem dx:type_of% @heap_setCell_same:=@heap_setCell_same
theorem ab:type_of% @if_neg:=@if_neg
theorem ae:type_of% @if_pos:=@if_pos
theorem aC{u:zn}{b:Obj}:Below u.heap.size u (u.alloc b):=(Below.refl _ _).alloc (Nat.le_refl _) _
structure Same(lo:Nat)(w w':zn):Prop where
 size:w.heap.size<=w'.heap.size
 block:∀k,lo<=k->k<w.heap.size->w'.heap[k]?=w.heap[k]?
theorem Same.wT(h:Below w.heap.size w w'):Same lo w w':=⟨h.size,λk _ hk=>h.block k hk⟩
theorem Same.trans{a b c:zn}(h:Same lo a b)(k:Same lo b c):Same lo a c:=
 ⟨cM h.size k.size,λi hi hl=>(k.block i hi (fR hl h.size)).trans (h.block i hi hl)⟩
theorem Same.setCell(w:zn){a:Addr}(h:a.block<lo)(u:zi):Same lo w (w.setCell a u):=⟨by simp[World.setCell],λ_ hk _=>Below.heap_setCell _ _ _ _ (by omega)⟩
theorem Same.cell(h:Same lo w w'){p:Addr}(h1:lo<=p.block)(h2:p.block<w.heap.size):w'.cell? p=w.cell? p:=World.cell?_of_block (w:=w) (h.block p.block h1 h2)
theorem bi{B:Nat}{w1 w2:zn}(h:Below B w w1)(hB:B<=w1.heap.size)(k:Below w1.heap.size w1 w2):Below B w w2:=h.trans (k.mono hB)
theorem gq{k:IntKind}{a b:Int}(h:a=b):Ending.returned (.int k a)=.returned (.int k b):=by rw[h]
theorem jy{e:zw}{size:Nat}(h:w.ownsRow base e size v n xs)(hb:Below w.heap.size w w'):w'.ownsRow base e size v n xs:=by
 refine⟨h.1,?_⟩;rcases h.2 with h2|⟨g,cap,a9,hv,hg,hh,r⟩
 ·exact .inl h2
 ·exact .inr ⟨g,cap,a9,hv,hg,by rw[hb.block g (gF.1 hh).1];exact hh,r⟩
theorem PW{e:zw}(h:w.ownsRow base e sz (zp (za ⟨g,0,zh⟩) n cap) n xs){j:Nat}(hj:j<n*sz):
  ∃u,w.cell? ⟨g,j,zh⟩=za u:=by
 rw[h.cellAt j hj];exact⟨_,bE (by rw[h.1];exact hj)⟩
theorem uw{e:zw}(h:w.ownsRow base e sz (zp (za ⟨g,0,zh⟩) n cap) n xs):g<w.heap.size:=(h.lt g rfl).2
def upd(S:Nat->zi)(k:Nat)(v:zi):Nat->zi:=λj=>if j=k then v else S j
theorem fN(S:Nat->zi)(k:Nat)(v:zi):upd S k v k=v:=by simp[upd]
theorem dD{a b:Bool}(h:a=b):Ending.returned (.bool a)=.returned (.bool b):=by rw[h]
theorem JA{o ob:Obj}(h:w.heap[g]?=za o):(w.alloc ob).heap[g]?=za o:=by
 rw[Below.heap_alloc _ _ _ (gF.1 h).1];exact h
theorem zeg{e:zw}{m:Nat}(h:w.ownsRow base e 1 (zp (za ⟨g,0,zh⟩) n cap) n xs)(hm:m<=n):
  w.ownsRow base e 1 (zp (za ⟨g,0,zh⟩) m cap) m (xs.take m):=by
 obtain⟨h1,h2⟩:=h;rcases h2 with ⟨h0,_⟩|⟨g',cap',a9,hv,hg,hh,hn,kf,hsz,zxY⟩
 ·cases h0
 ·cases hv
  refine⟨by simp at h1 ⊢;omega,.inr ⟨g,cap,a9,rfl,hg,hh,by omega,kf,hsz,?_⟩⟩;rw[<-zxY,List.take_take]
  congr 1
  omega
theorem Js(w:zn)(e:zw):(w.alloc (.cells #[] e)).ownsRow w.heap.size e 1 (zp (za ⟨w.heap.size,0,zh⟩) 0 0) 0 []:=
 ⟨rfl,.inr ⟨w.heap.size,0,#[],rfl,ax _,aU _ _,ax _,bH _,rfl,rfl⟩⟩
theorem nW{e:zw}(h:w.ownsRow base e 1 (zp (za ⟨g,0,zh⟩) n cap) n xs):base<=g/\g<w.heap.size/\n<=cap/\cap<=maxLen:=by
 obtain⟨h1,h2⟩:=h;rcases h2 with ⟨h0,_⟩|⟨g',cap',a9,hv,hg,hh,hn,kf,hsz,zxY⟩
 ·cases h0
 ·cases hv
  exact⟨hg,(gF.1 hh).1,hn,kf⟩
theorem F9(w:zn)(mb:o.guard=zh)(s x:Operand)(t:zw)
  (ho:o.op=.call {callee:=.builtin .append,args:=#[s,x],argTypes:=#[t,t]})
  (base:Nat) (e:zw) (i:TypeInfo) (z:zi) (bytes:Nat) (ht:P.underlying t=za (.slice e)) (hi:P.info? e=za i) (hz:i.zero=za z)
  (OX:i.size=1) (Iy:i.bytes=bytes) (Jg:z.cells.size=1)
  (g cap n:Nat) (xs:List zi) (u:zi) (hs:a.eval s=zp (za ⟨g,0,zh⟩) n cap) (bV:w.ownsRow base e 1 (zp (za ⟨g,0,zh⟩) n cap) n xs)
  (hx:a.eval x=zp (za ⟨w.heap.size,0,zh⟩) 1 1) (h1:u.oneCell'=true) (hn:n<=2000000) (Oi:bytes<=64) (Oc:base<=w.heap.size)
  (h:∀g' cap' w',w'.ownsRow base e 1 (zp (za ⟨g',0,zh⟩) (n+1) cap') (n+1) (xs++[u])->w.grownBy w' (za g)->(g'=g\/g'=w.heap.size+1)->wpList P ops Q rest (a.put o.dst (zp (za ⟨g',0,zh⟩) (n+1) cap')) w'):
  wpList P ops Q (o::rest) a (w.alloc (.cells #[u] e)):=by
 refine wpList_append_lies _ mb s x t ho base e i z 1 bytes ht hi hz OX Iy Jg (by omega) _ n xs hs (bV.alloc _) ⟨w.heap.size,0,zh⟩ 1 1 [u] hx rfl ?_ ?_ (by omega) (by unfold maxLen;omega) ?_ (by simp;omega) (w.heap.size+1) (by simp) ?_
 ·intro j v hv
  match j,hv with
  |0,hv=>simp at hv;subst hv;simp[Addr.add]
 ·intro v hv;simp at hv;subst hv;exact h1
 ·have:(n+1)*bytes<=2000001*64:=nt (by omega) Oi;omega
 ·intro g' cap' w' YW kZ eY hlt;refine h g' cap' w' YW ⟨kZ.os,kZ.tape,kZ.output,cM (by simp) kZ.size,λk hk hne=>?_⟩ ?_
  ·rw[kZ.block k (by simp;omega) (by simpa [Value.ownBlock]using hne),Below.heap_alloc _ _ _ hk]
  ·rcases eY with eY|eY
   ·left;simp[Value.ownBlock]at eY;exact eY.symm
   ·exact .inr eY
theorem zdw(w:zn)(e:zw)(B H:Nat)(hB:B<=H)(hH:w.heap.size=H):(w.alloc (.cells #[] e)).ownsRow B e 1 (zp (za ⟨H,0,zh⟩) 0 0) 0 []:=by
 subst hH;exact⟨rfl,.inr ⟨w.heap.size,0,#[],rfl,hB,aU _ _,ax _,bH _,rfl,rfl⟩⟩
theorem AZ(w:zn)(H:Nat)(hH:w.heap.size=H)(mb:o.guard=zh)(s x:Operand)(t:zw)
  (ho:o.op=.call {callee:=.builtin .append,args:=#[s,x],argTypes:=#[t,t]})
  (base:Nat) (e:zw) (i:TypeInfo) (z:zi) (bytes:Nat) (ht:P.underlying t=za (.slice e)) (hi:P.info? e=za i) (hz:i.zero=za z)
  (OX:i.size=1) (Iy:i.bytes=bytes) (Jg:z.cells.size=1)
  (g cap n:Nat) (xs:List zi) (u:zi) (hs:a.eval s=zp (za ⟨g,0,zh⟩) n cap) (bV:w.ownsRow base e 1 (zp (za ⟨g,0,zh⟩) n cap) n xs)
  (hx:a.eval x=zp (za ⟨H,0,zh⟩) 1 1) (h1:u.oneCell'=true) (hn:n<=2000000) (Oi:bytes<=64) (Oc:base<=w.heap.size)
  (h:∀g' cap' w',w'.ownsRow base e 1 (zp (za ⟨g',0,zh⟩) (n+1) cap') (n+1) (xs++[u])->w.grownBy w' (za g)->(g'=g\/g'=w.heap.size+1)->wpList P ops Q rest (a.put o.dst (zp (za ⟨g',0,zh⟩) (n+1) cap')) w'):
  wpList P ops Q (o::rest) a (w.alloc (.cells #[u] e)):=by
 subst hH;exact F9 w mb s x t ho base e i z bytes ht hi hz OX Iy Jg g cap n xs u hs bV hx h1 hn Oi Oc h
theorem zpP{a:Addr}(h:W.cell? a=za v):a=⟨a.block,a.off,zh⟩:=by
 obtain⟨b,o,s⟩:=a;cases s with
 |none=>rfl
 |some q=>
  simp only[World.cell?]at h;split at h<;>simp at h
theorem zpe{a:Addr}{len:Nat}{E:List zi->Prop}(hsz:0<sz)(h:∀i,i<len->∃cs,W.cells? 0 (a.add (i*sz)) sz=za cs/\E cs)(h0:0<len):
  ∃(b o:Nat) (C:Nat->List zi),a=⟨b,o,zh⟩/\b<W.heap.size/\∀i,i<len->E (C i)/\∀j,j<sz->W.cell? ⟨b,o+i*sz+j,zh⟩=(C i)[j]?:=by
 obtain⟨cs0,h1,_⟩:=h 0 h0;obtain⟨_,hl,hc⟩:=World.cells?_some h1;have hz:=hc 0 hsz;rw[Nat.zero_mul,bE (by omega)]at hz;have ha:a.add 0=a:=by simp[Addr.add]
 rw[ha,ha]at hz;have hs:=zpP hz;obtain⟨C,hC⟩:=Go.Deep.choose_lt (α:=List zi) (p:=λi cs=>W.cells? 0 (a.add (i*sz)) sz=za cs/\E cs) h;refine⟨a.block,a.off,C,hs,block_lt_of_cell hz,λi hi=>⟨(hC i hi).2,λj hj=>?_⟩⟩;obtain⟨_,_,dN⟩:=World.cells?_some (hC i hi).1;rw[<-dN j hj,Go.Deep.add_add]
 congr 1
 rw[hs];unfold Addr.add;split
 ·rename_i h
  simp only[Addr.mk.injEq,true_and,and_true];omega
 ·simp
theorem zjn{α:Type}(f:Nat->α)(d:α)(n i:Nat)(h:i<n):((List.range n).map f).getD i d=f i:=by
 simp[List.getD,h]
theorem Jr(h:n<=maxLen):n<=9223372036854775807:=by simpa [maxLen]using h
theorem Try.wP:(prog.info? 3).map (λi=>(i.zero,i.size,i.bytes))=za (za (zx .i64 0),1,8):=by kernel_rfl
end
section
variable {w:zn}{g:Nat}{o:Obj}
theorem aY{w':zn}(h:w.heap[g]?=za o)(hb:Below w.heap.size w w'):w'.heap[g]?=za o:=(hb.block g (gF.1 h).1).trans h
theorem az(h:w.heap[g]?=za o):g<w.heap.size:=(gF.1 h).1
theorem kr{C:Array zi}{t:zw}(h:w.heap[g]?=za (.cells C t (0,0))):∀o,w.cell? ⟨g,o,zh⟩=C[o]?:=λ_=>dt _ _ _ _ _ _ h
theorem bL{a b c d e:zi}{t:zw}(h:w.heap[g]?=za (.cells #[a,b,c,d,e] t (0,0))):w.cell? ⟨g,0,zh⟩=za a/\w.cell? ⟨g,1,zh⟩=za b/\w.cell? ⟨g,2,zh⟩=za c/\w.cell? ⟨g,3,zh⟩=za d/\w.cell? ⟨g,4,zh⟩=za e:=
 ⟨kr h 0,kr h 1,kr h 2,kr h 3,kr h 4⟩
theorem P7(h:w.heap[g]?=za o):w.drew.heap[g]?=za o:=h
end
def aT(c lo hi:Int):Bool:=decide (lo<=c/\c<=hi)
theorem lp(c lo hi:Int)(w:zn):Calls prog 12 #[zx .i64 c,zx .i64 lo,zx .i64 hi] w λe w'=>e=.returned (.bool (aT c lo hi))/\w'=w:=by
 by_cases h1:lo<=c
 ·by_cases h2:c<=hi
  all_goals
   go_enter func12,ntmps12
   go_wp2;go_ret;exact⟨dD (by simp[aT];omega),rfl⟩
 ·go_enter func12,ntmps12
  go_wp2;go_ret;exact⟨dD (by simp[aT];omega),rfl⟩
section
attribute [local go_sem ↓] wp_at_zero wp_at_succ
section
variable {lo:Nat}{w w':zn}{v:zi}{xs:List Int}
def ziP(lo:Nat)(w:zn)(ao:Option Addr)(xs:List Int):Prop:=
 0<xs.length->∃b o,ao=za ⟨b,o,zh⟩/\lo<=b/\b<w.heap.size/\∀i,i<xs.length->w.cell? ⟨b,o+i,zh⟩=za (zx .i64 (xs.getD i 0))
def dW(lo:Nat)(w:zn)(v:zi)(xs:List Int):Prop:=∃ao cap,v=.slice ao xs.length cap/\xs.length<=9223372036854775807/\ziP lo w ao xs
theorem dW.same(h:dW lo w v xs)(hb:Same lo w w'):dW lo w' v xs:=by
 obtain⟨ao,cap,rfl,hm,h⟩:=h;refine⟨ao,cap,rfl,hm,λh0=>?_⟩;obtain⟨b,o,rfl,eK,hlt,hc⟩:=h h0;exact⟨b,o,rfl,eK,fR hlt hb.size,λi hi=>(hb.cell (by exact eK) (by exact hlt)).trans (hc i hi)⟩
theorem dW.below(h:dW lo w v xs)(hb:Below w.heap.size w w'):dW lo w' v xs:=h.same (.wT hb)
theorem ziP.elem{wr:zn}{ao:Option Addr}(h:ziP lo w ao xs)(hb:Below w.heap.size w wr){k:Nat}(hk:k<xs.length):
  ∃(b o:Nat) (x:Int),ao=za ⟨b,o,zh⟩/\Hid (xs.getD k 0=x)/\b<w.heap.size/\wr.cell? ⟨b,o+k,zh⟩=za (zx .i64 x):=by
 obtain⟨b,o,rfl,_,hlt,hc⟩:=h (by omega);exact⟨b,o,_,rfl,rfl,hlt,(hb.cell (by exact hlt)).trans (hc k hk)⟩
def fO(lo hi:Int)(xs:List Int):Bool:=xs.all λx=>aT x lo hi
theorem zh3(lo hi:Int)(xs:List Int)(k:Nat)(hk:k<xs.length)(x:Int)(h:xs.getD k 0=x):fO lo hi (xs.drop k)=(aT x lo hi&&fO lo hi (xs.drop (k+1))):=by
 rw[JP hk];have:xs[k]=x:=by rw[<-h];simp[List.getD,hk]
 unfold fO;rw[List.all_cons,this]
theorem xf{lo hi:Int}(h:fO lo hi xs=true){k:Nat}(hk:k<xs.length):lo<=xs.getD k 0/\xs.getD k 0<=hi:=by
 have:=qQ.1 h (xs.getD k 0) (by
  rw[bI,bE hk];exact gy _)
 simpa [aT]using this
end
end
end Go.Proofs.Ytfajjdgkiilhfaa
