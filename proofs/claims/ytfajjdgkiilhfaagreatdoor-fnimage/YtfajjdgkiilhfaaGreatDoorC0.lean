import Derived.Test.YtfajjdgkiilhfaaGreatDoorRows
import Derived.WalkKit
import Derived.WalkSpells
import Derived.WalkLawsBesides
import Derived.ProofKit
import Derived.Deep.AppendLies
import Derived.Deep.Slices
import Derived.Laws.Tables
import Derived.Deep.DrawnRows
import Derived.Deep.RegionHeld3
import Derived.Deep.QuietTactic
import Derived.BigQuiet
namespace Go.Proofs.YtfajjdgkiilhfaaGreatDoor
open Proofs.Tryz
open Option renaming some->za,none->zb
open Go renaming World->zc,Value->zd,TypeId->zg,Calls->zk
open Value renaming int->ze,slice->zf,pointer->zl
open RowKit renaming Hid->zh,Below->zi
open Obj renaming cells->zj
set_option maxHeartbeats 1000000
set_option maxRecDepth 100000
open Go.RowKit
section
variable {lo base n sz cap g:Nat}{w w' W:zc}{a:Act}{v:zd}{xs:List zd}{o:Oper}{P:Program}{ops:Array Oper}{rest:List Oper}{Q:Exit -> Act -> zc -> Prop}
theorem Pr:type_of% @Array.getD_eq_getD_getElem?:=@Array.getD_eq_getD_getElem?
theorem FB:type_of% @Array.getElem?_eq_getElem:=@Array.getElem?_eq_getElem
theorem LF:type_of% @Array.getElem?_eq_none:=@Array.getElem?_eq_none
theorem lU:type_of% @Array.getElem?_eq_some_iff:=@Array.getElem?_eq_some_iff
theorem iW:type_of% @Array.length_toList:=@Array.length_toList
theorem fI:type_of% @Bool.and_eq_true:=@Bool.and_eq_true
theorem FC:type_of% @Bool.eq_iff_iff:=@Bool.eq_iff_iff
theorem nt:type_of% @Bool.or_eq_true:=@Bool.or_eq_true
theorem Ag:type_of% @Bool.true_and:=@Bool.true_and
theorem Ah:type_of% @Bool.true_or:=@Bool.true_or
theorem Ai:type_of% @Int.le_refl:=@Int.le_refl
theorem wU:type_of% @Int.mul_le_mul:=@Int.mul_le_mul
theorem Bm:type_of% @Int.mul_nonneg:=@Int.mul_nonneg
theorem s7:type_of% @Int.toNat_natCast:=@Int.toNat_natCast
theorem vo:type_of% @List.all_append:=@List.all_append
theorem jR:type_of% @List.all_eq_true:=@List.all_eq_true
theorem gJ:type_of% @List.append_assoc:=@List.append_assoc
theorem Dn:type_of% @List.drop_eq_getElem_cons:=@List.drop_eq_getElem_cons
theorem Bn:type_of% @List.drop_eq_nil_of_le:=@List.drop_eq_nil_of_le
theorem Dp:type_of% @List.drop_succ_cons:=@List.drop_succ_cons
theorem Ao:type_of% @List.drop_zero:=@List.drop_zero
theorem qV:type_of% @List.eq_nil_of_length_eq_zero:=@List.eq_nil_of_length_eq_zero
theorem FE:type_of% @List.ext_getElem:=@List.ext_getElem
theorem jw:type_of% @List.filterMap_cons:=@List.filterMap_cons
theorem jx:type_of% @List.filterMap_nil:=@List.filterMap_nil
theorem LG:type_of% @List.findIdx_le_length:=@List.findIdx_le_length
theorem bJ:type_of% @List.getD_eq_getElem?_getD:=@List.getD_eq_getElem?_getD
theorem zwq:type_of% @List.getElem?_append:=@List.getElem?_append
theorem vp:type_of% @List.getElem?_append_left:=@List.getElem?_append_left
theorem Ap:type_of% @List.getElem?_append_right:=@List.getElem?_append_right
theorem jy:type_of% @List.getElem?_cons_succ:=@List.getElem?_cons_succ
theorem jA:type_of% @List.getElem?_cons_zero:=@List.getElem?_cons_zero
theorem Dq:type_of% @List.getElem?_drop:=@List.getElem?_drop
theorem bE:type_of% @List.getElem?_eq_getElem:=@List.getElem?_eq_getElem
theorem Bo:type_of% @List.getElem?_eq_none:=@List.getElem?_eq_none
theorem mA:type_of% @List.getElem?_eq_some_iff:=@List.getElem?_eq_some_iff
theorem wV:type_of% @List.getElem?_map:=@List.getElem?_map
theorem gA:type_of% @List.getElem_mem:=@List.getElem_mem
theorem aQ:type_of% @List.length_append:=@List.length_append
theorem lW:type_of% @List.length_cons:=@List.length_cons
theorem FD:type_of% @List.length_drop:=@List.length_drop
theorem lX:type_of% @List.length_map:=@List.length_map
theorem qU:type_of% @List.length_nil:=@List.length_nil
theorem pC:type_of% @List.length_pos_iff:=@List.length_pos_iff
theorem IJ:type_of% @List.length_range:=@List.length_range
theorem jQ:type_of% @List.length_set:=@List.length_set
theorem IK:type_of% @List.length_singleton:=@List.length_singleton
theorem rP:type_of% @List.length_take:=@List.length_take
theorem sY:type_of% @List.map_append:=@List.map_append
theorem Ak:type_of% @List.map_congr_left:=@List.map_congr_left
theorem Dm:type_of% @List.map_cons:=@List.map_cons
theorem gH:type_of% @List.mem_append:=@List.mem_append
theorem pD:type_of% @List.mem_cons:=@List.mem_cons
theorem Al:type_of% @List.mem_iff_getElem:=@List.mem_iff_getElem
theorem Am:type_of% @List.mem_map:=@List.mem_map
theorem IL:type_of% @List.mem_of_getElem?:=@List.mem_of_getElem?
theorem qm:type_of% @List.mem_range:=@List.mem_range
theorem sZ:type_of% @List.mem_singleton:=@List.mem_singleton
theorem yD:type_of% @List.not_mem_nil:=@List.not_mem_nil
theorem Bl:type_of% @List.prefix_append:=@List.prefix_append
theorem yE:type_of% @List.range_succ:=@List.range_succ
theorem vl:type_of% @List.setIfInBounds_toArray:=@List.setIfInBounds_toArray
theorem yF:type_of% @List.set_cons_succ:=@List.set_cons_succ
theorem yB:type_of% @List.set_cons_zero:=@List.set_cons_zero
theorem sW:type_of% @List.take_length:=@List.take_length
theorem sX:type_of% @List.take_of_length_le:=@List.take_of_length_le
theorem mz:type_of% @List.take_succ_cons:=@List.take_succ_cons
theorem oh:type_of% @List.take_succ_eq_append_getElem:=@List.take_succ_eq_append_getElem
theorem vk:type_of% @List.take_zero:=@List.take_zero
theorem yC:type_of% @Nat.add_assoc:=@Nat.add_assoc
theorem Aj:type_of% @Nat.add_mul:=@Nat.add_mul
theorem II:type_of% @Nat.add_sub_cancel:=@Nat.add_sub_cancel
theorem lV:type_of% @Nat.add_sub_cancel_left:=@Nat.add_sub_cancel_left
theorem Aq:type_of% @Nat.add_zero:=@Nat.add_zero
theorem aq:type_of% @Nat.le_refl:=@Nat.le_refl
theorem FF:type_of% @Nat.le_succ_of_le:=@Nat.le_succ_of_le
theorem cY:type_of% @Nat.le_trans:=@Nat.le_trans
theorem dR:type_of% @Nat.lt_of_lt_of_le:=@Nat.lt_of_lt_of_le
theorem iX:type_of% @Nat.lt_or_ge:=@Nat.lt_or_ge
theorem FG:type_of% @Nat.lt_succ_self:=@Nat.lt_succ_self
theorem FH:type_of% @Nat.mod_eq_of_lt:=@Nat.mod_eq_of_lt
theorem oU:type_of% @Nat.mul_le_mul:=@Nat.mul_le_mul
theorem IM:type_of% @Nat.mul_le_mul_right:=@Nat.mul_le_mul_right
theorem fw:type_of% @Nat.not_lt_zero:=@Nat.not_lt_zero
theorem Bp:type_of% @Nat.succ_mul:=@Nat.succ_mul
theorem iH:type_of% @Nat.zero_add:=@Nat.zero_add
theorem dz:type_of% @Nat.zero_le:=@Nat.zero_le
theorem rQ:type_of% @Option.map_some:=@Option.map_some
theorem lY:type_of% @beq_eq_false_iff_ne:=@beq_eq_false_iff_ne
theorem aW:type_of% @bodyPost_ret:=@bodyPost_ret
theorem iY:type_of% @cell_of_row:=@cell_of_row
theorem lZ:type_of% @decide_eq_true_eq:=@decide_eq_true_eq
theorem aM:type_of% @frozen_of_row:=@frozen_of_row
theorem aJ:type_of% @heap_alloc_new:=@heap_alloc_new
theorem bh:type_of% @heap_setCell_other:=@heap_setCell_other
theorem cJ:type_of% @heap_setCell_same:=@heap_setCell_same
theorem ab:type_of% @if_neg:=@if_neg
theorem af:type_of% @if_pos:=@if_pos
theorem ax{u:zc}{b:Obj}:zi u.heap.size u (u.alloc b):=(Below.refl _ _).alloc (Nat.le_refl _) _
structure Same(lo:Nat)(w w':zc):Prop where
 size:w.heap.size<=w'.heap.size
 block:∀k,lo<=k->k<w.heap.size->w'.heap[k]?=w.heap[k]?
theorem Same.k8(h:zi w.heap.size w w'):Same lo w w':=⟨h.size,λk _ hk=>h.block k hk⟩
theorem Same.trans{a b c:zc}(h:Same lo a b)(k:Same lo b c):Same lo a c:=
 ⟨cY h.size k.size,λi hi hl=>(k.block i hi (dR hl h.size)).trans (h.block i hi hl)⟩
theorem Same.setCell(w:zc){a:Addr}(h:a.block<lo)(u:zd):Same lo w (w.setCell a u):=⟨by simp[World.setCell],λ_ hk _=>Below.heap_setCell _ _ _ _ (by omega)⟩
theorem Same.cell(h:Same lo w w'){p:Addr}(h1:lo<=p.block)(h2:p.block<w.heap.size):w'.cell? p=w.cell? p:=World.cell?_of_block (w:=w) (h.block p.block h1 h2)
theorem aH{B:Nat}{w1 w2:zc}(h:zi B w w1)(hB:B<=w1.heap.size)(k:zi w1.heap.size w1 w2):zi B w w2:=h.trans (k.mono hB)
theorem ew{k:IntKind}{a b:Int}(h:a=b):Ending.returned (.int k a)=.returned (.int k b):=by rw[h]
theorem vb{e:zg}{size:Nat}(h:w.ownsRow base e size v n xs)(hb:zi w.heap.size w w'):w'.ownsRow base e size v n xs:=by
 refine⟨h.1,?_⟩;rcases h.2 with h2|⟨g,cap,aZ,hv,hg,hh,r⟩
 ·exact .inl h2
 ·exact .inr ⟨g,cap,aZ,hv,hg,by rw[hb.block g (lU.1 hh).1];exact hh,r⟩
theorem TK{e:zg}(h:w.ownsRow base e sz (zf (za ⟨g,0,zb⟩) n cap) n xs){j:Nat}(hj:j<n*sz):
  ∃u,w.cell? ⟨g,j,zb⟩=za u:=by
 rw[h.cellAt j hj];exact⟨_,bE (by rw[h.1];exact hj)⟩
theorem Aa{e:zg}(h:w.ownsRow base e sz (zf (za ⟨g,0,zb⟩) n cap) n xs):g<w.heap.size:=(h.lt g rfl).2
def upd(S:Nat->zd)(k:Nat)(v:zd):Nat->zd:=λj=>if j=k then v else S j
theorem kI(S:Nat->zd)(k:Nat)(v:zd):upd S k v k=v:=by simp[upd]
theorem cU{a b:Bool}(h:a=b):Ending.returned (.bool a)=.returned (.bool b):=by rw[h]
theorem qK{o ob:Obj}(h:w.heap[g]?=za o):(w.alloc ob).heap[g]?=za o:=by
 rw[Below.heap_alloc _ _ _ (lU.1 h).1];exact h
theorem ZD{e:zg}{m:Nat}(h:w.ownsRow base e 1 (zf (za ⟨g,0,zb⟩) n cap) n xs)(hm:m<=n):
  w.ownsRow base e 1 (zf (za ⟨g,0,zb⟩) m cap) m (xs.take m):=by
 obtain⟨h1,h2⟩:=h;rcases h2 with ⟨h0,_⟩|⟨g',cap',aZ,hv,hg,hh,hn,iz,hsz,zzw⟩
 ·cases h0
 ·cases hv
  refine⟨by simp at h1 ⊢;omega,.inr ⟨g,cap,aZ,rfl,hg,hh,by omega,iz,hsz,?_⟩⟩;rw[<-zzw,List.take_take]
  congr 1
  omega
theorem KP(w:zc)(e:zg):(w.alloc (zj #[] e)).ownsRow w.heap.size e 1 (zf (za ⟨w.heap.size,0,zb⟩) 0 0) 0 []:=
 ⟨rfl,.inr ⟨w.heap.size,0,#[],rfl,aq _,aJ _ _,aq _,dz _,rfl,rfl⟩⟩
theorem qd{e:zg}(h:w.ownsRow base e 1 (zf (za ⟨g,0,zb⟩) n cap) n xs):base<=g/\g<w.heap.size/\n<=cap/\cap<=maxLen:=by
 obtain⟨h1,h2⟩:=h;rcases h2 with ⟨h0,_⟩|⟨g',cap',aZ,hv,hg,hh,hn,iz,hsz,zzw⟩
 ·cases h0
 ·cases hv
  exact⟨hg,(lU.1 hh).1,hn,iz⟩
theorem E9(w:zc)(fQ:o.guard=zb)(s x:Operand)(t:zg)
  (ho:o.op=.call {callee:=.builtin .append,args:=#[s,x],argTypes:=#[t,t]})
  (base:Nat) (e:zg) (i:TypeInfo) (z:zd) (bytes:Nat) (ht:P.underlying t=za (.slice e)) (hi:P.info? e=za i) (hz:i.zero=za z)
  (NR:i.size=1) (AR:i.bytes=bytes) (Hu:z.cells.size=1)
  (g cap n:Nat) (xs:List zd) (u:zd) (hs:a.eval s=zf (za ⟨g,0,zb⟩) n cap) (bL:w.ownsRow base e 1 (zf (za ⟨g,0,zb⟩) n cap) n xs)
  (hx:a.eval x=zf (za ⟨w.heap.size,0,zb⟩) 1 1) (h1:u.oneCell'=true) (hn:n<=2000000) (M8:bytes<=64) (M3:base<=w.heap.size)
  (h:∀g' cap' w',w'.ownsRow base e 1 (zf (za ⟨g',0,zb⟩) (n+1) cap') (n+1) (xs++[u])->w.grownBy w' (za g)->(g'=g\/g'=w.heap.size+1)->wpList P ops Q rest (a.put o.dst (zf (za ⟨g',0,zb⟩) (n+1) cap')) w'):
  wpList P ops Q (o::rest) a (w.alloc (zj #[u] e)):=by
 refine wpList_append_lies _ fQ s x t ho base e i z 1 bytes ht hi hz NR AR Hu (by omega) _ n xs hs (bL.alloc _) ⟨w.heap.size,0,zb⟩ 1 1 [u] hx rfl ?_ ?_ (by omega) (by unfold maxLen;omega) ?_ (by simp;omega) (w.heap.size+1) (by simp) ?_
 ·intro j v hv
  match j,hv with
  |0,hv=>simp at hv;subst hv;simp[Addr.add]
 ·intro v hv;simp at hv;subst hv;exact h1
 ·have:(n+1)*bytes<=2000001*64:=oU (by omega) M8;omega
 ·intro g' cap' w' Yf mR fV hlt;refine h g' cap' w' Yf ⟨mR.os,mR.tape,mR.output,cY (by simp) mR.size,λk hk hne=>?_⟩ ?_
  ·rw[mR.block k (by simp;omega) (by simpa [Value.ownBlock]using hne),Below.heap_alloc _ _ _ hk]
  ·rcases fV with fV|fV
   ·left;simp[Value.ownBlock]at fV;exact fV.symm
   ·exact .inr fV
theorem KH(w:zc)(e:zg)(B H:Nat)(hB:B<=H)(hH:w.heap.size=H):(w.alloc (zj #[] e)).ownsRow B e 1 (zf (za ⟨H,0,zb⟩) 0 0) 0 []:=by
 subst hH;exact⟨rfl,.inr ⟨w.heap.size,0,#[],rfl,hB,aJ _ _,aq _,dz _,rfl,rfl⟩⟩
theorem CL(w:zc)(H:Nat)(hH:w.heap.size=H)(fQ:o.guard=zb)(s x:Operand)(t:zg)
  (ho:o.op=.call {callee:=.builtin .append,args:=#[s,x],argTypes:=#[t,t]})
  (base:Nat) (e:zg) (i:TypeInfo) (z:zd) (bytes:Nat) (ht:P.underlying t=za (.slice e)) (hi:P.info? e=za i) (hz:i.zero=za z)
  (NR:i.size=1) (AR:i.bytes=bytes) (Hu:z.cells.size=1)
  (g cap n:Nat) (xs:List zd) (u:zd) (hs:a.eval s=zf (za ⟨g,0,zb⟩) n cap) (bL:w.ownsRow base e 1 (zf (za ⟨g,0,zb⟩) n cap) n xs)
  (hx:a.eval x=zf (za ⟨H,0,zb⟩) 1 1) (h1:u.oneCell'=true) (hn:n<=2000000) (M8:bytes<=64) (M3:base<=w.heap.size)
  (h:∀g' cap' w',w'.ownsRow base e 1 (zf (za ⟨g',0,zb⟩) (n+1) cap') (n+1) (xs++[u])->w.grownBy w' (za g)->(g'=g\/g'=w.heap.size+1)->wpList P ops Q rest (a.put o.dst (zf (za ⟨g',0,zb⟩) (n+1) cap')) w'):
  wpList P ops Q (o::rest) a (w.alloc (zj #[u] e)):=by
 subst hH;exact E9 w fQ s x t ho base e i z bytes ht hi hz NR AR Hu g cap n xs u hs bL hx h1 hn M8 M3 h
theorem zrC{a:Addr}(h:W.cell? a=za v):a=⟨a.block,a.off,zb⟩:=by
 obtain⟨b,o,s⟩:=a;cases s with
 |none=>rfl
 |some q=>
  simp only[World.cell?]at h;split at h<;>simp at h
theorem zq0{a:Addr}{len:Nat}{E:List zd->Prop}(hsz:0<sz)(h:∀i,i<len->∃cs,W.cells? 0 (a.add (i*sz)) sz=za cs/\E cs)(h0:0<len):
  ∃(b o:Nat) (C:Nat->List zd),a=⟨b,o,zb⟩/\b<W.heap.size/\∀i,i<len->E (C i)/\∀j,j<sz->W.cell? ⟨b,o+i*sz+j,zb⟩=(C i)[j]?:=by
 obtain⟨cs0,h1,_⟩:=h 0 h0;obtain⟨_,hl,hc⟩:=World.cells?_some h1;have hz:=hc 0 hsz;rw[Nat.zero_mul,bE (by omega)]at hz;have ha:a.add 0=a:=by simp[Addr.add]
 rw[ha,ha]at hz;have hs:=zrC hz;obtain⟨C,hC⟩:=Go.Deep.choose_lt (α:=List zd) (p:=λi cs=>W.cells? 0 (a.add (i*sz)) sz=za cs/\E cs) h;refine⟨a.block,a.off,C,hs,block_lt_of_cell hz,λi hi=>⟨(hC i hi).2,λj hj=>?_⟩⟩;obtain⟨_,_,jE⟩:=World.cells?_some (hC i hi).1;rw[<-jE j hj,Go.Deep.add_add]
 congr 1
 rw[hs];unfold Addr.add;split
 ·rename_i h
  simp only[Addr.mk.injEq,true_and,and_true];omega
 ·simp
theorem zkc{α:Type}(f:Nat->α)(d:α)(n i:Nat)(h:i<n):((List.range n).map f).getD i d=f i:=by
 simp[List.getD,h]
theorem Ii(h:n<=maxLen):n<=9223372036854775807:=by simpa [maxLen]using h
theorem Tryz.pX:(prog.info? 3).map (λi=>(i.zero,i.size,i.bytes))=za (za (ze .i64 0),1,8):=by kernel_rfl
end
section
variable {w:zc}{g:Nat}{o:Obj}{a b c d e:zd}
theorem aT{w':zc}(h:w.heap[g]?=za o)(hb:zi w.heap.size w w'):w'.heap[g]?=za o:=(hb.block g (lU.1 h).1).trans h
theorem ay(h:w.heap[g]?=za o):g<w.heap.size:=(lU.1 h).1
theorem cG{C:Array zd}{t:zg}(h:w.heap[g]?=za (zj C t (0,0))):∀o,w.cell? ⟨g,o,zb⟩=C[o]?:=λ_=>iY _ _ _ _ _ _ h
theorem dM{t:zg}(h:w.heap[g]?=za (zj #[a,b,c,d,e] t (0,0))):w.cell? ⟨g,0,zb⟩=za a/\w.cell? ⟨g,1,zb⟩=za b/\w.cell? ⟨g,2,zb⟩=za c/\w.cell? ⟨g,3,zb⟩=za d/\w.cell? ⟨g,4,zb⟩=za e:=
 ⟨cG h 0,cG h 1,cG h 2,cG h 3,cG h 4⟩
theorem sL(h:w.heap[g]?=za o):w.drew.heap[g]?=za o:=h
theorem kH{f h i:zd}{t:zg}(z:w.heap[g]?=za (zj #[a,b,c,d,e,f,h,i] t (0,0))):w.cell? ⟨g,0,zb⟩=za a/\w.cell? ⟨g,1,zb⟩=za b/\w.cell? ⟨g,2,zb⟩=za c/\w.cell? ⟨g,3,zb⟩=za d/\w.cell? ⟨g,4,zb⟩=za e/\w.cell? ⟨g,5,zb⟩=za f/\w.cell? ⟨g,6,zb⟩=za h/\w.cell? ⟨g,7,zb⟩=za i:=
 ⟨cG z 0,cG z 1,cG z 2,cG z 3,cG z 4,cG z 5,cG z 6,cG z 7⟩
theorem zrg{a b:ByteArray}(h:a=b):Ending.returned (.string a)=.returned (.string b):=by rw[h]
end
def aG(c lo hi:Int):Bool:=decide (lo<=c/\c<=hi)
theorem ln(c lo hi:Int)(w:zc):zk prog 45 #[ze .i64 c,ze .i64 lo,ze .i64 hi] w λe w'=>e=.returned (.bool (aG c lo hi))/\w'=w:=by
 by_cases h1:lo<=c
 ·by_cases h2:c<=hi
  all_goals
   go_enter func45,ntmps45
   go_wp2;go_ret;exact⟨cU (by simp[aG];omega),rfl⟩
 ·go_enter func45,ntmps45
  go_wp2;go_ret;exact⟨cU (by simp[aG];omega),rfl⟩
section
attribute [local go_sem ↓] wp_at_zero wp_at_succ
section
variable {lo:Nat}{w w':zc}{v:zd}{xs:List Int}
def zjA(lo:Nat)(w:zc)(ao:Option Addr)(xs:List Int):Prop:=
 0<xs.length->∃b o,ao=za ⟨b,o,zb⟩/\lo<=b/\b<w.heap.size/\∀i,i<xs.length->w.cell? ⟨b,o+i,zb⟩=za (ze .i64 (xs.getD i 0))
def dD(lo:Nat)(w:zc)(v:zd)(xs:List Int):Prop:=∃ao cap,v=.slice ao xs.length cap/\xs.length<=9223372036854775807/\zjA lo w ao xs
theorem dD.same(h:dD lo w v xs)(hb:Same lo w w'):dD lo w' v xs:=by
 obtain⟨ao,cap,rfl,hm,h⟩:=h;refine⟨ao,cap,rfl,hm,λh0=>?_⟩;obtain⟨b,o,rfl,fX,hlt,hc⟩:=h h0;exact⟨b,o,rfl,fX,dR hlt hb.size,λi hi=>(hb.cell (by exact fX) (by exact hlt)).trans (hc i hi)⟩
theorem dD.below(h:dD lo w v xs)(hb:zi w.heap.size w w'):dD lo w' v xs:=h.same (.k8 hb)
theorem zjA.elem{wr:zc}{ao:Option Addr}(h:zjA lo w ao xs)(hb:zi w.heap.size w wr){k:Nat}(hk:k<xs.length):
  ∃(b o:Nat) (x:Int),ao=za ⟨b,o,zb⟩/\zh (xs.getD k 0=x)/\b<w.heap.size/\wr.cell? ⟨b,o+k,zb⟩=za (ze .i64 x):=by
 obtain⟨b,o,rfl,_,hlt,hc⟩:=h (by omega);exact⟨b,o,_,rfl,rfl,hlt,(hb.cell (by exact hlt)).trans (hc k hk)⟩
def cd(lo hi:Int)(xs:List Int):Bool:=xs.all λx=>aG x lo hi
theorem ziL(lo hi:Int)(xs:List Int)(k:Nat)(hk:k<xs.length)(x:Int)(h:xs.getD k 0=x):cd lo hi (xs.drop k)=(aG x lo hi&&cd lo hi (xs.drop (k+1))):=by
 rw[Dn hk];have:xs[k]=x:=by rw[<-h];simp[List.getD,hk]
 unfold cd;rw[List.all_cons,this]
theorem ju{lo hi:Int}(h:cd lo hi xs=true){k:Nat}(hk:k<xs.length):lo<=xs.getD k 0/\xs.getD k 0<=hi:=by
 have:=jR.1 h (xs.getD k 0) (by
  rw[bJ,bE hk];exact gA _)
 simpa [aG]using this
end
section
variable {p a:Nat}{b w:zc}{c:List UInt8}{room:Int}
def lB(c:List UInt8)(a:Nat):Nat×Nat:=if a<c.length then ((c.getD a 0).toNat,a+1) else (0,a)
def ae(c:List UInt8)(n:Int)(a:Nat):Int×Nat:=
 if n<=1 then (0,a) else if n<=256 then (((lB c a).1:Int)%n,(lB c a).2)
 else ((((lB c a).1:Int)*256+((lB c (lB c a).2).1:Int))%n,(lB c (lB c a).2).2)
structure aR(w:zc)(p:Nat)(c:List UInt8)(a:Nat)(room:Int):Prop where
 box:∃ao cap,w.heap[p]?=za (zj #[.slice ao c.length cap,ze .i64 a,ze .i64 room] 41 (0,0))/\(0<c.length->∃b o,ao=za ⟨b,o,zb⟩/\b<p/\∀k,k<c.length->w.cell? ⟨b,o+k,zb⟩=za (.int .u8 ((c.getD k 0).toNat:Int)))
 len:c.length<=1048576
 le:a<=c.length
structure aE(p:Nat)(w w':zc):Prop where
 os:w'.os=w.os
 tape:w'.tape=w.tape
 output:w'.output=w.output
 size:w.heap.size<=w'.heap.size
 block:∀k,k<w.heap.size->k≠p->w'.heap[k]?=w.heap[k]?
theorem aE.refl(p:Nat)(w:zc):aE p w w:=⟨rfl,rfl,rfl,aq _,λ_ _ _=>rfl⟩
theorem aE.trans{a c:zc}(h:aE p a b)(k:aE p b c):aE p a c:=
 ⟨k.os.trans h.os,k.tape.trans h.tape,k.output.trans h.output,cY h.size k.size,λi hi hs=>(k.block i (dR hi h.size) hs).trans (h.block i hi hs)⟩
theorem aE.of{a:zc}(h:zi a.heap.size a b):aE p a b:=⟨h.os,h.tape,h.output,h.size,λk hk _=>h.block k hk⟩
theorem aE.set(w:zc)(i:Nat)(u:zd):aE p w (w.setCell ⟨p,i,zb⟩ u):=
 ⟨rfl,rfl,rfl,by simp[World.setCell],λk _ hs=>bh _ _ _ _ hs⟩
theorem aR.lt(h:aR w p c a room):p<w.heap.size:=by
 obtain⟨ao,cap,hp,_⟩:=h.box;exact(lU.1 hp).1
theorem aR.keep{w':zc}(h:aR w p c a room)(hs:∀k,k<=p->w'.heap[k]?=w.heap[k]?):aR w' p c a room:=by
 obtain⟨ao,cap,hp,hc⟩:=h.box;refine⟨⟨ao,cap,(hs p (aq _)).trans hp,λh0=>?_⟩,h.len,h.le⟩;obtain⟨b,o,e,hb,hk⟩:=hc h0;exact⟨b,o,e,hb,λk hl=>(World.cell?_of_block (hs b (by omega))).trans (hk k hl)⟩
theorem aR.step(h:aR w p c a room){a':Nat}(ha:a'<=c.length):aR (w.setCell ⟨p,1,zb⟩ (ze .i64 a')) p c a' room:=by
 obtain⟨ao,cap,hp,hc⟩:=h.box;refine⟨⟨ao,cap,by simpa using cJ w p 1 _ _ (ze .i64 a') hp,λh0=>?_⟩,h.len,ha⟩;obtain⟨b,o,e,hb,hk⟩:=hc h0;exact⟨b,o,e,hb,λk hl=>(World.cell?_of_block (bh _ _ _ _ (Nat.ne_of_lt hb))).trans (hk k hl)⟩
theorem TU(h:a<=c.length):(lB c a).2<=c.length/\(lB c a).1<=255:=by
 unfold lB;split
 ·exact⟨by show a+1<=_;omega,by have:=(c.getD a 0).toNat_lt;show (c.getD a 0).toNat<=255;omega⟩
 ·exact⟨h,dz _⟩
theorem zny(w:zc)(p:Nat)(c:List UInt8)(a:Nat)(room:Int)(h:aR w p c a room):
  zk prog 44 #[zl (za ⟨p,0,zb⟩)] w λe w'=>e=.returned (ze .i64 (lB c a).1)/\aR w' p c (lB c a).2 room/\aE p w w':=by
 obtain⟨ao,cap,hp,hc⟩:=h.box;have hlen:=h.len;have hle:=h.le;have du:=h.lt;have c0:w.cell? ⟨p,0,zb⟩=za (.slice ao c.length cap):=cG hp 0;have c1:w.cell? ⟨p,1,zb⟩=za (ze .i64 a):=cG hp 1
 by_cases ha:a<c.length
 ·obtain⟨b,o,rfl,hb,hk⟩:=hc (by omega);have Hb:zh (lB c a=((c.getD a 0).toNat,a+1)):=af ha;have hn:¬((c.length:Int)<=(a:Int)):=by omega
  have f1:w.frozen? ⟨p,1,zb⟩=false:=aM _ _ _ _ _ hp;have Hh:zh _:=h;have Hk:zh _:=hk;clear hk hc h
  go_enter func44,ntmps44
  go_wp2
  go_quiet (fail)
  go_wp2;obtain⟨W,hW⟩:∃W,(w.drewN nq).setCell ⟨p,1,zb⟩ (ze .i64 ((a+1:Nat):Int))=W:=⟨_,rfl⟩;have hD:=(Hh.out.keep (w':=w.drewN nq) (λ_ _=>by simp)).step (a':=a+1) (by omega);have hK:=(aE.of (p:=p) (below_drewN (Below.refl _ w) nq)).trans (aE.set _ 1 (ze .i64 ((a+1:Nat):Int)));simp only[show ((a:Int)+1)=((a+1:Nat):Int) from rfl];rw[hW]at hD hK ⊢;have hp':W.heap[p]?=za (zj #[zf (za ⟨b,o,zb⟩) c.length cap,ze .i64 ((a+1:Nat):Int),ze .i64 room] 41 (0,0)):=by
   rw[<-hW];exact cJ (w.drewN nq) p 1 _ _ (ze .i64 ((a+1:Nat):Int)) (show (w.drewN nq).heap[p]?=_ by simpa using hp)
  have d0:W.cell? ⟨p,0,zb⟩=za (zf (za ⟨b,o,zb⟩) c.length cap):=cG hp' 0;have d1:W.cell? ⟨p,1,zb⟩=za (ze .i64 ((a+1:Nat):Int)):=cG hp' 1;have k1:W.cell? ⟨b,o+a,zb⟩=za (.int .u8 ((c.getD a 0).toNat:Int)):=by
   rw[<-Hk.out a ha];exact World.cell?_of_block (hK.block b (by omega) (Nat.ne_of_lt hb))
  obtain⟨x,hx⟩:∃x,(c.getD a 0).toNat=x:=⟨_,rfl⟩;have kC:x<256:=by have:=(c.getD a 0).toNat_lt;omega
  have Hb2:zh (lB c a=(x,a+1)):=by rw[<-hx];exact Hb.out
  rw[hx]at k1;have i1:(0:Int)<=(a:Int):=by omega
  have i2:(a:Int)<(c.length:Int):=by omega
  clear c0 c1 hW
  go_quiet (fail)
  go_wp2;go_ret;exact⟨ew (by rw[Hb2.out]),by rw[Hb.out];exact hD.keep λ_ _=>by simp,hK.trans (.of (below_drewN (Below.refl _ W) _))⟩
 ·have Hb:zh (lB c a=(0,a)):=ab ha;have hn:(c.length:Int)<=(a:Int):=by omega
  have Hh:zh _:=h;clear h hc hp ha
  go_enter func44,ntmps44
  go_wp2
  go_quiet (fail)
  go_wp2;go_ret;exact⟨ew (by rw[Hb.out];rfl),by rw[Hb.out];exact Hh.out.keep λ_ _=>by simp,.of (below_drewN (Below.refl _ w) _)⟩
theorem rK(w:zc)(p:Nat)(c:List UInt8)(a:Nat)(room:Int)(h:aR w p c a room)(n:Int)(hn:n<=65536):
  zk prog 17 #[zl (za ⟨p,0,zb⟩),ze .i64 n] w λe w'=>e=.returned (ze .i64 (ae c n a).1)/\aR w' p c (ae c n a).2 room/\aE p w w':=by
 have hb:=zny w p c a room h;have hl:=TU h.le
 by_cases h1:n<=1
 ·have Hp:zh (ae c n a=(0,a)):=af h1
  go_enter func17,ntmps17
  go_wp2;go_ret;exact⟨ew (by rw[Hp.out]),by rw[Hp.out];exact h,.refl _ _⟩
 by_cases h2:n<=256
 ·have Hp:zh (ae c n a=(((lB c a).1:Int)%n,(lB c a).2)):=by unfold ae;rw[ab h1,af h2];rfl
  obtain⟨x,y,hx⟩:∃x y,lB c a=(x,y):=⟨_,_,rfl⟩;rw[hx]at hb hl Hp;have h3:¬n=0:=by omega
  go_enter func17,ntmps17
  go_wp2_with (go_at_call 44;refine hb.mono ?_;rintro e w' ⟨rfl,hd,hk⟩)
  go_ret
  exact⟨ew (by rw[Hp.out]),by rw[Hp.out];exact hd,hk⟩
 have Hp:zh (ae c n a=((((lB c a).1:Int)*256+((lB c (lB c a).2).1:Int))%n,(lB c (lB c a).2).2)):=by show _=_;unfold ae;rw[ab h1,ab h2]
 have aB:=λ(W:zc) hW=>zny W p c (lB c a).2 room hW
 have eE:=TU hl.1;obtain⟨x,y,hx⟩:∃x y,lB c a=(x,y):=⟨_,_,rfl⟩;rw[hx]at hb aB hl eE Hp;obtain⟨x2,y2,lN⟩:∃x y',lB c y=(x,y'):=⟨_,_,rfl⟩;rw[lN]at aB eE Hp;have h3:¬n=0:=by omega
 have j1:x<=255:=hl.2;have j2:x2<=255:=eE.2;clear hl eE
 go_enter func17,ntmps17
 go_wp2_with (go_at_call 44;first|(refine hb.mono ?_;rintro e w' ⟨rfl,hd,hk⟩;clear hb)|(refine(aB _ hd).mono ?_;rintro e w2 ⟨rfl,eQ,bu⟩))
 go_ret
 exact⟨ew (by rw[Hp.out]),by rw[Hp.out];exact eQ,hk.trans bu⟩
theorem jL(h:a<=c.length)(n:Int):(ae c n a).2<=c.length/\0<=(ae c n a).1/\((ae c n a).1<n\/(ae c n a).1=0):=by
 unfold ae;have h1:=TU h;have h2:=TU h1.1;split
 ·exact⟨h,Ai _,.inr rfl⟩
 ·split
  ·exact⟨h1.1,Int.emod_nonneg _ (by omega),.inl (Int.emod_lt_of_pos _ (by omega))⟩
  ·exact⟨h2.1,Int.emod_nonneg _ (by omega),.inl (Int.emod_lt_of_pos _ (by omega))⟩
def oT(c:List UInt8)(a:Nat):Int×Nat:=(if (ae c 10 a).1=9 then 2 else if (ae c 10 a).1=7\/(ae c 10 a).1=8 then 1 else 0,(ae c 10 a).2)
theorem zsq(w:zc)(p:Nat)(c:List UInt8)(a:Nat)(room:Int)(h:aR w p c a room):
  zk prog 14 #[zl (za ⟨p,0,zb⟩)] w λe w'=>e=.returned (ze .i64 (oT c a).1)/\aR w' p c (oT c a).2 room/\aE p w w':=by
 have hb:=rK w p c a room h 10 (by omega);have Hm:zh (oT c a=(if (ae c 10 a).1=9 then 2 else if (ae c 10 a).1=7\/(ae c 10 a).1=8 then 1 else 0,(ae c 10 a).2)):=rfl;obtain⟨x,y,hx⟩:∃x y,ae c 10 a=(x,y):=⟨_,_,rfl⟩;rw[hx]at hb Hm;have M9:x=9\/x=7\/x=8\/(x≠9/\x≠7/\x≠8):=by omega
 rcases M9 with rfl|rfl|rfl|⟨n9,n7,n8⟩
 all_goals
  try have m9:(x==9)=false:=by simp[n9]
  try have m7:(x==7)=false:=by simp[n7]
  try have m8:(x==8)=false:=by simp[n8]
  go_enter func14,ntmps14
  go_wp2_with (go_at_call 17;refine hb.mono ?_;rintro e w' ⟨rfl,hd,hk⟩)
  go_ret
  exact⟨ew (by rw[Hm.out];simp<;>omega),by rw[Hm.out];exact hd,hk⟩
end
end
structure aL where
 ai:List Int
 width:Int
 next:List Int
 tag:List Int
 fin:List Int
structure dP(lo:Nat)(w:zc)(cv nv tv ev:zd)(d:aL):Prop where
 ai:dD lo w cv d.ai
 next:dD lo w nv d.next
 tag:dD lo w tv d.tag
 fin:dD lo w ev d.fin
theorem dP.below{lo:Nat}{w w':zc}{cv nv tv ev:zd}{d:aL}(h:dP lo w cv nv tv ev d)(hb:zi w.heap.size w w'):dP lo w' cv nv tv ev d:=
 ⟨h.ai.below hb,h.next.below hb,h.tag.below hb,h.fin.below hb⟩
def zS(d:aL):Prop:=d.ai.length<=1048576/\d.next.length<=1048576/\d.tag.length<=1048576/\d.fin.length<=1048576
theorem mh{l:Nat}(lo hi:Int)(v:zd)(xs:List Int)(w:zc)(hs:dD l w v xs):
  zk prog 46 #[v,ze .i64 lo,ze .i64 hi] w λe w'=>e=.returned (.bool (cd lo hi xs))/\w'=w:=by
 obtain⟨ao,cap,rfl,hm,hc⟩:=hs
 go_enter func46,ntmps46
 go_wp2
 go_loop [11] (λi=>∃k:Nat,k<=xs.length/\i=ze .i64 k/\zh (cd lo hi xs=cd lo hi (xs.drop k)))
  (λi=>xs.length-(intOf i).toNat)
 case atStart=>exact⟨0,dz _,rfl,rfl⟩
 case round=>
  obtain⟨k,hk,rfl,HS⟩:=hrel
  by_cases hlt:k<xs.length
  ·obtain⟨b,o,x,rfl,Hn,bF,c0⟩:=hc.elem (Below.refl _ _) hlt;have HD:zh _:=ziL lo hi xs k hlt x Hn.out
   by_cases hb:aG x lo hi=true
   ·go_wp2_with (go_at_call 45;refine(ln _ _ _ _).mono ?_;rintro e w' ⟨rfl,rfl⟩)
    go_round
    case rel=>exact⟨k+1,by omega,by go_num,by show _=_;rw[HS.out,HD.out,hb,Ag]⟩
    case measure=>simp[intOf];omega
   ·have kT:aG x lo hi=false:=by simpa using hb
    clear hb
    go_wp2_with (go_at_call 45;refine(ln _ _ _ _).mono ?_;rintro e w' ⟨rfl,rfl⟩)
    go_ret
    exact⟨cU (by rw[HS.out,HD.out,kT,Bool.false_and]),rfl⟩
  ·go_wp2;go_ret;exact⟨cU (by rw[HS.out,Bn (by omega)];rfl),rfl⟩
end Go.Proofs.YtfajjdgkiilhfaaGreatDoor
