import Derived.Test.YtdimhpfiieepiaaGreatDoorC25
import Derived.MapKept
import Derived.Laws.StructEq
import Derived.Laws.Small
import Derived.Shelf.Lay
import Derived.Shelf.Strconv.Itoa0
namespace Go.Proofs
open Go.Shelf
shelf_lay Lays.n129 Nm 129 at Tryz as Tryz.lays129
end Go.Proofs
namespace Go.Proofs.YtdimhpfiieepiaaGreatDoor
set_option maxHeartbeats 4000000
set_option maxRecDepth 100000
open Go.RowKit
section
section
variable {gt:Nat} {W W':World} {p:Nat} {mv:Value} {m:Nat} {mi:Nat->Nat} {v:Nat->Value} {l:Nat->List Int} {N:Nat} {o wk:List Nat} {mem:Nat->List Nat}
end
end
section
variable{P:Program}
attribute [local go_sem ↓] Go.wp_at_zero Go.wp_at_succ
def regL{κ:Type}(enc:κ->Value)(ks:List κ):List MapEntry:=ks.zipIdx.map fun x=>{key:=enc x.1,val:=.int .i64 (x.2:Int),born:=x.2}
def regE{κ:Type}(enc:κ->Value)(ks:List κ):Array MapEntry:=(regL enc ks).toArray
theorem zqr{κ:Type}(enc:κ->Value)(ks:List κ)(k:κ):regL enc (ks++[k])=regL enc ks++[{key:=enc k,val:=.int .i64 (ks.length:Int),born:=ks.length}]:=by simp[regL,List.zipIdx_append]
theorem zqp{κ:Type}(enc:κ->Value)(ks:List κ)(k:κ):(regE enc ks).push {key:=enc k,val:=.int .i64 (ks.length:Int),born:=ks.length}=regE enc (ks++[k]):=by
 unfold regE;rw[zqr];simp
theorem zqq{κ:Type}(enc:κ->Value)(ks:List κ):(regE enc ks).size=ks.length:=by simp[regE,regL]
def idxR{κ:Type} [DecidableEq κ] (ks:List κ)(k:κ):Nat:=ks.findIdx fun x=>decide (k=x)
def zih{κ:Type} [DecidableEq κ] (ks:List κ)(k:κ):Option (Nat×Value):=if idxR ks k<ks.length then some (idxR ks k,.int .i64 (idxR ks k:Int)) else none
theorem zdX{κ:Type} [DecidableEq κ] {ks:List κ}{k:κ}:idxR ks k<ks.length↔k∈ks:=by
 unfold idxR;rw[List.findIdx_lt_length];exact⟨fun⟨x,h1,h2⟩=>(of_decide_eq_true h2) ▸ h1,fun h=>⟨k,h,by simp⟩⟩
theorem ztj{κ:Type} [DecidableEq κ] (ks:List κ)(k:κ):idxR ks k<=ks.length:=List.findIdx_le_length
theorem zrv{κ:Type} [DecidableEq κ] {ks:List κ}{k:κ}(h:k∈ks):ks[idxR ks k]?=some k:=by
 have hl:=zdX.2 h;rw[zva hl];have:=List.findIdx_getElem (w:=hl);exact congrArg some (of_decide_eq_true this).symm
theorem zsi{mt kt et:TypeId}{κ:Type} [DecidableEq κ] (enc:κ->Value)(w:World)(hm:P.underlying mt=some (.map kt et))(hc:∀(e:Bool) (k:κ),(Instr.checkKey e 10000 kt (enc k)).run P w=.ok () w)(hf:∀(ks:List κ) (k:κ),(Instr.findKey kt (enc k) (regL enc ks)).run P w=.ok (zih ks k) w)(hz:(zeroValue et).run P w=.ok (.int .i64 0) w)(r:Nat)(ks:List κ)(k:κ)(hg:w.heap[r]?=some (.map (regE enc ks) ks.length)):
  (Instr.lookup mt (.map (some r)) (enc k) true).run P w=.ok (.tuple #[.int .i64 (if k∈ks then (idxR ks k:Int) else 0),.bool (decide (k∈ks))]) w:=by
 unfold Instr.lookup;simp only[Sem.run_bind,run_underlying hm,Result.andThen_ok,MapKept.run_getObj_map hg,Sem.run_pure,hc];rw[show (regE enc ks).toList=regL enc ks by simp[regE],hf];unfold zih
 by_cases h:k∈ks
 ·rw[zv3 (zdX.2 h)];simp[h]
 ·rw[zv2 (fun e=>h (zdX.1 e))];simp[h,hz]
theorem ztB{mt kt et:TypeId}{κ:Type} [DecidableEq κ] (enc:κ->Value)(w:World)(hm:P.underlying mt=some (.map kt et))(hc:∀(e:Bool) (k:κ),(Instr.checkKey e 10000 kt (enc k)).run P w=.ok () w)(hf:∀(ks:List κ) (k:κ),(Instr.findKey kt (enc k) (regL enc ks)).run P w=.ok (zih ks k) w)(r:Nat)(ks:List κ)(k:κ)(hk:k∉ks)(hg:w.heap[r]?=some (.map (regE enc ks) ks.length)):
  (Instr.mapUpdate mt (.map (some r)) (enc k) (.int .i64 (ks.length:Int))).run P w=.ok () {w with heap:=w.heap.setIfInBounds r (.map (regE enc (ks++[k])) (ks++[k]).length)}:=by
 unfold Instr.mapUpdate;simp only[Sem.run_bind,run_underlying hm,Result.andThen_ok,MapKept.run_getObj_map hg,hc];rw[show (regE enc ks).toList=regL enc ks by simp[regE],hf];unfold zih;rw[zv2 (fun e=>hk (zdX.1 e))];simp only[Result.andThen_ok,MapKept.run_setObj_map _ hg,zqp];simp
end
section
attribute [local go_sem ↓] Go.wp_at_zero Go.wp_at_succ
def addR{κ:Type} [DecidableEq κ] (ks:List κ)(k:κ):List κ:=if k∈ks then ks else ks++[k]
theorem zmE{κ:Type} [DecidableEq κ] {ks:List κ}{k:κ}(h:k∉ks):idxR ks k=ks.length:=by
 have:=ztj ks k;have:¬idxR ks k<ks.length:=fun e=>h (zdX.1 e)
 omega
def NumR{κ:Type} [DecidableEq κ] (enc:κ->Value)(w:World)(r:Nat)(ks:List κ)(k:κ)(e:Ending)(w':World):Prop:=
 e=.returned (.tuple #[.int .i64 (idxR ks k:Int),.bool (decide (k∉ks))])/\w'.heap[r]?=some (.map (regE enc (addR ks k)) (addR ks k).length)/\w.grownBy w' (some r)
theorem Tryz.zeroInt(w:World):(zeroValue 3).run Tryz.prog w=.ok (.int .i64 0) w:=by
 simp[zeroValue,typeInfo]
 kernel_rfl
end
section
attribute [local go_sem ↓] Go.wp_at_zero Go.wp_at_succ
theorem zsL(k:ByteArray):∀(ks:List ByteArray) (i:Nat),Instr.findNow .string (.string k) ((ks.zipIdx i).map fun x=>{key:=.string x.1,val:=.int .i64 (x.2:Int),born:=x.2}) i=some (if idxR ks k<ks.length then some (i+idxR ks k,.int .i64 ((i+idxR ks k:Nat):Int)) else none)
 |[],i=>by simp[Instr.findNow,idxR]
 |x::ks,i=>by
  rw[List.zipIdx_cons,zvn];unfold Instr.findNow
  by_cases e:k=x
  ·subst e;have h0:idxR (k::ks) k=0:=by simp[idxR,List.findIdx_cons]
   have hb:(k==k)=true:=(MapKept.bytes_beq _ _).2 rfl;rw[h0];simp[Instr.sameNow,hb]
  ·have h1:idxR (x::ks) k=idxR ks k+1:=by simp[idxR,List.findIdx_cons,e]
   have hb:(k==x)=false:=by
    cases h:(k==x)
    ·rfl
    ·exact absurd ((MapKept.bytes_beq _ _).1 h) e
   have ih:=zsL k ks (i+1);rw[h1];simp only[Instr.sameNow,hb];rw[ih];simp only[zvi,Nat.add_lt_add_iff_right];rw[show i+1+idxR ks k=i+(idxR ks k+1) by omega]
theorem zpm{P:Program}{kt:TypeId}(w:World)(hu:P.underlying kt=some .string)(ks:List ByteArray)(k:ByteArray):(Instr.findKey kt (.string k) (regL Value.string ks)).run P w=.ok (zih ks k) w:=by
 refine MapKept.run_findKey hu ?_;have:=zsL k ks 0;simp only[zvS] at this;exact this
theorem zit(r:Nat)(ks:List ByteArray)(k:ByteArray)(w:World)(hg:w.heap[r]?=some (.map (regE Value.string ks) ks.length)):
  Calls Tryz.prog 193 #[.map (some r),.string k] w (NumR Value.string w r ks k):=by
 have hm:=Tryz.underlying231;have hc:∀(e:Bool) (k:ByteArray),(Instr.checkKey e 10000 9 (.string k)).run Tryz.prog w=.ok () w:=fun e k=>MapKept.run_checkKey Tryz.underlying9 (by simp[MapKept.IsKey]) e 9999
 have hf:∀(ks:List ByteArray) (k:ByteArray),(Instr.findKey 9 (.string k) (regL Value.string ks)).run Tryz.prog w=.ok (zih ks k) w:=fun ks k=>zpm w Tryz.underlying9 ks k
 have hl:=zsi Value.string w hm hc hf (Tryz.zeroInt w) r ks k hg;have hr:=zix hg;have hn2:=zqq Value.string ks
 by_cases hk:k∈ks
 ·simp only[hk,if_true,decide_true] at hl;have HN:Hid (NumR Value.string w r ks k (.returned (.tuple #[.int .i64 (idxR ks k:Int),.bool false])) w):=⟨by simp[hk],by unfold addR;rw[zv3 hk];exact hg,World.grownBy.refl _ _⟩;have hil:=zdX.2 hk;generalize idxR ks k=ix at *;clear hc hf hm hn2
  go_enter Tryz.func193,Tryz.ntmps193
  go_wp2;refine zvV (v:=.tuple #[.int .i64 (ix:Int),.bool false]) (by simp[results,Tryz.results193,go_sem]) rfl HN.out
 ·simp only[hk,if_false,decide_false] at hl;have hp:=ztB Value.string w hm hc hf r ks k hk hg;obtain⟨W1,hW1⟩:∃W1,{w with heap:=w.heap.setIfInBounds r (.map (regE Value.string (ks++[k])) (ks++[k]).length)}=W1:=⟨_,rfl⟩;have hs1:W1.heap=w.heap.setIfInBounds r (.map (regE Value.string (ks++[k])) (ks++[k]).length):=by rw[<-hW1]
  have HN:Hid (NumR Value.string w r ks k (.returned (.tuple #[.int .i64 (ks.length:Int),.bool true])) W1):=by
   refine⟨by rw[zmE hk];simp[hk],?_,?_⟩
   ·unfold addR;rw[zv2 hk,hs1];exact(MapKept.heap_set hg).1
   ·refine⟨by rw[<-hW1],by rw[<-hW1],by rw[<-hW1],by rw[hs1];simp,fun b _ hne=>?_⟩;rw[hs1,(MapKept.heap_set hg).2 b (fun e=>hne (by rw[e]))]
  rw[hW1] at hp;have hlen:∀ty,(Builtin.len_ #[231] ty #[.map (some r)]).run Tryz.prog w=.ok (.int .i64 (ks.length:Int)) w:=fun ty=>by
   simp[Builtin.len_,run_underlying hm,MapKept.run_getObj_map hg,goInt,Result.andThen,hn2]
  clear hc hf hm hn2 hW1 hs1
  go_enter Tryz.func193,Tryz.ntmps193
  go_wp2;refine zvV (v:=.tuple #[.int .i64 (ks.length:Int),.bool true]) (by simp[results,Tryz.results193,go_sem]) rfl HN.out
end
section
attribute [local go_sem ↓] Go.wp_at_zero Go.wp_at_succ
theorem zrK(x:Nat)(w:World)(hx:x<18446744073709551616):
  Calls Tryz.prog 192 #[.int .u64 x] w fun e w'=>e=.returned (.int .i64 (Lib.bitLen x))/\w'=w:=by
 have:=Any.bits_Len64 Tryz.lays129 (x:Int) w (by omega) (by omega);rw[zuO] at this;exact this
end
section
attribute [local go_sem ↓] Go.wp_at_zero Go.wp_at_succ
theorem zs4(a r:Nat):((a/2 ^ r) &&& 1=1)↔a.testBit r=true:=by
 rw[Nat.and_one_is_mod,Nat.testBit_eq_decide_div_mod_eq];simp
theorem zi2(nw g cap:Nat)(T:Nat->Nat)(p:Nat)(w:World)(h:zar w nw g T)(hp:p<64*nw)(hnw:nw<=1000):
  Calls Tryz.prog 145 #[.slice (some ⟨g,0,none⟩) nw cap,.int .i64 p] w fun e w'=>e=.returned (.bool (zai T p))/\w'=w:=by
 have d0:w.cell? ⟨g,p/64,none⟩=some (.int .u64 (T (p/64):Int)):=h.cell (by omega);have t0:=h.lt (p/64);have e1:(p:Int)/64=((p/64:Nat):Int):=by omega
 have e2:(p:Int)%64=((p%64:Nat):Int):=by omega
 have l1:p/64<nw:=by omega
 have l2:p%64<64:=by omega
 have Hb:Hid (zai T p=(T (p/64)).testBit (p%64)):=rfl;generalize zai T p=bb at *;generalize T (p/64)=a at *;generalize p/64=q at *;generalize p%64=r at *;have i1:(q:Int)<nw:=by omega
 have i3:(0:Int)<=(q:Int):=by omega
 go_enter Tryz.func145,Tryz.ntmps145
 go_wp2;go_ret;refine⟨zae ?_,rfl⟩;rw[Hb.out,show (a:Int)/2 ^ r=((a/2 ^ r:Nat):Int) by simp];have h1:a/2 ^ r<18446744073709551616:=Nat.lt_of_le_of_lt (Nat.div_le_self _ _) t0;have h2:=ziP (a/2 ^ r) 1 h1 (by omega);have h3:bits BinOp.and IntKind.u64 ((a/2 ^ r:Nat):Int) 1=((a/2 ^ r &&& 1:Nat):Int):=h2;rw[h3];have h4:=zs4 a r;cases ht:a.testBit r
 ·rw[ht] at h4;have:¬(a/2 ^ r &&& 1=1):=fun h=>by simpa using h4.1 h
  rw[zvU];intro h;apply this;omega
 ·rw[ht] at h4;rw[h4.2 rfl]
  rfl
def ztS(nw:Nat)(T:Nat->Nat)(v:Int):Prop:=(v=-1/\∀p,p<64*nw->zai T p=false)\/∃p:Nat,v=p/\p<64*nw/\zai T p=true/\∀q,q<p->zai T q=false
theorem zgT(nw g cap:Nat)(T:Nat->Nat)(w:World)(h:zar w nw g T)(hnw:nw<=1000)(hB:za7 w):
  Calls Tryz.prog 127 #[.slice (some ⟨g,0,none⟩) nw cap] w fun e w'=>∃v:Int,e=.returned (.int .i64 v)/\ztS nw T v/\w'=w:=by
 go_enter Tryz.func127,Tryz.ntmps127
 go_wp2
 go_loopw [7] (fun i wr=>∃k:Nat,k<=nw/\i=.int .i64 k/\wr=w/\Hid (∀j,j<k->T j=0)) (fun i _=>nw-(intOf i).toNat)
 case atStart=>exact⟨0,zvT _,rfl,rfl,fun j hj=>by omega⟩
 case round=>
  obtain⟨k,hk,rfl,rfl,Hz⟩:=hrel
  by_cases hlt:k<nw
  ·have c0:=h.cell hlt;have hi1:(k:Int)<(nw:Int):=by omega
   have hi0:(0:Int)<=(k:Int):=by omega
   have t0:=h.lt k;have Hl:Hid (∀q,q<64*k->zai T q=false):=fun q hq=>by
    unfold zai;rw[Hz.out (q/64) (by omega)];simp
   by_cases hz:T k=0
   ·rw[hz] at c0;go_wp2
    go_roundw
    case rel=>exact⟨k+1,by omega,by go_num,by first|trivial|rfl,fun j hj=>by
     rcases zvM j k with a|a
     ·exact Hz.out j a
     ·obtain rfl:j=k:=by omega
      exact hz⟩
    case measure=>simp[intOf];omega
   ·obtain⟨e,s,hx⟩:=zjg (T k) (T k) (zvJ _) (by omega);have he:e<64:=by
     rcases zvM e 64 with a|a
     ·exact a
     ·have h1:2 ^ 64<=2 ^ e:=Nat.pow_le_pow_right (by omega) a;have h2:2 ^ e<=T k:=by rw[hx];exact Nat.le_mul_of_pos_right _ (by omega)
      omega
    have hlow:=zkf e s;have Hb:Hid (zai T (k*64+e)=true/\∀q,q<k*64+e->zai T q=false):=by
     refine⟨?_,fun q hq=>?_⟩
     ·unfold zai;rw[show (k*64+e)/64=k by omega,show (k*64+e)%64=e by omega,hx];exact hlow.bit
     ·rcases zvM q (64*k) with a|a
      ·exact Hl.out q a
      ·unfold zai;rw[show q/64=k by omega,hx];exact hlow.low _ (by omega)
    have hne:((T k:Int)==0)=false:=by simp;omega
    have Hx:Hid (T k=2 ^ e*(2*s+1)):=hx;have hpos:0<T k:=by omega
    have HB:Hid (za7 wr):=hB;clear hx hlow;generalize T k=x at *
    go_wp2_with (go_at_call 148;refine(zuv x e s _ Hx t0 hpos he HB).mono ?_;rintro e1 w1 ⟨rfl,rfl⟩)
    go_ret
    exact⟨_,rfl,.inr ⟨k*64+e,by omega,by omega,Hb.out.1,Hb.out.2⟩,rfl⟩
  ·obtain rfl:k=nw:=by omega
   go_wp2;go_ret;refine⟨-1,rfl,.inl ⟨rfl,fun p hp=>?_⟩,rfl⟩;unfold zai;rw[Hz.out (p/64) (by omega)];simp
end
variable{nw:Nat}{T:Nat -> Nat}
attribute [local go_sem] Oper.semAt_some
def zfD(nw m:Nat):List Nat:=(List.range m).map fun i=>nw-1-i
theorem zfE(nw m:Nat):zfD nw (m+1)=zfD nw m++[nw-1-m]:=by simp[zfD,List.range_succ]
abbrev BelN(nw:Nat):={k:Nat // k<nw}
def vlsB{nw:Nat}(l:List (BelN nw)):List Nat:=l.map Subtype.val
theorem zfk(l:List (BelN nw))(x:BelN nw):vlsB (l++[x])=vlsB l++[x.1]:=by simp[vlsB]
def encW{nw:Nat}(T:Nat->Nat)(k:BelN nw):Array Value:=#[.int .i64 (k.1:Int),.int .u64 (T k.1:Int)]
theorem zq8(n l nw g cap bx:Nat)(T:Nat->Nat)(hn:1<=n)(hnw:nw<=1000)(J Jx:List (BelN nw)->World->Prop)(W:World)
  (hY:∀pre x W1,J pre W1->pre.length<nw->YieldAt Fence.wide (n-1) Tryz.prog l (encW T x) W1 fun e W'=>
   (e=.returned (.bool true)/\J (pre++[x]) W'/\∀k∈[bx,g],W'.heap[k]?=W1.heap[k]?)\/(e=.returned (.bool false)/\Jx (pre++[x]) W'))
  (hb:W.heap[bx]?=some (.cells #[.slice (some ⟨g,0,none⟩) nw cap] 193 (0,0))) (hT:zar W nw g T) (h0:J [] W):
  CallsIn Fence.wide n Tryz.prog 191 #[.func (.yield l) #[] #[],.pointer (some ⟨bx,0,none⟩)] W fun e W'=>(∃v,e=.returned v)/\
   ((∃ys,vlsB ys=zfD nw nw/\J ys W')\/(∃pre,(∃m,m<nw/\vlsB pre=zfD nw (m+1))/\Jx pre W')):=by
 refine callsIn_of_wp Tryz.func191 rfl trivial ?_ rfl;simp only[Tryz.ntmps191,zvA,zvi,zvk,Nat.reduceAdd,Nat.reduceSub,zuI,zuJ,zvx,zuT,zvw,zuU];have c0:W.cell? ⟨bx,0,none⟩=some (.slice (some ⟨g,0,none⟩) nw cap):=(zvW _ _ _ _ _ _ hb:W.cell? ⟨bx,0,none⟩=_)
 gi_wp2
 clear c0
 gi_loopw [3] (fun i wr=>∃(m:Nat) (pre:List (BelN nw)),Hid (vlsB pre=zfD nw m)/\m<=nw/\i=.int .i64 ((nw:Int)-1-m)/\J pre wr/\wr.heap[bx]?=some (.cells #[.slice (some ⟨g,0,none⟩) nw cap] 193 (0,0))/\zar wr nw g T)
  (fun i _=>(intOf i+1).toNat)
 case atStart=>exact⟨0,[],rfl,zvT _,by simp,h0,hb,hT⟩
 case round=>
  clear hb hT h0;obtain⟨m,pre,Hp,hm,rfl,hJ,hb,hT⟩:=hrel
  by_cases hlt:m<nw
  case neg=>
   obtain rfl:m=nw:=by omega
   have hd:¬(0:Int)<=(m:Int)-1-(m:Int):=by omega
   have hd2:decide ((0:Int)<=(m:Int)-1-(m:Int))=false:=by simp;omega
   gi_wp2
   go_end0
   exact⟨⟨_,rfl⟩,.inl ⟨pre,Hp.out,hJ⟩⟩
  have c0:wr.cell? ⟨bx,0,none⟩=some (.slice (some ⟨g,0,none⟩) nw cap):=(zvW _ _ _ _ _ _ hb:wr.cell? ⟨bx,0,none⟩=_);obtain⟨k,hk⟩:∃k:Nat,(nw:Int)-1-m=k:=⟨nw-1-m,by omega⟩;have hkn:k<nw:=by omega
  have c1:=hT.cell hkn;have hi0:(0:Int)<=(k:Int):=by omega
  have hi1:(k:Int)<(nw:Int):=by omega
  obtain⟨fn,tmps,assign,body,hy,hR⟩:=hY pre ⟨k,hkn⟩ wr hJ (by have:=congrArg List.length Hp.out;simp[zfD,vlsB] at this;omega);have Hk:Hid ((nw:Int)-1-m=k):=hk;rw[hk];unfold encW at hy;clear hY hk
  gi_wp2
  refine hR.mono ?_;rintro e W3 (⟨rfl,hJ3,hk3⟩|⟨rfl,hJx3⟩)
  ·have hT3:zar W3 nw g T:=⟨(hk3 g (by simp)).trans hT.row,hT.lt⟩;have hb3:=(hk3 bx (by simp)).trans hb
   gi_wp2
   go_roundw
   case rel=>exact⟨m+1,pre++[⟨k,hkn⟩],by show _=_;rw[zfk,Hp.out,zfE,show nw-1-m=k by have:=Hk.out;omega],by omega,by congr 1;have:=Hk.out;omega,hJ3,hb3,hT3⟩
   case measure=>first|(simp[intOf];done)|(simp[intOf];omega)
  ·gi_wp2
   refine zvV (results_none rfl _ _ _) rfl ?_;exact⟨⟨_,rfl⟩,.inr ⟨_,⟨m,hlt,by rw[zfk,Hp.out,zfE,show nw-1-m=k by have:=Hk.out;omega]⟩,hJx3⟩⟩
theorem znv(n nw g cap bx:Nat)(T:Nat->Nat)(hn:1<=n)(hnw:nw<=1000)(w:World)(hb:w.heap[bx]?=some (.cells #[.slice (some ⟨g,0,none⟩) nw cap] 193 (0,0)))(hT:zar w nw g T):
  SeqR n Tryz.prog 191 #[] #[.pointer (some ⟨bx,0,none⟩)] (encW (nw:=nw) T) [bx,g] (fun ys:List (BelN nw)=>vlsB ys=zfD nw nw) (fun pre:List (BelN nw)=>∃m,m<nw/\vlsB pre=zfD nw (m+1)) nw w:=
 fun l J Jx W hW hY h0=>zq8 n l nw g cap bx T hn hnw J Jx W hY ((hW bx (by simp)).trans hb) ⟨(hW g (by simp)).trans hT.row,hT.lt⟩ h0
theorem zra(g nw cap:Nat)(w:World):
  Calls Tryz.prog 166 #[.slice (some ⟨g,0,none⟩) nw cap] w fun e w'=>e=.returned (.func (.func 191) #[] #[.pointer (some ⟨w.heap.size,0,none⟩)])/\w'=w.alloc (.cells #[.slice (some ⟨g,0,none⟩) nw cap] 193):=by
 go_enter Tryz.func166,Tryz.ntmps166
 go_wp2;go_ret;exact⟨rfl,rfl⟩
theorem ztt(x:Nat)(w:World)(hx:x<18446744073709551616):
  Calls Tryz.prog 167 #[.int .u64 x] w fun e w'=>e=.returned (.int .i64 (64-(Lib.bitLen x:Int)))/\w'=w:=by
 have hl:Lib.bitLen x<=64:=Lib.bitLen_le x 64 (zvJ _) hx
 go_enter Tryz.func167,Tryz.ntmps167
 go_wp2_with (go_at_call 192;refine(zrK x _ hx).mono ?_;rintro e w1 ⟨rfl,rfl⟩)
 go_ret
 exact⟨rfl,rfl⟩
theorem zia:∀(n x:Nat),x<=n->x≠0->x<2 ^ 64->∃k,Lib.bitLen x=k+1/\x.testBit k=true/\∀j,k<j->x.testBit j=false
 |0,x,h,h0,_=>by omega
 |n+1,x,h,h0,hx=>by
  by_cases h1:x=1
  ·subst h1;refine⟨0,by decide,by decide,fun j hj=>?_⟩;obtain⟨i,rfl⟩:∃i,j=i+1:=⟨j-1,by omega⟩;rw[Nat.testBit_succ];simp
  ·obtain⟨k,e,a,b⟩:=zia n (x/2) (by omega) (by omega) (by omega);refine⟨k+1,by rw[Lib.bitLen_half x h0 hx,e];omega,by rw[Nat.testBit_succ];exact a,fun j hj=>?_⟩;obtain⟨i,rfl⟩:∃i,j=i+1:=⟨j-1,by omega⟩;rw[Nat.testBit_succ];exact b i (by omega)
def zmt(nw:Nat)(T:Nat->Nat)(v:Int):Prop:=(v=-1/\∀p,p<64*nw->zai T p=false)\/∃p:Nat,v=p/\p<64*nw/\zai T p=true/\∀q,p<q->q<64*nw->zai T q=false
theorem zrs{m:Nat}(hm:m<nw)(hz:∀k∈zfD nw m,T k=0)(hl:∀i,T i<18446744073709551616)(h0:T (nw-1-m)≠0):zmt nw T (((nw-1-m:Nat):Int)*64+63-(64-(Lib.bitLen (T (nw-1-m)):Int))):=by
 obtain⟨k,e,a,b⟩:=zia _ _ (zvJ _) h0 (hl (nw-1-m));have hk:k<64:=by
  rcases zvM k 64 with h|h
  ·exact h
  ·rw[Nat.testBit_lt_two_pow (zvL (hl (nw-1-m)) (show 2 ^ 64<=2 ^ k from Nat.pow_le_pow_right (by decide) h))] at a;cases a
 refine .inr ⟨(nw-1-m)*64+k,by rw[e];omega,by omega,?_,fun q hq hq2=>?_⟩
 ·unfold zai;rw[show ((nw-1-m)*64+k)/64=nw-1-m by omega,show ((nw-1-m)*64+k)%64=k by omega];exact a
 ·unfold zai;rcases zvM (nw-1-m) (q/64) with h|h
  ·have:T (q/64)=0:=hz _ (by
    unfold zfD;exact zvs.2 ⟨nw-1-q/64,zvu.2 (by omega),by omega⟩)
   rw[this];simp
  ·have:q/64=nw-1-m:=by omega
   rw[this];exact b _ (by omega)
theorem znP(hz:∀k∈zfD nw nw,T k=0):zmt nw T (-1):=
 .inl ⟨rfl,fun p hp=>by
  unfold zai;rw[hz (p/64) (by
   unfold zfD;exact zvs.2 ⟨nw-1-p/64,zvu.2 (by omega),by omega⟩)]
  simp⟩
theorem zeJ(nw g cap:Nat)(T:Nat->Nat)(w:World)(h:zar w nw g T)(hnw:nw<=1000):
  Calls Tryz.prog 144 #[.slice (some ⟨g,0,none⟩) nw cap] w fun e w'=>∃v:Int,e=.returned (.int .i64 v)/\zmt nw T v/\Below w.heap.size w w':=by
 refine(callsIn_wide (n:=5)).1 ?_;refine callsIn_of_wp_marks Tryz.func144 rfl trivial ?_ rfl;simp only[Tryz.ntmps144,zvA,zvi,zvk,Nat.reduceAdd,Nat.reduceSub,zuI,zuJ,zvx,zuT,zvw,zuU]
 gi_wp2_with (refine⟨trivial,?_⟩;gi_at_call 166;refine(callsIn_wide.2 (zra g nw cap _)).mono ?_;rintro e w1 ⟨rfl,rfl⟩)
 obtain⟨W0,hW0⟩:∃W0,(w.alloc (.cells #[.int .i64 0] 3)).alloc (.cells #[.slice (some ⟨g,0,none⟩) nw cap] 193)=W0:=⟨_,rfl⟩;have hb0:Below w.heap.size w W0:=by rw[<-hW0];exact((Below.refl _ _).alloc (zvJ _) _).alloc (by simp) _
 have x0:W0.heap[w.heap.size]?=some (.cells #[.int .i64 0] 3 (0,0)):=by rw[<-hW0];exact zak (zvZ _ _)
 have x1:W0.heap[w.heap.size+1]?=some (.cells #[.slice (some ⟨g,0,none⟩) nw cap] 193 (0,0)):=by
  rw[<-hW0];have:=zvZ (w.alloc (.cells #[.int .i64 0] 3)) (.cells #[.slice (some ⟨g,0,none⟩) nw cap] 193)
  simpa using this
 have yg:zar W0 nw g T:=h.below hb0;have hgl:=h.glt;have hs1:w.heap.size+1<W0.heap.size:=(zuH.1 x1).1;rw[hW0];clear hW0;refine zct (by omega) (gf:=191) (fb:=#[]) (lb:=#[.pointer (some ⟨w.heap.size+1,0,none⟩)]) rfl (enters_of Tryz.func191 (by kernel_rfl) rfl)
  (T:=[w.heap.size+1,g]) (by intro k hk;simp at hk;omega)
  (znv 4 nw g cap (w.heap.size+1) T (by omega) hnw W0 x1 yg) (fun _=>rfl)
  (fun pre W=>(∀k∈vlsB pre,T k=0)/\zam (fun k=>k=w.heap.size) W0 W/\W.heap[w.heap.size]?=some (.cells #[.int .i64 0] 3 (0,0)))
  (fun c pre W=>c=.ret/\∃(pre':List (BelN nw)) (x:BelN nw),pre=pre'++[x]/\(∀k∈vlsB pre',T k=0)/\T x.1≠0/\zam (fun k=>k=w.heap.size) W0 W/\W.heap[w.heap.size]?=some (.cells #[.int .i64 ((x.1:Int)*64+63-(64-(Lib.bitLen (T x.1):Int)))] 3 (0,0)))
  (fun s A B hs ht=>⟨hs.1,hs.2.1.turn ht,ht.same _ _ hs.2.2 (.inr rfl)⟩)
  (fun c s A B hs ht=>by
   obtain⟨h1,p,x,h2,h3,h4,h5,h6⟩:=hs;exact⟨h1,p,x,h2,h3,h4,h5.turn ht,ht.same _ _ h6 (.inr rfl)⟩)
  ⟨fun k hk=>by simp[vlsB] at hk,zam.refl _ _,x0⟩
  (fun x=>{tmps:=#[.slice (some ⟨g,0,none⟩) nw cap,undef,.pointer (some ⟨w.heap.size,0,none⟩),.int .i64 (x.1:Int),.int .u64 (T x.1:Int),.slice (some ⟨g,0,none⟩) nw cap,.func (.func 191) #[] #[.pointer (some ⟨w.heap.size+1,0,none⟩)],.int .i64 (x.1:Int),.int .u64 (T x.1:Int),undef,undef,undef,undef,undef,undef,undef,undef],defers:=[]})
  ?assign ?body ?done ?stop
 case assign=>
  intro l x W K hK;unfold encW
  gi_wp2
  exact hK
 case stop=>
  rintro D c pre W hD ⟨m,hm,hpre⟩ ⟨rfl,p,x,rfl,h3,h4,h5,h6⟩ hK;rw[zfk,zfE] at hpre;obtain⟨e1,e2⟩:=List.append_inj' hpre rfl;have ex:x.1=nw-1-m:=by simpa using e2
  have c0:W.cell? ⟨w.heap.size,0,none⟩=some (.int .i64 ((x.1:Int)*64+63-(64-(Lib.bitLen (T x.1):Int)))):=(zvW _ _ _ _ _ _ h6:W.cell? ⟨w.heap.size,0,none⟩=_);have c1:(W.putObj D (.deferred none)).cell? ⟨w.heap.size,0,none⟩=some (.int .i64 ((x.1:Int)*64+63-(64-(Lib.bitLen (T x.1):Int)))):=(show (W.putObj D (.deferred none)).cell? ⟨w.heap.size,0,none⟩=W.cell? ⟨w.heap.size,0,none⟩ from World.cell?_of_block (World.putObj_heap_other (by show w.heap.size≠D;omega))).trans c0;have htf:=h5.grown (grownBy_putObj' W D (.deferred none)) (fun g e=>.inr (by cases e;omega));have hgr:zmt nw T ((x.1:Int)*64+63-(64-(Lib.bitLen (T x.1):Int))):=by
   have:=zrs hm (fun k hk=>h3 k (by rw[e1];exact hk)) h.lt (by rw[<-ex];exact h4);rw[<-ex] at this;exact this
  generalize (x.1:Int)*64+63-(64-(Lib.bitLen (T x.1):Int))=v at *
  gi_wp2
  refine⟨by simp,.inl ⟨_,_,rfl,run_takeDeferred hK,?_⟩⟩;refine⟨.int .i64 v,by simp[results,Tryz.results144,go_sem,c1],v,rfl,hgr,?_⟩;exact⟨htf.os.trans hb0.os,htf.tape.trans hb0.tape,htf.output.trans hb0.output,zvK hb0.size htf.size,fun k hk=>(htf.same k (by omega) (by omega)).trans (hb0.block k hk)⟩
 case body=>
  rintro l pre ⟨x,hx⟩ W hl ⟨h1,ht,hr⟩ hlen;have c0:W.cell? ⟨w.heap.size,0,none⟩=some (.int .i64 0):=(zvW _ _ _ _ _ _ hr:W.cell? ⟨w.heap.size,0,none⟩=_);have f0:=zvY _ _ 0 _ _ hr;have t0:=h.lt x;dsimp only
  by_cases hz:T x=0
  ·rw[hz]
   gi_wp2
   refine⟨⟨zvJ _,fun _ _ _ h _=>h⟩,fun _ _=>rfl,fun k hk=>?_,ht,hr⟩;rw[zfk] at hk;rcases zvo.1 hk with hk|hk
   ·exact h1 k hk
   ·rw[zvv.1 hk];exact hz
  ·have hne:((T x:Int) != 0)=true:=by simp;omega
   have hlz:=fun W=>ztt (T x) W t0
   have hbl:Lib.bitLen (T x)<=64:=Lib.bitLen_le (T x) 64 (zvJ _) t0;have HT:Hid (T x≠0):=hz;have hrow:=zv1 _ _ 0 _ _ (.int .i64 ((x:Int)*64+63-(64-(Lib.bitLen (T x):Int)))) hr
   gi_wp2_with (refine⟨trivial,?_⟩;gi_at_call 167;refine(CallsIn.inRound l (callsIn_wide.2 (hlz _))).mono ?_;rintro e w' ⟨rfl,rfl⟩)
   exact⟨(KeepsOthers.setCell _ _ _).from _,rfl,pre,⟨x,hx⟩,rfl,h1,HT.out,ht.grown (zaK _ _ _ _) (fun g e=>by cases e;exact .inl rfl),hrow⟩
 case done=>
  rintro D ys W hD hys ⟨h1,ht,hr⟩ hK;have f0:=zvY _ _ 0 _ _ hr;have c0:W.cell? ⟨w.heap.size,0,none⟩=some (.int .i64 0):=(zvW _ _ _ _ _ _ hr:W.cell? ⟨w.heap.size,0,none⟩=_);have hrow:=zv1 _ _ 0 _ _ (.int .i64 (-1)) hr;have hKs:(W.setCell ⟨w.heap.size,0,none⟩ (.int .i64 (-1))).heap[D]?=some (.deferred (some [])):=(zv0 _ _ _ _ (by show D≠w.heap.size;omega)).trans hK;have htf:=(ht.grown (zaK W w.heap.size 0 (.int .i64 (-1))) (fun g e=>by cases e;exact .inl rfl)).grown (grownBy_putObj' _ D (.deferred none)) (fun g e=>.inr (by cases e;omega));have c1:((W.setCell ⟨w.heap.size,0,none⟩ (.int .i64 (-1))).putObj D (.deferred none)).cell? ⟨w.heap.size,0,none⟩=some (.int .i64 (-1)):=(show _=(W.setCell ⟨w.heap.size,0,none⟩ (.int .i64 (-1))).cell? ⟨w.heap.size,0,none⟩ from World.cell?_of_block (World.putObj_heap_other (by show w.heap.size≠D;omega))).trans (zvW _ _ _ _ _ _ hrow:_=_);have hgr:=znP (T:=T) (nw:=nw) (fun k hk=>h1 k (by rw[hys];exact hk))
  gi_wp2
  refine⟨by simp,.inl ⟨_,_,rfl,run_takeDeferred hKs,?_⟩⟩;refine⟨.int .i64 (-1),by simp[results,Tryz.results144,go_sem,c1],-1,rfl,hgr,?_⟩;exact⟨htf.os.trans hb0.os,htf.tape.trans hb0.tape,htf.output.trans hb0.output,zvK hb0.size htf.size,fun k hk=>(htf.same k (by omega) (by omega)).trans (hb0.block k hk)⟩
theorem zgs(p:Nat)(w:World)(hp:p<=4096):
  Calls Tryz.prog 126 #[.int .i64 p] w fun e w'=>∃U:Nat->Nat,e=.returned (.slice (some ⟨w.heap.size,0,none⟩) (p/64+1) (p/64+1))/\zar w' (p/64+1) w.heap.size U/\(∀q,zai U q=true↔q=p)/\Below w.heap.size w w':=by
 obtain⟨i0,hi,hz0,hz1,hz2⟩:=info_parts Tryz.infoU64;have e1:(p:Int)/64=((p/64:Nat):Int):=by omega
 have hq:p<64*(p/64+1):=by omega
 obtain⟨nw,hnw⟩:∃nw,p/64+1=nw:=⟨_,rfl⟩;have e2:(p:Int)/64+1=(nw:Int):=by omega
 rw[hnw] at hq ⊢;have hn9:nw<=1000:=by omega
 have hadd:=fun(W:World) (T:Nat->Nat) (h:W.heap[w.heap.size]?=some (.cells (zcS nw T) 236 (0,0))) (hT:Hid (∀i,T i<18446744073709551616))=>zeG nw w.heap.size nw T p W h hq hn9 hT
 clear hnw e1
 go_enter Tryz.func126,Tryz.ntmps126
 go_wp2_with (refine wpList_make_full _ rfl _ _ 193 rfl w.heap.size 236 i0 _ 1 Tryz.underlying193 hi hz0 hz1 _ _ _ _ nw rfl rfl (by first|rfl|(simp[e2];done)|omega) (by first|rfl|(simp[e2];done)|omega) (by rw[hz2];omega) (by unfold maxLen;omega) (zvJ _) ?_;intro w1 hown hgrow)
 have h1:w1.heap[w.heap.size]?=some (.cells (zcS nw za0) 236 (0,0)):=by rw[ze9 hown,zeM]
 have hb1:Below w.heap.size w w1:=(Below.refl _ _).grown hgrow (zvJ _) (by intro k h;cases h);refine(hadd w1 za0 h1 (fun _=>by simp[za0])).mono ?_;rintro e w2 ⟨rfl,hr2,hg2⟩;have hb2:=hb1.grown hg2 hb1.size (by intro k h;cases h;exact zvJ _);clear hadd h1 hown hgrow;go_wp2;go_ret;exact⟨addT za0 p,rfl,⟨hr2,zfw za0 (fun _=>by simp[za0]) p⟩,fun q=>by rw[zel,zcg];simp,hb2⟩
end Go.Proofs.YtdimhpfiieepiaaGreatDoor
