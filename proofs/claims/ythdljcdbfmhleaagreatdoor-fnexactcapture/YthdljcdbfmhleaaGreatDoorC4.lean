import Derived.Test.YthdljcdbfmhleaaGreatDoorC3
import Derived.MapKept
import Derived.Laws.StructEq
import Derived.Laws.Small
import Derived.Deep.QuietTactic
import Derived.Deep.RegionHeld3
import Derived.Deep.DrawnRows
namespace Go.Proofs.YthdljcdbfmhleaaGreatDoor
set_option maxHeartbeats 1000000
set_option maxRecDepth 100000
open Go.RowKit
section
section
variable {gt:Nat} {W W':World} {p:Nat} {mv:Value} {m:Nat} {mi:Nat->Nat} {v:Nat->Value} {l:Nat->List Int} {N:Nat} {o wk:List Nat} {mem:Nat->List Nat}
end
end
section
variable {P:Program}
attribute [local go_sem ↓] Go.wp_at_zero Go.wp_at_succ
def regL{κ:Type}(enc:κ->Value)(ks:List κ):List MapEntry:=ks.zipIdx.map fun x=>{key:=enc x.1,val:=.int .i64 (x.2:Int),born:=x.2}
def regE{κ:Type}(enc:κ->Value)(ks:List κ):Array MapEntry:=(regL enc ks).toArray
theorem znF{κ:Type}(enc:κ->Value)(ks:List κ)(k:κ):regL enc (ks++[k])=regL enc ks++[{key:=enc k,val:=.int .i64 (ks.length:Int),born:=ks.length}]:=by simp[regL,List.zipIdx_append]
theorem znD{κ:Type}(enc:κ->Value)(ks:List κ)(k:κ):(regE enc ks).push {key:=enc k,val:=.int .i64 (ks.length:Int),born:=ks.length}=regE enc (ks++[k]):=by
 unfold regE;rw[znF];simp
theorem znE{κ:Type}(enc:κ->Value)(ks:List κ):(regE enc ks).size=ks.length:=by simp[regE,regL]
def idxR{κ:Type} [DecidableEq κ] (ks:List κ)(k:κ):Nat:=ks.findIdx fun x=>decide (k=x)
def zgC{κ:Type} [DecidableEq κ] (ks:List κ)(k:κ):Option (Nat×Value):=if idxR ks k<ks.length then some (idxR ks k,.int .i64 (idxR ks k:Int)) else none
theorem zc4{κ:Type} [DecidableEq κ] {ks:List κ}{k:κ}:idxR ks k<ks.length↔k∈ks:=by
 unfold idxR;rw[List.findIdx_lt_length];exact⟨fun⟨x,h1,h2⟩=>(of_decide_eq_true h2) ▸ h1,fun h=>⟨k,h,by simp⟩⟩
theorem zp8{κ:Type} [DecidableEq κ] (ks:List κ)(k:κ):idxR ks k<=ks.length:=List.findIdx_le_length
theorem zoz{κ:Type} [DecidableEq κ] {ks:List κ}{k:κ}(h:k∈ks):ks[idxR ks k]?=some k:=by
 have hl:=zc4.2 h;rw[zrD hl];have:=List.findIdx_getElem (w:=hl);exact congrArg some (of_decide_eq_true this).symm
theorem zpc{mt kt et:TypeId}{κ:Type} [DecidableEq κ] (enc:κ->Value)(w:World)(hm:P.underlying mt=some (.map kt et))(hc:∀(e:Bool) (k:κ),(Instr.checkKey e 10000 kt (enc k)).run P w=.ok () w)(hf:∀(ks:List κ) (k:κ),(Instr.findKey kt (enc k) (regL enc ks)).run P w=.ok (zgC ks k) w)(hz:(zeroValue et).run P w=.ok (.int .i64 0) w)(r:Nat)(ks:List κ)(k:κ)(hg:w.heap[r]?=some (.map (regE enc ks) ks.length)):
  (Instr.lookup mt (.map (some r)) (enc k) true).run P w=.ok (.tuple #[.int .i64 (if k∈ks then (idxR ks k:Int) else 0),.bool (decide (k∈ks))]) w:=by
 unfold Instr.lookup;simp only[Sem.run_bind,run_underlying hm,Result.andThen_ok,MapKept.run_getObj_map hg,Sem.run_pure,hc];rw[show (regE enc ks).toList=regL enc ks by simp[regE],hf];unfold zgC
 by_cases h:k∈ks
 ·rw[zst (zc4.2 h)];simp[h]
 ·rw[zss (fun e=>h (zc4.1 e))];simp[h,hz]
theorem zqm{mt kt et:TypeId}{κ:Type} [DecidableEq κ] (enc:κ->Value)(w:World)(hm:P.underlying mt=some (.map kt et))(hc:∀(e:Bool) (k:κ),(Instr.checkKey e 10000 kt (enc k)).run P w=.ok () w)(hf:∀(ks:List κ) (k:κ),(Instr.findKey kt (enc k) (regL enc ks)).run P w=.ok (zgC ks k) w)(r:Nat)(ks:List κ)(k:κ)(hk:k∉ks)(hg:w.heap[r]?=some (.map (regE enc ks) ks.length)):
  (Instr.mapUpdate mt (.map (some r)) (enc k) (.int .i64 (ks.length:Int))).run P w=.ok () {w with heap:=w.heap.setIfInBounds r (.map (regE enc (ks++[k])) (ks++[k]).length)}:=by
 unfold Instr.mapUpdate;simp only[Sem.run_bind,run_underlying hm,Result.andThen_ok,MapKept.run_getObj_map hg,hc];rw[show (regE enc ks).toList=regL enc ks by simp[regE],hf];unfold zgC;rw[zss (fun e=>hk (zc4.1 e))];simp only[Result.andThen_ok,MapKept.run_setObj_map _ hg,znD];simp
end
section
attribute [local go_sem ↓] Go.wp_at_zero Go.wp_at_succ
def addR{κ:Type} [DecidableEq κ] (ks:List κ)(k:κ):List κ:=if k∈ks then ks else ks++[k]
theorem zkr{κ:Type} [DecidableEq κ] {ks:List κ}{k:κ}(h:k∉ks):idxR ks k=ks.length:=by
 have:=zp8 ks k;have:¬idxR ks k<ks.length:=fun e=>h (zc4.1 e)
 omega
def NumR{κ:Type} [DecidableEq κ] (enc:κ->Value)(w:World)(r:Nat)(ks:List κ)(k:κ)(e:Ending)(w':World):Prop:=
 e=.returned (.tuple #[.int .i64 (idxR ks k:Int),.bool (decide (k∉ks))])/\w'.heap[r]?=some (.map (regE enc (addR ks k)) (addR ks k).length)/\w.grownBy w' (some r)
theorem Tryz.zeroInt(w:World):(zeroValue 3).run Tryz.prog w=.ok (.int .i64 0) w:=by
 simp[zeroValue,typeInfo]
 kernel_rfl
end
section
attribute [local go_sem ↓] Go.wp_at_zero Go.wp_at_succ
theorem zpD(k:ByteArray):∀(ks:List ByteArray) (i:Nat),Instr.findNow .string (.string k) ((ks.zipIdx i).map fun x=>{key:=.string x.1,val:=.int .i64 (x.2:Int),born:=x.2}) i=some (if idxR ks k<ks.length then some (i+idxR ks k,.int .i64 ((i+idxR ks k:Nat):Int)) else none)
 |[],i=>by simp[Instr.findNow,idxR]
 |x::ks,i=>by
  rw[List.zipIdx_cons,zrQ];unfold Instr.findNow
  by_cases e:k=x
  ·subst e;have h0:idxR (k::ks) k=0:=by simp[idxR,List.findIdx_cons]
   have hb:(k==k)=true:=(MapKept.bytes_beq _ _).2 rfl;rw[h0];simp[Instr.sameNow,hb]
  ·have h1:idxR (x::ks) k=idxR ks k+1:=by simp[idxR,List.findIdx_cons,e]
   have hb:(k==x)=false:=by
    cases h:(k==x)
    ·rfl
    ·exact absurd ((MapKept.bytes_beq _ _).1 h) e
   have ih:=zpD k ks (i+1);rw[h1];simp only[Instr.sameNow,hb];rw[ih];simp only[zrL,Nat.add_lt_add_iff_right];rw[show i+1+idxR ks k=i+(idxR ks k+1) by omega]
theorem zmH{P:Program}{kt:TypeId}(w:World)(hu:P.underlying kt=some .string)(ks:List ByteArray)(k:ByteArray):(Instr.findKey kt (.string k) (regL Value.string ks)).run P w=.ok (zgC ks k) w:=by
 refine MapKept.run_findKey hu ?_;have:=zpD k ks 0;simp only[zsi] at this;exact this
theorem zgN(r:Nat)(ks:List ByteArray)(k:ByteArray)(w:World)(hg:w.heap[r]?=some (.map (regE Value.string ks) ks.length)):
  Calls Tryz.prog 128 #[.map (some r),.string k] w (NumR Value.string w r ks k):=by
 have hm:=Tryz.underlying179;have hc:∀(e:Bool) (k:ByteArray),(Instr.checkKey e 10000 9 (.string k)).run Tryz.prog w=.ok () w:=fun e k=>MapKept.run_checkKey Tryz.underlying9 (by simp[MapKept.IsKey]) e 9999
 have hf:∀(ks:List ByteArray) (k:ByteArray),(Instr.findKey 9 (.string k) (regL Value.string ks)).run Tryz.prog w=.ok (zgC ks k) w:=fun ks k=>zmH w Tryz.underlying9 ks k
 have hl:=zpc Value.string w hm hc hf (Tryz.zeroInt w) r ks k hg;have hr:=zqX hg;have hn2:=znE Value.string ks
 by_cases hk:k∈ks
 ·simp only[hk,if_true,decide_true] at hl;have HN:Hid (NumR Value.string w r ks k (.returned (.tuple #[.int .i64 (idxR ks k:Int),.bool false])) w):=⟨by simp[hk],by unfold addR;rw[zst hk];exact hg,World.grownBy.refl _ _⟩;have hil:=zc4.2 hk;generalize idxR ks k=ix at *;clear hc hf hm hn2
  go_enter Tryz.func128,Tryz.ntmps128
  go_wp2;refine zsl (v:=.tuple #[.int .i64 (ix:Int),.bool false]) (by simp[results,Tryz.results128,go_sem]) rfl HN.out
 ·simp only[hk,if_false,decide_false] at hl;have hp:=zqm Value.string w hm hc hf r ks k hk hg;obtain⟨W1,hW1⟩:∃W1,{w with heap:=w.heap.setIfInBounds r (.map (regE Value.string (ks++[k])) (ks++[k]).length)}=W1:=⟨_,rfl⟩;have hs1:W1.heap=w.heap.setIfInBounds r (.map (regE Value.string (ks++[k])) (ks++[k]).length):=by rw[<-hW1]
  have HN:Hid (NumR Value.string w r ks k (.returned (.tuple #[.int .i64 (ks.length:Int),.bool true])) W1):=by
   refine⟨by rw[zkr hk];simp[hk],?_,?_⟩
   ·unfold addR;rw[zss hk,hs1];exact(MapKept.heap_set hg).1
   ·refine⟨by rw[<-hW1],by rw[<-hW1],by rw[<-hW1],by rw[hs1];simp,fun b _ hne=>?_⟩;rw[hs1,(MapKept.heap_set hg).2 b (fun e=>hne (by rw[e]))]
  rw[hW1] at hp;have hlen:∀ty,(Builtin.len_ #[179] ty #[.map (some r)]).run Tryz.prog w=.ok (.int .i64 (ks.length:Int)) w:=fun ty=>by
   simp[Builtin.len_,run_underlying hm,MapKept.run_getObj_map hg,goInt,Result.andThen,hn2]
  clear hc hf hm hn2 hW1 hs1
  go_enter Tryz.func128,Tryz.ntmps128
  go_wp2;refine zsl (v:=.tuple #[.int .i64 (ks.length:Int),.bool true]) (by simp[results,Tryz.results128,go_sem]) rfl HN.out
end
attribute [local go_sem ↓] Go.wp_at_zero Go.wp_at_succ
theorem zaK(W:World)(b j:Nat)(v:Value):W.grownBy (W.setCell ⟨b,j,none⟩ v) (some b):=
 ⟨rfl,rfl,rfl,by simp,fun k _ hk=>Below.heap_setCell W _ _ k (fun e=>hk (by rw[e]))⟩
theorem zgo(W:World)(b j:Nat)(v:Value):W.grownBy (W.setCell ⟨b,j,none⟩ v).drew (some b):=by
 have h:=zaK W b j v;exact⟨h.os,h.tape,h.output,h.size,h.block⟩
def zca(n:Nat)(T:Nat->Nat):Array Value:=((List.range n).map fun i=>Value.int .u64 (T i:Int)).toArray
theorem zei(n:Nat)(T:Nat->Nat){i:Nat}(h:i<n):(zca n T)[i]?=some (.int .u64 (T i:Int)):=by
 simp[zca,h]
def zae(T:Nat->Nat)(s:Nat):Bool:=(T (s/64)).testBit (s%64)
theorem zpF(x y:Nat)(hx:x<18446744073709551616)(hy:y<18446744073709551616):bits BinOp.or IntKind.u64 (x:Int) (y:Int)=((x ||| y:Nat):Int):=by
 have h1:(BitVec.ofInt 64 (x:Int) ||| BitVec.ofInt 64 (y:Int)).toNat=x ||| y:=by
  rw[BitVec.ofInt_natCast,BitVec.ofInt_natCast,BitVec.toNat_or,BitVec.toNat_ofNat,BitVec.toNat_ofNat,zsf (by omega),zsf (by omega)]
 have h2:x ||| y<18446744073709551616:=Nat.or_lt_two_pow (n:=64) hx hy
 show IntKind.u64.wrap ((BitVec.ofInt 64 (x:Int) ||| BitVec.ofInt 64 (y:Int)).toNat:Int)=_;rw[h1];simp[IntKind.wrap,IntKind.bits,IntKind.signed];omega
theorem zhM(x:Nat):IntKind.u64.wrap (x:Int)=((x%18446744073709551616:Nat):Int):=by
 simp[IntKind.wrap,IntKind.bits,IntKind.signed]
theorem ziO(n:Nat)(T:Nat->Nat)(i x:Nat):(zca n T).setIfInBounds i (.int .u64 (x:Int))=zca n (fun j=>if j=i then x else T j):=by
 apply Array.ext'
 unfold zca;simp only[List.setIfInBounds_toArray];apply List.ext_getElem
 ·simp
 ·intro j h1 h2;simp only[List.getElem_set,List.getElem_map,List.getElem_range]
  by_cases e:i=j
  ·subst e;simp
  ·rw[zss e,zss (fun h=>e h.symm)]
def addT(T:Nat->Nat)(p:Nat):Nat->Nat:=fun j=>if j=p/64 then T (p/64) ||| 2 ^ (p%64) else T j
theorem zeq(T:Nat->Nat)(hT:∀i,T i<18446744073709551616)(p:Nat):∀i,addT T p i<18446744073709551616:=fun i=>by
 unfold addT;split
 ·exact Nat.or_lt_two_pow (n:=64) (hT _) (Nat.pow_lt_pow_right (by omega) (by omega))
 ·exact hT i
theorem zdn(T:Nat->Nat)(p s:Nat):zae (addT T p) s=(zae T s || decide (s=p)):=by
 unfold zae addT
 by_cases h:s/64=p/64
 ·rw[zst h,Nat.testBit_or,Nat.testBit_two_pow,h]
  congr 1
  by_cases e:s=p
  ·subst e;simp
  ·have:¬p%64=s%64:=by omega
   simp[this,e]
 ·rw[zss h];have:¬s=p:=fun e=>h (by rw[e])
  simp[this]
theorem zhm:∀(n x:Nat),x<=n->0<x->∃k t,x=2 ^ k*(2*t+1)
 |0,x,h,h0=>by omega
 |n+1,x,h,h0=>by
  by_cases e:x%2=1
  ·exact⟨0,x/2,by omega⟩
  ·obtain⟨k,t,hk⟩:=zhm n (x/2) (by omega) (by omega);refine⟨k+1,t,?_⟩;rw[Nat.pow_succ,Nat.mul_assoc,Nat.mul_comm 2,<-Nat.mul_assoc,<-hk];omega
structure Low(x k:Nat):Prop where
 bit:x.testBit k=true
 low:∀j,j<k->x.testBit j=false
theorem zif(k t:Nat):Low (2 ^ k*(2*t+1)) k:=by
 constructor
 ·rw[Nat.testBit_two_pow_mul];simp
 ·intro j hj;rw[Nat.testBit_two_pow_mul];simp;omega
theorem zqe{x k t:Nat}(hx:x=2 ^ k*(2*t+1))(hl:x<2 ^ 64):x &&& (2 ^ 64-x)=2 ^ k:=by
 have hp:0<2 ^ k:=Nat.two_pow_pos k;have h0:0<x:=by rw[hx];exact Nat.mul_pos hp (by omega)
 have e1:2 ^ 64-x=2 ^ 64-((x-1)+1):=by omega
 have e2:x-1=2 ^ k*(2*t)+(2 ^ k-1):=by
  rw[hx,Nat.mul_add,Nat.mul_one];omega
 apply Nat.eq_of_testBit_eq
 intro i;rw[Nat.testBit_and,e1,Nat.testBit_two_pow_sub_succ (by omega),e2,Nat.testBit_two_pow_mul_add _ (by omega),hx,Nat.testBit_two_pow_mul,Nat.testBit_two_pow];have hk:k<64:=by
  rcases zsd k 64 with h|h
  ·exact h
  ·have:2 ^ 64<=2 ^ k:=Nat.pow_le_pow_right (by omega) h;have:2 ^ k<=x:=by rw[hx];exact Nat.le_mul_of_pos_right _ (by omega)
   omega
 by_cases h1:i<k
 ·have:¬k<=i:=by omega
  have h2:¬k=i:=by omega
  simp[this,h2]
 ·by_cases h2:i=k
  ·subst h2;simp[hk]
  ·have h3:k<=i:=by omega
   have h4:¬k=i:=by omega
   have h5:¬i-k=0:=by omega
   obtain⟨m,hm⟩:∃m,i-k=m+1:=⟨i-k-1,by omega⟩;have a1:(2*t+1).testBit (m+1)=t.testBit m:=by rw[Nat.testBit_succ];congr 1;omega
   have a2:(2*t).testBit (m+1)=t.testBit m:=by rw[Nat.testBit_succ];congr 1;omega
   rw[zss h1,hm,a1,a2];cases t.testBit m<;>simp[h4]
def ziJ:List Nat:=[0,1,56,2,57,49,28,3,61,58,42,50,38,29,17,4,62,47,59,36,45,43,51,22,53,39,33,30,24,18,12,5,63,55,48,27,60,41,37,16,46,35,44,21,52,32,23,11,54,26,40,15,34,20,31,10,25,14,19,9,13,8,7,6]
theorem zqG:∀k,k<64->(2 ^ k*285870213051353865%18446744073709551616)/2 ^ 58<64/\ziJ.getD ((2 ^ k*285870213051353865%18446744073709551616)/2 ^ 58) 0=k:=by decide
def zaY(w:World):Prop:=∀i,i<64->w.cell? ⟨0,i,none⟩=some (.int .u8 (ziJ.getD i 0:Int))
theorem zg5(x y:Nat)(hx:x<18446744073709551616)(hy:y<18446744073709551616):bits BinOp.and IntKind.u64 (x:Int) (y:Int)=((x &&& y:Nat):Int):=by
 have h1:(BitVec.ofInt 64 (x:Int) &&& BitVec.ofInt 64 (y:Int)).toNat=x &&& y:=by
  rw[BitVec.ofInt_natCast,BitVec.ofInt_natCast,BitVec.toNat_and,BitVec.toNat_ofNat,BitVec.toNat_ofNat,zsf (by omega),zsf (by omega)]
 have h2:x &&& y<=x:=Nat.and_le_left;show IntKind.u64.wrap ((BitVec.ofInt 64 (x:Int) &&& BitVec.ofInt 64 (y:Int)).toNat:Int)=_;rw[h1];simp[IntKind.wrap,IntKind.bits,IntKind.signed];omega
theorem zq3(x k t:Nat)(w:World)(hx:Hid (x=2 ^ k*(2*t+1)))(hl:x<18446744073709551616)(h0:0<x)(hk:k<64)(hB:Hid (zaY w)):
  Calls Tryz.prog 109 #[.int .u64 x] w fun e w'=>e=.returned (.int .i64 k)/\w'=w:=by
 have b0:((x:Int)==0)=false:=by simp;omega
 have hn:IntKind.u64.wrap (-(x:Int))=((18446744073709551616-x:Nat):Int):=by
  simp[IntKind.wrap,IntKind.bits,IntKind.signed];omega
 have ha:bits BinOp.and IntKind.u64 (x:Int) (IntKind.u64.wrap (-(x:Int)))=((2 ^ k:Nat):Int):=by
  rw[hn,zg5 _ _ hl (by omega)];have h:=zqe hx.out (show x<2 ^ 64 by omega);rw[show (2:Nat) ^ 64=18446744073709551616 by decide] at h;rw[h]
 obtain⟨hi,ht⟩:=zqG k hk;have hE:IntKind.u64.wrap (bits BinOp.and IntKind.u64 (x:Int) (IntKind.u64.wrap (-(x:Int)))*285870213051353865)/288230376151711744=(((2 ^ k*285870213051353865%18446744073709551616)/2 ^ 58:Nat):Int):=by
  rw[ha,show ((2 ^ k:Nat):Int)*285870213051353865=((2 ^ k*285870213051353865:Nat):Int) by simp,zhM];generalize 2 ^ k*285870213051353865%18446744073709551616=y;omega
 have c0:w.cell? ⟨0,(IntKind.u64.wrap (bits BinOp.and IntKind.u64 (x:Int) (IntKind.u64.wrap (-(x:Int)))*285870213051353865)/288230376151711744).toNat,none⟩=some (.int .u8 (k:Int)):=by rw[hE,zri,hB.out _ hi,ht]
 have q0:0<=IntKind.u64.wrap (bits BinOp.and IntKind.u64 (x:Int) (IntKind.u64.wrap (-(x:Int)))*285870213051353865)/288230376151711744:=by rw[hE];omega
 have q1:IntKind.u64.wrap (bits BinOp.and IntKind.u64 (x:Int) (IntKind.u64.wrap (-(x:Int)))*285870213051353865)/288230376151711744<64:=by rw[hE];omega
 clear hn ha ht hx hl h0 hB hi hE
 go_enter Tryz.func109,Tryz.ntmps109
 go_wp2;go_ret;exact⟨rfl,rfl⟩
theorem zdH(nw g cap:Nat)(T:Nat->Nat)(p:Nat)(w:World)(hg:w.heap[g]?=some (.cells (zca nw T) 185 (0,0)))(hp:p<64*nw)(hnw:nw<=1000)(hT:Hid (∀i,T i<18446744073709551616)):
  Calls Tryz.prog 91 #[.slice (some ⟨g,0,none⟩) nw cap,.int .i64 p] w fun e w'=>e=.returned (.tuple #[])/\w'.heap[g]?=some (.cells (zca nw (addT T p)) 185 (0,0))/\w.grownBy w' (some g):=by
 have d0:w.cell? ⟨g,p/64,none⟩=some (.int .u64 (T (p/64):Int)):=by rw[zsm _ _ _ _ _ _ hg,zei _ _ (by omega)]
 have f0:=zso _ _ (p/64) _ _ hg;have t0:=hT.out (p/64);have e1:(p:Int)/64=((p/64:Nat):Int):=by omega
 have e2:(p:Int)%64=((p%64:Nat):Int):=by omega
 have l1:p/64<nw:=by omega
 have l2:p%64<64:=by omega
 have HN:Hid (((w.setCell ⟨g,p/64,none⟩ (.int .u64 ((T (p/64) ||| 2 ^ (p%64):Nat):Int))).heap[g]?=some (.cells (zca nw (addT T p)) 185 (0,0)))):=by
  have:=zsr w g (p/64) _ _ (.int .u64 ((T (p/64) ||| 2 ^ (p%64):Nat):Int)) hg;rw[ziO] at this;exact this
 generalize addT T p=T' at *;generalize T (p/64)=a at *;generalize hq:p/64=q at *;generalize hr:p%64=r at *;have i1:(q:Int)<nw:=by omega
 have i3:(0:Int)<=(q:Int):=by omega
 have hv:bits BinOp.or IntKind.u64 (a:Int) (IntKind.u64.wrap (2 ^ r))=((a ||| 2 ^ r:Nat):Int):=by
  have h2:2 ^ r<18446744073709551616:=Nat.pow_lt_pow_right (a:=2) (n:=64) (by omega) l2;rw[show (2:Int) ^ r=((2 ^ r:Nat):Int) by simp,zhM,zsf h2,zpF _ _ t0 h2]
 rw[<-hv] at HN;clear hv hq hr hg hT t0
 go_enter Tryz.func91,Tryz.ntmps91
 go_wp2
 go_region
 all_goals
  go_wp2
  go_end0
  exact⟨rfl,HN.out,zgo _ _ _ _⟩
end Go.Proofs.YthdljcdbfmhleaaGreatDoor
