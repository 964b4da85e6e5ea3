import Derived.Test.YtdimhpfiieepiaaGreatDoorC18
import Derived.MapKept
import Derived.Laws.StructEq
import Derived.Laws.Small
import Derived.Shelf.Lay
import Derived.Shelf.Strconv.Itoa0
namespace Go.Proofs
open Go.Shelf
shelf_lay Lays.n129 Nm 129 at Tryz as Tryz.lays129
end Go.Proofs
namespace Go.Proofs.YtdimhpfiieepiaaGreatDoor
open Proofs.Tryz
open Option renaming some->za,none->zb
open Value renaming int->zc,slice->ze,pointer->zi
open Go renaming World->zd,Value->zg,Calls->zh,TypeId->zj
open Obj renaming cells->zf
set_option maxHeartbeats 4000000
set_option maxRecDepth 100000
open Go.RowKit
section
attribute [local go_sem ↓] wp_at_zero wp_at_succ
section
variable {P:Program}
def xY{κ:Type}(enc:κ->zg)(ks:List κ):List MapEntry:=ks.zipIdx.map λx=>{key:=enc x.1,val:=zc .i64 (x.2:Int),born:=x.2}
def my{κ:Type}(enc:κ->zg)(ks:List κ):Array MapEntry:=(xY enc ks).toArray
theorem zp4{κ:Type}(enc:κ->zg)(ks:List κ)(k:κ):xY enc (ks++[k])=xY enc ks++[{key:=enc k,val:=zc .i64 (ks.length:Int),born:=ks.length}]:=by simp[xY,List.zipIdx_append]
theorem zp2{κ:Type}(enc:κ->zg)(ks:List κ)(k:κ):(my enc ks).push {key:=enc k,val:=zc .i64 (ks.length:Int),born:=ks.length}=my enc (ks++[k]):=by
 unfold my;rw[zp4];simp
theorem zp3{κ:Type}(enc:κ->zg)(ks:List κ):(my enc ks).size=ks.length:=by simp[my,xY]
def dW{κ:Type} [DecidableEq κ] (ks:List κ)(k:κ):Nat:=ks.findIdx λx=>decide (k=x)
def JM{κ:Type} [DecidableEq κ] (ks:List κ)(k:κ):Option (Nat×zg):=if dW ks k<ks.length then za (dW ks k,zc .i64 (dW ks k:Int)) else zb
theorem DK{κ:Type} [DecidableEq κ] {ks:List κ}{k:κ}:dW ks k<ks.length↔k∈ks:=by
 unfold dW;rw[List.findIdx_lt_length];exact⟨λ⟨x,h1,h2⟩=>(of_decide_eq_true h2) ▸ h1,λh=>⟨k,h,by simp⟩⟩
theorem zs6{κ:Type} [DecidableEq κ] (ks:List κ)(k:κ):dW ks k<=ks.length:=List.findIdx_le_length
theorem zq8{κ:Type} [DecidableEq κ] {ks:List κ}{k:κ}(h:k∈ks):ks[dW ks k]?=za k:=by
 have hl:=DK.2 h;rw[dh hl];have:=List.findIdx_getElem (w:=hl);exact congrArg za (of_decide_eq_true this).symm
theorem zr5{mt kt et:zj}{κ:Type} [DecidableEq κ] (enc:κ->zg)(w:zd)(hm:P.underlying mt=za (.map kt et))(hc:∀(e:Bool) (k:κ),(Instr.checkKey e 10000 kt (enc k)).run P w=.ok () w)(hf:∀(ks:List κ) (k:κ),(Instr.findKey kt (enc k) (xY enc ks)).run P w=.ok (JM ks k) w)(hz:(zeroValue et).run P w=.ok (zc .i64 0) w)(r:Nat)(ks:List κ)(k:κ)(hg:w.heap[r]?=za (.map (my enc ks) ks.length)):
  (Instr.lookup mt (.map (za r)) (enc k) true).run P w=.ok (.tuple #[zc .i64 (if k∈ks then (dW ks k:Int) else 0),.bool (decide (k∈ks))]) w:=by
 unfold Instr.lookup;simp only[Sem.run_bind,run_underlying hm,Result.andThen_ok,MapKept.run_getObj_map hg,Sem.run_pure,hc];rw[show (my enc ks).toList=xY enc ks by simp[my],hf];unfold JM
 by_cases h:k∈ks
 ·rw[aC (DK.2 h)];simp[h]
 ·rw[ak (λe=>h (DK.1 e))];simp[h,hz]
theorem ztr{mt kt et:zj}{κ:Type} [DecidableEq κ] (enc:κ->zg)(w:zd)(hm:P.underlying mt=za (.map kt et))(hc:∀(e:Bool) (k:κ),(Instr.checkKey e 10000 kt (enc k)).run P w=.ok () w)(hf:∀(ks:List κ) (k:κ),(Instr.findKey kt (enc k) (xY enc ks)).run P w=.ok (JM ks k) w)(r:Nat)(ks:List κ)(k:κ)(hk:k∉ks)(hg:w.heap[r]?=za (.map (my enc ks) ks.length)):
  (Instr.mapUpdate mt (.map (za r)) (enc k) (zc .i64 (ks.length:Int))).run P w=.ok () {w with heap:=w.heap.setIfInBounds r (.map (my enc (ks++[k])) (ks++[k]).length)}:=by
 unfold Instr.mapUpdate;simp only[Sem.run_bind,run_underlying hm,Result.andThen_ok,MapKept.run_getObj_map hg,hc];rw[show (my enc ks).toList=xY enc ks by simp[my],hf];unfold JM;rw[ak (λe=>hk (DK.1 e))];simp only[Result.andThen_ok,MapKept.run_setObj_map _ hg,zp2];simp
end
def Cy{κ:Type} [DecidableEq κ] (ks:List κ)(k:κ):List κ:=if k∈ks then ks else ks++[k]
theorem zmg{κ:Type} [DecidableEq κ] {ks:List κ}{k:κ}(h:k∉ks):dW ks k=ks.length:=by
 have:=zs6 ks k;have:¬dW ks k<ks.length:=λe=>h (DK.1 e)
 omega
def SK{κ:Type} [DecidableEq κ] (enc:κ->zg)(w:zd)(r:Nat)(ks:List κ)(k:κ)(e:Ending)(w':zd):Prop:=
 e=.returned (.tuple #[zc .i64 (dW ks k:Int),.bool (decide (k∉ks))])/\w'.heap[r]?=za (.map (my enc (Cy ks k)) (Cy ks k).length)/\w.grownBy w' (za r)
theorem Tryz.zAP(w:zd):(zeroValue 3).run prog w=.ok (zc .i64 0) w:=by
 simp[zeroValue,typeInfo]
 kernel_rfl
theorem zsD(k:ByteArray):∀(ks:List ByteArray) (i:Nat),Instr.findNow .string (.string k) ((ks.zipIdx i).map λx=>{key:=.string x.1,val:=zc .i64 (x.2:Int),born:=x.2}) i=za (if dW ks k<ks.length then za (i+dW ks k,zc .i64 ((i+dW ks k:Nat):Int)) else zb)
 |[],i=>by simp[Instr.findNow,dW]
 |x::ks,i=>by
  rw[List.zipIdx_cons,wU];unfold Instr.findNow
  by_cases e:k=x
  ·subst e;have h0:dW (k::ks) k=0:=by simp[dW,List.findIdx_cons]
   have hb:(k==k)=true:=(MapKept.bytes_beq _ _).2 rfl;rw[h0];simp[Instr.sameNow,hb]
  ·have h1:dW (x::ks) k=dW ks k+1:=by simp[dW,List.findIdx_cons,e]
   have hb:(k==x)=false:=by
    cases h:(k==x)
    ·rfl
    ·exact absurd ((MapKept.bytes_beq _ _).1 h) e
   have ih:=zsD k ks (i+1);rw[h1];simp only[Instr.sameNow,hb];rw[ih];simp only[qu,Nat.add_lt_add_iff_right];rw[show i+1+dW ks k=i+(dW ks k+1) by omega]
theorem zoY{P:Program}{kt:zj}(w:zd)(hu:P.underlying kt=za .string)(ks:List ByteArray)(k:ByteArray):(Instr.findKey kt (.string k) (xY Value.string ks)).run P w=.ok (JM ks k) w:=by
 refine MapKept.run_findKey hu ?_;have:=zsD k ks 0;simp only[jw]at this;exact this
theorem zhW(r:Nat)(ks:List ByteArray)(k:ByteArray)(w:zd)(hg:w.heap[r]?=za (.map (my Value.string ks) ks.length)):
  zh prog 193 #[.map (za r),.string k] w (SK Value.string w r ks k):=by
 have hm:=underlying231;have hc:∀(e:Bool) (k:ByteArray),(Instr.checkKey e 10000 9 (.string k)).run prog w=.ok () w:=λe k=>MapKept.run_checkKey underlying9 (by simp[MapKept.IsKey]) e 9999
 have hf:∀(ks:List ByteArray) (k:ByteArray),(Instr.findKey 9 (.string k) (xY Value.string ks)).run prog w=.ok (JM ks k) w:=λks k=>zoY w underlying9 ks k
 have hl:=zr5 Value.string w hm hc hf (Tryz.zAP w) r ks k hg;have hr:=JK hg;have n8:=zp3 Value.string ks
 by_cases hk:k∈ks
 ·simp only[hk,if_true,decide_true]at hl;have HN:Hid (SK Value.string w r ks k (.returned (.tuple #[zc .i64 (dW ks k:Int),.bool false])) w):=⟨by simp[hk],by unfold Cy;rw[aC hk];exact hg,World.grownBy.refl _ _⟩;have jm:=DK.2 hk;generalize dW ks k=ix at *;clear hc hf hm n8
  go_enter func193,ntmps193
  go_wp2;refine bh (v:=.tuple #[zc .i64 (ix:Int),.bool false]) (by simp[results,results193,go_sem]) rfl HN.out
 ·simp only[hk,if_false,decide_false]at hl;have hp:=ztr Value.string w hm hc hf r ks k hk hg;obtain⟨W1,cm⟩:∃W1,{w with heap:=w.heap.setIfInBounds r (.map (my Value.string (ks++[k])) (ks++[k]).length)}=W1:=⟨_,rfl⟩;have dH:W1.heap=w.heap.setIfInBounds r (.map (my Value.string (ks++[k])) (ks++[k]).length):=by rw[<-cm]
  have HN:Hid (SK Value.string w r ks k (.returned (.tuple #[zc .i64 (ks.length:Int),.bool true])) W1):=by
   refine⟨by rw[zmg hk];simp[hk],?_,?_⟩
   ·unfold Cy;rw[ak hk,dH];exact(MapKept.heap_set hg).1
   ·refine⟨by rw[<-cm],by rw[<-cm],by rw[<-cm],by rw[dH];simp,λb _ hne=>?_⟩;rw[dH,(MapKept.heap_set hg).2 b (λe=>hne (by rw[e]))]
  rw[cm]at hp;have hlen:∀ty,(Builtin.len_ #[231] ty #[.map (za r)]).run prog w=.ok (zc .i64 (ks.length:Int)) w:=λty=>by
   simp[Builtin.len_,run_underlying hm,MapKept.run_getObj_map hg,goInt,Result.andThen,n8]
  clear hc hf hm n8 cm dH
  go_enter func193,ntmps193
  go_wp2;refine bh (v:=.tuple #[zc .i64 (ks.length:Int),.bool true]) (by simp[results,results193,go_sem]) rfl HN.out
theorem zrp(x:Nat)(w:zd)(hx:x<18446744073709551616):
  zh prog 192 #[.int .u64 x] w λe w'=>e=.returned (zc .i64 (Lib.bitLen x))/\w'=w:=by
 have:=Any.bits_Len64 lays129 (x:Int) w (by omega) (by omega);rw[sM]at this;exact this
theorem zsS(a r:Nat):((a/2 ^ r) &&& 1=1)↔a.testBit r=true:=by
 rw[Nat.and_one_is_mod,Nat.testBit_eq_decide_div_mod_eq];simp
theorem QY(nw g cap:Nat)(T:Nat->Nat)(p:Nat)(w:zd)(h:aH w nw g T)(hp:p<64*nw)(bY:nw<=1000):
  zh prog 145 #[ze (za ⟨g,0,zb⟩) nw cap,zc .i64 p] w λe w'=>e=.returned (.bool (au T p))/\w'=w:=by
 have d0:w.cell? ⟨g,p/64,zb⟩=za (.int .u64 (T (p/64):Int)):=h.cell (by omega);have t0:=h.lt (p/64);have e1:(p:Int)/64=((p/64:Nat):Int):=by omega
 have e2:(p:Int)%64=((p%64:Nat):Int):=by omega
 have l1:p/64<nw:=by omega
 have l2:p%64<64:=by omega
 have Hb:Hid (au T p=(T (p/64)).testBit (p%64)):=rfl;generalize au T p=bb at *;generalize T (p/64)=a at *;generalize p/64=q at *;generalize p%64=r at *;have i1:(q:Int)<nw:=by omega
 have i3:(0:Int)<=(q:Int):=by omega
 go_enter func145,ntmps145
 go_wp2;go_ret;refine⟨bz ?_,rfl⟩;rw[Hb.out,show (a:Int)/2 ^ r=((a/2 ^ r:Nat):Int) by simp];have h1:a/2 ^ r<18446744073709551616:=Nat.lt_of_le_of_lt (Nat.div_le_self _ _) t0;have h2:=Rb (a/2 ^ r) 1 h1 (by omega);have h3:bits BinOp.and IntKind.u64 ((a/2 ^ r:Nat):Int) 1=((a/2 ^ r &&& 1:Nat):Int):=h2;rw[h3];have h4:=zsS a r;cases ht:a.testBit r
 ·rw[ht]at h4;have:¬(a/2 ^ r &&& 1=1):=λh=>by simpa using h4.1 h
  rw[eB];intro h;apply this;omega
 ·rw[ht]at h4;rw[h4.2 rfl]
  rfl
def ztI(nw:Nat)(T:Nat->Nat)(v:Int):Prop:=(v=-1/\∀p,p<64*nw->au T p=false)\/∃p:Nat,v=p/\p<64*nw/\au T p=true/\∀q,q<p->au T q=false
theorem XE(nw g cap:Nat)(T:Nat->Nat)(w:zd)(h:aH w nw g T)(bY:nw<=1000)(hB:fS w):
  zh prog 127 #[ze (za ⟨g,0,zb⟩) nw cap] w λe w'=>∃v:Int,e=.returned (zc .i64 v)/\ztI nw T v/\w'=w:=by
 go_enter func127,ntmps127
 go_wp2
 go_loopw [7] (λi wr=>∃k:Nat,k<=nw/\i=zc .i64 k/\wr=w/\Hid (∀j,j<k->T j=0)) (λi _=>nw-(intOf i).toNat)
 case atStart=>exact⟨0,aR _,rfl,rfl,λj hj=>by omega⟩
 case round=>
  obtain⟨k,hk,rfl,rfl,Hz⟩:=hrel
  by_cases hlt:k<nw
  ·have c0:=h.cell hlt;have cO:(k:Int)<(nw:Int):=by omega
   have da:(0:Int)<=(k:Int):=by omega
   have t0:=h.lt k;have Hl:Hid (∀q,q<64*k->au T q=false):=λq hq=>by
    unfold au;rw[Hz.out (q/64) (by omega)];simp
   by_cases hz:T k=0
   ·rw[hz]at c0;go_wp2
    go_roundw
    case rel=>exact⟨k+1,by omega,by go_num,by first|trivial|rfl,λj hj=>by
     rcases ig j k with a|a
     ·exact Hz.out j a
     ·obtain rfl:j=k:=by omega
      exact hz⟩
    case measure=>simp[intOf];omega
   ·obtain⟨e,s,hx⟩:=X6 (T k) (T k) (aj _) (by omega);have he:e<64:=by
     rcases ig e 64 with a|a
     ·exact a
     ·have h1:2 ^ 64<=2 ^ e:=Nat.pow_le_pow_right (by omega) a;have h2:2 ^ e<=T k:=by rw[hx];exact Nat.le_mul_of_pos_right _ (by omega)
      omega
    have pi:=NG e s;have Hb:Hid (au T (k*64+e)=true/\∀q,q<k*64+e->au T q=false):=by
     refine⟨?_,λq hq=>?_⟩
     ·unfold au;rw[show (k*64+e)/64=k by omega,show (k*64+e)%64=e by omega,hx];exact pi.bit
     ·rcases ig q (64*k) with a|a
      ·exact Hl.out q a
      ·unfold au;rw[show q/64=k by omega,hx];exact pi.low _ (by omega)
    have hne:((T k:Int)==0)=false:=by simp;omega
    have Hx:Hid (T k=2 ^ e*(2*s+1)):=hx;have gz:0<T k:=by omega
    have HB:Hid (fS wr):=hB;clear hx pi;generalize T k=x at *
    go_wp2_with (go_at_call 148;refine(zuf x e s _ Hx t0 gz he HB).mono ?_;rintro e1 w1 ⟨rfl,rfl⟩)
    go_ret
    exact⟨_,rfl,.inr ⟨k*64+e,by omega,by omega,Hb.out.1,Hb.out.2⟩,rfl⟩
  ·obtain rfl:k=nw:=by omega
   go_wp2;go_ret;refine⟨-1,rfl,.inl ⟨rfl,λp hp=>?_⟩,rfl⟩;unfold au;rw[Hz.out (p/64) (by omega)];simp
end
variable {nw:Nat}{T:Nat -> Nat}
attribute [local go_sem] Oper.semAt_some
def vw(nw m:Nat):List Nat:=(List.range m).map λi=>nw-1-i
theorem Xs(nw m:Nat):vw nw (m+1)=vw nw m++[nw-1-m]:=by simp[vw,List.range_succ]
abbrev oL(nw:Nat):={k:Nat // k<nw}
def wK{nw:Nat}(l:List (oL nw)):List Nat:=l.map Subtype.val
theorem QM(l:List (oL nw))(x:oL nw):wK (l++[x])=wK l++[x.1]:=by simp[wK]
def OP{nw:Nat}(T:Nat->Nat)(k:oL nw):Array zg:=#[zc .i64 (k.1:Int),.int .u64 (T k.1:Int)]
theorem zqJ(n l nw g cap bx:Nat)(T:Nat->Nat)(hn:1<=n)(bY:nw<=1000)(J Jx:List (oL nw)->zd->Prop)(W:zd)
  (hY:∀pre x W1,J pre W1->pre.length<nw->YieldAt Fence.wide (n-1) prog l (OP T x) W1 λe W'=>
   (e=.returned (.bool true)/\J (pre++[x]) W'/\∀k∈[bx,g],W'.heap[k]?=W1.heap[k]?)\/(e=.returned (.bool false)/\Jx (pre++[x]) W'))
  (hb:W.heap[bx]?=za (zf #[ze (za ⟨g,0,zb⟩) nw cap] 193 (0,0))) (hT:aH W nw g T) (h0:J [] W):
  CallsIn Fence.wide n prog 191 #[.func (.yield l) #[] #[],zi (za ⟨bx,0,zb⟩)] W λe W'=>(∃v,e=.returned v)/\
   ((∃ys,wK ys=vw nw nw/\J ys W')\/(∃pre,(∃m,m<nw/\wK pre=vw nw (m+1))/\Jx pre W')):=by
 refine callsIn_of_wp func191 rfl trivial ?_ rfl;simp only[ntmps191,yE,qu,oJ,Nat.reduceAdd,Nat.reduceSub,B4,B5,B9,BW,wX,BX];have c0:W.cell? ⟨bx,0,zb⟩=za (ze (za ⟨g,0,zb⟩) nw cap):=(aM _ _ _ _ _ _ hb:W.cell? ⟨bx,0,zb⟩=_)
 gi_wp2
 clear c0
 gi_loopw [3] (λi wr=>∃(m:Nat) (pre:List (oL nw)),Hid (wK pre=vw nw m)/\m<=nw/\i=zc .i64 ((nw:Int)-1-m)/\J pre wr/\wr.heap[bx]?=za (zf #[ze (za ⟨g,0,zb⟩) nw cap] 193 (0,0))/\aH wr nw g T)
  (λi _=>(intOf i+1).toNat)
 case atStart=>exact⟨0,[],rfl,aR _,by simp,h0,hb,hT⟩
 case round=>
  clear hb hT h0;obtain⟨m,pre,Hp,hm,rfl,hJ,hb,hT⟩:=hrel
  by_cases hlt:m<nw
  case neg=>
   obtain rfl:m=nw:=by omega
   have hd:¬(0:Int)<=(m:Int)-1-(m:Int):=by omega
   have pU:decide ((0:Int)<=(m:Int)-1-(m:Int))=false:=by simp;omega
   gi_wp2
   go_end0
   exact⟨⟨_,rfl⟩,.inl ⟨pre,Hp.out,hJ⟩⟩
  have c0:wr.cell? ⟨bx,0,zb⟩=za (ze (za ⟨g,0,zb⟩) nw cap):=(aM _ _ _ _ _ _ hb:wr.cell? ⟨bx,0,zb⟩=_);obtain⟨k,hk⟩:∃k:Nat,(nw:Int)-1-m=k:=⟨nw-1-m,by omega⟩;have jY:k<nw:=by omega
  have c1:=hT.cell jY;have da:(0:Int)<=(k:Int):=by omega
  have cO:(k:Int)<(nw:Int):=by omega
  obtain⟨fn,tmps,assign,body,hy,hR⟩:=hY pre ⟨k,jY⟩ wr hJ (by have:=congrArg List.length Hp.out;simp[vw,wK]at this;omega);have Hk:Hid ((nw:Int)-1-m=k):=hk;rw[hk];unfold OP at hy;clear hY hk
  gi_wp2
  refine hR.mono ?_;rintro e W3 (⟨rfl,K1,rS⟩|⟨rfl,K4⟩)
  ·have lW:aH W3 nw g T:=⟨(rS g (by simp)).trans hT.row,hT.lt⟩;have aG:=(rS bx (by simp)).trans hb
   gi_wp2
   go_roundw
   case rel=>exact⟨m+1,pre++[⟨k,jY⟩],by show _=_;rw[QM,Hp.out,Xs,show nw-1-m=k by have:=Hk.out;omega],by omega,by congr 1;have:=Hk.out;omega,K1,aG,lW⟩
   case measure=>first|(simp[intOf];done)|(simp[intOf];omega)
  ·gi_wp2
   refine bh (results_none rfl _ _ _) rfl ?_;exact⟨⟨_,rfl⟩,.inr ⟨_,⟨m,hlt,by rw[QM,Hp.out,Xs,show nw-1-m=k by have:=Hk.out;omega]⟩,K4⟩⟩
theorem zm4(n nw g cap bx:Nat)(T:Nat->Nat)(hn:1<=n)(bY:nw<=1000)(w:zd)(hb:w.heap[bx]?=za (zf #[ze (za ⟨g,0,zb⟩) nw cap] 193 (0,0)))(hT:aH w nw g T):
  SS n prog 191 #[] #[zi (za ⟨bx,0,zb⟩)] (OP (nw:=nw) T) [bx,g] (λys:List (oL nw)=>wK ys=vw nw nw) (λpre:List (oL nw)=>∃m,m<nw/\wK pre=vw nw (m+1)) nw w:=
 λl J Jx W hW hY h0=>zqJ n l nw g cap bx T hn bY J Jx W hY ((hW bx (by simp)).trans hb) ⟨(hW g (by simp)).trans hT.row,hT.lt⟩ h0
theorem zqL(g nw cap:Nat)(w:zd):
  zh prog 166 #[ze (za ⟨g,0,zb⟩) nw cap] w λe w'=>e=.returned (.func (.func 191) #[] #[zi (za ⟨w.heap.size,0,zb⟩)])/\w'=w.alloc (zf #[ze (za ⟨g,0,zb⟩) nw cap] 193):=by
 go_enter func166,ntmps166
 go_wp2;go_ret;exact⟨rfl,rfl⟩
theorem zte(x:Nat)(w:zd)(hx:x<18446744073709551616):
  zh prog 167 #[.int .u64 x] w λe w'=>e=.returned (zc .i64 (64-(Lib.bitLen x:Int)))/\w'=w:=by
 have hl:Lib.bitLen x<=64:=Lib.bitLen_le x 64 (aj _) hx
 go_enter func167,ntmps167
 go_wp2_with (go_at_call 192;refine(zrp x _ hx).mono ?_;rintro e w1 ⟨rfl,rfl⟩)
 go_ret
 exact⟨rfl,rfl⟩
theorem zhF:∀(n x:Nat),x<=n->x≠0->x<2 ^ 64->∃k,Lib.bitLen x=k+1/\x.testBit k=true/\∀j,k<j->x.testBit j=false
 |0,x,h,h0,_=>by omega
 |n+1,x,h,h0,hx=>by
  by_cases h1:x=1
  ·subst h1;refine⟨0,by decide,by decide,λj hj=>?_⟩;obtain⟨i,rfl⟩:∃i,j=i+1:=⟨j-1,by omega⟩;rw[Nat.testBit_succ];simp
  ·obtain⟨k,e,a,b⟩:=zhF n (x/2) (by omega) (by omega) (by omega);refine⟨k+1,by rw[Lib.bitLen_half x h0 hx,e];omega,by rw[Nat.testBit_succ];exact a,λj hj=>?_⟩;obtain⟨i,rfl⟩:∃i,j=i+1:=⟨j-1,by omega⟩;rw[Nat.testBit_succ];exact b i (by omega)
def Rk(nw:Nat)(T:Nat->Nat)(v:Int):Prop:=(v=-1/\∀p,p<64*nw->au T p=false)\/∃p:Nat,v=p/\p<64*nw/\au T p=true/\∀q,p<q->q<64*nw->au T q=false
theorem zq4{m:Nat}(hm:m<nw)(hz:∀k∈vw nw m,T k=0)(hl:∀i,T i<18446744073709551616)(h0:T (nw-1-m)≠0):Rk nw T (((nw-1-m:Nat):Int)*64+63-(64-(Lib.bitLen (T (nw-1-m)):Int))):=by
 obtain⟨k,e,a,b⟩:=zhF _ _ (aj _) h0 (hl (nw-1-m));have hk:k<64:=by
  rcases ig k 64 with h|h
  ·exact h
  ·rw[Nat.testBit_lt_two_pow (bA (hl (nw-1-m)) (show 2 ^ 64<=2 ^ k from Nat.pow_le_pow_right (by decide) h))]at a;cases a
 refine .inr ⟨(nw-1-m)*64+k,by rw[e];omega,by omega,?_,λq hq mS=>?_⟩
 ·unfold au;rw[show ((nw-1-m)*64+k)/64=nw-1-m by omega,show ((nw-1-m)*64+k)%64=k by omega];exact a
 ·unfold au;rcases ig (nw-1-m) (q/64) with h|h
  ·have:T (q/64)=0:=hz _ (by
    unfold vw;exact rh.2 ⟨nw-1-q/64,Ab.2 (by omega),by omega⟩)
   rw[this];simp
  ·have:q/64=nw-1-m:=by omega
   rw[this];exact b _ (by omega)
theorem znt(hz:∀k∈vw nw nw,T k=0):Rk nw T (-1):=
 .inl ⟨rfl,λp hp=>by
  unfold au;rw[hz (p/64) (by
   unfold vw;exact rh.2 ⟨nw-1-p/64,Ab.2 (by omega),by omega⟩)]
  simp⟩
theorem WV(nw g cap:Nat)(T:Nat->Nat)(w:zd)(h:aH w nw g T)(bY:nw<=1000):
  zh prog 144 #[ze (za ⟨g,0,zb⟩) nw cap] w λe w'=>∃v:Int,e=.returned (zc .i64 v)/\Rk nw T v/\Below w.heap.size w w':=by
 refine(callsIn_wide (n:=5)).1 ?_;refine callsIn_of_wp_marks func144 rfl trivial ?_ rfl;simp only[ntmps144,yE,qu,oJ,Nat.reduceAdd,Nat.reduceSub,B4,B5,B9,BW,wX,BX]
 gi_wp2_with (refine⟨trivial,?_⟩;gi_at_call 166;refine(callsIn_wide.2 (zqL g nw cap _)).mono ?_;rintro e w1 ⟨rfl,rfl⟩)
 obtain⟨W0,ai⟩:∃W0,(w.alloc (zf #[zc .i64 0] 3)).alloc (zf #[ze (za ⟨g,0,zb⟩) nw cap] 193)=W0:=⟨_,rfl⟩;have af:Below w.heap.size w W0:=by rw[<-ai];exact(aw).alloc (by simp) _
 have x0:W0.heap[w.heap.size]?=za (zf #[zc .i64 0] 3 (0,0)):=by rw[<-ai];exact cX (aI _ _)
 have x1:W0.heap[w.heap.size+1]?=za (zf #[ze (za ⟨g,0,zb⟩) nw cap] 193 (0,0)):=by
  rw[<-ai];have:=aI (w.alloc (zf #[zc .i64 0] 3)) (zf #[ze (za ⟨g,0,zb⟩) nw cap] 193)
  simpa using this
 have yg:aH W0 nw g T:=h.below af;have fD:=h.cB;have dH:w.heap.size+1<W0.heap.size:=(ah.1 x1).1;rw[ai];clear ai;refine Jo (by omega) (gf:=191) (fb:=#[]) (lb:=#[zi (za ⟨w.heap.size+1,0,zb⟩)]) rfl (enters_of func191 (by kernel_rfl) rfl)
  (T:=[w.heap.size+1,g]) (by intro k hk;simp at hk;omega)
  (zm4 4 nw g cap (w.heap.size+1) T (by omega) bY W0 x1 yg) (λ_=>rfl)
  (λpre W=>(∀k∈wK pre,T k=0)/\ap (λk=>k=w.heap.size) W0 W/\W.heap[w.heap.size]?=za (zf #[zc .i64 0] 3 (0,0)))
  (λc pre W=>c=.ret/\∃(zx2:List (oL nw)) (x:oL nw),pre=zx2++[x]/\(∀k∈wK zx2,T k=0)/\T x.1≠0/\ap (λk=>k=w.heap.size) W0 W/\W.heap[w.heap.size]?=za (zf #[zc .i64 ((x.1:Int)*64+63-(64-(Lib.bitLen (T x.1):Int)))] 3 (0,0)))
  (λs A B hs ht=>⟨hs.1,hs.2.1.turn ht,ht.same _ _ hs.2.2 (.inr rfl)⟩)
  (λc s A B hs ht=>by
   obtain⟨h1,p,x,h2,h3,h4,h5,h6⟩:=hs;exact⟨h1,p,x,h2,h3,h4,h5.turn ht,ht.same _ _ h6 (.inr rfl)⟩)
  ⟨λk hk=>by simp[wK]at hk,ap.refl _ _,x0⟩
  (λx=>{tmps:=#[ze (za ⟨g,0,zb⟩) nw cap,undef,zi (za ⟨w.heap.size,0,zb⟩),zc .i64 (x.1:Int),.int .u64 (T x.1:Int),ze (za ⟨g,0,zb⟩) nw cap,.func (.func 191) #[] #[zi (za ⟨w.heap.size+1,0,zb⟩)],zc .i64 (x.1:Int),.int .u64 (T x.1:Int),undef,undef,undef,undef,undef,undef,undef,undef],defers:=[]})
  ?assign ?body ?done ?stop
 case assign=>
  intro l x W K hK;unfold OP
  gi_wp2
  exact hK
 case stop=>
  rintro D c pre W hD ⟨m,hm,zxt⟩ ⟨rfl,p,x,rfl,h3,h4,h5,h6⟩ hK;rw[QM,Xs]at zxt;obtain⟨e1,e2⟩:=List.append_inj' zxt rfl;have ex:x.1=nw-1-m:=by simpa using e2
  have c0:W.cell? ⟨w.heap.size,0,zb⟩=za (zc .i64 ((x.1:Int)*64+63-(64-(Lib.bitLen (T x.1):Int)))):=(aM _ _ _ _ _ _ h6:W.cell? ⟨w.heap.size,0,zb⟩=_);have c1:(W.putObj D (.deferred zb)).cell? ⟨w.heap.size,0,zb⟩=za (zc .i64 ((x.1:Int)*64+63-(64-(Lib.bitLen (T x.1):Int)))):=(show (W.putObj D (.deferred zb)).cell? ⟨w.heap.size,0,zb⟩=W.cell? ⟨w.heap.size,0,zb⟩from World.cell?_of_block (World.putObj_heap_other (by show w.heap.size≠D;omega))).trans c0;have qd:=h5.grown (grownBy_putObj' W D (.deferred zb)) (λg e=>.inr (by cases e;omega));have cJ:Rk nw T ((x.1:Int)*64+63-(64-(Lib.bitLen (T x.1):Int))):=by
   have:=zq4 hm (λk hk=>h3 k (by rw[e1];exact hk)) h.lt (by rw[<-ex];exact h4);rw[<-ex]at this;exact this
  generalize (x.1:Int)*64+63-(64-(Lib.bitLen (T x.1):Int))=v at *
  gi_wp2
  refine⟨by simp,.inl ⟨_,_,rfl,run_takeDeferred hK,?_⟩⟩;refine⟨zc .i64 v,by simp[results,results144,go_sem,c1],v,rfl,cJ,?_⟩;exact⟨qd.os.trans af.os,qd.tape.trans af.tape,qd.output.trans af.output,aW af.size qd.size,λk hk=>(qd.same k (by omega) (by omega)).trans (af.block k hk)⟩
 case body=>
  rintro l pre ⟨x,hx⟩ W hl ⟨h1,ht,hr⟩ hlen;have c0:W.cell? ⟨w.heap.size,0,zb⟩=za (zc .i64 0):=(aM _ _ _ _ _ _ hr:W.cell? ⟨w.heap.size,0,zb⟩=_);have f0:=cT _ _ 0 _ _ hr;have t0:=h.lt x;dsimp only
  by_cases hz:T x=0
  ·rw[hz]
   gi_wp2
   refine⟨⟨aj _,λ_ _ _ h _=>h⟩,λ_ _=>rfl,λk hk=>?_,ht,hr⟩;rw[QM]at hk;rcases fm.1 hk with hk|hk
   ·exact h1 k hk
   ·rw[eK.1 hk];exact hz
  ·have hne:((T x:Int) != 0)=true:=by simp;omega
   have PK:=λW=>zte (T x) W t0
   have aZ:Lib.bitLen (T x)<=64:=Lib.bitLen_le (T x) 64 (aj _) t0;have HT:Hid (T x≠0):=hz;have mV:=dE _ _ 0 _ _ (zc .i64 ((x:Int)*64+63-(64-(Lib.bitLen (T x):Int)))) hr
   gi_wp2_with (refine⟨trivial,?_⟩;gi_at_call 167;refine(CallsIn.inRound l (callsIn_wide.2 (PK _))).mono ?_;rintro e w' ⟨rfl,rfl⟩)
   exact⟨(KeepsOthers.setCell _ _ _).from _,rfl,pre,⟨x,hx⟩,rfl,h1,HT.out,ht.grown (iZ _ _ _ _) (λg e=>by cases e;exact .inl rfl),mV⟩
 case done=>
  rintro D ys W hD iu ⟨h1,ht,hr⟩ hK;have f0:=cT _ _ 0 _ _ hr;have c0:W.cell? ⟨w.heap.size,0,zb⟩=za (zc .i64 0):=(aM _ _ _ _ _ _ hr:W.cell? ⟨w.heap.size,0,zb⟩=_);have mV:=dE _ _ 0 _ _ (zc .i64 (-1)) hr;have hKs:(W.setCell ⟨w.heap.size,0,zb⟩ (zc .i64 (-1))).heap[D]?=za (.deferred (za [])):=(cH _ _ _ _ (by show D≠w.heap.size;omega)).trans hK;have qd:=(ht.grown (iZ W w.heap.size 0 (zc .i64 (-1))) (λg e=>by cases e;exact .inl rfl)).grown (grownBy_putObj' _ D (.deferred zb)) (λg e=>.inr (by cases e;omega));have c1:((W.setCell ⟨w.heap.size,0,zb⟩ (zc .i64 (-1))).putObj D (.deferred zb)).cell? ⟨w.heap.size,0,zb⟩=za (zc .i64 (-1)):=(show _=(W.setCell ⟨w.heap.size,0,zb⟩ (zc .i64 (-1))).cell? ⟨w.heap.size,0,zb⟩from World.cell?_of_block (World.putObj_heap_other (by show w.heap.size≠D;omega))).trans (aM _ _ _ _ _ _ mV:_=_);have cJ:=znt (T:=T) (nw:=nw) (λk hk=>h1 k (by rw[iu];exact hk))
  gi_wp2
  refine⟨by simp,.inl ⟨_,_,rfl,run_takeDeferred hKs,?_⟩⟩;refine⟨zc .i64 (-1),by simp[results,results144,go_sem,c1],-1,rfl,cJ,?_⟩;exact⟨qd.os.trans af.os,qd.tape.trans af.tape,qd.output.trans af.output,aW af.size qd.size,λk hk=>(qd.same k (by omega) (by omega)).trans (af.block k hk)⟩
theorem QR(p:Nat)(w:zd)(hp:p<=4096):
  zh prog 126 #[zc .i64 p] w λe w'=>∃U:Nat->Nat,e=.returned (ze (za ⟨w.heap.size,0,zb⟩) (p/64+1) (p/64+1))/\aH w' (p/64+1) w.heap.size U/\(∀q,au U q=true↔q=p)/\Below w.heap.size w w':=by
 obtain⟨i0,hi,bI,aO,aQ⟩:=info_parts Tryz.VO;have e1:(p:Int)/64=((p/64:Nat):Int):=by omega
 have hq:p<64*(p/64+1):=by omega
 obtain⟨nw,bY⟩:∃nw,p/64+1=nw:=⟨_,rfl⟩;have e2:(p:Int)/64+1=(nw:Int):=by omega
 rw[bY]at hq ⊢;have qa:nw<=1000:=by omega
 have lX:=λ(W:zd) (T:Nat->Nat) (h:W.heap[w.heap.size]?=za (zf (kQ nw T) 236 (0,0))) (hT:Hid (∀i,T i<18446744073709551616))=>Gi nw w.heap.size nw T p W h hq qa hT
 clear bY e1
 go_enter func126,ntmps126
 go_wp2_with (refine wpList_make_full _ rfl _ _ 193 rfl w.heap.size 236 i0 _ 1 underlying193 hi bI aO _ _ _ _ nw rfl rfl (by first|rfl|(simp[e2];done)|omega) (by first|rfl|(simp[e2];done)|omega) (by rw[aQ];omega) (by unfold maxLen;omega) (aj _) ?_;intro w1 aB ez)
 have h1:w1.heap[w.heap.size]?=za (zf (kQ nw cQ) 236 (0,0)):=by rw[QA aB,WW]
 have ag:Below w.heap.size w w1:=(Below.refl _ _).grown ez (aj _) (by intro k h;cases h);refine(lX w1 cQ h1 (λ_=>by simp[cQ])).mono ?_;rintro e w2 ⟨rfl,gI,bU⟩;have ae:=ag.grown bU ag.size (by intro k h;cases h;exact aj _);clear lX h1 aB ez;go_wp2;go_ret;exact⟨kS cQ p,rfl,⟨gI,JH cQ (λ_=>by simp[cQ]) p⟩,λq=>by rw[Jv,BL];simp,ae⟩
end Go.Proofs.YtdimhpfiieepiaaGreatDoor
