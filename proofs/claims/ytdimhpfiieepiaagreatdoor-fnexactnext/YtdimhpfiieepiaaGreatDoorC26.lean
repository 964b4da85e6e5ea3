import Derived.Test.YtdimhpfiieepiaaGreatDoorC25
import Derived.Shelf.Lay
import Derived.Shelf.Strconv.Itoa0
namespace Go.Proofs
open Go.Shelf
shelf_lay Lays.n129 Nm 129 at Tryz as Tryz.zAC
end Go.Proofs
namespace Go.Proofs.YtdimhpfiieepiaaGreatDoor
open Proofs.Tryz
open Option renaming some->za,none->zb
open Value renaming int->zc,slice->zd,pointer->zh
open Obj renaming cells->ze
open Go renaming World->zf,Calls->zg
set_option maxHeartbeats 4000000
set_option maxRecDepth 100000
open Go.RowKit
section
attribute [local go_sem ↓] wp_at_zero wp_at_succ
theorem zsg(k:ByteArray):∀(ks:List ByteArray) (i:Nat),Instr.findNow .string (.string k) ((ks.zipIdx i).map λx=>{key:=.string x.1,val:=zc .i64 (x.2:Int),born:=x.2}) i=za (if dJ ks k<ks.length then za (i+dJ ks k,zc .i64 ((i+dJ ks k:Nat):Int)) else zb)
 |[],i=>by simp[Instr.findNow,dJ]
 |x::ks,i=>by
  rw[List.zipIdx_cons,vm];unfold Instr.findNow
  by_cases e:k=x
  ·subst e;have h0:dJ (k::ks) k=0:=by simp[dJ,List.findIdx_cons]
   have hb:(k==k)=true:=(MapKept.bytes_beq _ _).2 rfl;rw[h0];simp[Instr.sameNow,hb]
  ·have h1:dJ (x::ks) k=dJ ks k+1:=by simp[dJ,List.findIdx_cons,e]
   have hb:(k==x)=false:=by
    cases h:(k==x)
    ·rfl
    ·exact absurd ((MapKept.bytes_beq _ _).1 h) e
   have ih:=zsg k ks (i+1);rw[h1];simp only[Instr.sameNow,hb];rw[ih];simp only[qg,Nat.add_lt_add_iff_right];rw[show i+1+dJ ks k=i+(dJ ks k+1) by omega]
theorem zoQ{P:Program}{kt:TypeId}(w:zf)(hu:P.underlying kt=za .string)(ks:List ByteArray)(k:ByteArray):(Instr.findKey kt (.string k) (xJ Value.string ks)).run P w=.ok (IC ks k) w:=by
 refine MapKept.run_findKey hu ?_;have:=zsg k ks 0;simp only[kn]at this;exact this
theorem zh5(r:Nat)(ks:List ByteArray)(k:ByteArray)(w:zf)(hg:w.heap[r]?=za (.map (mA Value.string ks) ks.length)):
  zg prog 193 #[.map (za r),.string k] w (QX Value.string w r ks k):=by
 have hm:=underlying231;have hc:∀(e:Bool) (k:ByteArray),(Instr.checkKey e 10000 9 (.string k)).run prog w=.ok () w:=λe k=>MapKept.run_checkKey underlying9 (by simp[MapKept.IsKey]) e 9999
 have hf:∀(ks:List ByteArray) (k:ByteArray),(Instr.findKey 9 (.string k) (xJ Value.string ks)).run prog w=.ok (IC ks k) w:=λks k=>zoQ w underlying9 ks k
 have hl:=zrL Value.string w hm hc hf (Tryz.zzz w) r ks k hg;have hr:=ID hg;have ky:=zpV Value.string ks
 by_cases hk:k∈ks
 ·simp only[hk,if_true,decide_true]at hl;have HN:Hid (QX Value.string w r ks k (.returned (.tuple #[zc .i64 (dJ ks k:Int),.bool false])) w):=⟨by simp[hk],by unfold BO;rw[aD hk];exact hg,World.grownBy.refl _ _⟩;have lZ:=Db.2 hk;generalize dJ ks k=ix at *;clear hc hf hm ky
  go_enter func193,ntmps193
  go_wp2;refine bD (v:=.tuple #[zc .i64 (ix:Int),.bool false]) (by simp[results,results193,go_sem]) rfl HN.out
 ·simp only[hk,if_false,decide_false]at hl;have hp:=zs4 Value.string w hm hc hf r ks k hk hg;obtain⟨W1,cC⟩:∃W1,{w with heap:=w.heap.setIfInBounds r (.map (mA Value.string (ks++[k])) (ks++[k]).length)}=W1:=⟨_,rfl⟩;have dB:W1.heap=w.heap.setIfInBounds r (.map (mA Value.string (ks++[k])) (ks++[k]).length):=by rw[<-cC]
  have HN:Hid (QX Value.string w r ks k (.returned (.tuple #[zc .i64 (ks.length:Int),.bool true])) W1):=by
   refine⟨by rw[zl9 hk];simp[hk],?_,?_⟩
   ·unfold BO;rw[aq hk,dB];exact(MapKept.heap_set hg).1
   ·refine⟨by rw[<-cC],by rw[<-cC],by rw[<-cC],by rw[dB];simp,λb _ hne=>?_⟩;rw[dB,(MapKept.heap_set hg).2 b (λe=>hne (by rw[e]))]
  rw[cC]at hp;have hlen:∀ty,(Builtin.len_ #[231] ty #[.map (za r)]).run prog w=.ok (zc .i64 (ks.length:Int)) w:=λty=>by
   simp[Builtin.len_,run_underlying hm,MapKept.run_getObj_map hg,goInt,Result.andThen,ky]
  clear hc hf hm ky cC dB
  go_enter func193,ntmps193
  go_wp2;refine bD (v:=.tuple #[zc .i64 (ks.length:Int),.bool true]) (by simp[results,results193,go_sem]) rfl HN.out
end
section
attribute [local go_sem ↓] wp_at_zero wp_at_succ
theorem zrf(x:Nat)(w:zf)(hx:x<18446744073709551616):
  zg prog 192 #[.int .u64 x] w λe w'=>e=.returned (zc .i64 (Lib.bitLen x))/\w'=w:=by
 have:=Any.bits_Len64 zAC (x:Int) w (by omega) (by omega);rw[sx]at this;exact this
end
section
attribute [local go_sem ↓] wp_at_zero wp_at_succ
theorem zsx(a r:Nat):((a/2 ^ r) &&& 1=1)↔a.testBit r=true:=by
 rw[Nat.and_one_is_mod,Nat.testBit_eq_decide_div_mod_eq];simp
theorem PD(nw g cap:Nat)(T:Nat->Nat)(p:Nat)(w:zf)(h:aH w nw g T)(hp:p<64*nw)(bV:nw<=1000):
  zg prog 145 #[zd (za ⟨g,0,zb⟩) nw cap,zc .i64 p] w λe w'=>e=.returned (.bool (ax T p))/\w'=w:=by
 have d0:w.cell? ⟨g,p/64,zb⟩=za (.int .u64 (T (p/64):Int)):=h.cell (by omega);have t0:=h.lt (p/64);have e1:(p:Int)/64=((p/64:Nat):Int):=by omega
 have e2:(p:Int)%64=((p%64:Nat):Int):=by omega
 have l1:p/64<nw:=by omega
 have l2:p%64<64:=by omega
 have Hb:Hid (ax T p=(T (p/64)).testBit (p%64)):=rfl;generalize ax T p=bb at *;generalize T (p/64)=a at *;generalize p/64=q at *;generalize p%64=r at *;have i1:(q:Int)<nw:=by omega
 have i3:(0:Int)<=(q:Int):=by omega
 go_enter func145,ntmps145
 go_wp2;go_ret;refine⟨bF ?_,rfl⟩;rw[Hb.out,show (a:Int)/2 ^ r=((a/2 ^ r:Nat):Int) by simp];have h1:a/2 ^ r<18446744073709551616:=Nat.lt_of_le_of_lt (Nat.div_le_self _ _) t0;have h2:=PJ (a/2 ^ r) 1 h1 (by omega);have h3:bits BinOp.and IntKind.u64 ((a/2 ^ r:Nat):Int) 1=((a/2 ^ r &&& 1:Nat):Int):=h2;rw[h3];have h4:=zsx a r;cases ht:a.testBit r
 ·rw[ht]at h4;have:¬(a/2 ^ r &&& 1=1):=λh=>by simpa using h4.1 h
  rw[eu];intro h;apply this;omega
 ·rw[ht]at h4;rw[h4.2 rfl]
  rfl
def ztl(nw:Nat)(T:Nat->Nat)(v:Int):Prop:=(v=-1/\∀p,p<64*nw->ax T p=false)\/∃p:Nat,v=p/\p<64*nw/\ax T p=true/\∀q,q<p->ax T q=false
theorem VQ(nw g cap:Nat)(T:Nat->Nat)(w:zf)(h:aH w nw g T)(bV:nw<=1000)(hB:fG w):
  zg prog 127 #[zd (za ⟨g,0,zb⟩) nw cap] w λe w'=>∃v:Int,e=.returned (zc .i64 v)/\ztl nw T v/\w'=w:=by
 go_enter func127,ntmps127
 go_wp2
 go_loopw [7] (λi wr=>∃k:Nat,k<=nw/\i=zc .i64 k/\wr=w/\Hid (∀j,j<k->T j=0)) (λi _=>nw-(intOf i).toNat)
 case atStart=>exact⟨0,aZ _,rfl,rfl,λj hj=>by omega⟩
 case round=>
  obtain⟨k,hk,rfl,rfl,Hz⟩:=hrel
  by_cases hlt:k<nw
  ·have c0:=h.cell hlt;have dh:(k:Int)<(nw:Int):=by omega
   have dO:(0:Int)<=(k:Int):=by omega
   have t0:=h.lt k;have Hl:Hid (∀q,q<64*k->ax T q=false):=λq hq=>by
    unfold ax;rw[Hz.out (q/64) (by omega)];simp
   by_cases hz:T k=0
   ·rw[hz]at c0;go_wp2
    go_roundw
    case rel=>exact⟨k+1,by omega,by go_num,by first|trivial|rfl,λj hj=>by
     rcases gh j k with a|a
     ·exact Hz.out j a
     ·obtain rfl:j=k:=by omega
      exact hz⟩
    case measure=>simp[intOf];omega
   ·obtain⟨e,s,hx⟩:=Wj (T k) (T k) (ai _) (by omega);have he:e<64:=by
     rcases gh e 64 with a|a
     ·exact a
     ·have h1:2 ^ 64<=2 ^ e:=Nat.pow_le_pow_right (by omega) a;have h2:2 ^ e<=T k:=by rw[hx];exact Nat.le_mul_of_pos_right _ (by omega)
      omega
    have oX:=Mj e s;have Hb:Hid (ax T (k*64+e)=true/\∀q,q<k*64+e->ax T q=false):=by
     refine⟨?_,λq hq=>?_⟩
     ·unfold ax;rw[show (k*64+e)/64=k by omega,show (k*64+e)%64=e by omega,hx];exact oX.bit
     ·rcases gh q (64*k) with a|a
      ·exact Hl.out q a
      ·unfold ax;rw[show q/64=k by omega,hx];exact oX.low _ (by omega)
    have hne:((T k:Int)==0)=false:=by simp;omega
    have Hx:Hid (T k=2 ^ e*(2*s+1)):=hx;have gX:0<T k:=by omega
    have HB:Hid (fG wr):=hB;clear hx oX;generalize T k=x at *
    go_wp2_with (go_at_call 148;refine(ztQ x e s _ Hx t0 gX he HB).mono ?_;rintro e1 w1 ⟨rfl,rfl⟩)
    go_ret
    exact⟨_,rfl,.inr ⟨k*64+e,by omega,by omega,Hb.out.1,Hb.out.2⟩,rfl⟩
  ·obtain rfl:k=nw:=by omega
   go_wp2;go_ret;refine⟨-1,rfl,.inl ⟨rfl,λp hp=>?_⟩,rfl⟩;unfold ax;rw[Hz.out (p/64) (by omega)];simp
end
variable {nw:Nat}{T:Nat -> Nat}
attribute [local go_sem] Oper.semAt_some
def uZ(nw m:Nat):List Nat:=(List.range m).map λi=>nw-1-i
theorem Vr(nw m:Nat):uZ nw (m+1)=uZ nw m++[nw-1-m]:=by simp[uZ,List.range_succ]
abbrev oF(nw:Nat):={k:Nat // k<nw}
def ww{nw:Nat}(l:List (oF nw)):List Nat:=l.map Subtype.val
theorem Ph(l:List (oF nw))(x:oF nw):ww (l++[x])=ww l++[x.1]:=by simp[ww]
def Nr{nw:Nat}(T:Nat->Nat)(k:oF nw):Array Value:=#[zc .i64 (k.1:Int),.int .u64 (T k.1:Int)]
theorem zqD(n l nw g cap bx:Nat)(T:Nat->Nat)(hn:1<=n)(bV:nw<=1000)(J Jx:List (oF nw)->zf->Prop)(W:zf)
  (hY:∀pre x W1,J pre W1->pre.length<nw->YieldAt Fence.wide (n-1) prog l (Nr T x) W1 λe W'=>
   (e=.returned (.bool true)/\J (pre++[x]) W'/\∀k∈[bx,g],W'.heap[k]?=W1.heap[k]?)\/(e=.returned (.bool false)/\Jx (pre++[x]) W'))
  (hb:W.heap[bx]?=za (ze #[zd (za ⟨g,0,zb⟩) nw cap] 193 (0,0))) (hT:aH W nw g T) (h0:J [] W):
  CallsIn Fence.wide n prog 191 #[.func (.yield l) #[] #[],zh (za ⟨bx,0,zb⟩)] W λe W'=>(∃v,e=.returned v)/\
   ((∃ys,ww ys=uZ nw nw/\J ys W')\/(∃pre,(∃m,m<nw/\ww pre=uZ nw (m+1))/\Jx pre W')):=by
 refine callsIn_of_wp func191 rfl trivial ?_ rfl;simp only[ntmps191,yh,qg,oA,Nat.reduceAdd,Nat.reduceSub,Bl,Bm,Br,Bs,wJ,Bt];have c0:W.cell? ⟨bx,0,zb⟩=za (zd (za ⟨g,0,zb⟩) nw cap):=(aO _ _ _ _ _ _ hb:W.cell? ⟨bx,0,zb⟩=_)
 gi_wp2
 clear c0
 gi_loopw [3] (λi wr=>∃(m:Nat) (pre:List (oF nw)),Hid (ww pre=uZ nw m)/\m<=nw/\i=zc .i64 ((nw:Int)-1-m)/\J pre wr/\wr.heap[bx]?=za (ze #[zd (za ⟨g,0,zb⟩) nw cap] 193 (0,0))/\aH wr nw g T)
  (λi _=>(intOf i+1).toNat)
 case atStart=>exact⟨0,[],rfl,aZ _,by simp,h0,hb,hT⟩
 case round=>
  clear hb hT h0;obtain⟨m,pre,Hp,hm,rfl,hJ,hb,hT⟩:=hrel
  by_cases hlt:m<nw
  case neg=>
   obtain rfl:m=nw:=by omega
   have hd:¬(0:Int)<=(m:Int)-1-(m:Int):=by omega
   have lz:decide ((0:Int)<=(m:Int)-1-(m:Int))=false:=by simp;omega
   gi_wp2
   go_end0
   exact⟨⟨_,rfl⟩,.inl ⟨pre,Hp.out,hJ⟩⟩
  have c0:wr.cell? ⟨bx,0,zb⟩=za (zd (za ⟨g,0,zb⟩) nw cap):=(aO _ _ _ _ _ _ hb:wr.cell? ⟨bx,0,zb⟩=_);obtain⟨k,hk⟩:∃k:Nat,(nw:Int)-1-m=k:=⟨nw-1-m,by omega⟩;have ke:k<nw:=by omega
  have c1:=hT.cell ke;have dO:(0:Int)<=(k:Int):=by omega
  have dh:(k:Int)<(nw:Int):=by omega
  obtain⟨fn,tmps,assign,body,hy,hR⟩:=hY pre ⟨k,ke⟩ wr hJ (by have:=congrArg List.length Hp.out;simp[uZ,ww]at this;omega);have Hk:Hid ((nw:Int)-1-m=k):=hk;rw[hk];unfold Nr at hy;clear hY hk
  gi_wp2
  refine hR.mono ?_;rintro e W3 (⟨rfl,JN,nW⟩|⟨rfl,JO⟩)
  ·have lV:aH W3 nw g T:=⟨(nW g (by simp)).trans hT.row,hT.lt⟩;have ay:=(nW bx (by simp)).trans hb
   gi_wp2
   go_roundw
   case rel=>exact⟨m+1,pre++[⟨k,ke⟩],by show _=_;rw[Ph,Hp.out,Vr,show nw-1-m=k by have:=Hk.out;omega],by omega,by congr 1;have:=Hk.out;omega,JN,ay,lV⟩
   case measure=>first|(simp[intOf];done)|(simp[intOf];omega)
  ·gi_wp2
   refine bD (results_none rfl _ _ _) rfl ?_;exact⟨⟨_,rfl⟩,.inr ⟨_,⟨m,hlt,by rw[Ph,Hp.out,Vr,show nw-1-m=k by have:=Hk.out;omega]⟩,JO⟩⟩
theorem zmZ(n nw g cap bx:Nat)(T:Nat->Nat)(hn:1<=n)(bV:nw<=1000)(w:zf)(hb:w.heap[bx]?=za (ze #[zd (za ⟨g,0,zb⟩) nw cap] 193 (0,0)))(hT:aH w nw g T):
  Q9 n prog 191 #[] #[zh (za ⟨bx,0,zb⟩)] (Nr (nw:=nw) T) [bx,g] (λys:List (oF nw)=>ww ys=uZ nw nw) (λpre:List (oF nw)=>∃m,m<nw/\ww pre=uZ nw (m+1)) nw w:=
 λl J Jx W hW hY h0=>zqD n l nw g cap bx T hn bV J Jx W hY ((hW bx (by simp)).trans hb) ⟨(hW g (by simp)).trans hT.row,hT.lt⟩ h0
theorem zqF(g nw cap:Nat)(w:zf):
  zg prog 166 #[zd (za ⟨g,0,zb⟩) nw cap] w λe w'=>e=.returned (.func (.func 191) #[] #[zh (za ⟨w.heap.size,0,zb⟩)])/\w'=w.alloc (ze #[zd (za ⟨g,0,zb⟩) nw cap] 193):=by
 go_enter func166,ntmps166
 go_wp2;go_ret;exact⟨rfl,rfl⟩
theorem zsW(x:Nat)(w:zf)(hx:x<18446744073709551616):
  zg prog 167 #[.int .u64 x] w λe w'=>e=.returned (zc .i64 (64-(Lib.bitLen x:Int)))/\w'=w:=by
 have hl:Lib.bitLen x<=64:=Lib.bitLen_le x 64 (ai _) hx
 go_enter func167,ntmps167
 go_wp2_with (go_at_call 192;refine(zrf x _ hx).mono ?_;rintro e w1 ⟨rfl,rfl⟩)
 go_ret
 exact⟨rfl,rfl⟩
theorem zhM:∀(n x:Nat),x<=n->x≠0->x<2 ^ 64->∃k,Lib.bitLen x=k+1/\x.testBit k=true/\∀j,k<j->x.testBit j=false
 |0,x,h,h0,_=>by omega
 |n+1,x,h,h0,hx=>by
  by_cases h1:x=1
  ·subst h1;refine⟨0,by decide,by decide,λj hj=>?_⟩;obtain⟨i,rfl⟩:∃i,j=i+1:=⟨j-1,by omega⟩;rw[Nat.testBit_succ];simp
  ·obtain⟨k,e,a,b⟩:=zhM n (x/2) (by omega) (by omega) (by omega);refine⟨k+1,by rw[Lib.bitLen_half x h0 hx,e];omega,by rw[Nat.testBit_succ];exact a,λj hj=>?_⟩;obtain⟨i,rfl⟩:∃i,j=i+1:=⟨j-1,by omega⟩;rw[Nat.testBit_succ];exact b i (by omega)
def PQ(nw:Nat)(T:Nat->Nat)(v:Int):Prop:=(v=-1/\∀p,p<64*nw->ax T p=false)\/∃p:Nat,v=p/\p<64*nw/\ax T p=true/\∀q,p<q->q<64*nw->ax T q=false
theorem zqX{m:Nat}(hm:m<nw)(hz:∀k∈uZ nw m,T k=0)(hl:∀i,T i<18446744073709551616)(h0:T (nw-1-m)≠0):PQ nw T (((nw-1-m:Nat):Int)*64+63-(64-(Lib.bitLen (T (nw-1-m)):Int))):=by
 obtain⟨k,e,a,b⟩:=zhM _ _ (ai _) h0 (hl (nw-1-m));have hk:k<64:=by
  rcases gh k 64 with h|h
  ·exact h
  ·rw[Nat.testBit_lt_two_pow (bA (hl (nw-1-m)) (show 2 ^ 64<=2 ^ k from Nat.pow_le_pow_right (by decide) h))]at a;cases a
 refine .inr ⟨(nw-1-m)*64+k,by rw[e];omega,by omega,?_,λq hq nY=>?_⟩
 ·unfold ax;rw[show ((nw-1-m)*64+k)/64=nw-1-m by omega,show ((nw-1-m)*64+k)%64=k by omega];exact a
 ·unfold ax;rcases gh (nw-1-m) (q/64) with h|h
  ·have:T (q/64)=0:=hz _ (by
    unfold uZ;exact sy.2 ⟨nw-1-q/64,wI.2 (by omega),by omega⟩)
   rw[this];simp
  ·have:q/64=nw-1-m:=by omega
   rw[this];exact b _ (by omega)
theorem znk(hz:∀k∈uZ nw nw,T k=0):PQ nw T (-1):=
 .inl ⟨rfl,λp hp=>by
  unfold ax;rw[hz (p/64) (by
   unfold uZ;exact sy.2 ⟨nw-1-p/64,wI.2 (by omega),by omega⟩)]
  simp⟩
theorem Vh(nw g cap:Nat)(T:Nat->Nat)(w:zf)(h:aH w nw g T)(bV:nw<=1000):
  zg prog 144 #[zd (za ⟨g,0,zb⟩) nw cap] w λe w'=>∃v:Int,e=.returned (zc .i64 v)/\PQ nw T v/\Below w.heap.size w w':=by
 refine(callsIn_wide (n:=5)).1 ?_;refine callsIn_of_wp_marks func144 rfl trivial ?_ rfl;simp only[ntmps144,yh,qg,oA,Nat.reduceAdd,Nat.reduceSub,Bl,Bm,Br,Bs,wJ,Bt]
 gi_wp2_with (refine⟨trivial,?_⟩;gi_at_call 166;refine(callsIn_wide.2 (zqF g nw cap _)).mono ?_;rintro e w1 ⟨rfl,rfl⟩)
 obtain⟨W0,ah⟩:∃W0,(w.alloc (ze #[zc .i64 0] 3)).alloc (ze #[zd (za ⟨g,0,zb⟩) nw cap] 193)=W0:=⟨_,rfl⟩;have ae:Below w.heap.size w W0:=by rw[<-ah];exact(au).alloc (by simp) _
 have x0:W0.heap[w.heap.size]?=za (ze #[zc .i64 0] 3 (0,0)):=by rw[<-ah];exact cQ (aL _ _)
 have x1:W0.heap[w.heap.size+1]?=za (ze #[zd (za ⟨g,0,zb⟩) nw cap] 193 (0,0)):=by
  rw[<-ah];have:=aL (w.alloc (ze #[zc .i64 0] 3)) (ze #[zd (za ⟨g,0,zb⟩) nw cap] 193)
  simpa using this
 have yg:aH W0 nw g T:=h.below ae;have fC:=h.cj;have dB:w.heap.size+1<W0.heap.size:=(ap.1 x1).1;rw[ah];clear ah;refine Ie (by omega) (gf:=191) (fb:=#[]) (lb:=#[zh (za ⟨w.heap.size+1,0,zb⟩)]) rfl (enters_of func191 (by kernel_rfl) rfl)
  (T:=[w.heap.size+1,g]) (by intro k hk;simp at hk;omega)
  (zmZ 4 nw g cap (w.heap.size+1) T (by omega) bV W0 x1 yg) (λ_=>rfl)
  (λpre W=>(∀k∈ww pre,T k=0)/\aE (λk=>k=w.heap.size) W0 W/\W.heap[w.heap.size]?=za (ze #[zc .i64 0] 3 (0,0)))
  (λc pre W=>c=.ret/\∃(zwK:List (oF nw)) (x:oF nw),pre=zwK++[x]/\(∀k∈ww zwK,T k=0)/\T x.1≠0/\aE (λk=>k=w.heap.size) W0 W/\W.heap[w.heap.size]?=za (ze #[zc .i64 ((x.1:Int)*64+63-(64-(Lib.bitLen (T x.1):Int)))] 3 (0,0)))
  (λs A B hs ht=>⟨hs.1,hs.2.1.turn ht,ht.same _ _ hs.2.2 (.inr rfl)⟩)
  (λc s A B hs ht=>by
   obtain⟨h1,p,x,h2,h3,h4,h5,h6⟩:=hs;exact⟨h1,p,x,h2,h3,h4,h5.turn ht,ht.same _ _ h6 (.inr rfl)⟩)
  ⟨λk hk=>by simp[ww]at hk,aE.refl _ _,x0⟩
  (λx=>{tmps:=#[zd (za ⟨g,0,zb⟩) nw cap,undef,zh (za ⟨w.heap.size,0,zb⟩),zc .i64 (x.1:Int),.int .u64 (T x.1:Int),zd (za ⟨g,0,zb⟩) nw cap,.func (.func 191) #[] #[zh (za ⟨w.heap.size+1,0,zb⟩)],zc .i64 (x.1:Int),.int .u64 (T x.1:Int),undef,undef,undef,undef,undef,undef,undef,undef],defers:=[]})
  ?assign ?body ?done ?stop
 case assign=>
  intro l x W K hK;unfold Nr
  gi_wp2
  exact hK
 case stop=>
  rintro D c pre W hD ⟨m,hm,zwi⟩ ⟨rfl,p,x,rfl,h3,h4,h5,h6⟩ hK;rw[Ph,Vr]at zwi;obtain⟨e1,e2⟩:=List.append_inj' zwi rfl;have ex:x.1=nw-1-m:=by simpa using e2
  have c0:W.cell? ⟨w.heap.size,0,zb⟩=za (zc .i64 ((x.1:Int)*64+63-(64-(Lib.bitLen (T x.1):Int)))):=(aO _ _ _ _ _ _ h6:W.cell? ⟨w.heap.size,0,zb⟩=_);have c1:(W.putObj D (.deferred zb)).cell? ⟨w.heap.size,0,zb⟩=za (zc .i64 ((x.1:Int)*64+63-(64-(Lib.bitLen (T x.1):Int)))):=(show (W.putObj D (.deferred zb)).cell? ⟨w.heap.size,0,zb⟩=W.cell? ⟨w.heap.size,0,zb⟩from World.cell?_of_block (World.putObj_heap_other (by show w.heap.size≠D;omega))).trans c0;have pQ:=h5.grown (grownBy_putObj' W D (.deferred zb)) (λg e=>.inr (by cases e;omega));have cR:PQ nw T ((x.1:Int)*64+63-(64-(Lib.bitLen (T x.1):Int))):=by
   have:=zqX hm (λk hk=>h3 k (by rw[e1];exact hk)) h.lt (by rw[<-ex];exact h4);rw[<-ex]at this;exact this
  generalize (x.1:Int)*64+63-(64-(Lib.bitLen (T x.1):Int))=v at *
  gi_wp2
  refine⟨by simp,.inl ⟨_,_,rfl,run_takeDeferred hK,?_⟩⟩;refine⟨zc .i64 v,by simp[results,results144,go_sem,c1],v,rfl,cR,?_⟩;exact⟨pQ.os.trans ae.os,pQ.tape.trans ae.tape,pQ.output.trans ae.output,aU ae.size pQ.size,λk hk=>(pQ.same k (by omega) (by omega)).trans (ae.block k hk)⟩
 case body=>
  rintro l pre ⟨x,hx⟩ W hl ⟨h1,ht,hr⟩ hlen;have c0:W.cell? ⟨w.heap.size,0,zb⟩=za (zc .i64 0):=(aO _ _ _ _ _ _ hr:W.cell? ⟨w.heap.size,0,zb⟩=_);have f0:=cF _ _ 0 _ _ hr;have t0:=h.lt x;dsimp only
  by_cases hz:T x=0
  ·rw[hz]
   gi_wp2
   refine⟨⟨ai _,λ_ _ _ h _=>h⟩,λ_ _=>rfl,λk hk=>?_,ht,hr⟩;rw[Ph]at hk;rcases er.1 hk with hk|hk
   ·exact h1 k hk
   ·rw[eM.1 hk];exact hz
  ·have hne:((T x:Int) != 0)=true:=by simp;omega
   have hlz:=λW=>zsW (T x) W t0
   have bu:Lib.bitLen (T x)<=64:=Lib.bitLen_le (T x) 64 (ai _) t0;have HT:Hid (T x≠0):=hz;have mf:=dF _ _ 0 _ _ (zc .i64 ((x:Int)*64+63-(64-(Lib.bitLen (T x):Int)))) hr
   gi_wp2_with (refine⟨trivial,?_⟩;gi_at_call 167;refine(CallsIn.inRound l (callsIn_wide.2 (hlz _))).mono ?_;rintro e w' ⟨rfl,rfl⟩)
   exact⟨(KeepsOthers.setCell _ _ _).from _,rfl,pre,⟨x,hx⟩,rfl,h1,HT.out,ht.grown (jf _ _ _ _) (λg e=>by cases e;exact .inl rfl),mf⟩
 case done=>
  rintro D ys W hD jR ⟨h1,ht,hr⟩ hK;have f0:=cF _ _ 0 _ _ hr;have c0:W.cell? ⟨w.heap.size,0,zb⟩=za (zc .i64 0):=(aO _ _ _ _ _ _ hr:W.cell? ⟨w.heap.size,0,zb⟩=_);have mf:=dF _ _ 0 _ _ (zc .i64 (-1)) hr;have hKs:(W.setCell ⟨w.heap.size,0,zb⟩ (zc .i64 (-1))).heap[D]?=za (.deferred (za [])):=(cu _ _ _ _ (by show D≠w.heap.size;omega)).trans hK;have pQ:=(ht.grown (jf W w.heap.size 0 (zc .i64 (-1))) (λg e=>by cases e;exact .inl rfl)).grown (grownBy_putObj' _ D (.deferred zb)) (λg e=>.inr (by cases e;omega));have c1:((W.setCell ⟨w.heap.size,0,zb⟩ (zc .i64 (-1))).putObj D (.deferred zb)).cell? ⟨w.heap.size,0,zb⟩=za (zc .i64 (-1)):=(show _=(W.setCell ⟨w.heap.size,0,zb⟩ (zc .i64 (-1))).cell? ⟨w.heap.size,0,zb⟩from World.cell?_of_block (World.putObj_heap_other (by show w.heap.size≠D;omega))).trans (aO _ _ _ _ _ _ mf:_=_);have cR:=znk (T:=T) (nw:=nw) (λk hk=>h1 k (by rw[jR];exact hk))
  gi_wp2
  refine⟨by simp,.inl ⟨_,_,rfl,run_takeDeferred hKs,?_⟩⟩;refine⟨zc .i64 (-1),by simp[results,results144,go_sem,c1],-1,rfl,cR,?_⟩;exact⟨pQ.os.trans ae.os,pQ.tape.trans ae.tape,pQ.output.trans ae.output,aU ae.size pQ.size,λk hk=>(pQ.same k (by omega) (by omega)).trans (ae.block k hk)⟩
theorem Pu(p:Nat)(w:zf)(hp:p<=4096):
  zg prog 126 #[zc .i64 p] w λe w'=>∃U:Nat->Nat,e=.returned (zd (za ⟨w.heap.size,0,zb⟩) (p/64+1) (p/64+1))/\aH w' (p/64+1) w.heap.size U/\(∀q,ax U q=true↔q=p)/\Below w.heap.size w w':=by
 obtain⟨i0,hi,bK,bh,bz⟩:=info_parts Tryz.Ue;have e1:(p:Int)/64=((p/64:Nat):Int):=by omega
 have hq:p<64*(p/64+1):=by omega
 obtain⟨nw,bV⟩:∃nw,p/64+1=nw:=⟨_,rfl⟩;have e2:(p:Int)/64+1=(nw:Int):=by omega
 rw[bV]at hq ⊢;have pN:nw<=1000:=by omega
 have lW:=λ(W:zf) (T:Nat->Nat) (h:W.heap[w.heap.size]?=za (ze (kK nw T) 236 (0,0))) (hT:Hid (∀i,T i<18446744073709551616))=>Fj nw w.heap.size nw T p W h hq pN hT
 clear bV e1
 go_enter func126,ntmps126
 go_wp2_with (refine wpList_make_full _ rfl _ _ 193 rfl w.heap.size 236 i0 _ 1 underlying193 hi bK bh _ _ _ _ nw rfl rfl (by first|rfl|(simp[e2];done)|omega) (by first|rfl|(simp[e2];done)|omega) (by rw[bz];omega) (by unfold maxLen;omega) (ai _) ?_;intro w1 az eF)
 have h1:w1.heap[w.heap.size]?=za (ze (kK nw cK) 236 (0,0)):=by rw[O9 az,Vi]
 have ak:Below w.heap.size w w1:=(Below.refl _ _).grown eF (ai _) (by intro k h;cases h);refine(lW w1 cK h1 (λ_=>by simp[cK])).mono ?_;rintro e w2 ⟨rfl,iC,bU⟩;have af:=ak.grown bU ak.size (by intro k h;cases h;exact ai _);clear lW h1 az eF;go_wp2;go_ret;exact⟨kP cK p,rfl,⟨iC,IA cK (λ_=>by simp[cK]) p⟩,λq=>by rw[Il,Ba];simp,af⟩
end Go.Proofs.YtdimhpfiieepiaaGreatDoor
