import Derived.Test.YtfajjdgkiilhfaaGreatDoorC44
import Derived.WalkLawsBesides
namespace Go.Proofs.YtfajjdgkiilhfaaGreatDoor
open Proofs.Tryz
open Option renaming none->za,some->zc
open Value renaming int->zb,pointer->zj,agg->zm,slice->zn
open Go renaming World->zd,Value->zf,Calls->zg,TypeId->zk
open RowKit renaming Hid->ze,Below->zh
open Obj renaming cells->zi
set_option maxHeartbeats 4000000
set_option maxRecDepth 100000
open Go.RowKit
section
attribute [local go_sem ↓] wp_at_zero wp_at_succ
section
variable {w a b w':zd}{g p cap k s N:Nat}{S:Nat -> Prop}{X:Array zf}{m:Nat×Nat}{L bs:List UInt8}{n:Int}
theorem KY{a b c:zf}{t:zk}(h:w.heap[g]?=zc (zi #[a,b,c] t (0,0))):w.cell? ⟨g,0,za⟩=zc a/\w.cell? ⟨g,1,za⟩=zc b/\w.cell? ⟨g,2,za⟩=zc c:=
 ⟨cG h 0,cG h 1,cG h 2⟩
structure Kept(S:Nat->Prop)(w w':zd):Prop where
 os:w'.os=w.os
 tape:w'.tape=w.tape
 output:w'.output=w.output
 size:w.heap.size<=w'.heap.size
 block:∀k,k<w.heap.size->¬S k->w'.heap[k]?=w.heap[k]?
theorem Kept.refl(S:Nat->Prop)(w:zd):Kept S w w:=⟨rfl,rfl,rfl,aq _,λ_ _ _=>rfl⟩
theorem Kept.trans{c:zd}(h:Kept S a b)(k:Kept S b c):Kept S a c:=
 ⟨k.os.trans h.os,k.tape.trans h.tape,k.output.trans h.output,cY h.size k.size,λi hi hs=>(k.block i (dR hi h.size) hs).trans (h.block i hi hs)⟩
theorem Kept.mono{T:Nat->Prop}(h:Kept S a b)(hst:∀k,S k->T k):Kept T a b:=⟨h.os,h.tape,h.output,h.size,λk hk hn=>h.block k hk (λhs=>hn (hst k hs))⟩
theorem Kept.k8(h:zh a.heap.size a b):Kept S a b:=⟨h.os,h.tape,h.output,h.size,λk hk _=>h.block k hk⟩
theorem Kept.drew(h:Kept S a b):Kept S a b.drew:=⟨h.os,h.tape,h.output,h.size,h.block⟩
theorem Kept.alloc(h:Kept S a b)(o:Obj):Kept S a (b.alloc o):=h.trans (.k8 (ax))
theorem Kept.setCell(h:Kept S a b){p:Addr}(hp:S p.block)(u:zf):Kept S a (b.setCell p u):=
 h.trans ⟨rfl,rfl,rfl,by simp[World.setCell],λk _ hs=>bh _ _ _ _ (λe=>hs (by rw[e];exact hp))⟩
theorem Kept.below(h:Kept S a b){B:Nat}(hB:B<=a.heap.size)(hS:∀k,S k->B<=k):zh B a b:=
 ⟨h.os,h.tape,h.output,h.size,λk hk=>h.block k (by omega) (λhs=>by have:=hS k hs;omega)⟩
theorem Kept.row(h:Kept S a b){g:Nat}{o:Obj}(hr:a.heap[g]?=zc o)(hs:¬S g):b.heap[g]?=zc o:=(h.block g (ay hr) hs).trans hr
def Dd(s:Nat)(b:UInt8):Nat:=(s+b.toNat)%65536
theorem zl5(l:List UInt8)(b:UInt8):nU (l++[b])=Dd (nU l) b:=by simp[nU,Dd]
structure kM(T:zk)(X:Array zf)(m:Nat×Nat)(p g cap:Nat)(L:List UInt8)(k s:Nat)(w:zd):Prop where
 ne:g≠p
 aZ:w.heap[p]?=zc (zi #[zn (zc ⟨g,0,za⟩) L.length cap,zb .i64 k,.int .u16 s] T (0,0))
 row:w.heap[g]?=zc (zi ((L.map Pj).toArray++X) 5 m)
theorem kM.at{T:zk}(h:kM T X m p g cap L k s w){j:Nat}(hj:j<L.length):w.cell? ⟨g,j,za⟩=zc (.int .u8 ((L.getD j 0).toNat:Int)):=by
 rw[iY _ _ _ _ _ _ h.row,Array.getElem?_append_left (by simpa using hj)];simp[List.getD,hj,Pj]
theorem kM.keep{T:zk}(h:kM T X m p g cap L k s w){S:Nat->Prop}(hk:Kept S w w')(hp:¬S p)(hg:¬S g):kM T X m p g cap L k s w':=
 ⟨h.ne,hk.row h.aZ hp,hk.row h.row hg⟩
theorem kM.step{T:zk}(h:kM T X m p g cap L k s w)(k' s':Nat):
  kM T X m p g cap L k' s' ((w.setCell ⟨p,1,za⟩ (zb .i64 k')).setCell ⟨p,2,za⟩ (.int .u16 s')):=by
 refine⟨h.ne,?_,?_⟩
 ·have h1:=cJ w p 1 _ _ (zb .i64 k') h.aZ;have h2:=cJ _ p 2 _ _ (.int .u16 s') h1
  simpa using h2
 ·rw[bh _ _ _ _ h.ne,bh _ _ _ _ h.ne];exact h.row
theorem kM.drew{T:zk}(h:kM T X m p g cap L k s w):kM T X m p g cap L k s w.drew:=⟨h.ne,h.aZ,h.row⟩
theorem kM.drewN{T:zk}(h:kM T X m p g cap L k s w)(n:Nat):kM T X m p g cap L k s (w.drewN n):=⟨h.ne,by simpa using h.aZ,by simpa using h.row⟩
theorem Kept.drewN(h:Kept S a b)(n:Nat):Kept S a (b.drewN n):=h.trans (.k8 (below_drewN (Below.refl _ _) _))
theorem zvN(n:Nat):IntKind.u16.wrap (n:Int)=((n%65536:Nat):Int):=by
 simp[IntKind.wrap,IntKind.bits,IntKind.signed]
theorem zq6{T:zk}(p g cap:Nat)(L:List UInt8)(k s:Nat)(w:zd)(h:kM T X m p g cap L k s w)(hk:k<L.length)(hL:L.length<=1900000):
  zg prog 50 #[zj (zc ⟨p,0,za⟩)] w λe w'=>e=.returned (.int .u8 ((L.getD k 0).toNat:Int))/\kM T X m p g cap L (k+1) (Dd s (L.getD k 0)) w'/\Kept (λb=>b=p) w w':=by
 obtain⟨c0,c1,c2⟩:=KY h.aZ;have r0:=h.at hk;have f1:=aM _ _ 1 _ _ h.aZ;have f2:=aM _ _ 2 _ _ h.aZ;have i0:(0:Int)<=(k:Int):=by omega
 have i1:(k:Int)<(L.length:Int):=by omega
 have hb:(L.getD k 0).toNat<256:=UInt8.toNat_lt _;have HC:ze (∀n,kM T X m p g cap L (k+1) (Dd s (L.getD k 0)) (((w.drewN n).setCell ⟨p,1,za⟩ (zb .i64 ((k:Int)+1))).setCell ⟨p,2,za⟩ (.int .u16 (IntKind.u16.wrap ((s:Int)+((L.getD k 0).toNat:Int)))))):=λn=>by
  have:=(h.drewN n).step (k+1) (Dd s (L.getD k 0));have e:IntKind.u16.wrap ((s:Int)+((L.getD k 0).toNat:Int))=(Dd s (L.getD k 0):Int):=zvN (s+(L.getD k 0).toNat);rw[e];exact this
 generalize Dd s (L.getD k 0)=s' at *;generalize (L.getD k 0).toNat=x at *
 go_enter func50,ntmps50
 go_wp2
 go_quiet (fail)
 go_wp2;go_ret;exact⟨rfl,HC.out _,(((Kept.refl _ _).drewN _).setCell (by rfl) _).setCell (by rfl) _⟩
theorem kM.put{T:zk}(h:kM T X (0,0) p g cap L k s w)(j:Nat)(hj:j<L.length)(b:UInt8):kM T X (0,0) p g cap (L.set j b) k s (w.setCell ⟨g,j,za⟩ (.int .u8 (b.toNat:Int))):=by
 refine⟨h.ne,?_,?_⟩
 ·rw[bh _ _ _ _ (λe=>h.ne e.symm),jQ];exact h.aZ
 ·rw[cJ _ g j _ _ _ h.row]
  congr 2
  rw[Array.setIfInBounds_append_left (by simpa using hj)]
  congr 1
  apply Array.ext'
  simp[List.map_set,Pj]
theorem zvC{T:zk}(p g cap:Nat)(L:List UInt8)(k s:Nat)(b:UInt8)(x:Int)(w:zd)(h:kM T X (0,0) p g cap L k s w)(hx:x=(b.toNat:Int))(hk:k<L.length)(hL:L.length<=1900000):
  zg prog 49 #[zj (zc ⟨p,0,za⟩),.int .u8 x] w λe w'=>e=.returned (.tuple #[])/\kM T X (0,0) p g cap (L.set k b) (k+1) (Dd s b) w'/\Kept (λb=>b=p\/b=g) w w':=by
 subst hx;obtain⟨c0,c1,c2⟩:=KY h.aZ;have r0:=h.at hk;have f1:=aM _ _ k _ _ h.row;have i0:(0:Int)<=(k:Int):=by omega
 have i1:(k:Int)<(L.length:Int):=by omega
 have HP:ze (kM T X (0,0) p g cap (L.set k b) k s (w.setCell ⟨g,k,za⟩ (.int .u8 (b.toNat:Int))).drew):=(h.put k hk b).drew;have HK:ze (Kept (λb=>b=p\/b=g) w (w.setCell ⟨g,k,za⟩ (.int .u8 (b.toNat:Int))).drew):=((Kept.refl _ _).setCell (Or.inr rfl) _).drew;have hb:b.toNat<256:=UInt8.toNat_lt _;have hl:(L.set k b).length=L.length:=jQ;have HB:ze ((L.set k b).getD k 0=b):=by show _=_;simp[List.getD,hk]
 go_enter func49,ntmps49
 go_wp2
 go_region
 all_goals
  go_wp2_with fail
  refine(zq6 p g cap (L.set k b) k s _ HP.out (by omega) (by omega)).mono ?_;rintro e w1 ⟨rfl,C1,K1⟩;rw[HB.out]at C1;go_wp2
  go_end0
  exact⟨rfl,C1,HK.out.trans (K1.mono (λ_=>Or.inl))⟩
def zL(N:Nat)(bs:List UInt8):List UInt8:=bs++List.replicate (N-bs.length) 0
theorem zj8(h:bs.length<=N):(zL N bs).length=N:=by simp[zL];omega
theorem zs1(h:bs.length<N)(b:UInt8):(zL N bs).set bs.length b=zL N (bs++[b]):=by
 unfold zL;rw[List.set_append,ab (by omega),Nat.sub_self,gJ];have e:N-bs.length=(N-(bs++[b]).length)+1:=by simp;omega
 rw[e,List.replicate_succ]
 rfl
theorem zq5(h:bs.length=N):zL N bs=bs:=by simp[zL,h]
def Wr(p g N:Nat)(bs:List UInt8)(w:zd):Prop:=bs.length<=N/\kM 66 #[] (0,0) p g N (zL N bs) bs.length (nU bs) w
theorem Wr.keep(h:Wr p g N bs w){S:Nat->Prop}(hk:Kept S w w')(hp:¬S p)(hg:¬S g):Wr p g N bs w':=⟨h.1,h.2.keep hk hp hg⟩
theorem Wr.put(h:Wr p g N bs w)(hN:N<=1900000)(b:UInt8)(x:Int)(hx:x=(b.toNat:Int))(hl:bs.length<N):
  zg prog 49 #[zj (zc ⟨p,0,za⟩),.int .u8 x] w λe w'=>e=.returned (.tuple #[])/\Wr p g N (bs++[b]) w'/\Kept (λb=>b=p\/b=g) w w':=by
 refine(zvC p g N (zL N bs) bs.length (nU bs) b x w h.2 hx (by rw[zj8 h.1];exact hl) (by rw[zj8 h.1];exact hN)).mono ?_;rintro e w' ⟨rfl,C,K⟩;refine⟨rfl,⟨by simp;omega,?_⟩,K⟩;rw[zs1 hl,<-zl5]at C
 simpa using C
def wS(ns:List Int):List UInt8:=ns.flatMap jJ
theorem zpi(ns:List Int)(k:Nat)(hk:k<ns.length)(n:Int)(hn:ns.getD k 0=n):wS (ns.take (k+1))=wS (ns.take k)++jJ n:=by
 have e:ns[k]=n:=by rw[<-hn];simp[List.getD,hk]
 rw[oh hk,e];simp[wS]
theorem zlC(ns:List Int):(wS ns).length=2*ns.length:=by
 induction ns with
 |nil=>rfl
 |cons a r ih=>simp only[wS,List.flatMap_cons,aQ,zX,lW]at *;omega
theorem zvL(h0:-1<=n)(h1:n<=65535):n/256%256=((UInt8.ofNat (rI n/256)).toNat:Int):=by
 unfold rI;split<;>simp<;>omega
theorem zvM(h0:-1<=n)(h1:n<=65535):n%256=((UInt8.ofNat (rI n%256)).toNat:Int):=by
 unfold rI;split<;>simp<;>omega
theorem zph{lo:Nat}(p g N:Nat)(bs:List UInt8)(v:zf)(ns:List Int)(w:zd)(h:Wr p g N bs w)(hN:N<=1900000)(hs:dD lo w v ns)(hp:p<lo)(hg:g<lo)(hr:ze (∀n∈ns,-1<=n/\n<=65535))(hl:bs.length+2*ns.length<=N):
  zg prog 34 #[zj (zc ⟨p,0,za⟩),v] w λe w'=>e=.returned (.tuple #[])/\Wr p g N (bs++wS ns) w'/\Kept (λb=>b=p\/b=g) w w':=by
 obtain⟨ao,cap,rfl,hm,hc⟩:=hs
 go_enter func34,ntmps34
 go_wp2
 go_loopw [8] (λi wr=>∃k:Nat,k<=ns.length/\i=zb .i64 k/\∃cs,ze (cs=bs++wS (ns.take k))/\Wr p g N cs wr/\Kept (λb=>b=p\/b=g) w wr)
  (λi _=>ns.length-(intOf i).toNat)
 case atStart=>exact⟨0,dz _,rfl,bs,by show _=_;simp[wS],h,Kept.refl _ _⟩
 case round=>
  obtain⟨k,hk,rfl,cs,HC,W,K⟩:=hrel
  by_cases hlt:k<ns.length
  ·obtain⟨b,o,rfl,fX,zBl,hcell⟩:=hc (by omega);have c0:wr.cell? ⟨b,o+k,za⟩=zc (zb .i64 (ns.getD k 0)):=(World.cell?_of_block (K.block b zBl (by omega))).trans (hcell k hlt);have hn:=hr.out (ns.getD k 0) (by simp[List.getD,hlt]);have HN:ze _:=zpi ns k hlt _ rfl;have aV:cs.length=bs.length+2*k:=by rw[HC.out,aQ,zlC,rP];omega
   have Hcl:ze (cs.length=bs.length+2*k):=aV;have zDb:cs.length+2<=N:=by omega
   have zyG:cs.length<N:=by omega
   clear aV;generalize ns.getD k 0=n at *
   go_wp2_with fail
   refine(W.put hN (UInt8.ofNat (rI n/256)) _ (zvL hn.1 hn.2) zyG).mono ?_;rintro e w1 ⟨rfl,W1,K1⟩
   go_wp2_with fail
   refine(W1.put hN (UInt8.ofNat (rI n%256)) _ (zvM hn.1 hn.2) (by simp;omega)).mono ?_;rintro e w2 ⟨rfl,W2,K2⟩;rw[gJ]at W2;go_wp2
   go_roundw
   case rel=>exact⟨k+1,by omega,by go_num,cs++jJ n,by show _=_;rw[HN.out,HC.out,gJ],W2,(K.trans K1).trans K2⟩
   case measure=>simp[intOf];omega
  ·have cC:k=ns.length:=by omega
   rw[cC,sW]at HC;go_wp2
   go_end0
   exact⟨rfl,by rw[<-HC.out];exact W,K⟩
end
section
variable {k p g cap gt:Nat}{X:Array zf}{m:Nat×Nat}{s:ByteArray}{w w' W W1 W2:zd}{width:Int}{v:Nat -> zf}{l:Nat -> List Int}
theorem zhT(c:Int)(w:zd):zg prog 36 #[.bool true,zb .i64 c] w λe w'=>e=.returned (.tuple #[])/\w'=w:=by
 go_enter func36,ntmps36
 go_wp2
 go_end0
 exact⟨rfl,rfl⟩
def Da(c:Int):List PanicEntry:=[{v:=.iface 69 (zb .i64 c),recovered:=false}]
theorem Z2(c:Int)(w:zd):zg prog 36 #[.bool false,zb .i64 c] w λe w'=>e=.panicked (Da c)/\w'=w:=by
 go_enter func36,ntmps36
 go_wp2;exact⟨rfl,rfl,rfl⟩
def Rd(X:Array zf)(m:Nat×Nat)(p g cap:Nat)(s:ByteArray)(k:Nat)(w:zd):Prop:=kM 72 X m p g cap s.data.toList k (nU (s.data.toList.take k)) w
theorem zrJ{L:List UInt8}(h:k<L.length):Dd (nU (L.take k)) (L.getD k 0)=nU (L.take (k+1)):=by
 rw[oh h,zl5];simp[List.getD,h]
theorem Rd.keep(h:Rd X m p g cap s k w){S:Nat->Prop}(hk:Kept S w w')(hp:¬S p)(hg:¬S g):Rd X m p g cap s k w':=kM.keep h hk hp hg
theorem Rd.below(h:Rd X m p g cap s k w)(hb:zh w.heap.size w w'):Rd X m p g cap s k w':=h.keep (S:=λ_=>False) (.k8 hb) (λk=>k) (λk=>k)
theorem Rd.pass(h:Rd X m p g cap s k w)(hk:k<s.size)(hL:s.size<=1048576):
  zg prog 50 #[zj (zc ⟨p,0,za⟩)] w λe w'=>e=.returned (.int .u8 (ku s k:Int))/\(Rd X m p g cap s (k+1) w'/\Kept (λb=>b=p) w w'):=by
 have:=zq6 p g cap s.data.toList k (nU (s.data.toList.take k)) w h (by simpa using hk) (by simp;omega);rw[zrJ (by simpa using hk)]at this;exact this
theorem zvA(x y:Nat)(hx:x<256)(hy:y<256):bits BinOp.or IntKind.i64 ((x:Int)*256) (y:Int)=((x*256+y:Nat):Int):=by
 have e:((x:Int)*256)=((x*256:Nat):Int):=by simp
 have h1:(BitVec.ofInt 64 ((x*256:Nat):Int) ||| BitVec.ofInt 64 (y:Int)).toNat=x*256+y:=by
  rw[BitVec.ofInt_natCast,BitVec.ofInt_natCast,BitVec.toNat_or,BitVec.toNat_ofNat,BitVec.toNat_ofNat,FH (by omega),FH (by omega)];have:=Nat.shiftLeft_add_eq_or_of_lt (i:=8) (b:=y) hy x;rw[Nat.shiftLeft_eq]at this;exact this.symm
 rw[e];show IntKind.i64.wrap ((BitVec.ofInt 64 ((x*256:Nat):Int) ||| BitVec.ofInt 64 (y:Int)).toNat:Int)=_;rw[h1];simp[IntKind.wrap,IntKind.bits,IntKind.signed];omega
theorem Rd.number(h:Rd X m p g cap s k w)(hk:k+1<s.size)(hL:s.size<=1048576):
  zg prog 51 #[zj (zc ⟨p,0,za⟩)] w λe w'=>e=.returned (zb .i64 (bZ s k:Int))/\(Rd X m p g cap s (k+2) w'/\Kept (λb=>b=p) w w'):=by
 have hx:=O7 s k;have hy:=O7 s (k+1);have HN:ze (bZ s k=ku s k*256+ku s (k+1)):=rfl;have c1:=λw h=>Rd.pass (X:=X) (m:=m) (p:=p) (g:=g) (cap:=cap) (s:=s) (k:=k) (w:=w) h (by omega) hL
 have c2:=λw h=>Rd.pass (X:=X) (m:=m) (p:=p) (g:=g) (cap:=cap) (s:=s) (k:=k+1) (w:=w) h hk hL
 generalize ku s k=x at *;generalize ku s (k+1)=y at *
 go_enter func51,ntmps51
 go_wp2_with fail
 refine(c1 _ h).mono ?_;rintro e w1 ⟨rfl,R1,K1⟩
 go_wp2_with fail
 refine(c2 _ R1).mono ?_;rintro e w2 ⟨rfl,R2,K2⟩;clear c1 c2;go_wp2;go_ret;exact⟨ew (by rw[HN.out,zvA x y hx hy]),R2,K1.trans K2⟩
theorem Rd.entry(h:Rd X m p g cap s k w)(hk:k+1<s.size)(hL:s.size<=1048576):
  zg prog 52 #[zj (zc ⟨p,0,za⟩)] w λe w'=>e=.returned (zb .i64 (sG s k))/\(Rd X m p g cap s (k+2) w'/\Kept (λb=>b=p) w w'):=by
 have c1:=h.number hk hL;have HN:ze (sG s k=if bZ s k=65535 then -1 else (bZ s k:Int)):=rfl;have hle:=Pe s k;generalize bZ s k=n at *
 by_cases hn:n=65535
 ·subst hn
  go_enter func52,ntmps52
  go_wp2_with fail
  refine c1.mono ?_;rintro e w1 ⟨rfl,R1,K1⟩;go_wp2;go_ret;exact⟨ew (by rw[HN.out];simp),R1,K1⟩
 ·have hb:((n:Int)==65535)=false:=by simp;omega
  have HF:ze (sG s k=(n:Int)):=by show _=_;rw[HN.out,ab hn]
  clear hn HN
  go_enter func52,ntmps52
  go_wp2_with fail
  refine c1.mono ?_;rintro e w1 ⟨rfl,R1,K1⟩;go_wp2;go_ret;exact⟨ew HF.out.symm,R1,K1⟩
theorem Ff{P:Program}{ops:Array Oper}{o:Oper}{a:Act}{K:Act->zd->Prop}{Q:Exit->Act->zd->Prop}{E:Prop}(fQ:o.guard=za)(f:FuncId)(x:Operand)(ats:Array zk)
  (ho:o.op=.call {callee:=.value (.func f),args:=#[x],argTypes:=ats}) (u:zf) (hu:a.eval x=u) (v:zf) (R:zd->Prop) (iC:(callFunc f #[u]).run P w=.ok (.enter f #[u]) w)
  (hc:zg P f #[u] w λe w'=>e=.returned v/\R w') (h:∀w',R w'->K (a.put o.dst v) w'):
  if Region.wanted o (yielded ops a.tmps)=true then Oper.wp P o a w K Q else E:=
 zrG fQ f #[x] ats ho #[u] (by simp[hu]) v R iC hc h
theorem zkU(args:Array zf)(w:zd):(callFunc 50 args).run prog w=.ok (.enter 50 args) w:=by kernel_rfl
theorem ZC(args:Array zf)(w:zd):(callFunc 51 args).run prog w=.ok (.enter 51 args) w:=by kernel_rfl
theorem ZK(args:Array zf)(w:zd):(callFunc 52 args).run prog w=.ok (.enter 52 args) w:=by kernel_rfl
structure tu(w:zd)(X:Array zf)(m:Nat×Nat)(p g cap:Nat)(s:ByteArray)(gt:Nat)(width:Int)(W:zd)(v:Nat->zf)(l:Nat->List Int)(k:Nat):Prop where
 kept:Kept (λb=>b=p) w W
 Y2:p<w.heap.size
 glt:g<w.heap.size
 over:w.heap.size<gt
 lt:gt<W.heap.size
 bw:W.heap[w.heap.size]?=zc (zi cO 28 (0,0))
 row:W.heap[gt]?=zc (zi (fR width v) 28 (0,0))
 au:aI gt 7 W v l
 rd:Rd X m p g cap s k W
theorem tu.push{k':Nat}(h:tu w X m p g cap s gt width W v l k)(hk:Kept (λb=>b=p) W W1)(qD:Rd X m p g cap s k' W1){i n off:Nat}(hi:i<7)(ho:Ku i=off){xs:List Int}(hx:l i=xs)(hn:xs.length=n){gg cc:Nat}{x:Int}
  (own:W2.ownsRow (gt+1) 3 1 (zn (zc ⟨gg,0,za⟩) (n+1) cc) (n+1) (xs.map eu++[zb .i64 x])) (grow:W1.grownBy W2 (v i).ownBlock) (at':(v i).ownBlock=zc gg\/gg=W1.heap.size):
  tu w X m p g cap s gt width (W2.setCell ⟨gt,off,za⟩ (zn (zc ⟨gg,0,za⟩) (n+1) cc)) (upd v i (zn (zc ⟨gg,0,za⟩) (n+1) cc)) (bG l i (xs++[x])) k':=by
 subst hn;subst hx;subst ho;have hz:=hk.size;have hlt:=h.lt;have dN:=h.over;have du:=h.Y2;have iK:=h.glt;have Cj:∀b,b<=gt->zc b≠(v i).ownBlock:=λb nF hc=>by have:=dG (h.au.own i hi) hc.symm;omega
 have k0:∀b,b<=gt->W2.heap[b]?=W1.heap[b]?:=λb nF=>grow.block b (by omega) (Cj b nF)
 have k1:∀b,b<=gt->b≠p->W2.heap[b]?=W.heap[b]?:=λb nF hne=>(k0 b nF).trans (hk.block b (by omega) hne)
 have gy:W1.heap.size<=W2.heap.size:=grow.size;have et:W2.heap[gt]?=zc (zi (fR width v) 28 (0,0)):=(k1 gt (aq _) (by omega)).trans h.row;have zAZ:aI gt 7 W1 v l:=h.au.keep λb hb hl=>hk.block b hl (by omega)
 have cI:=h.kept.size;refine⟨?_,du,iK,dN,by simp[World.setCell];omega,?_,?_,?_,?_⟩
 ·have bu:Kept (λb=>b=p) w W1:=h.kept.trans hk;refine⟨grow.os.trans bu.os,grow.tape.trans bu.tape,grow.output.trans bu.output,by simp[World.setCell];omega,λb hb hn=>?_⟩;rw[bh _ _ _ _ (by simp;omega)];exact(k0 b (by omega)).trans (bu.block b hb hn)
 ·rw[bh _ _ _ _ (by simp;omega)];exact(k1 _ (by omega) (by omega)).trans h.bw
 ·rw[<-OP width v i hi];exact cJ _ _ _ _ _ _ et
 ·exact(aI.append zAZ hi own grow (at'.imp id (λh=>by omega))).set _ _
 ·refine⟨qD.ne,?_,?_⟩
  ·rw[bh _ _ _ _ (by simp;omega),k0 _ (by omega)];exact qD.aZ
  ·rw[bh _ _ _ _ (by simp;omega),k0 _ (by omega)];exact qD.row
theorem tu.mid(h:tu w X m p g cap s gt width W v l k)(hk:Kept (λb=>b=p) W W1){i:Nat}(hi:i<7)(grow:W1.grownBy W2 (v i).ownBlock):
  (∀o,W2.cell? ⟨gt,o,za⟩=(fR width v)[o]?)/\(∀o,W2.frozen? ⟨gt,o,za⟩=false):=by
 have hz:=hk.size;have hlt:=h.lt;have du:=h.Y2;have dN:=h.over;have hr:W2.heap[gt]?=zc (zi (fR width v) 28 (0,0)):=((grow.block gt (by omega) (λhc=>by have:=dG (h.au.own i hi) hc.symm;omega)).trans (hk.block gt hlt (by omega))).trans h.row;exact⟨λ_=>iY _ _ _ _ _ _ hr,λ_=>aM _ _ _ _ _ hr⟩
theorem tu.H3(h:tu w X m p g cap s gt width W v l k){i n:Nat}(hi:i<7){xs:List Int}(hx:l i=xs)(hn:xs.length=n)(hk:Kept (λb=>b=p) W W1):W1.ownsRow (gt+1) 3 1 (v i) n (xs.map eu):=by
 subst hn;subst hx;have du:=h.Y2;have dN:=h.over;exact(h.au.keep λb hb hl=>hk.block b hl (by omega)).own i hi
end
end
section
variable {lo:Nat}
def wL(d:cg):Bool:=decide (d.next.length=d.az.length)&&decide (d.next.length<=60000)&&cd (-1) (d.base.length-1) d.az&&cd 0 (d.base.length-1) d.next&&wO d.az d.next
theorem Oz(d:cg):mZ d=(aG d.base.length 1 4000&&decide (d.bA.length=d.base.length)&&decide (d.tag.length=d.base.length)&&decide (d.fin.length=d.base.length) &&
  (l9 d.ai d.width&&cd 0 59999 d.base&&cd 0 (d.base.length-1) d.bA&&(cd (-1) 99 d.tag&&cd (-1) 99 d.fin&&wL d))):=by
 rw[FC];simp only[mZ,l9,wL,fI];constructor
 ·rintro ⟨⟨⟨⟨⟨⟨⟨⟨⟨a,b⟩,c⟩,e⟩,f⟩,g⟩,i⟩,j⟩,k⟩,l,⟨⟨⟨⟨m,n⟩,o⟩,p⟩,q⟩,r⟩;exact⟨⟨⟨⟨e,f⟩,g⟩,i⟩,⟨⟨⟨⟨a,b⟩,c⟩,m⟩,n⟩,⟨o,p⟩,⟨⟨⟨j,k⟩,q⟩,r⟩,l⟩
 ·rintro ⟨⟨⟨⟨e,f⟩,g⟩,i⟩,⟨⟨⟨⟨a,b⟩,c⟩,m⟩,n⟩,⟨o,p⟩,⟨⟨⟨j,k⟩,q⟩,r⟩,l⟩;exact⟨⟨⟨⟨⟨⟨⟨⟨⟨a,b⟩,c⟩,e⟩,f⟩,g⟩,i⟩,j⟩,k⟩,l,⟨⟨⟨⟨m,n⟩,o⟩,p⟩,q⟩,r⟩
theorem zlR(cv bv fv tv ev nv kv:zf)(d:cg)(w:zd)(hs:qi lo w cv bv fv tv ev nv kv d)(H:ze (wL d=false))
  (h:((d.az.length:Int) != d.next.length)=true\/((d.az.length:Int) != d.next.length)=false/\¬d.next.length<=60000):
  zg prog 31 #[zm #[cv,zb .i64 d.width,bv,fv,tv,ev,nv,kv]] w λe w'=>e=.returned (.bool (wL d))/\zh w.heap.size w w':=by
 obtain⟨⟨a0,p0,rfl,m0,y0⟩,⟨a1,p1,rfl,m1,y1⟩,⟨a2,p2,rfl,m2,y2⟩,⟨a3,p3,rfl,m3,y3⟩,⟨a4,p4,rfl,m4,y4⟩,⟨a5,p5,rfl,m5,y5⟩,⟨a6,p6,rfl,m6,y6⟩⟩:=hs;clear y0 y1 y2 y3 y4 y5 y6;rcases h with h|⟨b1,h⟩
 all_goals
  go_enter func31,ntmps31
  go_wp2;go_ret;exact⟨cU H.out.symm,ax⟩
theorem zrB(cv bv fv tv ev nv kv:zf)(d:cg)(w:zd)(hs:qi lo w cv bv fv tv ev nv kv d)(hn:(d.base.length:Int)<=4000)(g1:d.next.length=d.az.length)(g2:d.next.length<=60000):
  zg prog 31 #[zm #[cv,zb .i64 d.width,bv,fv,tv,ev,nv,kv]] w λe w'=>e=.returned (.bool (wL d))/\zh w.heap.size w w':=by
 have aD:zh w.heap.size w (w.alloc (zi #[cv,zb .i64 d.width,bv,fv,tv,ev,nv,kv] 28)):=ax;have cI:=hs.below aD;clear aD;have H:ze (wL d=(cd (-1) (d.base.length-1) d.az&&cd 0 (d.base.length-1) d.next&&wO d.az d.next)):=by show _=_;simp[wL,<-g1,g2]
 have b1:((d.az.length:Int) != d.next.length)=false:=by simp[g1]
 have uw:ze (d.az.length=d.next.length):=g1.symm;clear g1;obtain⟨⟨a0,p0,rfl,m0,y0⟩,⟨a1,p1,rfl,m1,y1⟩,⟨a2,p2,rfl,m2,y2⟩,⟨a3,p3,rfl,m3,y3⟩,⟨a4,p4,rfl,m4,y4⟩,⟨a5,p5,rfl,m5,y5⟩,⟨a6,p6,rfl,m6,y6⟩⟩:=hs;clear y0 y1 y2 y3 y4;have uI:zh w.heap.size w (w.alloc (zi #[.slice a0 d.ai.length p0,zb .i64 d.width,.slice a1 d.base.length p1,.slice a2 d.bA.length p2,.slice a3 d.tag.length p3,.slice a4 d.fin.length p4,.slice a5 d.next.length p5,.slice a6 d.az.length p6] 28)):=ax
 go_enter func31,ntmps31
 go_wp2_with fail
 refine(Ir _ _ _ d.az _ cI.az).mono ?_;rintro e w' ⟨rfl,rfl⟩;cases q1:cd (-1) (d.base.length-1) d.az
 case false=>
  rw[q1]at H;go_wp2;go_ret;exact⟨cU (by rw[H.out];simp),uI⟩
 rw[q1]at H
 go_wp2_with fail
 refine(Ir _ _ _ d.next _ cI.next).mono ?_;rintro e w' ⟨rfl,rfl⟩;cases q2:cd 0 (d.base.length-1) d.next
 case false=>
  rw[q2]at H;go_wp2;go_ret;exact⟨cU (by rw[H.out];simp),uI⟩
 rw[q2]at H;have H2:ze (wL d=wO d.az d.next):=by show _=_;rw[H.out];simp
 clear H cI q1 q2;go_wp2
 go_loop [39] (λi=>∃k:Nat,k<=d.az.length/\i=zb .i64 k/\ze (wL d=wO (d.az.drop k) (d.next.drop k)))
  (λi=>d.az.length-(intOf i).toNat)
 case atStart=>exact⟨0,dz _,rfl,H2.out⟩
 case round=>
  clear H2;obtain⟨k,hk,rfl,HS⟩:=hrel
  by_cases hlt:k<d.az.length
  ·have ry:k<d.next.length:=by have:=uw.out;omega
   obtain⟨b,o,x,rfl,Hn,bF,c0⟩:=y6.elem uI hlt;obtain⟨b2,o2,y,rfl,pH,zl,d0⟩:=y5.elem uI ry;have HD:ze _:=zoP d.az d.next k hlt ry x y Hn.out pH.out
   by_cases hx:x=-1
   ·by_cases hy:y=0
    ·go_wp2
     go_round
     case rel=>exact⟨k+1,by omega,by go_num,by show _=_;rw[HS.out,HD.out];simp[hx,hy]⟩
     case measure=>simp[intOf];omega
    ·go_wp2;go_ret;exact⟨cU (by rw[HS.out,HD.out];simp[hx,hy]),uI⟩
   ·have HE:ze ((!(x == -1&&y != 0))=true):=by show _=_;simp[hx]
    go_wp2
    go_round
    case rel=>exact⟨k+1,by omega,by go_num,by show _=_;rw[HS.out,HD.out,HE.out,Ag]⟩
    case measure=>simp[intOf];omega
  ·rw[zqi _ _ k (by omega)]at HS;go_wp2;go_ret;exact⟨cU HS.out.symm,uI⟩
theorem zps(cv bv fv tv ev nv kv:zf)(d:cg)(w:zd)(hs:qi lo w cv bv fv tv ev nv kv d)(hn:(d.base.length:Int)<=4000):
  zg prog 31 #[zm #[cv,zb .i64 d.width,bv,fv,tv,ev,nv,kv]] w λe w'=>e=.returned (.bool (wL d))/\zh w.heap.size w w':=by
 by_cases g1:d.next.length=d.az.length
 case neg=>exact zlR cv bv fv tv ev nv kv d w hs (by show _=_;simp[wL,g1]) (.inl (by simp;omega))
 by_cases g2:d.next.length<=60000
 case neg=>exact zlR cv bv fv tv ev nv kv d w hs (by show _=_;simp[wL,g2]) (.inr ⟨by simp[g1],g2⟩)
 exact zrB cv bv fv tv ev nv kv d w hs hn g1 g2
theorem zjS(cv bv fv tv ev nv kv:zf)(d:cg)(w:zd)(hs:qi lo w cv bv fv tv ev nv kv d)(H:ze (mZ d=false))
  (h:(d.base.length:Int)<1\/¬(d.base.length:Int)<1/\(4000<(d.base.length:Int)\/¬4000<(d.base.length:Int)/\(((d.bA.length:Int) != d.base.length)=true\/((d.bA.length:Int) != d.base.length)=false/\(((d.tag.length:Int) != d.base.length)=true\/((d.tag.length:Int) != d.base.length)=false/\((d.fin.length:Int) != d.base.length)=true)))):
  zg prog 7 #[zm #[cv,zb .i64 d.width,bv,fv,tv,ev,nv,kv]] w λe w'=>e=.returned (.bool (mZ d))/\zh w.heap.size w w':=by
 obtain⟨⟨a0,p0,rfl,m0,y0⟩,⟨a1,p1,rfl,m1,y1⟩,⟨a2,p2,rfl,m2,y2⟩,⟨a3,p3,rfl,m3,y3⟩,⟨a4,p4,rfl,m4,y4⟩,⟨a5,p5,rfl,m5,y5⟩,⟨a6,p6,rfl,m6,y6⟩⟩:=hs;clear y0 y1 y2 y3 y4 y5 y6;rcases h with h|⟨t1,h|⟨t2,h|⟨b5,h|⟨b6,h⟩⟩⟩⟩
 all_goals
  go_enter func7,ntmps7
  go_wp2;go_ret;exact⟨cU H.out.symm,ax⟩
theorem zjT(cv bv fv tv ev nv kv:zf)(d:cg)(w:zd)(hs:qi lo w cv bv fv tv ev nv kv d)(t1:¬(d.base.length:Int)<1)(t2:¬4000<(d.base.length:Int))(g5:d.bA.length=d.base.length)(g6:d.tag.length=d.base.length)(g7:d.fin.length=d.base.length):
  zg prog 7 #[zm #[cv,zb .i64 d.width,bv,fv,tv,ev,nv,kv]] w λe w'=>e=.returned (.bool (mZ d))/\zh w.heap.size w w':=by
 have aD:zh w.heap.size w (w.alloc (zi #[cv,zb .i64 d.width,bv,fv,tv,ev,nv,kv] 28)):=ax;have cI:=hs.below aD;clear aD;obtain⟨⟨a0,p0,rfl,m0,y0⟩,⟨a1,p1,rfl,m1,y1⟩,⟨a2,p2,rfl,m2,y2⟩,⟨a3,p3,rfl,m3,y3⟩,⟨a4,p4,rfl,m4,y4⟩,⟨a5,p5,rfl,m5,y5⟩,⟨a6,p6,rfl,m6,y6⟩⟩:=hs;have H:ze (mZ d=(l9 d.ai d.width&&cd 0 59999 d.base&&cd 0 (d.base.length-1) d.bA&&(cd (-1) 99 d.tag&&cd (-1) 99 d.fin&&wL d))):=by
  show _=_;have e2:aG d.base.length 1 4000=true:=by simp[aG];omega
  rw[Oz];simp[g5,g6,g7,e2]
 have hn:(d.base.length:Int)<=4000:=by omega
 clear y0 y1 y2 y3 y4 y5 y6;have bg5:((d.bA.length:Int) != d.base.length)=false:=by simp[g5]
 clear g5;have bg6:((d.tag.length:Int) != d.base.length)=false:=by simp[g6]
 clear g6;have bg7:((d.fin.length:Int) != d.base.length)=false:=by simp[g7]
 clear g7;have r0:(w.alloc (zi #[.slice a0 d.ai.length p0,zb .i64 d.width,.slice a1 d.base.length p1,.slice a2 d.bA.length p2,.slice a3 d.tag.length p3,.slice a4 d.fin.length p4,.slice a5 d.next.length p5,.slice a6 d.az.length p6] 28)).heap[w.heap.size]?=zc (zi #[.slice a0 d.ai.length p0,zb .i64 d.width,.slice a1 d.base.length p1,.slice a2 d.bA.length p2,.slice a3 d.tag.length p3,.slice a4 d.fin.length p4,.slice a5 d.next.length p5,.slice a6 d.az.length p6] 28 (0,0)):=aJ _ _;have uI:zh w.heap.size w (w.alloc (zi #[.slice a0 d.ai.length p0,zb .i64 d.width,.slice a1 d.base.length p1,.slice a2 d.bA.length p2,.slice a3 d.tag.length p3,.slice a4 d.fin.length p4,.slice a5 d.next.length p5,.slice a6 d.az.length p6] 28)):=ax
 go_enter func7,ntmps7
 go_wp2_with fail
 refine(If _ d.ai _ _ cI.ai).mono ?_;rintro e w' ⟨rfl,rfl⟩;cases q0:l9 d.ai d.width
 case false=>
  rw[q0]at H;go_wp2;go_ret;exact⟨cU (by rw[H.out];simp),uI⟩
 rw[q0]at H
 go_wp2_with fail
 refine(Ir _ _ _ d.base _ cI.base).mono ?_;rintro e w' ⟨rfl,rfl⟩;cases q1:cd 0 59999 d.base
 case false=>
  rw[q1]at H;go_wp2;go_ret;exact⟨cU (by rw[H.out];simp),uI⟩
 rw[q1]at H
 go_wp2_with fail
 refine(Ir _ _ _ d.bA _ cI.bA).mono ?_;rintro e w' ⟨rfl,rfl⟩;cases q2:cd 0 (d.base.length-1) d.bA
 case false=>
  rw[q2]at H;go_wp2;go_ret;exact⟨cU (by rw[H.out];simp),uI⟩
 rw[q2]at H
 go_wp2_with fail
 refine(S6 _ d.tag _ cI.tag).mono ?_;rintro e w' ⟨rfl,rfl⟩;cases q3:cd (-1) 99 d.tag
 case false=>
  rw[q3]at H;go_wp2;go_ret;exact⟨cU (by rw[H.out];simp),uI⟩
 rw[q3]at H
 go_wp2_with fail
 refine(S6 _ d.fin _ cI.fin).mono ?_;rintro e w' ⟨rfl,rfl⟩;cases q4:cd (-1) 99 d.fin
 case false=>
  rw[q4]at H;go_wp2;go_ret;exact⟨cU (by rw[H.out];simp),uI⟩
 rw[q4]at H
 go_wp2_with fail
 refine(zps _ _ _ _ _ _ _ d _ cI hn).mono ?_;rintro e w2 ⟨rfl,aB⟩;go_wp2;go_ret;exact⟨cU (by rw[H.out];simp),aH uI uI.size aB⟩
theorem On(cv bv fv tv ev nv kv:zf)(d:cg)(w:zd)(hs:qi lo w cv bv fv tv ev nv kv d)(_:C4 d):
  zg prog 7 #[zm #[cv,zb .i64 d.width,bv,fv,tv,ev,nv,kv]] w λe w'=>e=.returned (.bool (mZ d))/\zh w.heap.size w w':=by
 have N:=zjS cv bv fv tv ev nv kv d w hs;have Z:aG d.base.length 1 4000=false->mZ d=false:=λe=>by rw[Oz,e];simp
 by_cases t1:(d.base.length:Int)<1
 case pos=>exact N (Z (by simp[aG];omega)) (.inl t1)
 by_cases t2:4000<(d.base.length:Int)
 case pos=>exact N (Z (by simp[aG];omega)) (.inr ⟨t1,.inl t2⟩)
 by_cases g5:d.bA.length=d.base.length
 case neg=>exact N (by show _=_;rw[Oz];simp[g5]) (.inr ⟨t1,.inr ⟨t2,.inl (by simp;omega)⟩⟩)
 by_cases g6:d.tag.length=d.base.length
 case neg=>exact N (by show _=_;rw[Oz];simp[g6]) (.inr ⟨t1,.inr ⟨t2,.inr ⟨by simp[g5],.inl (by simp;omega)⟩⟩⟩)
 by_cases g7:d.fin.length=d.base.length
 case neg=>exact N (by show _=_;rw[Oz];simp[g7]) (.inr ⟨t1,.inr ⟨t2,.inr ⟨by simp[g5],.inr ⟨by simp[g6],by simp;omega⟩⟩⟩⟩)
 exact zjT cv bv fv tv ev nv kv d w hs t1 t2 g5 g6 g7
end
section
attribute [local go_sem ↓] wp_at_zero wp_at_succ
section
variable {w:zd}{s:ByteArray}
theorem TI(c:Int)(b:Bool)(w:zd)(hb:b=true):zg prog 36 #[.bool b,zb .i64 c] w λe w'=>e=.returned (.tuple #[])/\w'=w:=by subst hb;exact zhT c w
theorem Fi(c:Int)(b:Bool)(w:zd)(hb:b=false):zg prog 36 #[.bool b,zb .i64 c] w λe w'=>e=.panicked (Da c)/\w'=w:=by subst hb;exact Z2 c w
theorem zkT(args:Array zf)(w:zd):(callFunc 36 args).run prog w=.ok (.enter 36 args) w:=by kernel_rfl
theorem CT{P:Program}{fn:Func}{R:Ending->zd->Prop}{c:List PanicEntry}{a:Act}(hd:a.defers=[])(h:R (.panicked c) w):bodyPost P fn R (.panic c) a w:=⟨hd,h⟩
def yo(s:ByteArray)(p:Nat)(w:zd)(e:Ending)(w':zd):Prop:=Kept (λb=>b=p) w w'/\
 ((iU s=0/\∃(gt:Nat) (v:Nat->zf),e=.returned (zm (fR (wR s) v))/\w.heap.size<=gt/\aI gt 7 w' v (qh s))\/(¬iU s=0/\e=.panicked (Da (iU s))))
theorem yo.bad{p:Nat}{w':zd}{c:Int}(hk:Kept (λb=>b=p) w w')(h:iU s=c)(hc:¬c=0):yo s p w (.panicked (Da c)) w':=⟨hk,.inr (by rw[h];exact⟨hc,rfl⟩)⟩
def Iw(k:Nat):Nat:=(([88,68,70,49]:List UInt8).getD k 0).toNat
theorem zhQ{k:Nat}(h:k<4)(hk:k<(⟨#[88,68,70,49]⟩:ByteArray).size):(((⟨#[88,68,70,49]⟩:ByteArray)[k]'hk).toNat:Int)=(Iw k:Int):=by
 match k,h with
 |0,_=>rfl
 |1,_=>rfl
 |2,_=>rfl
 |3,_=>rfl
theorem zqP(hs:4<=s.size):s.extract 0 4=⟨#[88,68,70,49]⟩↔∀j,j<4->ku s j=Iw j:=by
 have hl:(s.extract 0 4).size=4:=by simp;omega
 constructor
 ·intro h j hj;have e:ku s j=ku (s.extract 0 4) j:=by
   rw[<-zpL (s:=s) (i:=j) (by omega),<-zpL (s:=s.extract 0 4) (i:=j) (by omega)];rw[ByteArray.getElem_extract];simp
  rw[e,h]
  rfl
 ·intro h;apply ByteArray.ext_getElem
  ·rw[hl];rfl
  ·intro j h1 h2;have hj:j<4:=by omega
   have e:=h j hj;rw[ByteArray.getElem_extract];apply UInt8.toNat_inj.1;have e0:s[0+j].toNat=ku s j:=by rw[zpL (s:=s) (i:=0+j) (by omega),iH]
   rw[e0,e];have:=zhQ hj h2;omega
theorem zk7(n sl:Nat)(hn:(n:Int)<=4000)(hs:(sl:Int)<=60000)(w:zd):
  zg prog 32 #[zb .i64 n,zb .i64 sl] w λe w'=>e=.returned (zb .i64 (268+8*(n:Int)+4*(sl:Int)))/\w'=w:=by
 go_enter func32,ntmps32
 go_wp2;go_ret;exact⟨rfl,rfl⟩
theorem zp8(args:Array zf)(w:zd):(callFunc 32 args).run prog w=.ok (.enter 32 args) w:=by kernel_rfl
theorem zkV(s:ByteArray)(k:Nat):(s.extract 0 k).data.toList=s.data.toList.take k:=by simp
theorem Kept.lR{S:Nat->Prop}{a W:zd}(h:Kept S a W){b:Nat}(hb:a.heap.size<=b)(u0 u1 u2 u3 u4 u5 u6 u7:zf):Kept S a (Go.Proofs.YtfajjdgkiilhfaaGreatDoor.lR W b u0 u1 u2 u3 u4 u5 u6 u7):=by
 have step:∀(W:zd) (o:Nat) (u:zf),Kept S a W->Kept S a (W.setCell ⟨b,o,za⟩ u):=λW o u h=>⟨h.os,h.tape,h.output,by have:=h.size;simpa [World.setCell]using this,λk hk hs=>(bh _ _ _ _ (by simp;omega)).trans (h.block k hk hs)⟩
 exact step _ _ _ (step _ _ _ (step _ _ _ (step _ _ _ (step _ _ _ (step _ _ _ (step _ _ _ (step _ _ _ h)))))))
structure O9(s:ByteArray):Prop where
 n1:1<=bZ s 4
 n2:bZ s 4<=4000
 w1:1<=bZ s 6
 w2:bZ s 6<=256
 sl:bZ s 8<=60000
theorem zvU(BZ:¬(s.size:Int)<268)(hm:s.extract 0 4=⟨#[88,68,70,49]⟩)(h:¬O9 s):iU s=3:=by
 unfold iU;rw[ab BZ,ab (not_not_intro hm)];cases g3:aG (bZ s 4) 1 4000
 case false=>rw[af rfl]
 rw[ab (by simp)];cases g4:aG (bZ s 6) 1 256
 case false=>rw[af rfl]
 rw[ab (by simp),af];have a:=kK.1 g3;have b:=kK.1 g4
 by_cases qF:60000<(bZ s 8:Int)
 ·exact qF
 ·exact absurd (O9.mk (by omega) (by omega) (by omega) (by omega) (by omega)) h
theorem zqM(BZ:¬(s.size:Int)<268)(hm:s.extract 0 4=⟨#[88,68,70,49]⟩)(h:O9 s):iU s =
  if ¬(s.size:Int)=268+8*bZ s 4+4*bZ s 8 then 4 else if ¬nU (s.extract 0 (s.size-2)).data.toList=bZ s (s.size-2) then 5 else if mZ (IC s)=false then 6 else 0:=by
 obtain⟨a,b,c,d,e⟩:=h;unfold iU;rw[ab BZ,ab (not_not_intro hm),ab (by rw[show aG (bZ s 4) 1 4000=true from kK.2 (by omega)];simp),ab (by rw[show aG (bZ s 6) 1 256=true from kK.2 (by omega)];simp),ab (by omega)]
theorem ztm{X:Array zf}{m:Nat×Nat}(p g cap:Nat)(s:ByteArray)(w:zd)(h:Rd X m p g cap s 0 w)(hs:s.size<=1048576)(BZ:¬(s.size:Int)<268):
  zg prog 37 #[zj (zc ⟨p,0,za⟩)] w λe w'=>yo s p w e w':=by
 obtain⟨i0,hi,da,dt,cR⟩:=info_parts Tryz.pX;have zCL:268<=s.size:=by omega
 have du:p<w.heap.size:=ay h.aZ;have iK:g<w.heap.size:=ay h.row;have R0:=h.below ((Below.refl _ _).alloc (aq _) (zi cO 28));have K0:Kept (λb=>b=p) w (w.alloc (zi cO 28)):=(Kept.refl _ _).alloc _;have Z0:=aJ w (zi cO 28)
 go_enter func37,ntmps37
 go_wp2
 go_loopw [9] (λi wr=>∃k:Nat,k<=4/\i=zb .i64 k/\Rd X m p g cap s k wr/\Kept (λb=>b=p) w wr/\wr.heap[w.heap.size]?=zc (zi cO 28 (0,0))/\ze (∀j,j<k->ku s j=Iw j))
  (λi _=>4-(intOf i).toNat)
 case atStart=>exact⟨0,by omega,rfl,R0,K0,Z0,λj hj=>absurd hj (fw _)⟩
 case round=>
  clear R0 K0 Z0;obtain⟨k,hk,rfl,R,K,Z,HM⟩:=hrel
  by_cases GQ:k<4
  ·have hne:¬w.heap.size=p:=by omega
   have eC:(0:Int)<=(k:Int):=by omega
   have dg:(k:Int)<4:=by omega
   have cP:=λw h=>Rd.pass (X:=X) (m:=m) (p:=p) (g:=g) (cap:=cap) (s:=s) (k:=k) (w:=w) h (by omega) hs
   by_cases hb:ku s k=Iw k
   ·have aB:((ku s k:Int)==(Iw k:Int))=true:=by rw[hb];simp
    have qn:ze (∀j,j<k+1->ku s j=Iw j):=λj hj=>by
     by_cases e:j=k
     ·rw[e];exact hb
     ·exact HM.out j (by omega)
    clear hb;go_wp2
    go_region_held3 (λ_=>True) ((exact trivial)) ((first|(go_at_call 50;refine(cP _ (by first|exact R|exact R.below (Below.refl _ _).drew)).mono ?_;rintro e w1 ⟨rfl,R1,K1⟩)|(go_at_call 36;refine(TI 2 _ _ (by rw[zhQ GQ];exact aB)).mono ?_;rintro e w2 ⟨rfl,rfl⟩)))
    all_goals
     have Z1:=K1.row Z hne;go_wp2;exact⟨⟨k+1,by omega,by go_num,R1,by first|exact K.trans K1|exact K.drew.trans K1,Z1,qn⟩,by simp[intOf];omega⟩
   ·have aB:((ku s k:Int)==(Iw k:Int))=false:=by simp;omega
    have HC:ze (iU s=2):=by
     show _=_;unfold iU;rw[ab (by omega),af];intro hm;exact hb ((zqP (by omega)).1 hm k GQ)
    clear hb;go_wp2
    go_region_law ((first|(refine Ff (by rfl) 50 (.tmp 14) #[64] (by rfl) (zj (zc ⟨p,0,za⟩)) (by rfl) (.int .u8 (ku s k:Int)) _ (zkU _ _) (cP _ (by first|exact R|exact R.below (Below.refl _ _).drew)) ?_;rintro w1 ⟨R1,K1⟩)|(refine zl3 (by rfl) 36 (.tmp 18) (.const (zb .i64 2)) #[4,69] (by rfl) (.bool _) (zb .i64 2) (by rfl) (by rfl) (Da 2) _ (zkT _ _) (Fi 2 _ _ (by rw[zhQ GQ];exact aB)) (by rintro w2 rfl;exact CT (P:=prog) (fn:=f37) rfl (yo.bad (by first|exact K.trans K1|exact K.drew.trans K1) HC.out (by decide))) ?_;intro hF)))
    all_goals exact hF.out.elim
  ·have jf:k=4:=by omega
   subst jf;have zxN:ze (s.extract 0 4=⟨#[88,68,70,49]⟩):=(zqP (by omega)).2 HM.out;have BZ:ze (¬(s.size:Int)<268):=by show ¬_;omega
   have hne:¬w.heap.size=p:=by omega
   clear HM GQ hk;have c4:=R.number (by omega) hs
   go_wp2_with fail
   refine c4.mono ?_;rintro e w1 ⟨rfl,R1,K1⟩;clear c4;have c6:=R1.number (by omega) hs
   go_wp2_with fail
   refine c6.mono ?_;rintro e w2 ⟨rfl,R2,K2⟩;clear c6;have c8:=R2.number (by omega) hs
   go_wp2_with fail
   refine c8.mono ?_;rintro e w3 ⟨rfl,R3,K3⟩;clear c8;have Z3:=K3.row (K2.row (K1.row Z hne) hne) hne;have KK:=((K.trans K1).trans K2).trans K3;clear Z K K1 K2 K3 R R1 R2 w1 w2;have q4:=Pe s 4;have q6:=Pe s 6;have q8:=Pe s 8
   by_cases hC:O9 s
   case neg=>
    have HC:ze (iU s=3):=zvU (by have:=BZ.out;omega) zxN.out hC;have HQ:ze (¬(1<=bZ s 4/\bZ s 4<=4000/\1<=bZ s 6/\bZ s 6<=256/\bZ s 8<=60000)):=λh=>hC ⟨h.1,h.2.1,h.2.2.1,h.2.2.2.1,h.2.2.2.2⟩
    clear hC;generalize bZ s 4=n at *;generalize bZ s 6=wd at *;generalize bZ s 8=sl at *
    by_cases n1:1<=(n:Int)
    case neg=>
     go_wp2_with fail
     refine(Fi 3 _ _ (by first|rfl|(simp;omega))).mono ?_;rintro e wy ⟨rfl,rfl⟩;exact CT (P:=prog) (fn:=f37) rfl (yo.bad KK HC.out (by decide))
    by_cases n2:(n:Int)<=4000
    case neg=>
     go_wp2_with fail
     refine(Fi 3 _ _ (by first|rfl|(simp;omega))).mono ?_;rintro e wy ⟨rfl,rfl⟩;exact CT (P:=prog) (fn:=f37) rfl (yo.bad KK HC.out (by decide))
    by_cases n3:1<=(wd:Int)
    case neg=>
     go_wp2_with fail
     refine(Fi 3 _ _ (by first|rfl|(simp;omega))).mono ?_;rintro e wy ⟨rfl,rfl⟩;exact CT (P:=prog) (fn:=f37) rfl (yo.bad KK HC.out (by decide))
    by_cases n4:(wd:Int)<=256
    case neg=>
     go_wp2_with fail
     refine(Fi 3 _ _ (by first|rfl|(simp;omega))).mono ?_;rintro e wy ⟨rfl,rfl⟩;exact CT (P:=prog) (fn:=f37) rfl (yo.bad KK HC.out (by decide))
    by_cases n5:(sl:Int)<=60000
    case neg=>
     go_wp2_with fail
     refine(Fi 3 _ _ (by first|rfl|(simp;omega))).mono ?_;rintro e wy ⟨rfl,rfl⟩;exact CT (P:=prog) (fn:=f37) rfl (yo.bad KK HC.out (by decide))
    exact absurd HQ.out (not_not_intro (by omega))
   have HP:ze _:=zqM (by have:=BZ.out;omega) zxN.out hC;have HCo:ze (O9 s):=hC;obtain⟨n1,n2,n3,n4,n5⟩:=hC;have m1:1<=(bZ s 4:Int):=by omega
   have m2:(bZ s 4:Int)<=4000:=by omega
   have m3:1<=(bZ s 6:Int):=by omega
   have m4:(bZ s 6:Int)<=256:=by omega
   have m5:(bZ s 8:Int)<=60000:=by omega
   have HTn:ze (IC s=jP (bZ s 6) (gD s (bZ s 4) (bZ s 8) (bZ s 8))):=rfl;have PN:ze (iU s=0->wR s=bZ s 6/\qh s=gD s (bZ s 4) (bZ s 8) (bZ s 8)):=λh=>by unfold wR qh;rw[af h,af h];exact⟨rfl,rfl⟩
   generalize bZ s 4=n at *;generalize bZ s 6=wd at *;generalize bZ s 8=sl at *;clear q4 q6 q8 HCo
   go_wp2_with fail
   refine(TI 3 _ _ (by first|rfl|(simp;omega))).mono ?_;rintro e wy ⟨rfl,rfl⟩;obtain⟨z0,z1,z2⟩:=KY R3.aZ;have hlen:s.data.toList.length=s.size:=by simp
   have cS:=zk7 n sl m2 m5;rw[hlen]at z0;clear hlen
   by_cases hz:(s.size:Int)=268+8*n+4*sl
   case neg=>
    have HC:ze (iU s=4):=by show _=_;rw[HP.out,af hz]
    have hzb:((s.size:Int)==268+8*(n:Int)+4*(sl:Int))=false:=by simp;omega
    clear hz;go_wp2
    go_region_law ((first|(refine zoj (by rfl) 32 (.tmp 52) (.tmp 53) #[3,3] (by rfl) (zb .i64 n) (zb .i64 sl) (by rfl) (by rfl) (zb .i64 (268+8*(n:Int)+4*(sl:Int))) _ (zp8 _ _) (cS _) ?_;rintro wq rfl)|(refine zl3 (by rfl) 36 (.tmp 55) (.const (zb .i64 4)) #[4,69] (by rfl) (.bool false) (zb .i64 4) (by rfl) (by rfl) (Da 4) _ (zkT _ _) (Z2 4 _) (by rintro wq2 rfl;exact CT (P:=prog) (fn:=f37) rfl (yo.bad (by first|exact KK|exact KK.drew) HC.out (by decide))) ?_;intro hF)))
    all_goals exact hF.out.elim
   have hzb:((s.size:Int)==268+8*(n:Int)+4*(sl:Int))=true:=by simp;omega
   have HZ:ze ((s.size:Int)=268+8*n+4*sl):=hz;clear hz;go_wp2
   go_region_held3 (λwx=>wx.cell? ⟨p,0,za⟩=zc (zn (zc ⟨g,0,za⟩) s.size cap)) ((first|exact z0|go_keep)) ((first|(go_at_call 32;refine(cS _).mono ?_;rintro e wq ⟨rfl,rfl⟩)|(go_at_call 36;refine(zhT 4 _).mono ?_;rintro e wq ⟨rfl,rfl⟩)))
   go_wp2;have zBH:w.heap.size<wy.heap.size:=ay Z3;have L0:tu w X m p g cap s wy.heap.size wd (wy.alloc (zi (fR wd (λ_=>zn za 0 0)) 28)).drew (λ_=>zn za 0 0) (bG (λ_=>[]) 0 (rX s 0)) 10:=by
    refine⟨(KK.alloc _).drew,du,iK,zBH,by simp,sL (qK Z3),sL (aJ _ _),?_,R3.below (ax).drew⟩;have:bG (λ_=>[]) 0 (rX s 0)=λ_=>[]:=by funext j;simp[bG,rX]
    rw[this];exact aI.nil _ _ _
   have zu:¬wy.heap.size=p:=by omega
   generalize dN:wy.heap.size=gt at *;clear Z3 R3 KK dN z0 z1 z2 cS hzb BZ;have Kd:¬w.heap.size=p:=by omega
   go_loopw [59] (λi wr=>∃k:Nat,k<=256/\i=zb .i64 k/\∃v,tu w X m p g cap s gt wd wr v (bG (λ_=>[]) 0 (rX s k)) (10+k))
    (λi _=>256-(intOf i).toNat)
   case atStart=>exact⟨0,by omega,rfl,_,L0⟩
   case round=>
    clear L0;obtain⟨k,hk,rfl,v,L⟩:=hrel
    by_cases hlt:k<256
    ·have cC:(k:Int)<256:=by omega
     obtain⟨a0,a1,a2,a3,a4,a5,a6,a7⟩:=iV L.row;have dN:gt<wr.heap.size:=L.lt;have Kk:IntKind.i64.wrap (ku s (10+k):Int)=(ku s (10+k):Int):=zvY (by omega) (by have:=O7 s (10+k);omega);go_wp2;have cN:=λwx (hb:zh wr.heap.size wr wx)=>Rd.pass (L.rd.below hb) (by omega) hs
     generalize pM:ku s (10+k)=xv at *
     go_region_law ((first|(refine Ff (by rfl) 50 (.tmp 65) #[64] (by rfl) (zj (zc ⟨p,0,za⟩)) (by rfl) (.int .u8 (xv:Int)) _ (zkU _ _) (cN _ (by first|exact Below.refl _ _|exact(Below.refl _ _).drew)) ?_;rintro wq ⟨Rq,Kq⟩;have dB:Kept (λb=>b=p) wr wq:=(by first|exact Kq|exact(Kept.refl _ _).drew.trans Kq);have JW:gt<wq.heap.size:=dR dN dB.size;have d2:wq.cell? ⟨gt,0,za⟩=zc (v 0):=(World.cell?_of_block (dB.block gt dN zu)).trans a0)|(refine step_append_lies _ (by rfl) (.tmp 62) (.tmp 68) 23 (by rfl) (gt+1) 3 i0 _ 1 8 underlying23 hi da dt cR rfl (by omega) (v 0) k ((rX s k).map eu) (by rfl) (L.H3 (i:=0) (xs:=rX s k) (by omega) (jj _ _ _) (zjG s k) (by first|exact dB.alloc _|exact(dB.alloc _).drew)) ⟨wq.heap.size,0,za⟩ 1 1 [zb .i64 (xv:Int)] (by rfl) rfl (zY (by first|exact aJ _ _|exact sL (aJ _ _))) (by intro u hu;simp at hu;subst hu;rfl) (by omega) (by unfold maxLen;omega) (by omega) (by simp;omega) (wq.heap.size+1) (by simp) ?_;intro gg cc w9 lQ eK at9 CF;obtain⟨m9,f9⟩:=L.mid (by first|exact dB.alloc _|exact(dB.alloc _).drew) (i:=0) (by omega) eK;have c9:w9.cell? ⟨gt,0,za⟩=zc (v 0):=m9 0;have g9:=f9 0;clear m9 f9)))
     all_goals
      have LN:=L.push (by first|exact dB.alloc _|exact(dB.alloc _).drew) (Rq.below (by first|exact(ax)|exact(ax).drew)) (i:=0) (off:=0) (by omega) rfl (jj _ _ _) (zjG s k) lQ eK (by simpa using at9);rw[zrP,<-pM,<-zpR]at LN;go_wp2
      go_roundw
      case rel=>exact⟨k+1,by omega,by go_num,_,LN⟩
      case measure=>simp[intOf];omega
    ·have lK:k=256:=by omega
     rw[lK,zuo]at L;clear lK;go_wp2
     go_loopw [73] (λi wr=>∃j:Nat,j<=n/\i=zb .i64 j/\∃v,tu w X m p g cap s gt wd wr v (l2 s j j j j) (266+8*j))
      (λi _=>n-(intOf i).toNat)
     case atStart=>exact⟨0,by omega,rfl,_,L⟩
     case round=>
      clear L;obtain⟨j,hj,rfl,v,L⟩:=hrel
      by_cases ry:j<n
      ·have PN:268+8*(n:Int)<=(s.size:Int):=by have:=HZ.out;omega
       have iD:(j:Int)<(n:Int):=by omega
       have dN:gt<wr.heap.size:=L.lt;obtain⟨a0,a1,a2,a3,a4,a5,a6,a7⟩:=iV L.row
       go_upto_region 16 with fail
       go_cut [] from 75 to 103 (λwx=>∃v',tu w X m p g cap s gt wd wx v' (l2 s (j+1) j j j) (266+8*j+2))
       case first=>
        have cN:=λwx (hb:zh wr.heap.size wr wx)=>Rd.number (L.rd.below hb) (by omega) hs
        generalize pM:bZ s (266+8*j)=xv at *
        go_region_law ((first|(refine Ff (by rfl) 51 (.tmp 77) #[83] (by rfl) (zj (zc ⟨p,0,za⟩)) (by rfl) (zb .i64 (xv:Int)) _ (ZC _ _) (cN _ (by first|exact Below.refl _ _|exact(Below.refl _ _).drew)) ?_;rintro wq ⟨Rq,Kq⟩;have dB:Kept (λb=>b=p) wr wq:=(by first|exact Kq|exact(Kept.refl _ _).drew.trans Kq);have JW:gt<wq.heap.size:=dR dN dB.size;have d2:wq.cell? ⟨gt,2,za⟩=zc (v 1):=(World.cell?_of_block (dB.block gt dN zu)).trans a2)|(refine step_append_lies _ (by rfl) (.tmp 76) (.tmp 79) 23 (by rfl) (gt+1) 3 i0 _ 1 8 underlying23 hi da dt cR rfl (by omega) (v 1) j ((j9 s 266 8 j).map eu) (by rfl) (L.H3 (i:=1) (xs:=j9 s 266 8 j) (by omega) (show l2 s j j j j 1=j9 s 266 8 j from rfl) (CX s 266 8 j) (by first|exact dB.alloc _|exact(dB.alloc _).drew)) ⟨wq.heap.size,0,za⟩ 1 1 [zb .i64 (xv:Int)] (by rfl) rfl (zY (by first|exact aJ _ _|exact sL (aJ _ _))) (by intro u hu;simp at hu;subst hu;rfl) (by omega) (by unfold maxLen;omega) (by omega) (by simp;omega) (wq.heap.size+1) (by simp) ?_;intro gg cc w9 lQ eK at9 CF;obtain⟨m9,f9⟩:=L.mid (by first|exact dB.alloc _|exact(dB.alloc _).drew) (i:=1) (by omega) eK;have c9:w9.cell? ⟨gt,2,za⟩=zc (v 1):=m9 2;have g9:=f9 2;clear m9 f9)))
        all_goals
         have LN:=L.push (by first|exact dB.alloc _|exact(dB.alloc _).drew) (Rq.below (by first|exact(ax)|exact(ax).drew)) (i:=1) (off:=2) (by omega) rfl (show l2 s j j j j 1=j9 s 266 8 j from rfl) (CX s 266 8 j) lQ eK (by simpa using at9);rw[<-pM,zvs]at LN;go_wp2
         go_meet
         exact⟨_,LN⟩
       case rest=>
        obtain⟨v1,L1⟩:=hcut;clear a0 a1 a2 a3 a4 a5 a6 a7 dN L;have dN:gt<wc.heap.size:=L1.lt;obtain⟨a0,a1,a2,a3,a4,a5,a6,a7⟩:=iV L1.row;have qA:266+8*j+2=268+8*j:=by omega
        rw[qA]at L1;clear qA
        go_upto_region 17 with fail
        go_cut [] from 75 to 103 (λwx=>∃v',tu w X m p g cap s gt wd wx v' (l2 s (j+1) (j+1) j j) (268+8*j+2))
        case first=>
         have cN:=λwx (hb:zh wc.heap.size wc wx)=>Rd.number (L1.rd.below hb) (by omega) hs
         generalize pM:bZ s (268+8*j)=xv at *
         go_region_law ((first|(refine Ff (by rfl) 51 (.tmp 84) #[83] (by rfl) (zj (zc ⟨p,0,za⟩)) (by rfl) (zb .i64 (xv:Int)) _ (ZC _ _) (cN _ (by first|exact Below.refl _ _|exact(Below.refl _ _).drew)) ?_;rintro wq ⟨Rq,Kq⟩;have dB:Kept (λb=>b=p) wc wq:=(by first|exact Kq|exact(Kept.refl _ _).drew.trans Kq);have JW:gt<wq.heap.size:=dR dN dB.size;have d2:wq.cell? ⟨gt,3,za⟩=zc (v1 2):=(World.cell?_of_block (dB.block gt dN zu)).trans a3)|(refine step_append_lies _ (by rfl) (.tmp 83) (.tmp 86) 23 (by rfl) (gt+1) 3 i0 _ 1 8 underlying23 hi da dt cR rfl (by omega) (v1 2) j ((j9 s 268 8 j).map eu) (by rfl) (L1.H3 (i:=2) (xs:=j9 s 268 8 j) (by omega) (show l2 s (j+1) j j j 2=j9 s 268 8 j from rfl) (CX s 268 8 j) (by first|exact dB.alloc _|exact(dB.alloc _).drew)) ⟨wq.heap.size,0,za⟩ 1 1 [zb .i64 (xv:Int)] (by rfl) rfl (zY (by first|exact aJ _ _|exact sL (aJ _ _))) (by intro u hu;simp at hu;subst hu;rfl) (by omega) (by unfold maxLen;omega) (by omega) (by simp;omega) (wq.heap.size+1) (by simp) ?_;intro gg cc w9 lQ eK at9 CF;obtain⟨m9,f9⟩:=L1.mid (by first|exact dB.alloc _|exact(dB.alloc _).drew) (i:=2) (by omega) eK;have c9:w9.cell? ⟨gt,3,za⟩=zc (v1 2):=m9 3;have g9:=f9 3;clear m9 f9)))
         all_goals
          have LN:=L1.push (by first|exact dB.alloc _|exact(dB.alloc _).drew) (Rq.below (by first|exact(ax)|exact(ax).drew)) (i:=2) (off:=3) (by omega) rfl (show l2 s (j+1) j j j 2=j9 s 268 8 j from rfl) (CX s 268 8 j) lQ eK (by simpa using at9);rw[<-pM,zvt]at LN;go_wp2
          go_meet
          exact⟨_,LN⟩
        case rest=>
         obtain⟨v2,L2⟩:=hcut;clear a0 a1 a2 a3 a4 a5 a6 a7 dN L1;have dN:gt<wc.heap.size:=L2.lt;obtain⟨a0,a1,a2,a3,a4,a5,a6,a7⟩:=iV L2.row;have qA:268+8*j+2=270+8*j:=by omega
         rw[qA]at L2;clear qA
         go_upto_region 18 with fail
         go_cut [] from 75 to 103 (λwx=>∃v',tu w X m p g cap s gt wd wx v' (l2 s (j+1) (j+1) (j+1) j) (270+8*j+2))
         case first=>
          have cN:=λwx (hb:zh wc.heap.size wc wx)=>Rd.entry (L2.rd.below hb) (by omega) hs
          generalize pM:sG s (270+8*j)=xv at *
          go_region_law ((first|(refine Ff (by rfl) 52 (.tmp 91) #[83] (by rfl) (zj (zc ⟨p,0,za⟩)) (by rfl) (zb .i64 xv) _ (ZK _ _) (cN _ (by first|exact Below.refl _ _|exact(Below.refl _ _).drew)) ?_;rintro wq ⟨Rq,Kq⟩;have dB:Kept (λb=>b=p) wc wq:=(by first|exact Kq|exact(Kept.refl _ _).drew.trans Kq);have JW:gt<wq.heap.size:=dR dN dB.size;have d2:wq.cell? ⟨gt,4,za⟩=zc (v2 3):=(World.cell?_of_block (dB.block gt dN zu)).trans a4)|(refine step_append_lies _ (by rfl) (.tmp 90) (.tmp 93) 23 (by rfl) (gt+1) 3 i0 _ 1 8 underlying23 hi da dt cR rfl (by omega) (v2 3) j ((kc s 270 8 j).map eu) (by rfl) (L2.H3 (i:=3) (xs:=kc s 270 8 j) (by omega) (show l2 s (j+1) (j+1) j j 3=kc s 270 8 j from rfl) (CY s 270 8 j) (by first|exact dB.alloc _|exact(dB.alloc _).drew)) ⟨wq.heap.size,0,za⟩ 1 1 [zb .i64 xv] (by rfl) rfl (zY (by first|exact aJ _ _|exact sL (aJ _ _))) (by intro u hu;simp at hu;subst hu;rfl) (by omega) (by unfold maxLen;omega) (by omega) (by simp;omega) (wq.heap.size+1) (by simp) ?_;intro gg cc w9 lQ eK at9 CF;obtain⟨m9,f9⟩:=L2.mid (by first|exact dB.alloc _|exact(dB.alloc _).drew) (i:=3) (by omega) eK;have c9:w9.cell? ⟨gt,4,za⟩=zc (v2 3):=m9 4;have g9:=f9 4;clear m9 f9)))
          all_goals
           have LN:=L2.push (by first|exact dB.alloc _|exact(dB.alloc _).drew) (Rq.below (by first|exact(ax)|exact(ax).drew)) (i:=3) (off:=4) (by omega) rfl (show l2 s (j+1) (j+1) j j 3=kc s 270 8 j from rfl) (CY s 270 8 j) lQ eK (by simpa using at9);rw[<-pM,zsO]at LN;go_wp2
           go_meet
           exact⟨_,LN⟩
         case rest=>
          obtain⟨v3,L3⟩:=hcut;clear a0 a1 a2 a3 a4 a5 a6 a7 dN L2;have dN:gt<wc.heap.size:=L3.lt;obtain⟨a0,a1,a2,a3,a4,a5,a6,a7⟩:=iV L3.row;have qA:270+8*j+2=272+8*j:=by omega
          rw[qA]at L3;clear qA;go_wp2;have cN:=λwx (hb:zh wc.heap.size wc wx)=>Rd.entry (L3.rd.below hb) (by omega) hs
          generalize pM:sG s (272+8*j)=xv at *
          go_region_law ((first|(refine Ff (by rfl) 52 (.tmp 98) #[83] (by rfl) (zj (zc ⟨p,0,za⟩)) (by rfl) (zb .i64 xv) _ (ZK _ _) (cN _ (by first|exact Below.refl _ _|exact(Below.refl _ _).drew)) ?_;rintro wq ⟨Rq,Kq⟩;have dB:Kept (λb=>b=p) wc wq:=(by first|exact Kq|exact(Kept.refl _ _).drew.trans Kq);have JW:gt<wq.heap.size:=dR dN dB.size;have d2:wq.cell? ⟨gt,5,za⟩=zc (v3 4):=(World.cell?_of_block (dB.block gt dN zu)).trans a5)|(refine step_append_lies _ (by rfl) (.tmp 97) (.tmp 100) 23 (by rfl) (gt+1) 3 i0 _ 1 8 underlying23 hi da dt cR rfl (by omega) (v3 4) j ((kc s 272 8 j).map eu) (by rfl) (L3.H3 (i:=4) (xs:=kc s 272 8 j) (by omega) (show l2 s (j+1) (j+1) (j+1) j 4=kc s 272 8 j from rfl) (CY s 272 8 j) (by first|exact dB.alloc _|exact(dB.alloc _).drew)) ⟨wq.heap.size,0,za⟩ 1 1 [zb .i64 xv] (by rfl) rfl (zY (by first|exact aJ _ _|exact sL (aJ _ _))) (by intro u hu;simp at hu;subst hu;rfl) (by omega) (by unfold maxLen;omega) (by omega) (by simp;omega) (wq.heap.size+1) (by simp) ?_;intro gg cc w9 lQ eK at9 CF;obtain⟨m9,f9⟩:=L3.mid (by first|exact dB.alloc _|exact(dB.alloc _).drew) (i:=4) (by omega) eK;have c9:w9.cell? ⟨gt,5,za⟩=zc (v3 4):=m9 5;have g9:=f9 5;clear m9 f9)))
          all_goals
           have LN:=L3.push (by first|exact dB.alloc _|exact(dB.alloc _).drew) (Rq.below (by first|exact(ax)|exact(ax).drew)) (i:=4) (off:=5) (by omega) rfl (show l2 s (j+1) (j+1) (j+1) j 4=kc s 272 8 j from rfl) (CY s 272 8 j) lQ eK (by simpa using at9);rw[<-pM,zun]at LN;rw[show 272+8*j+2=266+8*(j+1) by omega]at LN;go_wp2
           go_roundw
           case rel=>
            first|exact⟨j+1,by omega,by go_num,_,LN⟩|((repeat apply Exists.intro);exact⟨⟨j+1,by omega,by go_num,_,LN⟩,rfl⟩)
           case measure=>simp[intOf];omega
      ·have sf:j=n:=by omega
       rw[sf,zsP]at L;clear sf;go_wp2
       go_loopw [105] (λi wr=>∃q:Nat,q<=sl/\i=zb .i64 q/\∃v,tu w X m p g cap s gt wd wr v (gD s n q q) (266+8*n+4*q))
        (λi _=>sl-(intOf i).toNat)
       case atStart=>exact⟨0,by omega,rfl,_,L⟩
       case round=>
        clear L;obtain⟨q,hq,rfl,v,L⟩:=hrel
        by_cases Nt:q<sl
        ·have PN:268+8*(n:Int)+4*(sl:Int)<=(s.size:Int):=by have:=HZ.out;omega
         have j8:(q:Int)<(sl:Int):=by omega
         have dN:gt<wr.heap.size:=L.lt;obtain⟨a0,a1,a2,a3,a4,a5,a6,a7⟩:=iV L.row
         go_upto_region 23 with fail
         go_cut [] from 107 to 121 (λwx=>∃v',tu w X m p g cap s gt wd wx v' (gD s n (q+1) q) (266+8*n+4*q+2))
         case first=>
          have cN:=λwx (hb:zh wr.heap.size wr wx)=>Rd.number (L.rd.below hb) (by omega) hs
          generalize pM:bZ s (266+8*n+4*q)=xv at *
          go_region_law ((first|(refine Ff (by rfl) 51 (.tmp 109) #[83] (by rfl) (zj (zc ⟨p,0,za⟩)) (by rfl) (zb .i64 (xv:Int)) _ (ZC _ _) (cN _ (by first|exact Below.refl _ _|exact(Below.refl _ _).drew)) ?_;rintro wq ⟨Rq,Kq⟩;have dB:Kept (λb=>b=p) wr wq:=(by first|exact Kq|exact(Kept.refl _ _).drew.trans Kq);have JW:gt<wq.heap.size:=dR dN dB.size;have d2:wq.cell? ⟨gt,6,za⟩=zc (v 5):=(World.cell?_of_block (dB.block gt dN zu)).trans a6)|(refine step_append_lies _ (by rfl) (.tmp 108) (.tmp 111) 23 (by rfl) (gt+1) 3 i0 _ 1 8 underlying23 hi da dt cR rfl (by omega) (v 5) q ((j9 s (266+8*n) 4 q).map eu) (by rfl) (L.H3 (i:=5) (xs:=j9 s (266+8*n) 4 q) (by omega) (show gD s n q q 5=j9 s (266+8*n) 4 q from rfl) (CX s (266+8*n) 4 q) (by first|exact dB.alloc _|exact(dB.alloc _).drew)) ⟨wq.heap.size,0,za⟩ 1 1 [zb .i64 (xv:Int)] (by rfl) rfl (zY (by first|exact aJ _ _|exact sL (aJ _ _))) (by intro u hu;simp at hu;subst hu;rfl) (by omega) (by unfold maxLen;omega) (by omega) (by simp;omega) (wq.heap.size+1) (by simp) ?_;intro gg cc w9 lQ eK at9 CF;obtain⟨m9,f9⟩:=L.mid (by first|exact dB.alloc _|exact(dB.alloc _).drew) (i:=5) (by omega) eK;have c9:w9.cell? ⟨gt,6,za⟩=zc (v 5):=m9 6;have g9:=f9 6;clear m9 f9)))
          all_goals
           have LN:=L.push (by first|exact dB.alloc _|exact(dB.alloc _).drew) (Rq.below (by first|exact(ax)|exact(ax).drew)) (i:=5) (off:=6) (by omega) rfl (show gD s n q q 5=j9 s (266+8*n) 4 q from rfl) (CX s (266+8*n) 4 q) lQ eK (by simpa using at9);rw[<-pM,zuq]at LN;go_wp2
           go_meet
           exact⟨_,LN⟩
         case rest=>
          obtain⟨v1,L1⟩:=hcut;clear a0 a1 a2 a3 a4 a5 a6 a7 dN L;have dN:gt<wc.heap.size:=L1.lt;obtain⟨a0,a1,a2,a3,a4,a5,a6,a7⟩:=iV L1.row;go_wp2;have qA:266+8*n+4*q+2=268+8*n+4*q:=by omega
          rw[qA]at L1;have cN:=λwx (hb:zh wc.heap.size wc wx)=>Rd.entry (L1.rd.below hb) (by omega) hs
          generalize pM:sG s (268+8*n+4*q)=xv at *
          go_region_law ((first|(refine Ff (by rfl) 52 (.tmp 116) #[83] (by rfl) (zj (zc ⟨p,0,za⟩)) (by rfl) (zb .i64 xv) _ (ZK _ _) (cN _ (by first|exact Below.refl _ _|exact(Below.refl _ _).drew)) ?_;rintro wq ⟨Rq,Kq⟩;have dB:Kept (λb=>b=p) wc wq:=(by first|exact Kq|exact(Kept.refl _ _).drew.trans Kq);have JW:gt<wq.heap.size:=dR dN dB.size;have d2:wq.cell? ⟨gt,7,za⟩=zc (v1 6):=(World.cell?_of_block (dB.block gt dN zu)).trans a7)|(refine step_append_lies _ (by rfl) (.tmp 115) (.tmp 118) 23 (by rfl) (gt+1) 3 i0 _ 1 8 underlying23 hi da dt cR rfl (by omega) (v1 6) q ((kc s (268+8*n) 4 q).map eu) (by rfl) (L1.H3 (i:=6) (xs:=kc s (268+8*n) 4 q) (by omega) (show gD s n (q+1) q 6=kc s (268+8*n) 4 q from rfl) (CY s (268+8*n) 4 q) (by first|exact dB.alloc _|exact(dB.alloc _).drew)) ⟨wq.heap.size,0,za⟩ 1 1 [zb .i64 xv] (by rfl) rfl (zY (by first|exact aJ _ _|exact sL (aJ _ _))) (by intro u hu;simp at hu;subst hu;rfl) (by omega) (by unfold maxLen;omega) (by omega) (by simp;omega) (wq.heap.size+1) (by simp) ?_;intro gg cc w9 lQ eK at9 CF;obtain⟨m9,f9⟩:=L1.mid (by first|exact dB.alloc _|exact(dB.alloc _).drew) (i:=6) (by omega) eK;have c9:w9.cell? ⟨gt,7,za⟩=zc (v1 6):=m9 7;have g9:=f9 7;clear m9 f9)))
          all_goals
           have LN:=L1.push (by first|exact dB.alloc _|exact(dB.alloc _).drew) (Rq.below (by first|exact(ax)|exact(ax).drew)) (i:=6) (off:=7) (by omega) rfl (show gD s n (q+1) q 6=kc s (268+8*n) 4 q from rfl) (CY s (268+8*n) 4 q) lQ eK (by simpa using at9);rw[<-pM,zur]at LN;rw[show 268+8*n+4*q+2=266+8*n+4*(q+1) by omega]at LN;go_wp2
           go_roundw
           case rel=>
            first|exact⟨q+1,by omega,by go_num,_,LN⟩|((repeat apply Exists.intro);exact⟨⟨q+1,by omega,by go_num,_,LN⟩,rfl⟩)
           case measure=>simp[intOf];omega
        ·have hqs:q=sl:=by omega
         rw[hqs]at L;clear hqs;have oJ:266+8*n+4*sl=s.size-2:=by have:=HZ.out;omega
         rw[oJ]at L;clear oJ;obtain⟨z0,z1,z2⟩:=KY L.rd.aZ;have hsm:=znn (s.data.toList.take (s.size-2));have cN:=L.rd.number (by omega) hs;have qp:ze (iU s=if ¬nU (s.data.toList.take (s.size-2))=bZ s (s.size-2) then 5 else if mZ (IC s)=false then 6 else 0):=by show _=_;rw[HP.out,ab (not_not_intro HZ.out),zkV]
         clear HP;generalize nU (s.data.toList.take (s.size-2))=sm at *;have jp:=Pe s (s.size-2);generalize bZ s (s.size-2)=zz at *;have Sf:p<wr.heap.size:=ay L.rd.aZ
         by_cases Sx:sm=zz
         case neg=>
          have HC:ze (iU s=5):=by show _=_;rw[qp.out,af Sx]
          have hb:((zz:Int)==(sm:Int))=false:=by simp;omega
          clear Sx
          go_wp2_with fail
          refine cN.mono ?_;rintro e w8 ⟨rfl,R8,K8⟩
          go_wp2_with fail
          refine(Fi 5 _ _ (by first|rfl|exact hb)).mono ?_;rintro e w9 ⟨rfl,rfl⟩;exact CT (P:=prog) (fn:=f37) rfl (yo.bad (L.kept.trans K8) HC.out (by decide))
         subst Sx;have PT:ze (iU s=if mZ (IC s)=false then 6 else 0):=by show _=_;rw[qp.out,ab (by simp)]
         clear qp;have bW:((sm:Int)==(sm:Int))=true:=by simp
         go_wp2_with fail
         refine cN.mono ?_;rintro e w8 ⟨rfl,R8,K8⟩;clear cN
         go_wp2_with fail
         refine(TI 5 _ _ (by first|rfl|exact bW)).mono ?_;rintro e w9 ⟨rfl,rfl⟩;clear z0 z1 z2 bW Sf;have dN:gt<wr.heap.size:=L.lt;have EG:=L.over;have et:=K8.row L.row zu;have dK:=K8.row L.bw Kd;have zy3:=L.kept.trans K8;have V7:aI gt 7 w9 v (gD s n sl sl):=L.au.keep λb hb hl=>K8.block b hl (by omega)
         have zB8:sl<=60000:=by omega
         have Ck:=zup s n sl (by omega) zB8;have o:∀i,i<7->dD (gt+1) w9 (v i) (gD s n sl sl i):=λi hi=>(V7.own i hi).at (by have:=Ck i hi;omega)
         have T:qi (gt+1) w9 (v 0) (v 1) (v 2) (v 3) (v 4) (v 5) (v 6) (jP wd (gD s n sl sl)):=⟨o 0 (by omega),o 1 (by omega),o 2 (by omega),o 3 (by omega),o 4 (by omega),o 5 (by omega),o 6 (by omega)⟩;have zzu:C4 (jP wd (gD s n sl sl)):=by
          intro xs hx;simp only[cg.lists,jP,pD,yD,or_false]at hx;rcases hx with rfl|rfl|rfl|rfl|rfl|rfl|rfl
          ·exact Ck 0 (by omega)
          ·exact Ck 1 (by omega)
          ·exact Ck 2 (by omega)
          ·exact Ck 3 (by omega)
          ·exact Ck 4 (by omega)
          ·exact Ck 5 (by omega)
          ·exact Ck 6 (by omega)
         clear o Ck R8 K8 L;obtain⟨b0,p0,e0,-⟩:=T.ai;obtain⟨b1,p1,e1,-⟩:=T.base;obtain⟨b2,p2,e2,-⟩:=T.bA;obtain⟨b3,p3,e3,-⟩:=T.tag;obtain⟨b4,p4,e4,-⟩:=T.fin;obtain⟨b5,p5,e5,-⟩:=T.next;obtain⟨b6,p6,e6,-⟩:=T.az;unfold fR at et;unfold cO at dK;rw[e0,e1,e2,e3,e4,e5,e6]at et T;obtain⟨x0,x1,x2,x3,x4,x5,x6,x7⟩:=kH et;have E:ze (fR wd v=#[.slice b0 (jP wd (gD s n sl sl)).ai.length p0,zb .i64 wd,.slice b1 (jP wd (gD s n sl sl)).base.length p1,.slice b2 (jP wd (gD s n sl sl)).bA.length p2,.slice b3 (jP wd (gD s n sl sl)).tag.length p3,.slice b4 (jP wd (gD s n sl sl)).fin.length p4,.slice b5 (jP wd (gD s n sl sl)).next.length p5,.slice b6 (jP wd (gD s n sl sl)).az.length p6]):=by show _=_;unfold fR;rw[e0,e1,e2,e3,e4,e5,e6]
         clear e0 e1 e2 e3 e4 e5 e6
         go_wp2_with fail
         refine(On _ _ _ _ _ _ _ (jP wd (gD s n sl sl)) _ T zzu).mono ?_;rintro e kf ⟨rfl,uH⟩;have hF:=V7.below uH;have zy4:=zy3.trans (.k8 uH);have zzq:=aT et uH;have Ys:=aT dK uH;have fr:∀o,kf.frozen? ⟨w.heap.size,o,za⟩=false:=λ_=>aM _ _ _ _ _ Ys
         clear x0 x1 x2 x3 x4 x5 x6 x7 T uH et dK V7 zy3 zzu;obtain⟨x0,x1,x2,x3,x4,x5,x6,x7⟩:=kH zzq;obtain⟨y0,y1,y2,y3,y4,y5,y6,y7⟩:=kH Ys;clear zzq Ys;rw[HTn.out]at PT;generalize mZ (jP wd (gD s n sl sl))=tb at *;cases tb
         ·have HC:ze (iU s=6):=by show _=_;rw[PT.out,af rfl]
          go_wp2_with fail
          refine(Z2 6 _).mono ?_;rintro e Om ⟨rfl,rfl⟩;exact CT (P:=prog) (fn:=f37) rfl (yo.bad zy4 HC.out (by decide))
         ·have HC:ze (iU s=0):=by show _=_;rw[PT.out,ab (by simp)]
          have HW:=PN.out HC.out;have HWh:ze (wR s=wd/\qh s=gD s n sl sl):=HW;clear HW PT PN HTn
          go_wp2_with fail
          refine(zhT 6 _).mono ?_;rintro e Om ⟨rfl,rfl⟩;go_wp2;refine aW (v:=zm (fR wd v)) (by rw[E.out];simp[results,results37,go_sem,y0,y1,y2,y3,y4,y5,y6,y7]) rfl ?_;refine⟨zy4.lR (aq _) _ _ _ _ _ _ _ _,.inl ⟨HC.out,gt,v,?_,Nat.le_of_lt EG,?_⟩⟩
          ·rw[HWh.out.1]
          ·rw[HWh.out.2];exact aI.lR hF (Nat.le_of_lt EG) _ _ _ _ _ _ _ _
end
end
end Go.Proofs.YtfajjdgkiilhfaaGreatDoor
