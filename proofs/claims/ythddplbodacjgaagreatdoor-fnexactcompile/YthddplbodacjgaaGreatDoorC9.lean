import Derived.Test.YthddplbodacjgaaGreatDoorC8
import Derived.Deep.QuietTactic
import Derived.Deep.DrawnRows
import Derived.Deep.RegionHeld3
import Derived.RangeFuncNested
import Derived.RangeFuncBound
import Derived.RangeFuncCalls
import Derived.RangeFuncLeaves
import Derived.Shelf.Abstract
import Derived.Shelf.RegionOpen
import Derived.WalkKit
import Derived.OwnWalkIn
import Derived.TacticsInMore
import Derived.LoopNIn
import Derived.LoopIn
namespace Go.Proofs.YthddplbodacjgaaGreatDoor
set_option maxHeartbeats 4000000
set_option maxRecDepth 100000
open Go.RowKit
theorem Tryz.infoBoolE:(Tryz.prog.info? 4).map (fun i=>(i.zero,i.size,i.bytes))=some (some (.bool false),1,1):=by kernel_rfl
theorem zoA(rs:List (Int×Int))(c k:Nat)(hk:k<rs.length)(a b:Int)(h:rs.getD k (0,0)=(a,b)):hasF (rs.drop k) c=(btw c a b || hasF (rs.drop (k+1)) c):=by
 rw[ztG hk];have:rs[k]=(a,b):=by rw[<-h];simp[List.getD,hk]
 unfold hasF;rw[List.any_cons,this]
 rfl
theorem zrB{lo:Nat}(v:Value)(rs:List (Int×Int))(c:Nat)(w:World)(hs:zan lo w v rs)(hc8:c<256):
  Calls Tryz.prog 37 #[v,.int .u8 c] w fun e w'=>e=.returned (.bool (hasF rs c))/\Below w.heap.size w w':=by
 obtain⟨ao,cap,rfl,hm,hc⟩:=hs;have hc0:(0:Int)<=(c:Int):=by omega
 have hc1:(c:Int)<256:=by omega
 go_enter Tryz.func37,Tryz.ntmps37
 go_wp2
 go_loopw [9] (fun i wr=>∃k:Nat,k<=rs.length/\i=.int .i64 k/\Hid (hasF rs c=hasF (rs.drop k) c)/\Below w.heap.size w wr)
  (fun i _=>rs.length-(intOf i).toNat)
 case atStart=>exact⟨0,zuL _,rfl,rfl,Below.refl _ _⟩
 case round=>
  obtain⟨k,hk,rfl,HS,hb⟩:=hrel
  by_cases hlt:k<rs.length
  ·obtain⟨b,o,x,y,rfl,Hn,hbl,c0,c1⟩:=hc.elem hb hlt;have hba:Below w.heap.size w (wr.alloc (.cells #[.int .i64 x,.int .i64 y] 150)):=hb.alloc hb.size _;have HD:Hid (hasF (rs.drop k) c=(btw c x y || hasF (rs.drop (k+1)) c)):=zoA rs c k hlt x y Hn.out
   go_wp2_with fail
   refine(zaw _ _ _ _).mono ?_;rintro e w2 ⟨rfl,rfl⟩;cases hq:btw c x y
   ·go_wp2
    go_roundw
    case rel=>exact⟨k+1,by omega,by go_num,by show _=_;rw[HS.out,HD.out,hq,Bool.false_or],hba⟩
    case measure=>simp[intOf];omega
   ·go_wp2;go_ret;exact⟨zay (by rw[HS.out,HD.out,hq,ztz]),hba⟩
  ·go_wp2;go_ret;exact⟨zay (by rw[HS.out,ztH (by omega)];rfl),hb⟩
theorem zhY(N:Nat):(madeCells (Value.bool false).cells (N*1)).toList=List.replicate N (.bool false):=by
 apply List.ext_getElem
 ·simp[madeCells]
 ·intro i h1 h2;simp[madeCells,Value.cells,Nat.mod_one]
section
variable {w:World}{g:Nat}{o:Obj}
theorem zab{w':World}(h:w.heap[g]?=some o)(hb:Below w.heap.size w w'):w'.heap[g]?=some o:=(hb.block g (ztp.1 h).1).trans h
theorem zae(h:w.heap[g]?=some o):g<w.heap.size:=(ztp.1 h).1
theorem zcP{C:Array Value}{t:TypeId}(h:w.heap[g]?=some (.cells C t (0,0))):∀o,w.cell? ⟨g,o,none⟩=C[o]?:=fun _=>zuO _ _ _ _ _ _ h
theorem zaq{a b c d e:Value}{t:TypeId}(h:w.heap[g]?=some (.cells #[a,b,c,d,e] t (0,0))):w.cell? ⟨g,0,none⟩=some a/\w.cell? ⟨g,1,none⟩=some b/\w.cell? ⟨g,2,none⟩=some c/\w.cell? ⟨g,3,none⟩=some d/\w.cell? ⟨g,4,none⟩=some e:=
 ⟨zcP h 0,zcP h 1,zcP h 2,zcP h 3,zcP h 4⟩
theorem ziT(h:w.heap[g]?=some o):w.drew.heap[g]?=some o:=h
end
section
variable {W W' w:World}{v a b c d nv bv k l r sv:Value}{g N:Nat}{m:Nat -> Bool}
attribute [local go_sem ↓] Go.wp_at_zero Go.wp_at_succ
theorem hdn{p:Prop}(h:p):Hid p:=h
structure NdX where
 k:Nat
 l:Nat
 r:Nat
 sv:Value
def NdX.zero:NdX:=⟨0,0,0,.slice none 0 0⟩
def nx4(x:NdX):List Value:=[.int .u8 x.k,.int .i64 x.l,.int .i64 x.r,x.sv]
structure NxAt(W:World)(v:Value)(Ns:List NdX):Prop where
 len:Ns.length<=8589934592
 at_:∃ao cap,v=.slice ao Ns.length cap/\(0<Ns.length->∃g,ao=some ⟨g,0,none⟩/\g<W.heap.size/\∀i,i<Ns.length->∀j u,(nx4 (Ns.getD i .zero))[j]?=some u->W.cell? ⟨g,i*4+j,none⟩=some u)
theorem NxAt.below{Ns:List NdX}(h:NxAt W v Ns)(hb:Below W.heap.size W W'):NxAt W' v Ns:=by
 obtain⟨hl,ao,cap,rfl,h⟩:=h;refine⟨hl,ao,cap,rfl,fun h0=>?_⟩;obtain⟨g,rfl,hg,hc⟩:=h h0;exact⟨g,rfl,zuB hg hb.size,fun i hi j u hu=>by rw[World.cell?_of_block (w:=W) (hb.block g hg)];exact hc i hi j u hu⟩
theorem NxAt.node{Ns:List NdX}(h:NxAt W v Ns){n k l r:Nat}{sv:Value}(hx:Ns[n]?=some ⟨k,l,r,sv⟩):∃g cap,v=.slice (some ⟨g,0,none⟩) Ns.length cap/\n<Ns.length/\g<W.heap.size/\
  W.cell? ⟨g,n*4,none⟩=some (.int .u8 k)/\W.cell? ⟨g,n*4+1,none⟩=some (.int .i64 l)/\W.cell? ⟨g,n*4+2,none⟩=some (.int .i64 r)/\W.cell? ⟨g,n*4+3,none⟩=some sv:=by
 obtain⟨hl,ao,cap,rfl,h⟩:=h;have hn:=(ztV.1 hx).1;obtain⟨g,rfl,hg,hc⟩:=h (by omega);have hd:Ns.getD n .zero=⟨k,l,r,sv⟩:=by simp[List.getD,hx]
 have:=hc n hn;rw[hd] at this;exact⟨g,cap,rfl,hn,hg,this 0 _ rfl,this 1 _ rfl,this 2 _ rfl,this 3 _ rfl⟩
def AtN(w0:World)(Ns:List NdX):GT->Nat->Prop
 |.s p f,n=>n=p/\∃sv rs,Ns[n]?=some ⟨115,0,0,sv⟩/\zan 0 w0 sv rs/\∀c,hasF rs c=f c
 |.q a b,n=>∃l r,Ns[n]?=some ⟨113,l,r,.slice none 0 0⟩/\AtN w0 Ns a l/\AtN w0 Ns b r
 |.o a b,n=>∃l r,Ns[n]?=some ⟨111,l,r,.slice none 0 0⟩/\AtN w0 Ns a l/\AtN w0 Ns b r
 |.st a,n=>∃l,Ns[n]?=some ⟨42,l,0,.slice none 0 0⟩/\AtN w0 Ns a l
 |.e,n=>Ns[n]?=some ⟨101,0,0,.slice none 0 0⟩
theorem AtN.more{w0:World}{Ns:List NdX}(Ms:List NdX):∀{T:GT} {n:Nat},AtN w0 Ns T n->AtN w0 (Ns++Ms) T n
 |.s p f,n,⟨h,sv,rs,h1,h2⟩=>⟨h,sv,rs,by rw[ztQ (ztV.1 h1).1];exact h1,h2⟩
 |.q a b,n,⟨l,r,h1,h2,h3⟩=>⟨l,r,by rw[ztQ (ztV.1 h1).1];exact h1,h2.more Ms,h3.more Ms⟩
 |.o a b,n,⟨l,r,h1,h2,h3⟩=>⟨l,r,by rw[ztQ (ztV.1 h1).1];exact h1,h2.more Ms,h3.more Ms⟩
 |.st a,n,⟨l,h1,h2⟩=>⟨l,by rw[ztQ (ztV.1 h1).1];exact h1,h2.more Ms⟩
 |.e,n,h=>by
  have h:Ns[n]?=some ⟨101,0,0,.slice none 0 0⟩:=h;show (Ns++Ms)[n]?=_;rw[ztQ (ztV.1 h).1];exact h
theorem zmj(w:World)(a b:Obj):((w.alloc a).alloc b).heap[w.heap.size+1]?=some b:=by
 have:=zuR (w.alloc a) b
 simpa using this
theorem zal{t:TypeId}(h:W.heap[g]?=some (.cells #[a,b] t (0,0))):W.cell? ⟨g,0,none⟩=some a/\W.cell? ⟨g,1,none⟩=some b:=by
 have:∀o,W.cell? ⟨g,o,none⟩=#[a,b][o]?:=fun _=>zuO _ _ _ _ _ _ h
 exact⟨this 0,this 1⟩
theorem zam{t:TypeId}(h:W.heap[g]?=some (.cells #[a,b,c,d] t (0,0))):W.cell? ⟨g,0,none⟩=some a/\W.cell? ⟨g,1,none⟩=some b/\W.cell? ⟨g,2,none⟩=some c/\W.cell? ⟨g,3,none⟩=some d:=by
 have:∀o,W.cell? ⟨g,o,none⟩=#[a,b,c,d][o]?:=fun _=>zuO _ _ _ _ _ _ h
 exact⟨this 0,this 1,this 2,this 3⟩
theorem zor{t:TypeId}(h:W.heap[g]?=some (.cells #[a,b,c,d] t (0,0))):W.frozen? ⟨g,0,none⟩=false/\W.frozen? ⟨g,1,none⟩=false/\W.frozen? ⟨g,2,none⟩=false/\W.frozen? ⟨g,3,none⟩=false:=
 ⟨zuQ _ _ 0 _ _ h,zuQ _ _ 1 _ _ h,zuQ _ _ 2 _ _ h,zuQ _ _ 3 _ _ h⟩
structure Bx(w W:World)(nv bv:Value)(k l r sv:Value):Prop where
 bl:Below w.heap.size w W
 x0:W.heap[w.heap.size]?=some (.cells #[nv,bv] 45 (0,0))
 x1:W.heap[w.heap.size+1]?=some (.cells #[k,l,r,sv] 85 (0,0))
theorem Bx.start(h:(w.alloc (.cells #[nv,bv] 45)).alloc (.cells #[k,l,r,sv] 85)=W):Bx w W nv bv k l r sv:=by
 subst h;exact⟨((Below.refl _ _).alloc (zuz _) _).alloc (by simp) _,zao (zuR _ _),zmj _ _ _⟩
theorem Bx.call(h:Bx w W nv bv k l r sv)(hb:Below W.heap.size W W'):Bx w W' nv bv k l r sv:=
 ⟨zaa h.bl h.bl.size hb,(hb.block _ (zae h.x0)).trans h.x0,(hb.block _ (zae h.x1)).trans h.x1⟩
def bRow(N:Nat)(m:Nat->Bool):Array Value:=((List.range N).map fun i=>Value.bool (m i)).toArray
theorem zqn{i:Nat}(m:Nat->Bool)(h:i<N):(bRow N m)[i]?=some (.bool (m i)):=by simp[bRow,h]
def Mks(w:World)(g N:Nat)(m:Nat->Bool):Prop:=w.heap[g]?=some (.cells (bRow N m) 4 (0,0))
theorem Mks.cell(h:Mks w g N m)(i:Nat)(hi:i<N):w.cell? ⟨g,i,none⟩=some (.bool (m i)):=by
 rw[show w.cell? ⟨g,i,none⟩=(bRow N m)[i]? from zuO _ _ _ _ _ _ h];exact zqn m hi
theorem Mks.below(h:Mks w g N m)(hb:Below w.heap.size w W):Mks W g N m:=(hb.block g (zae h)).trans h
def EmC(w0:World)(T:GT):Prop:=∀(Ns:List NdX) (n:Nat) (w:World) (nv bv:Value),NxAt w nv Ns->AtN w0 Ns T n->
 Calls Tryz.prog 39 #[.agg #[nv,bv],.int .i64 n] w fun e W=>e=.returned (.bool T.ga.emp)/\Below w.heap.size w W
theorem zfx(w0:World)(T:GT)(k:Nat)(hk:(k=115/\T.ga.emp=false)\/(k=42/\T.ga.emp=true)\/(k=101/\T.ga.emp=true))(hT:∀Ns n,AtN w0 Ns T n->∃l r ao m cp,Ns[n]?=some ⟨k,l,r,.slice ao m cp⟩):EmC w0 T:=by
 intro Ns n w nv bv hN hA;obtain⟨l,r,ao,m,cp,hx⟩:=hT Ns n hA;obtain⟨g,cap,rfl,hn,hg,c0,c1,c2,c3⟩:=hN.node hx;have hl:=hN.len;have hi0:(0:Int)<=(n:Int):=by omega
 have hi1:(n:Int)<(Ns.length:Int):=by omega
 clear hA hx hN hT;rcases hk with ⟨rfl,he⟩|⟨rfl,he⟩|⟨rfl,he⟩
 all_goals
  rw[he];clear he
  go_enter Tryz.func39,Tryz.ntmps39
  go_wp2;go_ret;exact⟨rfl,((Below.refl _ _).alloc (zuz _) _).alloc (by simp) _⟩
theorem zsa(w0:World)(a b:GT)(ha:EmC w0 a)(hb:EmC w0 b):EmC w0 (.q a b):=by
 intro Ns n w nv bv hN hA;rw[show (GT.q a b).ga.emp=(a.ga.emp&&b.ga.emp) from rfl];obtain⟨l,r,hx,hl,hr⟩:=hA;obtain⟨g,cap,rfl,hn,hg,c0,c1,c2,c3⟩:=hN.node hx;have hln:=hN.len;have hi0:(0:Int)<=(n:Int):=by omega
 have hi1:(n:Int)<(Ns.length:Int):=by omega
 obtain⟨W0,hW0⟩:∃W0,(w.alloc (.cells #[.slice (some ⟨g,0,none⟩) Ns.length cap,bv] 45)).alloc (.cells #[.int .u8 113,.int .i64 l,.int .i64 r,.slice none 0 0] 85)=W0:=⟨_,rfl⟩;have hB0:=Bx.start hW0;have hN0:=hN.below hB0.bl;obtain⟨p0,p1⟩:=zal hB0.x0;obtain⟨q0,q1,q2,q3⟩:=zam hB0.x1;have ca:=ha Ns l W0 _ bv hN0 hl;have HW0:=hdn hW0;have HB0:=hdn hB0;have HN0:=hdn hN0;clear hx hN hN0 hW0 hB0
 go_enter Tryz.func39,Tryz.ntmps39
 go_upto_region 2 with fail
 rw[HW0.out];clear HW0 c0 c1 c2 c3
 go_wp2_with fail
 refine ca.mono ?_;rintro e W1 ⟨rfl,b1⟩;have HB1:=hdn (HB0.out.call b1);obtain⟨p0,p1⟩:=zal HB1.out.x0;obtain⟨q0,q1,q2,q3⟩:=zam HB1.out.x1;have HN1:=hdn (HN0.out.below b1);have cb:=hb Ns r W1 _ bv HN1.out hr;clear ca HN1 HN0;cases he:a.ga.emp
 ·go_wp2;go_ret;exact⟨by simp[he],HB1.out.bl⟩
 ·go_wp2_with fail
  refine cb.mono ?_;rintro e W2 ⟨rfl,b2⟩;go_wp2;go_ret;exact⟨by simp[he],(HB1.out.call b2).bl⟩
theorem zr9(w0:World)(a b:GT)(ha:EmC w0 a)(hb:EmC w0 b):EmC w0 (.o a b):=by
 intro Ns n w nv bv hN hA;rw[show (GT.o a b).ga.emp=(a.ga.emp || b.ga.emp) from rfl];obtain⟨l,r,hx,hl,hr⟩:=hA;obtain⟨g,cap,rfl,hn,hg,c0,c1,c2,c3⟩:=hN.node hx;have hln:=hN.len;have hi0:(0:Int)<=(n:Int):=by omega
 have hi1:(n:Int)<(Ns.length:Int):=by omega
 obtain⟨W0,hW0⟩:∃W0,(w.alloc (.cells #[.slice (some ⟨g,0,none⟩) Ns.length cap,bv] 45)).alloc (.cells #[.int .u8 111,.int .i64 l,.int .i64 r,.slice none 0 0] 85)=W0:=⟨_,rfl⟩;have hB0:=Bx.start hW0;have hN0:=hN.below hB0.bl;obtain⟨p0,p1⟩:=zal hB0.x0;obtain⟨q0,q1,q2,q3⟩:=zam hB0.x1;have ca:=ha Ns l W0 _ bv hN0 hl;have HW0:=hdn hW0;have HB0:=hdn hB0;have HN0:=hdn hN0;clear hx hN hN0 hW0 hB0
 go_enter Tryz.func39,Tryz.ntmps39
 go_upto_region 2 with fail
 rw[HW0.out];clear HW0 c0 c1 c2 c3
 go_wp2_with fail
 refine ca.mono ?_;rintro e W1 ⟨rfl,b1⟩;have HB1:=hdn (HB0.out.call b1);obtain⟨p0,p1⟩:=zal HB1.out.x0;obtain⟨q0,q1,q2,q3⟩:=zam HB1.out.x1;have HN1:=hdn (HN0.out.below b1);have cb:=hb Ns r W1 _ bv HN1.out hr;clear ca HN1 HN0;cases he:a.ga.emp
 ·go_wp2_with fail
  refine cb.mono ?_;rintro e W2 ⟨rfl,b2⟩;go_wp2;go_ret;exact⟨by simp[he],(HB1.out.call b2).bl⟩
 ·go_wp2;go_ret;exact⟨by simp[he],HB1.out.bl⟩
theorem zcC(w0:World):∀T:GT,EmC w0 T
 |.s _ _=>zfx w0 _ 115 (.inl ⟨rfl,rfl⟩) fun _ _ ⟨_,_,rs,h1,⟨ao,cp,h2,_⟩,_⟩=>⟨0,0,ao,rs.length,cp,h2 ▸ h1⟩
 |.q a b=>zsa w0 a b (zcC w0 a) (zcC w0 b)
 |.o a b=>zr9 w0 a b (zcC w0 a) (zcC w0 b)
 |.st _=>zfx w0 _ 42 (.inr (.inl ⟨rfl,rfl⟩)) fun _ _ ⟨l,h1,_⟩=>⟨l,0,none,0,0,h1⟩
 |.e=>zfx w0 _ 101 (.inr (.inr ⟨rfl,rfl⟩)) fun _ _ h=>⟨0,0,none,0,0,h⟩
def FiC(w0:World)(T:GT):Prop:=∀(Ns:List NdX) (n:Nat) (w:World) (nv bv:Value) (gm cm N:Nat) (m:Nat->Bool),NxAt w nv Ns->AtN w0 Ns T n->Mks w gm N m->Ns.length<=N->
 Calls Tryz.prog 38 #[.agg #[nv,bv],.int .i64 n,.slice (some ⟨gm,0,none⟩) N cm] w fun e W=>e=.returned (.bool (finB m T))/\Below w.heap.size w W
theorem zsd(w0:World):FiC w0 .e:=by
 intro Ns n w nv bv gm cm N m hN hA hM hNN;have hx:Ns[n]?=some ⟨101,0,0,.slice none 0 0⟩:=hA;clear hA;obtain⟨g,cap,rfl,hn,hg,c0,c1,c2,c3⟩:=hN.node hx;have hln:=hN.len;have hi0:(0:Int)<=(n:Int):=by omega
 have hi1:(n:Int)<(Ns.length:Int):=by omega
 obtain⟨W0,hW0⟩:∃W0,(w.alloc (.cells #[.slice (some ⟨g,0,none⟩) Ns.length cap,bv] 45)).alloc (.cells #[.int .u8 101,.int .i64 0,.int .i64 0,.slice none 0 0] 85)=W0:=⟨_,rfl⟩;have hB0:=Bx.start hW0;have hN0:=hN.below hB0.bl;obtain⟨p0,p1⟩:=zal hB0.x0;obtain⟨q0,q1,q2,q3⟩:=zam hB0.x1;have HW0:=hdn hW0;have HB0:=hdn hB0;have HN0:=hdn hN0;clear hx hN hN0 hW0 hB0
 go_enter Tryz.func38,Tryz.ntmps38
 go_upto_region 2 with fail
 rw[HW0.out];clear HW0 c0 c1 c2 c3;clear hNN;go_wp2;go_ret;exact⟨rfl,HB0.out.bl⟩
theorem zsg(w0:World)(p:Nat)(f:Nat->Bool):FiC w0 (.s p f):=by
 intro Ns n w nv bv gm cm N m hN hA hM hNN;obtain⟨rfl,sv,rs,hx,⟨ao,cp,rfl,-⟩,-⟩:=hA;obtain⟨g,cap,rfl,hn,hg,c0,c1,c2,c3⟩:=hN.node hx;have hln:=hN.len;have hi0:(0:Int)<=(n:Int):=by omega
 have hi1:(n:Int)<(Ns.length:Int):=by omega
 obtain⟨W0,hW0⟩:∃W0,(w.alloc (.cells #[.slice (some ⟨g,0,none⟩) Ns.length cap,bv] 45)).alloc (.cells #[.int .u8 115,.int .i64 0,.int .i64 0,.slice ao rs.length cp] 85)=W0:=⟨_,rfl⟩;have hB0:=Bx.start hW0;have hN0:=hN.below hB0.bl;obtain⟨p0,p1⟩:=zal hB0.x0;obtain⟨q0,q1,q2,q3⟩:=zam hB0.x1;have cm0:=(hM.below hB0.bl).cell n (by omega);have hj1:(n:Int)<(N:Int):=by omega
 have HW0:=hdn hW0;have HB0:=hdn hB0;have HN0:=hdn hN0;clear hx hN hN0 hW0 hB0
 go_enter Tryz.func38,Tryz.ntmps38
 go_upto_region 2 with fail
 rw[HW0.out];clear HW0 c0 c1 c2 c3;clear hM hNN;go_wp2;go_ret;exact⟨rfl,HB0.out.bl⟩
theorem zqw(w0:World)(a:GT)(ha:FiC w0 a):FiC w0 (.st a):=by
 intro Ns n w nv bv gm cm N m hN hA hM hNN;obtain⟨l,hx,hl⟩:=hA;obtain⟨g,cap,rfl,hn,hg,c0,c1,c2,c3⟩:=hN.node hx;have hln:=hN.len;have hi0:(0:Int)<=(n:Int):=by omega
 have hi1:(n:Int)<(Ns.length:Int):=by omega
 obtain⟨W0,hW0⟩:∃W0,(w.alloc (.cells #[.slice (some ⟨g,0,none⟩) Ns.length cap,bv] 45)).alloc (.cells #[.int .u8 42,.int .i64 l,.int .i64 0,.slice none 0 0] 85)=W0:=⟨_,rfl⟩;have hB0:=Bx.start hW0;have hN0:=hN.below hB0.bl;obtain⟨p0,p1⟩:=zal hB0.x0;obtain⟨q0,q1,q2,q3⟩:=zam hB0.x1;have ca:=ha Ns l W0 _ bv gm cm N m hN0 hl (hM.below hB0.bl) hNN;have HW0:=hdn hW0;have HB0:=hdn hB0;have HN0:=hdn hN0;clear hx hN hN0 hW0 hB0
 go_enter Tryz.func38,Tryz.ntmps38
 go_upto_region 2 with fail
 rw[HW0.out];clear HW0 c0 c1 c2 c3;clear hM hNN
 go_wp2_with fail
 refine ca.mono ?_;rintro e W1 ⟨rfl,b1⟩;go_wp2;go_ret;exact⟨rfl,(HB0.out.call b1).bl⟩
theorem zse(w0:World)(a b:GT)(ha:FiC w0 a)(hb:FiC w0 b):FiC w0 (.o a b):=by
 intro Ns n w nv bv gm cm N m hN hA hM hNN;rw[show finB m (.o a b)=(finB m a || finB m b) from rfl];obtain⟨l,r,hx,hl,hr⟩:=hA;obtain⟨g,cap,rfl,hn,hg,c0,c1,c2,c3⟩:=hN.node hx;have hln:=hN.len;have hi0:(0:Int)<=(n:Int):=by omega
 have hi1:(n:Int)<(Ns.length:Int):=by omega
 obtain⟨W0,hW0⟩:∃W0,(w.alloc (.cells #[.slice (some ⟨g,0,none⟩) Ns.length cap,bv] 45)).alloc (.cells #[.int .u8 111,.int .i64 l,.int .i64 r,.slice none 0 0] 85)=W0:=⟨_,rfl⟩;have hB0:=Bx.start hW0;have hN0:=hN.below hB0.bl;obtain⟨p0,p1⟩:=zal hB0.x0;obtain⟨q0,q1,q2,q3⟩:=zam hB0.x1;have ca:=ha Ns l W0 _ bv gm cm N m hN0 hl (hM.below hB0.bl) hNN;have HW0:=hdn hW0;have HB0:=hdn hB0;have HN0:=hdn hN0;clear hx hN hN0 hW0 hB0
 go_enter Tryz.func38,Tryz.ntmps38
 go_upto_region 2 with fail
 rw[HW0.out];clear HW0 c0 c1 c2 c3;have HNN:=hdn hNN;clear hNN
 go_wp2_with fail
 refine ca.mono ?_;rintro e W1 ⟨rfl,b1⟩;have HB1:=hdn (HB0.out.call b1);obtain⟨p0,p1⟩:=zal HB1.out.x0;obtain⟨q0,q1,q2,q3⟩:=zam HB1.out.x1;have HN1:=hdn (HN0.out.below b1);have cb:=hb Ns r W1 _ bv gm cm N m HN1.out hr (hM.below HB1.out.bl) HNN.out;clear ca HN1 HN0 hM;cases he:finB m a
 ·go_wp2_with fail
  refine cb.mono ?_;rintro e W2 ⟨rfl,b2⟩;go_wp2;go_ret;exact⟨by simp[he],(HB1.out.call b2).bl⟩
 ·go_wp2;go_ret;exact⟨by simp[he],HB1.out.bl⟩
theorem zsf(w0:World)(a b:GT)(ha:FiC w0 a)(hb:FiC w0 b):FiC w0 (.q a b):=by
 intro Ns n w nv bv gm cm N m hN hA hM hNN;rw[show finB m (.q a b)=(finB m b || (finB m a&&b.ga.emp)) from rfl];obtain⟨l,r,hx,hl,hr⟩:=hA;obtain⟨g,cap,rfl,hn,hg,c0,c1,c2,c3⟩:=hN.node hx;have hln:=hN.len;have hi0:(0:Int)<=(n:Int):=by omega
 have hi1:(n:Int)<(Ns.length:Int):=by omega
 obtain⟨W0,hW0⟩:∃W0,(w.alloc (.cells #[.slice (some ⟨g,0,none⟩) Ns.length cap,bv] 45)).alloc (.cells #[.int .u8 113,.int .i64 l,.int .i64 r,.slice none 0 0] 85)=W0:=⟨_,rfl⟩;have hB0:=Bx.start hW0;have hN0:=hN.below hB0.bl;obtain⟨p0,p1⟩:=zal hB0.x0;obtain⟨q0,q1,q2,q3⟩:=zam hB0.x1;have cb:=hb Ns r W0 _ bv gm cm N m hN0 hr (hM.below hB0.bl) hNN;have HW0:=hdn hW0;have HB0:=hdn hB0;have HN0:=hdn hN0;clear hx hN hN0 hW0 hB0
 go_enter Tryz.func38,Tryz.ntmps38
 go_upto_region 2 with fail
 rw[HW0.out];clear HW0 c0 c1 c2 c3;have HNN:=hdn hNN;clear hNN
 go_wp2_with fail
 refine cb.mono ?_;rintro e W1 ⟨rfl,b1⟩;have HB1:=hdn (HB0.out.call b1);obtain⟨p0,p1⟩:=zal HB1.out.x0;obtain⟨q0,q1,q2,q3⟩:=zam HB1.out.x1;have HN1:=hdn (HN0.out.below b1);have ca:=ha Ns l W1 _ bv gm cm N m HN1.out hl (hM.below HB1.out.bl) HNN.out;clear cb HN0 hM;cases he:finB m b
 ·go_wp2_with fail
  refine ca.mono ?_;rintro e W2 ⟨rfl,b2⟩;have HB2:=hdn (HB1.out.call b2);obtain⟨p0,p1⟩:=zal HB2.out.x0;obtain⟨q0,q1,q2,q3⟩:=zam HB2.out.x1;have HN2:=hdn (HN1.out.below b2);have ce:=zcC w0 b Ns r W2 _ bv HN2.out hr;clear ca HN1;cases he2:finB m a
  ·go_wp2;go_ret;exact⟨by simp[he,he2],HB2.out.bl⟩
  ·go_wp2_with fail
   refine ce.mono ?_;rintro e W3 ⟨rfl,b3⟩;go_wp2;go_ret;exact⟨by simp[he,he2],(HB2.out.call b3).bl⟩
 ·go_wp2;go_ret;exact⟨by simp[he],HB1.out.bl⟩
theorem zb1(w0:World):∀T:GT,FiC w0 T
 |.s p f=>zsg w0 p f
 |.q a b=>zsf w0 a b (zb1 w0 a) (zb1 w0 b)
 |.o a b=>zse w0 a b (zb1 w0 a) (zb1 w0 b)
 |.st a=>zqw w0 a (zb1 w0 a)
 |.e=>zsd w0
end
section
attribute [local go_sem ↓] Go.wp_at_zero Go.wp_at_succ
theorem zaN(W:World)(b j:Nat)(v:Value):W.grownBy (W.setCell ⟨b,j,none⟩ v) (some b):=
 ⟨rfl,rfl,rfl,by simp,fun k _ hk=>Below.heap_setCell W _ _ k (fun e=>hk (by rw[e]))⟩
theorem zhy(W:World)(b j:Nat)(v:Value):W.grownBy (W.setCell ⟨b,j,none⟩ v).drew (some b):=by
 have h:=zaN W b j v;exact⟨h.os,h.tape,h.output,h.size,h.block⟩
def zcW(n:Nat)(T:Nat->Nat):Array Value:=((List.range n).map fun i=>Value.int .u64 (T i:Int)).toArray
theorem zew(n:Nat)(T:Nat->Nat){i:Nat}(h:i<n):(zcW n T)[i]?=some (.int .u64 (T i:Int)):=by
 simp[zcW,h]
def zaA(T:Nat->Nat)(s:Nat):Bool:=(T (s/64)).testBit (s%64)
theorem zrK(x y:Nat)(hx:x<18446744073709551616)(hy:y<18446744073709551616):bits BinOp.or IntKind.u64 (x:Int) (y:Int)=((x ||| y:Nat):Int):=by
 have h1:(BitVec.ofInt 64 (x:Int) ||| BitVec.ofInt 64 (y:Int)).toNat=x ||| y:=by
  rw[BitVec.ofInt_natCast,BitVec.ofInt_natCast,BitVec.toNat_or,BitVec.toNat_ofNat,BitVec.toNat_ofNat,zuF (by omega),zuF (by omega)]
 have h2:x ||| y<18446744073709551616:=Nat.or_lt_two_pow (n:=64) hx hy
 show IntKind.u64.wrap ((BitVec.ofInt 64 (x:Int) ||| BitVec.ofInt 64 (y:Int)).toNat:Int)=_;rw[h1];simp[IntKind.wrap,IntKind.bits,IntKind.signed];omega
theorem zi9(x:Nat):IntKind.u64.wrap (x:Int)=((x%18446744073709551616:Nat):Int):=by
 simp[IntKind.wrap,IntKind.bits,IntKind.signed]
theorem zhl(n:Nat)(T:Nat->Nat)(i x:Nat):(zcW n T).setIfInBounds i (.int .u64 (x:Int))=zcW n (fun j=>if j=i then x else T j):=by
 apply Array.ext'
 unfold zcW;simp only[List.setIfInBounds_toArray];apply List.ext_getElem
 ·simp
 ·intro j h1 h2;simp only[List.getElem_set,List.getElem_map,List.getElem_range]
  by_cases e:i=j
  ·subst e;simp
  ·rw[zuU e,zuU (fun h=>e h.symm)]
def addT(T:Nat->Nat)(p:Nat):Nat->Nat:=fun j=>if j=p/64 then T (p/64) ||| 2 ^ (p%64) else T j
theorem zkv(T:Nat->Nat)(hT:∀i,T i<18446744073709551616)(p:Nat):∀i,addT T p i<18446744073709551616:=fun i=>by
 unfold addT;split
 ·exact Nat.or_lt_two_pow (n:=64) (hT _) (Nat.pow_lt_pow_right (by omega) (by omega))
 ·exact hT i
theorem zik(T:Nat->Nat)(p s:Nat):zaA (addT T p) s=(zaA T s || decide (s=p)):=by
 unfold zaA addT
 by_cases h:s/64=p/64
 ·rw[zuV h,Nat.testBit_or,Nat.testBit_two_pow,h]
  congr 1
  by_cases e:s=p
  ·subst e;simp
  ·have:¬p%64=s%64:=by omega
   simp[this,e]
 ·rw[zuU h];have:¬s=p:=fun e=>h (by rw[e])
  simp[this]
theorem zmk:∀(n x:Nat),x<=n->0<x->∃k t,x=2 ^ k*(2*t+1)
 |0,x,h,h0=>by omega
 |n+1,x,h,h0=>by
  by_cases e:x%2=1
  ·exact⟨0,x/2,by omega⟩
  ·obtain⟨k,t,hk⟩:=zmk n (x/2) (by omega) (by omega);refine⟨k+1,t,?_⟩;rw[Nat.pow_succ,Nat.mul_assoc,Nat.mul_comm 2,<-Nat.mul_assoc,<-hk];omega
structure Low(x k:Nat):Prop where
 bit:x.testBit k=true
 low:∀j,j<k->x.testBit j=false
theorem zmf(k t:Nat):Low (2 ^ k*(2*t+1)) k:=by
 constructor
 ·rw[Nat.testBit_two_pow_mul];simp
 ·intro j hj;rw[Nat.testBit_two_pow_mul];simp;omega
theorem zsp{x k t:Nat}(hx:x=2 ^ k*(2*t+1))(hl:x<2 ^ 64):x &&& (2 ^ 64-x)=2 ^ k:=by
 have hp:0<2 ^ k:=Nat.two_pow_pos k;have h0:0<x:=by rw[hx];exact Nat.mul_pos hp (by omega)
 have e1:2 ^ 64-x=2 ^ 64-((x-1)+1):=by omega
 have e2:x-1=2 ^ k*(2*t)+(2 ^ k-1):=by
  rw[hx,Nat.mul_add,Nat.mul_one];omega
 apply Nat.eq_of_testBit_eq
 intro i;rw[Nat.testBit_and,e1,Nat.testBit_two_pow_sub_succ (by omega),e2,Nat.testBit_two_pow_mul_add _ (by omega),hx,Nat.testBit_two_pow_mul,Nat.testBit_two_pow];have hk:k<64:=by
  rcases zuC k 64 with h|h
  ·exact h
  ·have:2 ^ 64<=2 ^ k:=Nat.pow_le_pow_right (by omega) h;have:2 ^ k<=x:=by rw[hx];exact Nat.le_mul_of_pos_right _ (by omega)
   omega
 by_cases h1:i<k
 ·have:¬k<=i:=by omega
  have h2:¬k=i:=by omega
  simp[this,h2]
 ·by_cases h2:i=k
  ·subst h2;simp[hk]
  ·have h3:k<=i:=by omega
   have h4:¬k=i:=by omega
   have h5:¬i-k=0:=by omega
   obtain⟨m,hm⟩:∃m,i-k=m+1:=⟨i-k-1,by omega⟩;have a1:(2*t+1).testBit (m+1)=t.testBit m:=by rw[Nat.testBit_succ];congr 1;omega
   have a2:(2*t).testBit (m+1)=t.testBit m:=by rw[Nat.testBit_succ];congr 1;omega
   rw[zuU h1,hm,a1,a2];cases t.testBit m<;>simp[h4]
def zki:List Nat:=[0,1,56,2,57,49,28,3,61,58,42,50,38,29,17,4,62,47,59,36,45,43,51,22,53,39,33,30,24,18,12,5,63,55,48,27,60,41,37,16,46,35,44,21,52,32,23,11,54,26,40,15,34,20,31,10,25,14,19,9,13,8,7,6]
theorem zs0:∀k,k<64->(2 ^ k*285870213051353865%18446744073709551616)/2 ^ 58<64/\zki.getD ((2 ^ k*285870213051353865%18446744073709551616)/2 ^ 58) 0=k:=by decide
def zbj(w:World):Prop:=∀i,i<64->w.cell? ⟨0,i,none⟩=some (.int .u8 (zki.getD i 0:Int))
theorem zkA(x y:Nat)(hx:x<18446744073709551616)(hy:y<18446744073709551616):bits BinOp.and IntKind.u64 (x:Int) (y:Int)=((x &&& y:Nat):Int):=by
 have h1:(BitVec.ofInt 64 (x:Int) &&& BitVec.ofInt 64 (y:Int)).toNat=x &&& y:=by
  rw[BitVec.ofInt_natCast,BitVec.ofInt_natCast,BitVec.toNat_and,BitVec.toNat_ofNat,BitVec.toNat_ofNat,zuF (by omega),zuF (by omega)]
 have h2:x &&& y<=x:=Nat.and_le_left;show IntKind.u64.wrap ((BitVec.ofInt 64 (x:Int) &&& BitVec.ofInt 64 (y:Int)).toNat:Int)=_;rw[h1];simp[IntKind.wrap,IntKind.bits,IntKind.signed];omega
theorem ztl(x k t:Nat)(w:World)(hx:Hid (x=2 ^ k*(2*t+1)))(hl:x<18446744073709551616)(h0:0<x)(hk:k<64)(hB:Hid (zbj w)):
  Calls Tryz.prog 103 #[.int .u64 x] w fun e w'=>e=.returned (.int .i64 k)/\w'=w:=by
 have b0:((x:Int)==0)=false:=by simp;omega
 have hn:IntKind.u64.wrap (-(x:Int))=((18446744073709551616-x:Nat):Int):=by
  simp[IntKind.wrap,IntKind.bits,IntKind.signed];omega
 have ha:bits BinOp.and IntKind.u64 (x:Int) (IntKind.u64.wrap (-(x:Int)))=((2 ^ k:Nat):Int):=by
  rw[hn,zkA _ _ hl (by omega)];have h:=zsp hx.out (show x<2 ^ 64 by omega);rw[show (2:Nat) ^ 64=18446744073709551616 by decide] at h;rw[h]
 obtain⟨hi,ht⟩:=zs0 k hk;have hE:IntKind.u64.wrap (bits BinOp.and IntKind.u64 (x:Int) (IntKind.u64.wrap (-(x:Int)))*285870213051353865)/288230376151711744=(((2 ^ k*285870213051353865%18446744073709551616)/2 ^ 58:Nat):Int):=by
  rw[ha,show ((2 ^ k:Nat):Int)*285870213051353865=((2 ^ k*285870213051353865:Nat):Int) by simp,zi9];generalize 2 ^ k*285870213051353865%18446744073709551616=y;omega
 have c0:w.cell? ⟨0,(IntKind.u64.wrap (bits BinOp.and IntKind.u64 (x:Int) (IntKind.u64.wrap (-(x:Int)))*285870213051353865)/288230376151711744).toNat,none⟩=some (.int .u8 (k:Int)):=by rw[hE,ztB,hB.out _ hi,ht]
 have q0:0<=IntKind.u64.wrap (bits BinOp.and IntKind.u64 (x:Int) (IntKind.u64.wrap (-(x:Int)))*285870213051353865)/288230376151711744:=by rw[hE];omega
 have q1:IntKind.u64.wrap (bits BinOp.and IntKind.u64 (x:Int) (IntKind.u64.wrap (-(x:Int)))*285870213051353865)/288230376151711744<64:=by rw[hE];omega
 clear hn ha ht hx hl h0 hB hi hE
 go_enter Tryz.func103,Tryz.ntmps103
 go_wp2;go_ret;exact⟨rfl,rfl⟩
theorem zij(nw g cap:Nat)(T:Nat->Nat)(p:Nat)(w:World)(hg:w.heap[g]?=some (.cells (zcW nw T) 180 (0,0)))(hp:p<64*nw)(hnw:nw<=1000)(hT:Hid (∀i,T i<18446744073709551616)):
  Calls Tryz.prog 87 #[.slice (some ⟨g,0,none⟩) nw cap,.int .i64 p] w fun e w'=>e=.returned (.tuple #[])/\w'.heap[g]?=some (.cells (zcW nw (addT T p)) 180 (0,0))/\w.grownBy w' (some g):=by
 have d0:w.cell? ⟨g,p/64,none⟩=some (.int .u64 (T (p/64):Int)):=by rw[zuO _ _ _ _ _ _ hg,zew _ _ (by omega)]
 have f0:=zuQ _ _ (p/64) _ _ hg;have t0:=hT.out (p/64);have e1:(p:Int)/64=((p/64:Nat):Int):=by omega
 have e2:(p:Int)%64=((p%64:Nat):Int):=by omega
 have l1:p/64<nw:=by omega
 have l2:p%64<64:=by omega
 have HN:Hid (((w.setCell ⟨g,p/64,none⟩ (.int .u64 ((T (p/64) ||| 2 ^ (p%64):Nat):Int))).heap[g]?=some (.cells (zcW nw (addT T p)) 180 (0,0)))):=by
  have:=zuT w g (p/64) _ _ (.int .u64 ((T (p/64) ||| 2 ^ (p%64):Nat):Int)) hg;rw[zhl] at this;exact this
 generalize addT T p=T' at *;generalize T (p/64)=a at *;generalize hq:p/64=q at *;generalize hr:p%64=r at *;have i1:(q:Int)<nw:=by omega
 have i3:(0:Int)<=(q:Int):=by omega
 have hv:bits BinOp.or IntKind.u64 (a:Int) (IntKind.u64.wrap (2 ^ r))=((a ||| 2 ^ r:Nat):Int):=by
  have h2:2 ^ r<18446744073709551616:=Nat.pow_lt_pow_right (a:=2) (n:=64) (by omega) l2;rw[show (2:Int) ^ r=((2 ^ r:Nat):Int) by simp,zi9,zuF h2,zrK _ _ t0 h2]
 rw[<-hv] at HN;clear hv hq hr hg hT t0
 go_enter Tryz.func87,Tryz.ntmps87
 go_wp2
 go_region
 all_goals
  go_wp2
  go_end0
  exact⟨rfl,HN.out,zhy _ _ _ _⟩
end
section
variable {w w':World}{nw g n:Nat}{T U:Nat -> Nat}
structure zaB(w:World)(nw g:Nat)(T:Nat->Nat):Prop where
 row:w.heap[g]?=some (.cells (zcW nw T) 180 (0,0))
 lt:∀i,T i<18446744073709551616
theorem zaB.glt(h:zaB w nw g T):g<w.heap.size:=(ztp.1 h.row).1
theorem zaB.below(h:zaB w nw g T)(hb:Below w.heap.size w w'):zaB w' nw g T:=⟨(hb.block g h.glt).trans h.row,h.lt⟩
theorem zaB.grown{o:Option Nat}(h:zaB w nw g T)(hg:w.grownBy w' o)(hne:some g≠o):zaB w' nw g T:=⟨(hg.block g h.glt hne).trans h.row,h.lt⟩
theorem zaB.cell(h:zaB w nw g T){i:Nat}(hi:i<nw):w.cell? ⟨g,i,none⟩=some (.int .u64 (T i:Int)):=by rw[zuO _ _ _ _ _ _ h.row,zew _ _ hi]
theorem zcE(h:∀i,i<n->T i=U i):zcW n T=zcW n U:=by
 unfold zcW;rw[zua fun i hi=>by rw[h i (by simpa using hi)]]
def orT(T U:Nat->Nat):Nat->Nat:=fun i=>T i ||| U i
def orK(T U:Nat->Nat)(k:Nat):Nat->Nat:=fun i=>if i<k then T i ||| U i else T i
theorem zrJ(hT:∀i,T i<18446744073709551616)(hU:∀i,U i<18446744073709551616):∀i,orT T U i<18446744073709551616:=fun i=>Nat.or_lt_two_pow (n:=64) (hT i) (hU i)
theorem zg3(T U:Nat->Nat)(p:Nat):zaA (orT T U) p=(zaA T p || zaA U p):=by simp[zaA,orT]
theorem zsu(n:Nat)(T U:Nat->Nat)(k:Nat):zcW n (fun j=>if j=k then T k ||| U k else orK T U k j)=zcW n (orK T U (k+1)):=zcE fun i _=>by
 unfold orK
 by_cases e:i=k
 ·subst e;rw[zuV rfl,zuV (by omega)]
 ·rw[zuU e]
  by_cases h:i<k
  ·rw[zuV h,zuV (by omega)]
  ·rw[zuU h,zuU (by omega)]
theorem zdx(nw g g2 cap cap2:Nat)(T U:Nat->Nat)(w:World)(hT:zaB w nw g T)(hU:zaB w nw g2 U)(hne:g≠g2)(hnw:nw<=1000):
  Calls Tryz.prog 57 #[.slice (some ⟨g,0,none⟩) nw cap,.slice (some ⟨g2,0,none⟩) nw cap2] w fun e w'=>e=.returned (.tuple #[])/\zaB w' nw g (orT T U)/\w.grownBy w' (some g):=by
 go_enter Tryz.func57,Tryz.ntmps57
 go_wp2
 go_loopw [8] (fun i wr=>∃k:Nat,k<=nw/\i=.int .i64 k/\wr.heap[g]?=some (.cells (zcW nw (orK T U k)) 180 (0,0))/\w.grownBy wr (some g))
  (fun i _=>nw-(intOf i).toNat)
 case atStart=>exact⟨0,zuL _,rfl,by rw[hT.row];rfl,World.grownBy.refl _ _⟩
 case round=>
  obtain⟨k,hk,rfl,hr,hg⟩:=hrel
  by_cases hlt:k<nw
  ·have c0:=(hU.grown hg (by simpa using hne.symm)).cell hlt;have c1:wr.cell? ⟨g,k,none⟩=some (.int .u64 (T k:Int)):=by
    rw[zuO _ _ _ _ _ _ hr,zew _ _ hlt];unfold orK;rw[zuU (by omega)]
   have f1:=zuQ _ _ k _ _ hr;have HN:Hid ((wr.setCell ⟨g,k,none⟩ (.int .u64 ((T k ||| U k:Nat):Int))).heap[g]?=some (.cells (zcW nw (orK T U (k+1))) 180 (0,0))):=by
    have:=zuT wr g k _ _ (.int .u64 ((T k ||| U k:Nat):Int)) hr;rw[zhl,zsu] at this;exact this
   have hv:=zrK _ _ (hT.lt k) (hU.lt k);rw[<-hv] at HN;clear hv hr;have hi0:(0:Int)<=(k:Int):=by omega
   have hi1:(k:Int)<(nw:Int):=by omega
   generalize T k=a at *;generalize U k=b at *;go_wp2
   go_roundw
   case rel=>exact⟨k+1,by omega,by go_num,HN.out,hg.trans (zaN _ _ _ _)⟩
   case measure=>simp[intOf];omega
  ·have hkk:k=nw:=by omega
   subst hkk;go_wp2
   go_end0
   exact⟨rfl,⟨by rw[hr,zcE (U:=orT T U) fun i hi=>by unfold orK;rw[zuV hi];rfl],zrJ hT.lt hU.lt⟩,hg⟩
def zbm:Nat->Nat:=fun _=>0
theorem zcT(p:Nat):zaA zbm p=false:=by simp[zaA,zbm]
theorem zgR(n:Nat):(madeCells (Value.int .u64 0).cells (n*1)).toList.toArray=zcW n zbm:=by
 apply ztn
 intro i
 by_cases h:i<n
 ·simp[madeCells,zcW,zbm,Value.cells,Nat.mod_one,h]
 ·simp[madeCells,zcW,h]
theorem Tryz.infoU64:(Tryz.prog.info? 180).map (fun i=>(i.zero,i.size,i.bytes))=some (some (.int .u64 0),1,8):=by kernel_rfl
theorem ze9{base:Nat}{e:TypeId}{xs:List Value}(h:w.ownsRow base e 1 (.slice (some ⟨g,0,none⟩) n n) n xs):w.heap[g]?=some (.cells xs.toArray e (0,0)):=by
 rcases h.2 with ⟨h,_⟩|⟨g',cap,cr,h,_,hrow,_,_,hsz,htk⟩
 ·cases h
 ·cases h
  rw[hrow]
  congr 2
  apply Array.ext'
  rw[zur (by simp[hsz])] at htk;rw[htk]
def zeb(w:World)(bt nw:Nat)(sv fv:Value):Prop:=w.heap[bt]?=some (.cells #[.int .i64 nw,sv,fv] 159 (0,0))
theorem zeq(nw bt:Nat)(sv fv:Value)(w:World)(hb:zeb w bt nw sv fv)(hnw:nw<=1000):
  Calls Tryz.prog 50 #[.pointer (some ⟨bt,0,none⟩)] w fun e w'=>e=.returned (.slice (some ⟨w.heap.size,0,none⟩) nw nw)/\zaB w' nw w.heap.size zbm/\w.grownBy w' none:=by
 obtain⟨i0,hi,hz0,hz1,hz2⟩:=info_parts Tryz.infoU64;have c0:w.cell? ⟨bt,0,none⟩=some (.int .i64 nw):=(zuO _ _ _ _ _ _ hb:w.cell? ⟨bt,0,none⟩=_)
 go_enter Tryz.func50,Tryz.ntmps50
 go_wp2_with (refine wpList_make_full _ rfl _ _ 105 rfl w.heap.size 180 i0 _ 1 Tryz.underlying105 hi hz0 hz1 _ _ _ _ nw rfl rfl rfl rfl (by rw[hz2];omega) (by unfold maxLen;omega) (zuz _) ?_;intro w1 hown hgrow)
 go_ret
 refine⟨rfl,⟨?_,fun _=>by simp[zbm]⟩,hgrow⟩;rw[ze9 hown,zgR]
end
structure zft(H:Nat)(A B:World):Prop where
 os:B.os=A.os
 tape:B.tape=A.tape
 output:B.output=A.output
 size:A.heap.size<=B.heap.size
 same:∀k o,A.heap[k]?=some o->(k<H\/o.isCells=true)->B.heap[k]?=some o
theorem zft.put{H l:Nat}{A:World}{o:Obj}(hH:H<=l)(hl:A.heap[l]?=some o)(ho:o.isCells=false)(o':Obj):zft H A (A.putObj l o'):=
 ⟨rfl,rfl,rfl,by simp,fun k o2 hk h=>by
  refine(World.putObj_heap_other ?_).trans hk;rintro rfl;rw[hl] at hk;cases hk;rcases h with h|h
  ·omega
  ·rw[ho] at h;cases h⟩
def SeqR{α:Type}(n:Nat)(P:Program)(g:Nat)(fb lb:Array Value)(encs:α->Array Value)(T:List Nat)(S Sp:List α->Prop)(N:Nat)(w:World):Prop:=
 ∀(l:Nat) (J Jx:List α->World->Prop) (W:World),(∀k∈T,W.heap[k]?=w.heap[k]?)->
  (∀pre x W1,J pre W1->pre.length<N->YieldAt Fence.wide (n-1) P l (encs x) W1 fun e W'=>
   (e=.returned (.bool true)/\J (pre++[x]) W'/\∀k∈T,W'.heap[k]?=W1.heap[k]?)\/(e=.returned (.bool false)/\Jx (pre++[x]) W'))->
  J [] W->
  CallsIn Fence.wide n P g (fb++#[.func (.yield l) #[] #[]]++lb) W fun e W'=>(∃v,e=.returned v)/\((∃xs,S xs/\J xs W')\/(∃pre,Sp pre/\Jx pre W'))
theorem zcF{α:Type}{n:Nat}{P:Program}{g:Operand}{ps:Array Tmp}{assign body:Code}{Q:Exit->Act->World->Prop}{a:Act}{w:World}(h1:1<=n)
  {gf:Nat} {fb lb:Array Value} (hg:a.eval g=.func (.func gf) fb lb) (eg:∀args w,(callFunc gf args).run P w=.ok (.enter gf args) w)
  {encs:α->Array Value} {T:List Nat} {S Sp:List α->Prop} {N:Nat} (hT:∀k∈T,k<w.heap.size) (hseq:SeqR (n-1) P gf fb lb encs T S Sp N w) (hps:∀x,(encs x).size=ps.size)
  (I:List α->World->Prop) (Ix:Code->List α->World->Prop) (hI:∀s A B,I s A->zft w.heap.size A B->I s B) (hIx:∀c s A B,Ix c s A->zft w.heap.size A B->Ix c s B) (h0:I [] w) (a₁:α->Act)
  (hassign:∀(l:Nat) (x:α) (W:World) (K:Act->World->Prop),K (a₁ x) W->
   assign.wpIn (Fence.wide.inRound l) (n-1-1) P (Exit.then K (fun _ _ _=>False)) {tmps:=(ps.zip (encs x)).foldl (fun t (p,v)=>t.setIfInBounds p v) a.tmps,defers:=[]} W)
  (hbody:∀(l:Nat) (pre:List α) (x:α) (W:World),w.heap.size<=l->I pre W->pre.length<N->body.wpIn (Fence.wide.inRound l) (n-1-1) P (ownPostG w.heap.size (fun A B=>∀k∈T,B.heap[k]?=A.heap[k]?) I Ix (pre++[x]) W) (a₁ x) W)
  (hdone:∀(D:Nat) (xs:List α) (W:World),w.heap.size<=D->S xs->I xs W->W.heap[D]?=some (.deferred (some []))->Q .normal {a with defers:={target:=.collected D,args:=#[]} :: a.defers} W)
  (hstop:∀(D:Nat) (c:Code) (pre:List α) (W:World),w.heap.size<=D->Sp pre->Ix c pre W->W.heap[D]?=some (.deferred (some []))->c.wpIn Fence.wide n P Q {a with defers:={target:=.collected D,args:=#[]} :: a.defers} W):
  (Code.rangeFunc g ps assign body).wpIn Fence.wide n P Q a w:=by
 refine wpIn_rangeFunc fun fn hfn=>?_
 let rc:LoopState->Option Code->Loop:=fun st pe=>{state:=st,pending:=pe,fn,tmps:=a.tmps,params:=ps,assign,body,defers:=w.heap.size}
 obtain⟨W1,hW1⟩:∃W1,(w.alloc (.deferred (some []))).alloc (.loop (rc .ready none))=W1:=⟨_,rfl⟩;have t1:zft w.heap.size w W1:=by
  rw[<-hW1];refine⟨rfl,rfl,rfl,by simp;omega,fun k o hk _=>?_⟩;have hlt:=(ztp.1 hk).1;rw[Below.heap_alloc _ _ k (by simp;omega),Below.heap_alloc _ _ k hlt,hk]
 have rec1:W1.heap[w.heap.size+1]?=some (.loop (rc .ready none)):=by
  rw[<-hW1];have:=World.alloc_heap_new (w.alloc (.deferred (some []))) (.loop (rc .ready none));rwa[World.size_alloc] at this
 have def1:W1.heap[w.heap.size]?=some (.deferred (some [])):=by rw[<-hW1,Below.heap_alloc _ _ _ (by simp),World.alloc_heap_new]
 refine⟨w.heap.size+1,[{target:=.collected w.heap.size,args:=#[]}],W1,{target:=.fn (.func gf) lb,args:=fb++#[.func (.yield (w.heap.size+1)) #[] #[]]},W1,gf,
  fb++#[.func (.yield (w.heap.size+1)) #[] #[]]++lb,W1,?_,?_,fun _ _=>trivial,?_,fun _=>h1,?_⟩
 ·rw[<-hW1];exact run_enterLoop_outer _ _ _ _ _
 ·simp only[resolve,hg];simp[go_sem]
 ·simp[invoke,go_sem,eg]
 refine(hseq (w.heap.size+1)
  (fun pre W=>I pre W/\W.heap[w.heap.size+1]?=some (.loop (rc .ready none))/\W.heap[w.heap.size]?=some (.deferred (some [])))
  (fun pre W=>∃c,Ix c pre W/\W.heap[w.heap.size+1]?=some (.loop (rc .done (some c)))/\W.heap[w.heap.size]?=some (.deferred (some [])))
  W1 ?_ ?_ ⟨hI _ _ _ h0 t1,rec1,def1⟩).mono ?_
 ·intro k hk;have:=hT k hk;rw[<-hW1,Below.heap_alloc _ _ k (by simp;omega),Below.heap_alloc _ _ k this]
 ·rintro pre x W ⟨hi,hl,hk⟩ hlen;have hlt:=(ztp.1 hl).1;refine⟨fn,_,assign,body,run_yield (P:=P) (args:=encs x) hl (hps x),roundIn_of_wpIn hfn (hassign _ x W _ ⟨_,run_beginRound hl rfl,?_⟩)⟩;have busy:(W.putObj (w.heap.size+1) (.loop (rc .busy none))).heap[w.heap.size+1]?=some (.loop (rc .busy none)):=World.putObj_heap_same hlt;have held:(W.putObj (w.heap.size+1) (.loop (rc .busy none))).heap[w.heap.size]?=some (.deferred (some [])):=(World.putObj_heap_other (by omega)).trans hk;refine wpIn_mono (hbody _ pre x _ (by omega) (hI _ _ _ hi (zft.put (by omega) hl rfl _)) hlen) ?_;have fin:∀(jump:Option Code) (W3:World),KeepsFrom w.heap.size (W.putObj (w.heap.size+1) (.loop (rc .busy none))) W3->
    (Instr.endRound (w.heap.size+1) jump).run P W3=.ok (.bool jump.isNone) (W3.putObj (w.heap.size+1) (.loop (rc (if jump.isNone then .ready else .done) jump)))/\
    W3.heap[w.heap.size+1]?=some (.loop (rc .busy none))/\
    (W3.putObj (w.heap.size+1) (.loop (rc (if jump.isNone then .ready else .done) jump))).heap[w.heap.size+1]?=some (.loop (rc (if jump.isNone then .ready else .done) jump))/\
    (W3.putObj (w.heap.size+1) (.loop (rc (if jump.isNone then .ready else .done) jump))).heap[w.heap.size]?=some (.deferred (some [])):=fun jump W3 k3=>by
   have l3:=k3.same _ _ (by omega) busy rfl;exact⟨run_endRound (P:=P) jump l3,l3,World.putObj_heap_same (ztp.1 l3).1,(World.putObj_heap_other (by omega)).trans (k3.same _ _ (zuz _) held rfl)⟩
  have bk:∀(A:World) (o:Obj) (k:Nat),k∈T->(A.putObj (w.heap.size+1) o).heap[k]?=A.heap[k]?:=fun A o k hk=>World.putObj_heap_other (by have:=hT k hk;omega)
  rintro e a3 W3 hp;cases e with
  |normal=>
   obtain⟨k3,b3,i3⟩:=hp;obtain⟨r,l3,l4,d4⟩:=fin none W3 k3;exact⟨_,_,r,.inl ⟨rfl,⟨hI _ _ _ i3 (zft.put (by omega) l3 rfl _),l4,d4⟩,fun k hk=>by rw[bk _ _ k hk,b3 k hk,bk _ _ k hk]⟩⟩
  |ret=>
   obtain⟨k3,i3⟩:=hp;obtain⟨r,l3,l4,d4⟩:=fin (some .ret) W3 k3;exact⟨_,_,r,.inr ⟨rfl,.ret,hIx _ _ _ _ i3 (zft.put (by omega) l3 rfl _),l4,d4⟩⟩
  |exit id=>
   obtain⟨k3,i3⟩:=hp;obtain⟨r,l3,l4,d4⟩:=fin (some (.exit id)) W3 k3;exact⟨_,_,r,.inr ⟨rfl,.exit id,hIx _ _ _ _ i3 (zft.put (by omega) l3 rfl _),l4,d4⟩⟩
  |goto t=>
   obtain⟨k3,i3⟩:=hp;obtain⟨r,l3,l4,d4⟩:=fin (some (.goto t)) W3 k3;exact⟨_,_,r,.inr ⟨rfl,.goto t,hIx _ _ _ _ i3 (zft.put (by omega) l3 rfl _),l4,d4⟩⟩
  |panic ch=>exact hp.elim
  |outgrown=>exact hp.elim
 ·rintro e W2 ⟨⟨v,rfl⟩,(⟨xs,hS,hi,hl,hk⟩|⟨pre,hSp,c,hi,hl,hk⟩)⟩
  ·exact⟨none,_,run_endLoop (P:=P) hl (by simp[rc]),hdone _ xs _ (zuz _) hS (hI _ _ _ hi (zft.put (by omega) hl rfl _)) ((World.putObj_heap_other (by omega)).trans hk)⟩
  ·exact⟨some c,_,run_endLoop (P:=P) hl (by simp[rc]),hstop _ c pre _ (zuz _) hSp (hIx _ _ _ _ hi (zft.put (by omega) hl rfl _)) ((World.putObj_heap_other (by omega)).trans hk)⟩
end Go.Proofs.YthddplbodacjgaaGreatDoor
