import Derived.Test.YtdimhpfiieepiaaGreatDoorC42
import Derived.Laws.CopyOwn
import Derived.Deep.DrawnRows
namespace Go.Proofs.YtdimhpfiieepiaaGreatDoor
open Proofs.Tryz
open Option renaming some->za,none->zb
open Go renaming Value->zc,World->zd,TypeId->zj,Calls->zl
open RowKit renaming Hid->ze,Below->aa
open Obj renaming cells->zf
open Value renaming slice->zg,pointer->ab,int->zk,agg->zm
set_option maxHeartbeats 4000000
set_option maxRecDepth 100000
open Go.RowKit
section
attribute [local go_sem ↓] wp_at_zero wp_at_succ
theorem zo4(g cap n:Nat)(pa:Nat->Nat)(fs:Nat->zc)(w:zd)(hr:∀i,i<n->w.cell? ⟨g,i,zb⟩=za (ab (za ⟨pa i,0,zb⟩)))(hf:∀i,i<n->w.cell? ⟨pa i,2,zb⟩=za (fs i))(hv:∀i,i<n->fs i=.nilIface\/∃t x,fs i=.iface t x)(hn:n<=100000):
  zl prog 201 #[zg (za ⟨g,0,zb⟩) n cap,.func (.func 184) #[] #[]] w λe w'=>((e=.returned (zk .i64 (-1))/\∀i,i<n->fs i=.nilIface)\/∃k:Nat,e=.returned (zk .i64 k)/\k<n/\fs k≠.nilIface)/\aa w.heap.size w w':=by
 have Hr:ze _:=hr;have Hf:ze _:=hf;have Hv:ze _:=hv;clear hr hf hv
 go_enter func201,ntmps201
 go_wp2
 go_loopw [8] (λi wr=>∃k:Nat,k<=n/\i=zk .i64 k/\ze (∀j,j<k->fs j=.nilIface)/\aa w.heap.size w wr) (λi _=>n-(intOf i).toNat)
 case atStart=>exact⟨0,aZ _,rfl,λj hj=>absurd hj (dk _),Below.refl _ _⟩
 case round=>
  obtain⟨k,hk,rfl,HK,hb⟩:=hrel
  by_cases hlt:k<n
  ·have c0:=Hr.out k hlt;have c1:=Hf.out k hlt;have d0:wr.cell? ⟨g,k,zb⟩=za (ab (za ⟨pa k,0,zb⟩)):=(hb.cell (p:=⟨g,k,zb⟩) (block_lt_of_cell c0)).trans c0;have d1:wr.cell? ⟨pa k,2,zb⟩=za (fs k):=(hb.cell (p:=⟨pa k,2,zb⟩) (block_lt_of_cell c1)).trans c1;have dO:(0:Int)<=(k:Int):=by omega
   have dh:(k:Int)<(n:Int):=by omega
   rcases Hv.out k hlt with e|⟨t,x,e⟩
   ·rw[e]at d1;clear c0 c1;go_wp2
    go_roundw
    case rel=>exact⟨k+1,by omega,by go_num,λj hj=>by
     by_cases e2:j=k
     ·rw[e2];exact e
     ·exact HK.out j (by omega),hb⟩
    case measure=>simp[intOf];omega
   ·rw[e]at d1;have He:ze _:=e;clear c0 c1 e;go_wp2;go_ret;exact⟨.inr ⟨k,rfl,hlt,by rw[He.out];simp⟩,hb⟩
  ·obtain rfl:n=k:=by omega
   go_wp2;go_ret;exact⟨.inl ⟨rfl,HK.out⟩,hb⟩
theorem zjw(g cap n:Nat)(pa:Nat->Nat)(fs:Nat->zc)(w:zd)(hr:∀i,i<n->w.cell? ⟨g,i,zb⟩=za (ab (za ⟨pa i,0,zb⟩)))(hf:∀i,i<n->w.cell? ⟨pa i,2,zb⟩=za (fs i))(hv:∀i,i<n->fs i=.nilIface\/∃t x,fs i=.iface t x)(hn:n<=100000):
  zl prog 183 #[zg (za ⟨g,0,zb⟩) n cap,.func (.func 184) #[] #[]] w λe w'=>∃b:Bool,e=.returned (.bool b)/\(b=false->∀i,i<n->fs i=.nilIface)/\(b=true->∃i,i<n/\fs i≠.nilIface)/\aa w.heap.size w w':=by
 have hx:=zo4 g cap n pa fs w hr hf hv hn;clear hr hf hv
 go_enter func183,ntmps183
 go_wp2_with fail
 refine hx.mono ?_;rintro e w1 ⟨⟨rfl,h1⟩|⟨k,rfl,h1,h2⟩,hb⟩
 ·have H1:ze _:=h1;clear h1 hx;go_wp2;go_ret;exact⟨false,rfl,λ_=>H1.out,λe=>by(cases e),hb⟩
 ·have H2:ze _:=h2;have hd:decide ((0:Int)<=(k:Int))=true:=by simp
  clear h2 hx;go_wp2;go_ret;exact⟨true,rfl,λe=>by(cases e),λ_=>⟨k,h1,H2.out⟩,hb⟩
theorem zo3(g cap n:Nat)(pa:Nat->Nat)(os:Nat->Bool)(fs:Nat->zc)(w:zd)(hr:∀i,i<n->w.cell? ⟨g,i*2,zb⟩=za (ab (za ⟨pa i,0,zb⟩))/\w.cell? ⟨g,i*2+1,zb⟩=za (.bool (os i)))(hf:∀i,i<n->w.cell? ⟨pa i,2,zb⟩=za (fs i))(hv:∀i,i<n->fs i=.nilIface\/∃t x,fs i=.iface t x)(hn:n<=100000):
  zl prog 200 #[zg (za ⟨g,0,zb⟩) n cap,.func (.func 181) #[] #[]] w λe w'=>((e=.returned (zk .i64 (-1))/\∀i,i<n->fs i=.nilIface)\/∃k:Nat,e=.returned (zk .i64 k)/\k<n/\fs k≠.nilIface)/\aa w.heap.size w w':=by
 have Hr:ze _:=hr;have Hf:ze _:=hf;have Hv:ze _:=hv;clear hr hf hv
 go_enter func200,ntmps200
 go_wp2
 go_loopw [8] (λi wr=>∃k:Nat,k<=n/\i=zk .i64 k/\ze (∀j,j<k->fs j=.nilIface)/\aa w.heap.size w wr) (λi _=>n-(intOf i).toNat)
 case atStart=>exact⟨0,aZ _,rfl,λj hj=>absurd hj (dk _),Below.refl _ _⟩
 case round=>
  obtain⟨k,hk,rfl,HK,hb⟩:=hrel
  by_cases hlt:k<n
  ·obtain⟨c0,c2⟩:=Hr.out k hlt;have c1:=Hf.out k hlt;have d0:wr.cell? ⟨g,k*2,zb⟩=za (ab (za ⟨pa k,0,zb⟩)):=(hb.cell (p:=⟨g,k*2,zb⟩) (block_lt_of_cell c0)).trans c0;have d2:wr.cell? ⟨g,k*2+1,zb⟩=za (.bool (os k)):=(hb.cell (p:=⟨g,k*2+1,zb⟩) (block_lt_of_cell c2)).trans c2;have qp:=block_lt_of_cell c1;have hsz:=hb.size;have d1:(wr.alloc (zf #[ab (za ⟨pa k,0,zb⟩),.bool (os k)] 299)).cell? ⟨pa k,2,zb⟩=za (fs k):=(World.cell?_of_block (Below.heap_alloc _ _ _ (show pa k<wr.heap.size from bA qp hsz))).trans ((hb.cell (p:=⟨pa k,2,zb⟩) qp).trans c1);have bB:aa w.heap.size w (wr.alloc (zf #[ab (za ⟨pa k,0,zb⟩),.bool (os k)] 299)):=hb.alloc hsz _;have XZ:ze _:=bB;have dO:(0:Int)<=(k:Int):=by omega
   have dh:(k:Int)<(n:Int):=by omega
   rcases Hv.out k hlt with e|⟨t,x,e⟩
   ·rw[e]at d1;clear c0 c1 c2 bB;go_wp2
    go_roundw
    case rel=>exact⟨k+1,by omega,by go_num,λj hj=>by
     by_cases e2:j=k
     ·rw[e2];exact e
     ·exact HK.out j (by omega),XZ.out⟩
    case measure=>simp[intOf];omega
   ·rw[e]at d1;have He:ze _:=e;clear c0 c1 c2 e bB;go_wp2;go_ret;exact⟨.inr ⟨k,rfl,hlt,by rw[He.out];simp⟩,XZ.out⟩
  ·obtain rfl:n=k:=by omega
   go_wp2;go_ret;exact⟨.inl ⟨rfl,HK.out⟩,hb⟩
theorem zjv(g cap n:Nat)(pa:Nat->Nat)(os:Nat->Bool)(fs:Nat->zc)(w:zd)(hr:∀i,i<n->w.cell? ⟨g,i*2,zb⟩=za (ab (za ⟨pa i,0,zb⟩))/\w.cell? ⟨g,i*2+1,zb⟩=za (.bool (os i)))(hf:∀i,i<n->w.cell? ⟨pa i,2,zb⟩=za (fs i))(hv:∀i,i<n->fs i=.nilIface\/∃t x,fs i=.iface t x)(hn:n<=100000):
  zl prog 180 #[zg (za ⟨g,0,zb⟩) n cap,.func (.func 181) #[] #[]] w λe w'=>∃b:Bool,e=.returned (.bool b)/\(b=false->∀i,i<n->fs i=.nilIface)/\(b=true->∃i,i<n/\fs i≠.nilIface)/\aa w.heap.size w w':=by
 have hx:=zo3 g cap n pa os fs w hr hf hv hn;clear hr hf hv
 go_enter func180,ntmps180
 go_wp2_with fail
 refine hx.mono ?_;rintro e w1 ⟨⟨rfl,h1⟩|⟨k,rfl,h1,h2⟩,hb⟩
 ·have H1:ze _:=h1;clear h1 hx;go_wp2;go_ret;exact⟨false,rfl,λ_=>H1.out,λe=>by(cases e),hb⟩
 ·have H2:ze _:=h2;have hd:decide ((0:Int)<=(k:Int))=true:=by simp
  clear h2 hx;go_wp2;go_ret;exact⟨true,rfl,λe=>by(cases e),λ_=>⟨k,h1,H2.out⟩,hb⟩
end
section
variable {w:zd}{base g n sz:Nat}{xs:List zc}
attribute [local go_sem ↓] wp_at_zero wp_at_succ
theorem Wo(n:Nat)(h:n<4294967296):bits BinOp.and IntKind.u64 (n:Int) 4294967295=(n:Int):=by
 have h1:(BitVec.ofInt 64 (n:Int) &&& BitVec.ofInt 64 (4294967295:Int)).toNat=n:=by
  rw[show (4294967295:Int)=((4294967295:Nat):Int) from rfl,BitVec.ofInt_natCast,BitVec.ofInt_natCast,BitVec.toNat_and,BitVec.toNat_ofNat,BitVec.toNat_ofNat,xZ (by omega),xZ (by omega)];have:=Nat.and_two_pow_sub_one_eq_mod n 32;rw[show (2 ^ 32-1:Nat)=4294967295 from rfl]at this;rw[this];exact xZ (by omega)
 show IntKind.u64.wrap ((BitVec.ofInt 64 (n:Int) &&& BitVec.ofInt 64 (4294967295:Int)).toNat:Int)=_;rw[h1];simp[IntKind.wrap,IntKind.bits,IntKind.signed];omega
theorem zpn(n:Nat)(w:zd)(hn:n<=4000):
  zl prog 172 #[.int .u64 1,.int .u64 (n:Int)] w λe w'=>e=.returned (.tuple #[.int .u64 0,.int .u64 (n:Int)])/\w'=w:=by
 have h1:=Wo n (by omega);have h2:bits BinOp.and IntKind.u64 1 4294967295=1:=Wo 1 (by omega);have h3:bits BinOp.and IntKind.u64 0 4294967295=0:=Wo 0 (by omega);have hi:(n:Int)<=4000:=by omega
 go_enter func172,ntmps172
 have h4:(n:Int)/4294967296=0:=by omega
 go_wp2;refine bD (v:=.tuple #[.int .u64 0,.int .u64 (n:Int)]) (by simp[results,results172,go_sem]) rfl ⟨rfl,rfl⟩
theorem zpo(n:Nat)(w:zd)(hn:n<=4000):
  zl prog 149 #[.int .u64 1,.int .u64 (n:Int)] w λe w'=>e=.returned (.tuple #[.int .u64 0,.int .u64 (n:Int)])/\w'=w:=by
 have hm:=zpn n w hn
 go_enter func149,ntmps149
 go_wp2_with (go_at_call 172;refine hm.mono ?_;rintro e w' ⟨rfl,hw'⟩;subst w')
 refine bD (v:=.tuple #[.int .u64 0,.int .u64 (n:Int)]) (by simp[results,results149,go_sem]) rfl ⟨rfl,rfl⟩
def ld(x y z1 z2:zc)(n j:Nat):List zc:=(List.range (n*2)).map λk=>if k<j*2 then (if k%2=0 then x else y) else (if k%2=0 then z1 else z2)
theorem Me(x y z1 z2:zc)(n j:Nat):(ld x y z1 z2 n j).length=n*2:=by simp[ld]
theorem Da(x y z1 z2:zc){n j i:Nat}(h:i<n*2):(ld x y z1 z2 n j)[i]?=za (if i<j*2 then (if i%2=0 then x else y) else (if i%2=0 then z1 else z2)):=by simp[ld,h]
def pU(x y:zc)(c:Nat):List zc:=(List.range (c*2)).map λk=>if k%2=0 then x else y
theorem Be(x y:zc)(c:Nat):(pU x y c).length=c*2:=by simp[pU]
theorem WS(x y:zc){c i:Nat}(h:i<c*2):(pU x y c)[i]?=za (if i%2=0 then x else y):=by simp[pU,h]
theorem zmA(x y z1 z2:zc)(n:Nat):ld x y z1 z2 n n=pU x y n:=by
 unfold ld pU;apply Bo;intro k hk;rw[aD (wI.1 hk)]
theorem zib(x y z1 z2:zc){n j c:Nat}(h:j+c<=n):splice (ld x y z1 z2 n j) (j*2) (pU x y c)=ld x y z1 z2 n (j+c):=by
 apply FC
 intro i;unfold splice;have hl:=Me x y z1 z2 n j;have hp:=Be x y c;rw[hp]
 by_cases h1:i<j*2
 ·have e2:i<(j+c)*2:=by omega
  rw[qR (by rw[List.length_take];omega),Bw,aD h1,Da _ _ _ _ (by omega),Da _ _ _ _ (by omega),aD h1,aD e2]
 ·rw[vo (by rw[List.length_take];omega),List.length_take,hl,IL (by omega)]
  by_cases h2:i<(j+c)*2
  ·rw[qR (by omega),Da _ _ _ _ (by omega),aD h2,WS _ _ (by omega),show (i-j*2)%2=i%2 from by omega]
  ·rw[vo (by omega),hp,P1,show j*2+c*2+(i-j*2-c*2)=i by omega]
   by_cases h3:i<n*2
   ·rw[Da _ _ _ _ h3,Da _ _ _ _ h3,aq h1,aq h2]
   ·rw[qh (by omega),qh (by rw[Me];omega)]
theorem zmk(x y z1 z2:zc)(n:Nat):(madeCells #[z1,z2] (n*2)).toList=ld x y z1 z2 n 0:=by
 apply FC
 intro i
 by_cases h:i<n*2
 ·rw[Da _ _ _ _ h];simp[madeCells,h];rcases Nat.mod_two_eq_zero_or_one i with e|e<;>simp[e]
 ·rw[qh (by simp[madeCells];omega),qh (by rw[Me];omega)]
theorem wA{e:zj}(h:w.ownsRow base e sz (zg (za ⟨g,0,zb⟩) n n) n xs):w.heap[g]?=za (zf xs.toArray e (0,0)):=by
 rcases h.2 with ⟨h,_⟩|⟨g',cap,cr,h,_,mf,_,_,hsz,fL⟩
 ·cases h
 ·cases h
  rw[mf]
  congr 2
  apply Array.ext'
  rw[wL (by simp[hsz])]at fL;rw[fL]
theorem zh7{e:zj}(h:w.heap[g]?=za (zf xs.toArray e (0,0)))(hb:base<=g)(hl:xs.length=n*sz)(hm:n<=maxLen):w.ownsRow base e sz (zg (za ⟨g,0,zb⟩) n n) n xs:=
 ⟨hl,.inr ⟨g,n,xs.toArray,rfl,hb,h,ai _,hm,by simp[hl],by simp[<-hl]⟩⟩
theorem zf8{P:Program}(w:zd)(dT sT ty elem:zj)(g o Zt zxR:Nat)(a:Addr)(zwP zzq:Nat)(aA:Array zc)(t:zj)(cs:List zc)(c:Nat)
  (hu:P.underlying dT=za (.slice elem)) (hs:(P.info? elem).map (·.size)=za 2)
  (hg:w.heap[g]?=za (zf aA t (0,0))) (hc:c=Nat.min zwP Zt) (hn:cs.length=c*2)
  (Ev:∀j v,cs[j]?=za v->w.cell? (a.add j)=za v) (zyc:o+cs.length<=aA.size) (h1:∀v∈cs,v.oneCell'=true):
  (Builtin.copy_ #[dT,sT] ty #[zg (za ⟨g,o,zb⟩) Zt zxR,zg (za a) zwP zzq]).run P w =
   .ok (goInt c) (w.setRow g (aA.toList.take o++cs++aA.toList.drop (o+cs.length)).toArray):=by
 have hl:=run_loadCells_list (P:=P) w a cs Ev;have hst:=run_storeCells_at P g o t cs 0 aA w hg (by simpa using zyc) h1;cases hq:P.info? elem with
 |none=>simp[hq]at hs
 |some i=>
  have hi:i.size=2:=by simpa [hq]using hs
  rw[hn]at hl;simp[Builtin.copy_,run_underlying hu,Builtin.lenOf,Builtin.firstCells,sizeOf,typeInfo,hq,hi,<-hc,hl,hst]
end
section
attribute [local go_sem ↓] wp_at_zero wp_at_succ
theorem Tryz.Uc:(prog.info? 299).map (λi=>(i.zero,i.size,i.bytes))=za (za (zm #[ab zb,.bool false]),2,16):=by kernel_rfl
theorem Tryz.zzs:(prog.info? 299).map (·.size)=za 2:=by kernel_rfl
def zoy(ats:Array zj)(ty:zj)(args:Array zc):Sem zc:=Builtin.copy_ ats ty args
theorem zjy(ty:zj)(args:Array zc):Builtin.copy_ #[300,300] ty args=zoy #[300,300] ty args:=rfl
attribute [local go_sem ↓] zjy
theorem zfW(x y:zc)(hx:x.oneCell'=true)(hy:y.oneCell'=true){n j c g dc sl sc:Nat}{a:Addr}{W:zd}(hR:W.heap[g]?=za (zf (ld x y (ab zb) (.bool false) n j).toArray 299 (0,0)))(hj:j<=n)(hc:c=min sl (n-j))(hs:∀i,i<c*2->W.cell? (a.add i)=za (if i%2=0 then x else y))(ty:zj)(dl:Nat)(tf:dl=n-j)(o:Nat)(ho:o=j*2):
  ∃W',(zoy #[300,300] ty #[zg (za ⟨g,o,zb⟩) dl dc,zg (za a) sl sc]).run prog W=.ok (zk .i64 (c:Int)) W'/\W'.heap[g]?=za (zf (ld x y (ab zb) (.bool false) n (j+c)).toArray 299 (0,0))/\W.grownBy W' (za g):=by
 subst ho;have h:=zf8 (P:=prog) W 300 300 ty 299 g (j*2) dl dc a sl sc (ld x y (ab zb) (.bool false) n j).toArray 299 (pU x y c) c underlying300 Tryz.zzs hR (by rw[tf];exact hc) (Be x y c)
  (λi v hv=>by
   by_cases hi:i<c*2
   ·rw[WS x y hi]at hv;cases hv;exact hs i hi
   ·rw[qh (by rw[Be];omega)]at hv;cases hv) (by rw[Be,yh,Me];omega) (by
   intro v hv;obtain⟨k,-,rfl⟩:=sy.1 hv;split
   ·exact hx
   ·exact hy)
 refine⟨_,h,?_,⟨rfl,rfl,rfl,by simp[World.setRow],λk _ hk=>setRow_other W g k _ (λe=>hk (by rw[e]))⟩⟩;rw[setRow_heap W g _ _ _ _ hR];have e:=zib x y (ab zb) (.bool false) (n:=n) (j:=j) (c:=c) (by omega);unfold splice at e;rw[pA,e]
theorem zi3(x y:zc)(ox:x.oneCell'=true)(oy:y.oneCell'=true)(g0 n:Nat)(w:zd)(hx:w.cell? ⟨g0,0,zb⟩=za x)(hy:w.cell? ⟨g0,1,zb⟩=za y)(hn:n<=4000):
  zl prog 185 #[zg (za ⟨g0,0,zb⟩) 1 1,zk .i64 (n:Int)] w λe w'=>e=.returned (zg (za ⟨w.heap.size,0,zb⟩) n n)/\w'.ownsRow w.heap.size 299 2 (zg (za ⟨w.heap.size,0,zb⟩) n n) n (pU x y n)/\aa w.heap.size w w':=by
 obtain⟨i0,hi,bK,bh,bz⟩:=info_parts Tryz.Uc;have hm:=zpo n w hn;have Ee:g0<w.heap.size:=block_lt_of_cell hx;have th:(n:Int)<=4000:=by omega
 obtain⟨c0,xh⟩:∃c,c=min 1 n:=⟨_,rfl⟩;have Ev:∀W,aa w.heap.size w W->∀i,i<c0*2->W.cell? ((⟨g0,0,zb⟩:Addr).add i)=za (if i%2=0 then x else y):=λW hb i hi=>by
  obtain rfl|rfl:i=0\/i=1:=by omega
  ·exact(hb.cell (p:=⟨g0,0,zb⟩) Ee).trans hx
  ·exact(hb.cell (p:=⟨g0,1,zb⟩) Ee).trans hy
 go_enter func185,ntmps185
 go_wp2_with (first|(go_at_call 149;refine hm.mono ?_;rintro e w' ⟨rfl,hw'⟩;subst w')|(refine wpList_make_full _ rfl _ _ 300 rfl w.heap.size 299 i0 _ 2 underlying300 hi bK bh _ _ _ _ n rfl rfl rfl rfl (by rw[bz];omega) (by unfold maxLen;omega) (ai _) ?_;intro w1 CD Cu;have ak:aa w.heap.size w w1:=(Below.refl _ _).grown Cu (ai _) (by intro k h;cases h);have HR:ze (w1.heap[w.heap.size]?=za (zf (ld x y (ab zb) (.bool false) n 0).toArray 299 (0,0))):=(by have h:=wA CD;rw[show (Value.agg #[ab zb,.bool false]).cells=#[ab zb,.bool false] from rfl,zmk x y]at h;exact h);clear CD Cu;obtain⟨w2,Az,nO,bU⟩:=zfW x y ox oy (sc:=1) (a:=⟨g0,0,zb⟩) (dc:=n) HR.out (aZ _) (c:=c0) (sl:=1) (by omega) (Ev _ ak) 3 n rfl 0 rfl;have IY:ze (w2.heap[w.heap.size]?=za (zf (ld x y (ab zb) (.bool false) n c0).toArray 299 (0,0))):=(by rw[kn]at nO;exact nO);have mN:ze (aa w.heap.size w w2):=ak.grown bU ak.size (λq e=>by cases e;exact ai _);clear nO bU))
 clear hx hy Az ak hm HR Ev
 go_loopw [8] (λi wr=>∃(j:Nat),(1<=j\/n=0)/\j<=n/\i=zk .i64 j/\ze (wr.heap[w.heap.size]?=za (zf (ld x y (ab zb) (.bool false) n j).toArray 299 (0,0)))/\ze (aa w.heap.size w wr))
  (λi _=>n-(intOf i).toNat)
 case atStart=>exact⟨c0,by omega,by omega,by rw[xh],IY,mN⟩
 case round=>
  obtain⟨j,Eh,hj,rfl,HR,HB⟩:=hrel
  by_cases Cx:j<n
  ·have zyr:1<=j:=by omega
   have hi3:(j:Int)<(n:Int):=by omega
   have SR:¬n=j:=by omega
   obtain⟨c,hc⟩:∃c,c=min j (n-j):=⟨_,rfl⟩;obtain⟨w5,Az,JS,vK⟩:=zfW x y ox oy (W:=wr.drew) (sc:=n) (a:=⟨w.heap.size,0,zb⟩) (dc:=n-j) HR.out hj (c:=c) (sl:=j) hc (λi hi=>by
    have e:(⟨w.heap.size,0,zb⟩:Addr).add i=⟨w.heap.size,i,zb⟩:=by unfold Addr.add;split<;>simp_all
    have hr:wr.drew.heap[w.heap.size]?=za (zf (ld x y (ab zb) (.bool false) n j).toArray 299 (0,0)):=HR.out;have e2:i<j*2:=by omega
    rw[e,aO _ _ _ _ _ _ hr,List.getElem?_toArray,Da _ _ _ _ (by omega),aD e2]) 3 (n-j) rfl (j*2) rfl
   have Qn:ze _:=JS;have P9:ze (aa w.heap.size w w5):=by
    have rz:aa w.heap.size w wr.drew:=HB.out.trans ⟨rfl,rfl,rfl,ai _,λ_ _=>rfl⟩;exact rz.grown vK rz.size (λq e=>by cases e;exact ai _)
   have qq:1<=c:=by omega
   have dx:j+c<=n:=by omega
   have nQ:(j:Int)+(c:Int)<=4000:=by omega
   clear JS vK hc;go_wp2
   go_big_region
   go_wp2
   go_roundw
   case rel=>exact⟨j+c,by omega,dx,by simp,Qn,P9⟩
   case measure=>simp[intOf];omega
  ·have Kf:j=n:=by omega
   subst Kf;go_wp2;refine bD (v:=zg (za ⟨w.heap.size,0,zb⟩) j j) (by simp[results,results185,go_sem]) rfl ⟨rfl,?_,HB.out⟩;have:=HR.out;rw[zmA]at this;exact zh7 this (ai _) (Be _ _ _) (by unfold maxLen;omega)
end
section
structure jF(w:zd)(pl:Nat)(wr:zd)(Q:Nat->Option Pt)(F:Nat->Prop)(ps:List (Nat×Pt)):Prop where
 bj:aa w.heap.size w wr
 pm:kx w.heap.size wr pl Q
 kd:∀x,x∈ps->∃(cU:Nat) (w':zd) (Q':Nat->Option Pt),w.heap.size<=cU/\dI cU w' pl Q' x.1 x.2/\bR w' wr/\w'.heap.size<=wr.heap.size/\(∀k,cU<=k->k<w'.heap.size->wr.heap[k]?=w'.heap[k]?/\¬F k)/\∀k q,Q' k=za q->Q k=za q
 ob:∀k,F k->w.heap.size<=k/\∃aA ty,wr.heap[k]?=za (zf aA ty (0,0))/\ty≠222/\ty≠293
theorem jF.start(w:zd)(pl:Nat)(F:Nat->Prop)(wr:zd)(hb:aa w.heap.size w wr)(ob:∀k,F k->w.heap.size<=k/\∃aA ty,wr.heap[k]?=za (zf aA ty (0,0))/\ty≠222/\ty≠293):jF w pl wr (λ_=>zb) F []:=
 ⟨hb,kx.nothing _ _ _,λx hx=>(by cases hx),ob⟩
section
variable {w:zd} {pl:Nat} {wr:zd} {Q:Nat->Option Pt} {F:Nat->Prop} {ps:List (Nat×Pt)}
theorem jF.flt(h:jF w pl wr Q F ps){k:Nat}(hk:F k):k<wr.heap.size:=by
 obtain⟨_,aA,ty,e,_⟩:=h.ob k hk;exact(ap.1 e).1
theorem jF.K1(h:jF w pl wr Q F ps){pu:zd}(tc:aE F wr pu):bR wr pu:=λmg f e=>(tc.same mg (ap.1 e).1 (λhF=>by
 obtain⟨_,aA,ty,e2,_,e3⟩:=h.ob mg hF;rw[e2]at e;exact e3 (bP e))).trans e
theorem jF.turn(h:jF w pl wr Q F ps){pu:zd}{F2:Nat->Prop}(tc:aE F wr pu)(hF:∀k,F2 k->F k\/wr.heap.size<=k)(ob:∀k,F2 k->w.heap.size<=k/\∃aA ty,pu.heap[k]?=za (zf aA ty (0,0))/\ty≠222/\ty≠293):jF w pl pu Q F2 ps:=by
 have hm:=h.K1 tc;have hs:=h.bj.size;refine⟨⟨tc.os.trans h.bj.os,tc.tape.trans h.bj.tape,tc.output.trans h.bj.output,aU hs tc.size,λk hk=>(tc.same k (by omega) (λe=>by have:=(h.ob k e).1;omega)).trans (h.bj.block k hk)⟩,?_,?_,ob⟩
 ·intro a q hq;obtain⟨h1,h2,v,f,h3,h4⟩:=h.pm a q hq;refine⟨h1,h2,v,f,(tc.same a (ap.1 h3).1 (λe=>?_)).trans h3,aR.keep hm q v h4⟩;obtain⟨_,aA,ty,e2,e3,_⟩:=h.ob a e;rw[e2]at h3;exact e3 (bP h3)
 ·intro x hx;obtain⟨cU,w',Q',h1,h2,h3,h4,h5,h6⟩:=h.kd x hx;refine⟨cU,w',Q',h1,h2,h3.trans hm,aU h4 tc.size,λk k1 k2=>?_,h6⟩;obtain⟨e1,e2⟩:=h5 k k1 k2;exact⟨(tc.same k (by omega) e2).trans e1,λe=>(hF k e).elim e2 (λe=>by omega)⟩
theorem jF.below(h:jF w pl wr Q F ps){pu:zd}(hb:aa wr.heap.size wr pu):jF w pl pu Q F ps:=
 h.turn (.cH hb) (λ_ e=>.inl e) (λk e=>by
  obtain⟨h1,aA,ty,h2,h3⟩:=h.ob k e;exact⟨h1,aA,ty,(hb.block k (ap.1 h2).1).trans h2,h3⟩)
theorem jF.add(h:jF w pl wr Q F ps){q:Pt}{e:Ending}{w':zd}(hp:wV wr pl q e w'):∃(a:Nat) (Q2:Nat->Option Pt),e=.returned (ab (za ⟨a,0,zb⟩))/\aa wr.heap.size wr w'/\jF w pl w' Q2 F (ps++[(a,q)]):=by
 obtain⟨a,Q',rfl,hb,hm,ha⟩:=hp;have h1:=h.below hb;have hs:=h.bj.size;have uF:kx w.heap.size w' pl Q':=hm.keep hs (λ_ _ _=>rfl) (λ_ _ e=>e);have hq:∀k q,Q' k=za q->Q k=zb:=λk q e=>h.pm.high (by have:=(hm k q e).1;omega)
 refine⟨a,qU Q Q',rfl,hb,h1.bj,h1.pm.union uF,λx hx=>?_,h1.ob⟩;rcases er.1 hx with hx|hx
 ·obtain⟨cU,w1,Q1,k1,k2,k3,k4,k5,k6⟩:=h1.kd x hx;exact⟨cU,w1,Q1,k1,k2,k3,k4,k5,λk q e=>WU (k6 k q e)⟩
 ·rw[eM.1 hx];exact⟨wr.heap.size,w',Q',hs,ha,λ_ _ e=>e,ai _,λk k1 k2=>⟨rfl,λe=>by have:=h.flt e;omega⟩,λk q e=>Wl (hq k q e) e⟩
theorem jF.fin(h:jF w pl wr Q F ps):∀x,x∈ps->dI w.heap.size wr pl Q x.1 x.2:=λx hx=>by
 obtain⟨cU,w',Q',h1,h2,h3,h4,h5,h6⟩:=h.kd x hx;exact h2.keep h1 (λk k1 k2=>(h5 k k1 k2).1) h3 h6
end
def Dn(lo:Nat)(w:zd)(pl:Nat)(Q:Nat->Option Pt)(p:Pt)(f:zc):Prop:=
 (f=.nilIface\/∃t x,f=.iface t x)/\∀(y9:Nat) (w1:zd) (Q1:Nat->Option Pt) (a:Nat),y9<=lo->(∀k,lo<=k->k<w.heap.size->w1.heap[k]?=w.heap[k]?)->bR w w1->(∀k q,Q k=za q->Q1 k=za q)->sN y9 w1 pl Q1 a p f->dI y9 w1 pl Q1 a p
def FG(w:zd)(pl:Nat)(p:Pt)(e:Ending)(w':zd):Prop:=
 ∃(Q:Nat->Option Pt) (f:zc),e=.returned f/\aa w.heap.size w w'/\kx w.heap.size w' pl Q/\Dn w.heap.size w' pl Q p f
theorem zoT{lo:Nat}{w:zd}{pl:Nat}{Q:Nat->Option Pt}{p:Pt}(h:lJ p):Dn lo w pl Q p .nilIface:=⟨.inl rfl,λ_ _ _ a _ _ _ _ hb=>.leaf a p hb h⟩
theorem VM{lo:Nat}{w:zd}{pl:Nat}{Q:Nat->Option Pt}{p:Pt}{go cap:Nat}{xs:List (Nat×fR)}(hr:w.ownsRow lo 299 2 (zg (za ⟨go,0,zb⟩) xs.length cap) xs.length (gH xs))(hf:xs.map Prod.snd=mG p)(h1:∀l r,p≠.aQ l r)(h2:∀b g,p≠.aT b g)(h3:∀b,p≠.aw b 0 (-1))(h0:∀f,p≠.set f)(hp:∀x,x∈xs->dI lo w pl Q x.1 x.2.1):Dn lo w pl Q p (.iface 305 (zm #[zg (za ⟨go,0,zb⟩) xs.length cap])):=
 ⟨.inr ⟨_,_,rfl⟩,λ_ _ _ a hl hk hm hQ hb=>.chain a p go cap xs hb (qO (Pa hr hk) hl) hf h1 h2 h3 h0 λx hx=>(hp x hx).keep hl hk hm hQ⟩
theorem znh{lo:Nat}{w:zd}{pl:Nat}{Q:Nat->Option Pt}{l r:Pt}{go cap:Nat}{xs:List (Nat×Pt)}(hr:w.ownsRow lo 198 1 (zg (za ⟨go,0,zb⟩) xs.length cap) xs.length (je xs))(hf:xs.map Prod.snd=dw (.aQ l r))(hp:∀x,x∈xs->dI lo w pl Q x.1 x.2):Dn lo w pl Q (.aQ l r) (.iface 311 (zm #[zg (za ⟨go,0,zb⟩) xs.length cap])):=
 ⟨.inr ⟨_,_,rfl⟩,λ_ _ _ a hl hk hm hQ hb=>.choice a l r go cap xs hb (qO (Pa hr hk) hl) hf λx hx=>(hp x hx).keep hl hk hm hQ⟩
theorem zoS{lo:Nat}{w:zd}{pl:Nat}{Q:Nat->Option Pt}{b:Pt}{g:Int}{a':Nat}(hp:dI lo w pl Q a' b):Dn lo w pl Q (.aT b g) (.iface 242 (zm #[zk .i64 g,ab (za ⟨a',0,zb⟩)])):=
 ⟨.inr ⟨_,_,rfl⟩,λ_ _ _ a hl hk hm hQ hb=>.group a a' b g hb (hp.keep hl hk hm hQ)⟩
theorem zjH:∀(p:Pt),(∀q,q∈jV p->lJ q)->lJ p
 |.seq l r,h=>⟨h l (Bp ..),zjH r λq hq=>h q (yc _ hq)⟩
 |.set _,_=>trivial
 |.aQ l r,h=>h (.aQ l r) (eM.2 rfl)
 |.aw b mn mx,h=>h (.aw b mn mx) (eM.2 rfl)
 |.aT b g,h=>h (.aT b g) (eM.2 rfl)
theorem VL:∀(p:Pt),(∀q,q∈dw p->lJ q)->lJ p
 |.aQ l r,h=>⟨VL l λq hq=>h q (er.2 (.inl hq)),VL r λq hq=>h q (er.2 (.inr hq))⟩
 |.set _,_=>trivial
 |.seq l r,h=>h (.seq l r) (eM.2 rfl)
 |.aw b mn mx,h=>h (.aw b mn mx) (eM.2 rfl)
 |.aT b g,h=>h (.aT b g) (eM.2 rfl)
end
section
variable {w wr:zd}{pl:Nat}{Q:Nat -> Option Pt}{vL:zc}{xs:List (Nat×fR)}
attribute [local go_sem ↓] wp_at_zero wp_at_succ
def Xl(v:zc)(p:Pt)(b:Bool)(lv rv:zc):Prop:=(∀w,Sem.run prog (Instr.typeAssert v 184 256 true) w=.ok (.tuple #[zm #[lv,rv],.bool b]) w)/\(b=true\/jV p=[p])
theorem zmL:∀(p:Pt) (v:zc),aR w v p->∃b lv rv,Xl v p b lv rv/\(b=true->∃l r,p=.seq l r/\aR w lv l/\aR w rv r)/\((b=false/\lv=.nilIface/\rv=.nilIface)\/(b=true/\(∃t x,lv=.iface t x)/\∃t x,rv=.iface t x))
 |.seq l r,_,⟨lv,rv,rfl,h1,h2⟩=>by
  obtain⟨t1,x1,e1⟩:=ji h1;obtain⟨t2,x2,e2⟩:=ji h2;exact⟨true,lv,rv,⟨λw=>by kernel_rfl,.inl rfl⟩,λ_=>⟨l,r,rfl,h1,h2⟩,.inr ⟨rfl,⟨t1,x1,e1⟩,⟨t2,x2,e2⟩⟩⟩
 |.set f,_,⟨mg,rfl,_⟩=>⟨false,.nilIface,.nilIface,⟨λw=>by kernel_rfl,.inr rfl⟩,λe=>(by cases e),.inl ⟨rfl,rfl,rfl⟩⟩
 |.aQ l r,_,⟨lv,rv,rfl,_⟩=>⟨false,.nilIface,.nilIface,⟨λw=>by kernel_rfl,.inr rfl⟩,λe=>(by cases e),.inl ⟨rfl,rfl,rfl⟩⟩
 |.aw b mn mx,_,⟨lv,rfl,_⟩=>⟨false,.nilIface,.nilIface,⟨λw=>by kernel_rfl,.inr rfl⟩,λe=>(by cases e),.inl ⟨rfl,rfl,rfl⟩⟩
 |.aT b g,_,⟨lv,rfl,_⟩=>⟨false,.nilIface,.nilIface,⟨λw=>by kernel_rfl,.inr rfl⟩,λe=>(by cases e),.inl ⟨rfl,rfl,rfl⟩⟩
def Ll(xs:List (Nat×fR)):List (Nat×Pt):=xs.map λx=>(x.1,x.2.1)
structure qT(w:zd)(pl:Nat)(wr:zd)(Q:Nat->Option Pt)(vL:zc)(xs:List (Nat×fR)):Prop where
 kd:jF w pl wr Q (λk=>vL.ownBlock=za k) (Ll xs)
 own:wr.ownsRow w.heap.size 299 2 vL xs.length (gH xs)
theorem qT.below(h:qT w pl wr Q vL xs){pu:zd}(hb:aa wr.heap.size wr pu):qT w pl pu Q vL xs:=⟨h.kd.below hb,cI h.own hb⟩
theorem qT.push{w7:zd}{a:Nat}{q:Pt}{o:Bool}{g7 bS:Nat}(h:jF w pl wr Q (λk=>vL.ownBlock=za k) (Ll xs++[(a,q)]))(az:w7.ownsRow w.heap.size 299 2 (zg (za ⟨g7,0,zb⟩) (xs.length+1) bS) (xs.length+1) (gH xs++[ab (za ⟨a,0,zb⟩),.bool o]))(hg:wr.grownBy w7 vL.ownBlock)(dg:vL.ownBlock=za g7\/wr.heap.size<=g7):qT w pl w7 Q (zg (za ⟨g7,0,zb⟩) (xs.length+1) bS) (xs++[(a,(q,o))]):=by
 have tc:aE (λk=>vL.ownBlock=za k) wr w7:=(aE.refl _ wr).grown hg (λk e=>.inl e);refine⟨?_,?_⟩
 ·have:Ll (xs++[(a,(q,o))])=Ll xs++[(a,q)]:=by simp[Ll]
  rw[this];refine h.turn tc (λk e=>?_) (λk e=>?_)
  ·have e:g7=k:=by simpa [Value.ownBlock]using e
   subst e;exact dg
  ·obtain⟨z1,aA,z2⟩:=iD az e;exact⟨z1,aA,_,z2,by decide,by decide⟩
 ·have e:gH (xs++[(a,(q,o))])=gH xs++[ab (za ⟨a,0,zb⟩),.bool o]:=by rw[LQ];rfl
  rw[e,pz];exact az
theorem qT.at(h:qT w pl wr Q vL xs):∀x,x∈xs->dI w.heap.size wr pl Q x.1 x.2.1:=λx hx=>h.kd.fin (x.1,x.2.1) (sy.2 ⟨x,hx,rfl⟩)
end
variable {w:zd}{v:zc}{p:Pt}
attribute [local go_sem ↓] wp_at_zero wp_at_succ
theorem od{w':zd}(hb:aa w.heap.size w w'):bR w w':=λmg _ e=>(hb.block mg (ap.1 e).1).trans e
theorem zri{B go cap:Nat}{xs:List (Nat×fR)}(hr:w.ownsRow B 299 2 (zg (za ⟨go,0,zb⟩) xs.length cap) xs.length (gH xs)){i:Nat}{x:Nat×fR}(hx:xs[i]?=za x):w.cell? ⟨go,i*2,zb⟩=za (ab (za ⟨x.1,0,zb⟩))/\w.cell? ⟨go,i*2+1,zb⟩=za (.bool x.2.2):=by
 obtain⟨h1,h2⟩:=WM xs i x.1 x.2.1 x.2.2 hx;have e:∀n,(⟨go,0,zb⟩:Addr).add n=⟨go,n,zb⟩:=λn=>by unfold Addr.add;split<;>simp_all
 have c1:=Iq hr (i*2) _ h1;have c2:=Iq hr (i*2+1) _ h2;rw[e]at c1 c2;exact⟨c1,c2⟩
theorem zl7{lo:Nat}{pl:Nat}{Q:Nat->Option Pt}(n:Nat)(pa:Nat->Nat)(pq:Nat->Pt)(h:∀i,i<n->dI lo w pl Q (pa i) (pq i)):∃fs:Nat->zc,(∀i,i<n->w.cell? ⟨pa i,2,zb⟩=za (fs i))/\(∀i,i<n->fs i=.nilIface\/∃t x,fs i=.iface t x)/\∀i,i<n->fs i=.nilIface->lJ (pq i):=by
 obtain⟨fs,SK⟩:=@Go.Deep.choose_lt zc ⟨.nilIface⟩ n (λi f=>sN lo w pl Q (pa i) (pq i) f/\(f=.nilIface->lJ (pq i))/\(f=.nilIface\/∃t x,f=.iface t x)) (λi hi=>(h i hi).Rp);refine⟨fs,λi hi=>?_,λi hi=>(SK i hi).2.2,λi hi=>(SK i hi).2.1⟩;obtain⟨v,h1,_⟩:=(SK i hi).1.box;exact(aO _ _ _ _ _ _ h1:_=_)
theorem Ij{P:Program}(w:zd)(cs:Array zc)(ty:zj)(v:zc)(h:v.oneCell'=true)(i:Nat)(hi:i<cs.size):Sem.run P (store ⟨w.heap.size,i,zb⟩ v) (w.alloc (zf cs ty))=.ok () (w.alloc (zf (cs.setIfInBounds i v) ty)):=by
 have hx:(w.alloc (zf cs ty)).heap[w.heap.size]?=za (zf cs ty (0,0)):=aL _ _;rw[run_store P _ _ v _ h,aO _ _ _ _ _ _ hx,wG hi];simp only[cF _ _ i _ _ hx];simp[World.setCell_alloc_new]
def lnV:zc->Nat
 |.slice _ n _=>n
 |_=>0
structure Jp(w:zd)(v:zc)(p:Pt)(b:Bool)(lv rv:zc):Prop where
 tr:aR w v p
 Y2:Xl v p b lv rv
 sq:b=true->∃l r,p=.seq l r/\aR w lv l/\aR w rv r
 sh:(b=false/\lv=.nilIface/\rv=.nilIface)\/(b=true/\(∃t x,lv=.iface t x)/\∃t x,rv=.iface t x)
 wt:aF p<=2000
theorem Jp.ol{b:Bool}{lv rv:zc}(h:Jp w v p b lv rv):lv.oneCell'=true/\rv.oneCell'=true:=by
 rcases h.sh with ⟨_,h1,h2⟩|⟨_,⟨_,_,h1⟩,⟨_,_,h2⟩⟩<;>rw[h1,h2]<;>exact⟨rfl,rfl⟩
theorem ztL(h:aR w v p)(hw:aF p<=2000):∃b lv rv,Jp w v p b lv rv:=by
 obtain⟨b,lv,rv,h1,h2,h3⟩:=zmL p v h;exact⟨b,lv,rv,⟨h,h1,h2,h3,hw⟩⟩
theorem zm0(l r:Pt)(lT:∀q,mz q<mz (.seq l r)->sf q)(pl:Nat)(lv rv:zc)(w:zd)(hl:aR w lv l)(hr:aR w rv r)(hw:aF (.seq l r)<=2000):
  zl prog 158 #[ab (za ⟨pl,0,zb⟩),zm #[lv,rv]] w λe w'=>FG w pl (.seq l r) e w':=by
 obtain⟨i0,hi,bK,bh,bz⟩:=info_parts Tryz.Uc;have lU:aR w (.iface 256 (zm #[lv,rv])) (.seq l r):=⟨lv,rv,rfl,hl,hr⟩;have il:=L6 (.inl lU) hw;have hlen:=zjV _ _ lU hw;obtain⟨t1,x1,rfl⟩:=ji hl;obtain⟨t2,x2,rfl⟩:=ji hr;obtain⟨b,xG,xK,Cl,GX,Om⟩:=zmL r _ hr;obtain⟨W0,ah⟩:∃W0,w.alloc (zf #[.iface t1 x1,.iface t2 x2] 256)=W0:=⟨_,rfl⟩;have ae:aa w.heap.size w W0:=by rw[<-ah];exact au
 have x0:W0.heap[w.heap.size]?=za (zf #[.iface t1 x1,.iface t2 x2] 256 (0,0)):=by rw[<-ah];exact aL _ _
 have c0:=(jA x0).1;have ja:=lT l (su (by simp[fz];omega)) pl _ W0 (aR.keep (od ae) l _ hl) il.1;have IX:=aC lT;have Hl:=aC hl;have Hr:=aC hr;clear lT hl hr
 go_enter func158,ntmps158
 go_wp2_with fail
 refine ja.mono ?_;intro e1 W1 rD;obtain⟨a1,Q1,rfl,zvv,sW⟩:=(jF.start w pl (λ_=>False) W0 ae (λ_ e=>e.elim)).add rD;have ak:=sW.bj;have mB:W1.heap[w.heap.size]?=_:=(zvv.block _ (ap.1 x0).1).trans x0;obtain⟨W2,dH⟩:∃W2,W1.alloc (zf #[ab (za ⟨a1,0,zb⟩),.bool false] 299)=W2:=⟨_,rfl⟩;have af:aa W1.heap.size W1 W2:=by rw[<-dH];exact au
 have y1:W2.heap[W1.heap.size]?=za (zf #[ab (za ⟨a1,0,zb⟩),.bool false] 299 (0,0)):=by rw[<-dH];exact aL _ _
 have eJ:W2.ownsRow w.heap.size 299 2 (zg (za ⟨W1.heap.size,0,zb⟩) 1 1) 1 (gH [(a1,(l,false))]):=⟨by simp[gH],.inr ⟨W1.heap.size,1,_,rfl,ak.size,y1,ai _,by unfold maxLen;omega,rfl,by simp[gH]⟩⟩;have RO:qT w pl W2 Q1 (zg (za ⟨W1.heap.size,0,zb⟩) 1 1) [(a1,(l,false))]:=⟨sW.turn (.cH af) (λk e=>by
   have e:W1.heap.size=k:=by simpa [Value.ownBlock]using e
   exact .inr (by omega)) (λk e=>by
   have e:W1.heap.size=k:=by simpa [Value.ownBlock]using e
   subst e;exact⟨ak.size,_,_,y1,by decide,by decide⟩),eJ⟩
 have jy:W2.heap[w.heap.size]?=_:=(af.block _ (ap.1 mB).1).trans mB;have c2:=(jA jy).2;clear rD sW ja x0 mB y1 eJ ah c0;have ol:xG.oneCell'=true:=by rcases Om with ⟨_,h,_⟩|⟨_,⟨_,_,h⟩,_⟩<;>rw[h]<;>rfl
 have or':xK.oneCell'=true:=by rcases Om with ⟨_,_,h⟩|⟨_,_,⟨_,_,h⟩⟩<;>rw[h]<;>rfl
 have Sg:=Cl.1;have EK:=Ij (P:=prog) W2 #[.nilIface,.nilIface] 256 xG ol 0 (by simp);have wu:=Ij (P:=prog) W2 #[xG,.nilIface] 256 xK or' 1 (by simp);simp only[FB,List.set_cons_zero,List.set_cons_succ]at EK wu;obtain⟨W3,ff⟩:∃W3,W2.alloc (zf #[xG,xK] 256)=W3:=⟨_,rfl⟩;have ay:aa W2.heap.size W2 W3:=by rw[<-ff];exact au
 have x3:W3.heap[W2.heap.size]?=za (zf #[xG,xK] 256 (0,0)):=by rw[<-ff];exact aL _ _
 have Dq:=aC (RO.below ay);have cZ:w.heap.size<=W2.heap.size:=RO.kd.bj.size;have vx:ze (mG (.seq l r)=(l,false)::tS (jV r)):=rfl;clear RO jy;have XN:=aC (show Jp w (.iface t2 x2) r b xG xK from⟨Hr.out,Cl,GX,Om,il.2⟩);clear Cl GX Om;go_wp2;clear Sg EK wu ff dH ol or' c2
 go_loopw [5,6,7,8] (λUi rs bx ok wr=>∃(xs:List (Nat×fR)) (gL BZ:Nat) (Q:Nat->Option Pt) (p':Pt) (t3:zj) (y3:zc) (b:Bool) (xG xK:zc) (yD:Nat),Ui=zg (za ⟨gL,0,zb⟩) xs.length BZ/\rs=.iface t3 y3/\bx=ab (za ⟨yD,0,zb⟩)/\ok=.bool b/\ze (qT w pl wr Q (zg (za ⟨gL,0,zb⟩) xs.length BZ) xs)/\ze (Jp w (.iface t3 y3) p' b xG xK)/\ze (wr.heap[yD]?=za (zf #[xG,xK] 256 (0,0)))/\ze (xs.map Prod.snd++tS (jV p')=mG (.seq l r))/\mz p'<mz (.seq l r)/\xs.length<=2000)
  (λUi _ _ _ _=>2001-lnV Ui)
 case atStart=>exact⟨[(a1,(l,false))],W1.heap.size,1,Q1,r,t2,x2,b,xG,xK,W2.heap.size,rfl,rfl,rfl,rfl,Dq,XN,x3,vx.out.symm,su (by simp[fz];omega),by simp⟩
 case round=>
  clear Dq XN x3 ay af ak zvv;obtain⟨xs,gL,BZ,Q,p',t3,y3,b,xG,xK,yD,rfl,rfl,rfl,rfl,HC,HR,HX,HL,GR,KS⟩:=hrel;cases b with
  |true=>
   obtain⟨l2,r2,rfl,gW,iC⟩:=HR.out.sq rfl;obtain⟨t4,y4,rfl⟩:=ji gW;obtain⟨t5,y5,rfl⟩:=ji iC;have iA:=L6 (.inl HR.out.tr) HR.out.wt;have aB:=HC.out.kd.bj;have z0:=(jA HX.out).1;have hp:=IX.out l2 (Nat.lt_trans (su (by simp[fz];omega)) GR) pl _ wr (aR.keep (od aB) l2 _ gW) iA.1;obtain⟨b2,AX,G9,nO⟩:=ztL iC iA.2;have zyw:xs.length+2<=2000:=by
    have:=congrArg List.length HL.out;simp[tS,jV]at this;have h2:0<(jV r2).length:=by cases r2<;>simp[jV]
    omega
   have IY:=aC nO;have Sg:=nO.Y2.1;have ol:=nO.ol;have jx:=aB.size;clear nO gW iC
   go_wp2_with fail
   refine hp.mono ?_;intro e4 W4 sY;obtain⟨a4,Q4,rfl,aG,DX⟩:=HC.out.kd.add sY;have jS:=cI HC.out.own aG;have X4:W4.heap[yD]?=_:=(aG.block _ (ap.1 HX.out).1).trans HX.out;have MD:=aC DX;have pP:w.heap.size<=W4.heap.size:=DX.bj.size;have Z8:∀W7:zd,W4.grownBy W7 (za gL)->W7.heap[yD]?=za (zf #[.iface t4 y4,.iface t5 y5] 256 (0,0))/\W7.cell? ⟨yD,0,zb⟩=za (.iface t4 y4)/\W7.cell? ⟨yD,1,zb⟩=za (.iface t5 y5)/\Sem.run prog (store ⟨W7.heap.size,0,zb⟩ AX) (W7.alloc (zf #[.iface t4 y4,.iface t5 y5] 256))=.ok () (W7.alloc (zf #[AX,.iface t5 y5] 256))/\Sem.run prog (store ⟨W7.heap.size,1,zb⟩ G9) (W7.alloc (zf #[AX,.iface t5 y5] 256))=.ok () (W7.alloc (zf #[AX,G9] 256)):=λW7 dW=>by
    have hne:¬(za yD:Option Nat)=za gL:=λe=>by
     injection e with e
     obtain⟨_,aA,z2⟩:=iD jS (k:=yD) (by simp[Value.ownBlock,e]);rw[X4]at z2;exact absurd (bP z2) (by decide)
    have X7:=(dW.block yD (ap.1 X4).1 hne).trans X4;exact⟨X7,(jA X7).1,(jA X7).2,Ij W7 #[.iface t4 y4,.iface t5 y5] 256 AX ol.1 0 (by simp),Ij W7 #[AX,.iface t5 y5] 256 G9 ol.2 1 (by simp)⟩
   clear hp sY DX z0
   go_wp2_with (at_builtin;refine EN rfl (.tmp 28) (.tmp 34) 300 rfl W4 #[ab (za ⟨a4,0,zb⟩),.bool false] 299 rfl W4.heap.size rfl w.heap.size i0 _ 2 16 underlying300 hi bK bh bz rfl (by omega) _ xs.length (gH xs) rfl jS rfl rfl (by intro u hu;simp at hu;rcases hu with rfl|rfl<;>rfl) (by omega) (by omega) pP ?_;intro g7 bS W7 fu dW iH;obtain⟨X7,y0,y1,EK,wu⟩:=Z8 W7 dW)
   have JL:qT w pl W7 Q4 (zg (za ⟨g7,0,zb⟩) (xs.length+1) bS) (xs++[(a4,(l2,false))]):=qT.push MD.out fu dW (iH.imp id (λe=>by omega));obtain⟨W8,Ar⟩:∃W8,W7.alloc (zf #[AX,G9] 256)=W8:=⟨_,rfl⟩;have dX:aa W7.heap.size W7 W8:=by rw[<-Ar];exact au
   have X8:W8.heap[W7.heap.size]?=za (zf #[AX,G9] 256 (0,0)):=by rw[<-Ar];exact aL _ _
   have HC8:=aC (JL.below dX);have HL8:ze ((xs++[(a4,(l2,false))]).map Prod.snd++tS (jV r2)=mG (.seq l r)):=by
    show _=_;rw[<-HL.out];simp[tS,jV]
   clear JL fu dW X7 Z8 EK wu Sg ol y0 y1 HC HX HL HR dX;subst Ar
   go_roundw
   case rel=>exact⟨xs++[(a4,(l2,false))],g7,bS,Q4,r2,t5,y5,b2,AX,G9,W7.heap.size,by simp,rfl,rfl,rfl,by rw[pz];exact HC8,IY,X8,HL8,Nat.lt_trans (su (by simp[fz];omega)) GR,by simp;omega⟩
   case measure=>simp[lnV];omega
  |false=>
   have aB:=HC.out.kd.bj;have hp:=IX.out p' GR pl _ wr (aR.keep (od aB) p' _ HR.out.tr) HR.out.wt;have mQ:jV p'=[p']:=by
    rcases HR.out.Y2.2 with h|h
    ·cases h
    ·exact h
   have zyw:xs.length+1<=2000:=by
    have:=congrArg List.length HL.out;simp[tS,mQ]at this;omega
   have jx:=aB.size
   go_wp2_with fail
   refine hp.mono ?_;intro e4 W4 sY;obtain⟨a4,Q4,rfl,aG,DX⟩:=HC.out.kd.add sY;have jS:=cI HC.out.own aG;have MD:=aC DX;have pP:w.heap.size<=W4.heap.size:=DX.bj.size;obtain⟨qL,QS⟩:∃qL,ze (xs++[(a4,(p',false))]=qL):=⟨_,rfl⟩;obtain⟨n7,BH⟩:∃n7,ze (xs.length+1=n7):=⟨_,rfl⟩;have zv1:qL.length=n7:=by rw[<-QS.out,<-BH.out];simp
   have zyC:n7<=2000:=by have:=BH.out;omega
   have XH:ze (qL.map Prod.snd=mG (.seq l r)):=by
    show _=_;rw[<-HL.out,<-QS.out,mQ];simp[tS]
   have JL:∀W7 g7 bS,W7.ownsRow w.heap.size 299 2 (zg (za ⟨g7,0,zb⟩) (xs.length+1) bS) (xs.length+1) (gH xs++[ab (za ⟨a4,0,zb⟩),.bool false])->W4.grownBy W7 (za gL)->(za gL=za g7\/W4.heap.size<=g7)->ze (qT w pl W7 Q4 (zg (za ⟨g7,0,zb⟩) n7 bS) qL):=λW7 g7 bS h1 h2 h3=>by
    show qT _ _ _ _ _ _;rw[<-BH.out,<-QS.out];exact qT.push MD.out h1 h2 h3
   have Gz:∀W7 g7 bS,ze (qT w pl W7 Q4 (zg (za ⟨g7,0,zb⟩) n7 bS) qL)->zl prog 180 #[zg (za ⟨g7,0,zb⟩) n7 bS,.func (.func 181) #[] #[]] W7 λe w'=>∃b:Bool,e=.returned (.bool b)/\ze (b=false->lJ (.seq l r))/\aa W7.heap.size W7 w':=λW7 g7 bS h=>by
    have dg:∀i,i<n7->dI w.heap.size W7 pl Q4 (vZ qL i) (tB qL i):=λi hi=>h.out.at _ (Bq (Dg (xs:=qL) (i:=i) (by omega)))
    obtain⟨fs,f1,f2,f3⟩:=zl7 n7 (vZ qL) (tB qL) dg;refine(zjv g7 bS n7 (vZ qL) (xF qL) fs W7 (λi hi=>?_) f1 f2 (by omega)).mono ?_
    ·have:=h.out.own;rw[<-zv1]at this;exact zri this (Dg (by omega))
    ·rintro e w' ⟨b,rfl,k1,k2,hb⟩;refine⟨b,rfl,λe=>zjH _ λq hq=>?_,hb⟩;have nY:(q,false)∈qL.map Prod.snd:=by rw[XH.out];exact sy.2 ⟨q,hq,rfl⟩
     obtain⟨x,hx,uK⟩:=sy.1 nY;obtain⟨i,hi,rfl⟩:=List.getElem_of_mem hx;have h3:=f3 i (by omega) (k1 e i (by omega));have h4:=Dg (xs:=qL) (i:=i) hi;rw[eY hi]at h4;have h5:=Option.some.inj h4;rw[h5]at uK;have:tB qL i=q:=congrArg Prod.fst uK;rw[<-this];exact h3
   clear hp sY DX
   go_wp2_with (at_builtin;refine EN rfl (.tmp 39) (.tmp 44) 300 rfl W4 #[ab (za ⟨a4,0,zb⟩),.bool false] 299 rfl W4.heap.size rfl w.heap.size i0 _ 2 16 underlying300 hi bK bh bz rfl (by omega) _ xs.length (gH xs) rfl jS rfl rfl (by intro u hu;simp at hu;rcases hu with rfl|rfl<;>rfl) (by omega) (by omega) pP ?_;intro g7 bS W7 fu dW iH;have Xx:=JL W7 g7 bS fu dW (iH.imp id (λe=>by omega));clear fu dW iH)
   rw[BH.out];refine(Gz W7 g7 bS Xx).mono ?_;rintro e8 W8 ⟨b8,rfl,re,dX⟩;have DW:=Xx.out.below dX;have fT:=DW.kd.bj;clear Gz JL HC HX HL HR jS MD;cases b8 with
   |false=>
    have HF:ze (FG w pl (.seq l r) (.returned .nilIface) W8):=⟨Q4,.nilIface,rfl,fT,DW.kd.pm,zoT (re.out rfl)⟩;clear DW re;go_wp2;go_ret;exact HF.out
   |true=>
    have HF:ze (FG w pl (.seq l r) (.returned (.iface 305 (zm #[zg (za ⟨g7,0,zb⟩) n7 bS]))) W8):=by
     refine⟨Q4,_,rfl,fT,DW.kd.pm,?_⟩;have h1:=DW.own;have h2:=DW.at;rw[<-zv1]at h1 ⊢;exact VM h1 XH.out (λ_ _ e=>(by cases e)) (λ_ _ e=>(by cases e)) (λ_ e=>(by cases e)) (λ_ e=>(by cases e)) h2
    clear DW re;go_wp2;go_ret;exact HF.out
end Go.Proofs.YtdimhpfiieepiaaGreatDoor
