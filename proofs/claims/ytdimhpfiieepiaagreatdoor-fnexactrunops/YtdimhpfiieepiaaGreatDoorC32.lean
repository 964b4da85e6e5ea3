import Derived.Test.YtdimhpfiieepiaaGreatDoorC31
import Derived.Laws.CopyOwn
import Derived.Deep.DrawnRows
namespace Go.Proofs.YtdimhpfiieepiaaGreatDoor
open Proofs.Tryz
open Option renaming some->za,none->zb
open Go renaming Value->zc,World->zd,TypeId->zk,Calls->zm
open RowKit renaming Hid->ze,Below->zi
open Obj renaming cells->zf
open Value renaming slice->zg,pointer->zh,int->zl,agg->zn
set_option maxHeartbeats 4000000
set_option maxRecDepth 100000
open Go.RowKit
attribute [local go_sem ↓] wp_at_zero wp_at_succ
theorem zpd(g cap n:Nat)(pa:Nat->Nat)(fs:Nat->zc)(w:zd)(hr:∀i,i<n->w.cell? ⟨g,i,zb⟩=za (zh (za ⟨pa i,0,zb⟩)))(hf:∀i,i<n->w.cell? ⟨pa i,2,zb⟩=za (fs i))(hv:∀i,i<n->fs i=.nilIface\/∃t x,fs i=.iface t x)(hn:n<=100000):
  zm prog 201 #[zg (za ⟨g,0,zb⟩) n cap,.func (.func 184) #[] #[]] w λe w'=>((e=.returned (zl .i64 (-1))/\∀i,i<n->fs i=.nilIface)\/∃k:Nat,e=.returned (zl .i64 k)/\k<n/\fs k≠.nilIface)/\zi w.heap.size w w':=by
 have Hr:ze _:=hr;have Hf:ze _:=hf;have Hv:ze _:=hv;clear hr hf hv
 go_enter func201,ntmps201
 go_wp2
 go_loopw [8] (λi wr=>∃k:Nat,k<=n/\i=zl .i64 k/\ze (∀j,j<k->fs j=.nilIface)/\zi w.heap.size w wr) (λi _=>n-(intOf i).toNat)
 case atStart=>exact⟨0,aR _,rfl,λj hj=>absurd hj (cR _),Below.refl _ _⟩
 case round=>
  obtain⟨k,hk,rfl,HK,hb⟩:=hrel
  by_cases hlt:k<n
  ·have c0:=Hr.out k hlt;have c1:=Hf.out k hlt;have d0:wr.cell? ⟨g,k,zb⟩=za (zh (za ⟨pa k,0,zb⟩)):=(hb.cell (p:=⟨g,k,zb⟩) (block_lt_of_cell c0)).trans c0;have d1:wr.cell? ⟨pa k,2,zb⟩=za (fs k):=(hb.cell (p:=⟨pa k,2,zb⟩) (block_lt_of_cell c1)).trans c1;have da:(0:Int)<=(k:Int):=by omega
   have cO:(k:Int)<(n:Int):=by omega
   rcases Hv.out k hlt with e|⟨t,x,e⟩
   ·rw[e]at d1;clear c0 c1;go_wp2
    go_roundw
    case rel=>exact⟨k+1,by omega,by go_num,λj hj=>by
     by_cases e2:j=k
     ·rw[e2];exact e
     ·exact HK.out j (by omega),hb⟩
    case measure=>simp[intOf];omega
   ·rw[e]at d1;have He:ze _:=e;clear c0 c1 e;go_wp2;go_ret;exact⟨.inr ⟨k,rfl,hlt,by rw[He.out];simp⟩,hb⟩
  ·obtain rfl:n=k:=by omega
   go_wp2;go_ret;exact⟨.inl ⟨rfl,HK.out⟩,hb⟩
theorem zjv(g cap n:Nat)(pa:Nat->Nat)(fs:Nat->zc)(w:zd)(hr:∀i,i<n->w.cell? ⟨g,i,zb⟩=za (zh (za ⟨pa i,0,zb⟩)))(hf:∀i,i<n->w.cell? ⟨pa i,2,zb⟩=za (fs i))(hv:∀i,i<n->fs i=.nilIface\/∃t x,fs i=.iface t x)(hn:n<=100000):
  zm prog 183 #[zg (za ⟨g,0,zb⟩) n cap,.func (.func 184) #[] #[]] w λe w'=>∃b:Bool,e=.returned (.bool b)/\(b=false->∀i,i<n->fs i=.nilIface)/\(b=true->∃i,i<n/\fs i≠.nilIface)/\zi w.heap.size w w':=by
 have hx:=zpd g cap n pa fs w hr hf hv hn;clear hr hf hv
 go_enter func183,ntmps183
 go_wp2_with fail
 refine hx.mono ?_;rintro e w1 ⟨⟨rfl,h1⟩|⟨k,rfl,h1,h2⟩,hb⟩
 ·have H1:ze _:=h1;clear h1 hx;go_wp2;go_ret;exact⟨false,rfl,λ_=>H1.out,λe=>by(cases e),hb⟩
 ·have H2:ze _:=h2;have hd:decide ((0:Int)<=(k:Int))=true:=by simp
  clear h2 hx;go_wp2;go_ret;exact⟨true,rfl,λe=>by(cases e),λ_=>⟨k,h1,H2.out⟩,hb⟩
theorem zpb(g cap n:Nat)(pa:Nat->Nat)(os:Nat->Bool)(fs:Nat->zc)(w:zd)(hr:∀i,i<n->w.cell? ⟨g,i*2,zb⟩=za (zh (za ⟨pa i,0,zb⟩))/\w.cell? ⟨g,i*2+1,zb⟩=za (.bool (os i)))(hf:∀i,i<n->w.cell? ⟨pa i,2,zb⟩=za (fs i))(hv:∀i,i<n->fs i=.nilIface\/∃t x,fs i=.iface t x)(hn:n<=100000):
  zm prog 200 #[zg (za ⟨g,0,zb⟩) n cap,.func (.func 181) #[] #[]] w λe w'=>((e=.returned (zl .i64 (-1))/\∀i,i<n->fs i=.nilIface)\/∃k:Nat,e=.returned (zl .i64 k)/\k<n/\fs k≠.nilIface)/\zi w.heap.size w w':=by
 have Hr:ze _:=hr;have Hf:ze _:=hf;have Hv:ze _:=hv;clear hr hf hv
 go_enter func200,ntmps200
 go_wp2
 go_loopw [8] (λi wr=>∃k:Nat,k<=n/\i=zl .i64 k/\ze (∀j,j<k->fs j=.nilIface)/\zi w.heap.size w wr) (λi _=>n-(intOf i).toNat)
 case atStart=>exact⟨0,aR _,rfl,λj hj=>absurd hj (cR _),Below.refl _ _⟩
 case round=>
  obtain⟨k,hk,rfl,HK,hb⟩:=hrel
  by_cases hlt:k<n
  ·obtain⟨c0,c2⟩:=Hr.out k hlt;have c1:=Hf.out k hlt;have d0:wr.cell? ⟨g,k*2,zb⟩=za (zh (za ⟨pa k,0,zb⟩)):=(hb.cell (p:=⟨g,k*2,zb⟩) (block_lt_of_cell c0)).trans c0;have d2:wr.cell? ⟨g,k*2+1,zb⟩=za (.bool (os k)):=(hb.cell (p:=⟨g,k*2+1,zb⟩) (block_lt_of_cell c2)).trans c2;have pS:=block_lt_of_cell c1;have hsz:=hb.size;have d1:(wr.alloc (zf #[zh (za ⟨pa k,0,zb⟩),.bool (os k)] 299)).cell? ⟨pa k,2,zb⟩=za (fs k):=(World.cell?_of_block (Below.heap_alloc _ _ _ (show pa k<wr.heap.size from bA pS hsz))).trans ((hb.cell (p:=⟨pa k,2,zb⟩) pS).trans c1);have bQ:zi w.heap.size w (wr.alloc (zf #[zh (za ⟨pa k,0,zb⟩),.bool (os k)] 299)):=hb.alloc hsz _;have Ch:ze _:=bQ;have da:(0:Int)<=(k:Int):=by omega
   have cO:(k:Int)<(n:Int):=by omega
   rcases Hv.out k hlt with e|⟨t,x,e⟩
   ·rw[e]at d1;clear c0 c1 c2 bQ;go_wp2
    go_roundw
    case rel=>exact⟨k+1,by omega,by go_num,λj hj=>by
     by_cases e2:j=k
     ·rw[e2];exact e
     ·exact HK.out j (by omega),Ch.out⟩
    case measure=>simp[intOf];omega
   ·rw[e]at d1;have He:ze _:=e;clear c0 c1 c2 e bQ;go_wp2;go_ret;exact⟨.inr ⟨k,rfl,hlt,by rw[He.out];simp⟩,Ch.out⟩
  ·obtain rfl:n=k:=by omega
   go_wp2;go_ret;exact⟨.inl ⟨rfl,HK.out⟩,hb⟩
theorem zjt(g cap n:Nat)(pa:Nat->Nat)(os:Nat->Bool)(fs:Nat->zc)(w:zd)(hr:∀i,i<n->w.cell? ⟨g,i*2,zb⟩=za (zh (za ⟨pa i,0,zb⟩))/\w.cell? ⟨g,i*2+1,zb⟩=za (.bool (os i)))(hf:∀i,i<n->w.cell? ⟨pa i,2,zb⟩=za (fs i))(hv:∀i,i<n->fs i=.nilIface\/∃t x,fs i=.iface t x)(hn:n<=100000):
  zm prog 180 #[zg (za ⟨g,0,zb⟩) n cap,.func (.func 181) #[] #[]] w λe w'=>∃b:Bool,e=.returned (.bool b)/\(b=false->∀i,i<n->fs i=.nilIface)/\(b=true->∃i,i<n/\fs i≠.nilIface)/\zi w.heap.size w w':=by
 have hx:=zpb g cap n pa os fs w hr hf hv hn;clear hr hf hv
 go_enter func180,ntmps180
 go_wp2_with fail
 refine hx.mono ?_;rintro e w1 ⟨⟨rfl,h1⟩|⟨k,rfl,h1,h2⟩,hb⟩
 ·have H1:ze _:=h1;clear h1 hx;go_wp2;go_ret;exact⟨false,rfl,λ_=>H1.out,λe=>by(cases e),hb⟩
 ·have H2:ze _:=h2;have hd:decide ((0:Int)<=(k:Int))=true:=by simp
  clear h2 hx;go_wp2;go_ret;exact⟨true,rfl,λe=>by(cases e),λ_=>⟨k,h1,H2.out⟩,hb⟩
section
variable {w:zd}{base g n sz:Nat}{xs:List zc}
theorem Yd(n:Nat)(h:n<4294967296):bits BinOp.and IntKind.u64 (n:Int) 4294967295=(n:Int):=by
 have h1:(BitVec.ofInt 64 (n:Int) &&& BitVec.ofInt 64 (4294967295:Int)).toNat=n:=by
  rw[show (4294967295:Int)=((4294967295:Nat):Int) from rfl,BitVec.ofInt_natCast,BitVec.ofInt_natCast,BitVec.toNat_and,BitVec.toNat_ofNat,BitVec.toNat_ofNat,yF (by omega),yF (by omega)];have:=Nat.and_two_pow_sub_one_eq_mod n 32;rw[show (2 ^ 32-1:Nat)=4294967295 from rfl]at this;rw[this];exact yF (by omega)
 show IntKind.u64.wrap ((BitVec.ofInt 64 (n:Int) &&& BitVec.ofInt 64 (4294967295:Int)).toNat:Int)=_;rw[h1];simp[IntKind.wrap,IntKind.bits,IntKind.signed];omega
theorem zpw(n:Nat)(w:zd)(hn:n<=4000):
  zm prog 172 #[.int .u64 1,.int .u64 (n:Int)] w λe w'=>e=.returned (.tuple #[.int .u64 0,.int .u64 (n:Int)])/\w'=w:=by
 have h1:=Yd n (by omega);have h2:bits BinOp.and IntKind.u64 1 4294967295=1:=Yd 1 (by omega);have h3:bits BinOp.and IntKind.u64 0 4294967295=0:=Yd 0 (by omega);have hi:(n:Int)<=4000:=by omega
 go_enter func172,ntmps172
 have h4:(n:Int)/4294967296=0:=by omega
 go_wp2;refine bh (v:=.tuple #[.int .u64 0,.int .u64 (n:Int)]) (by simp[results,results172,go_sem]) rfl ⟨rfl,rfl⟩
theorem zpx(n:Nat)(w:zd)(hn:n<=4000):
  zm prog 149 #[.int .u64 1,.int .u64 (n:Int)] w λe w'=>e=.returned (.tuple #[.int .u64 0,.int .u64 (n:Int)])/\w'=w:=by
 have hm:=zpw n w hn
 go_enter func149,ntmps149
 go_wp2_with (go_at_call 172;refine hm.mono ?_;rintro e w' ⟨rfl,hw'⟩;subst w')
 refine bh (v:=.tuple #[.int .u64 0,.int .u64 (n:Int)]) (by simp[results,results149,go_sem]) rfl ⟨rfl,rfl⟩
def ld(x y z1 z2:zc)(n j:Nat):List zc:=(List.range (n*2)).map λk=>if k<j*2 then (if k%2=0 then x else y) else (if k%2=0 then z1 else z2)
theorem Nv(x y z1 z2:zc)(n j:Nat):(ld x y z1 z2 n j).length=n*2:=by simp[ld]
theorem DJ(x y z1 z2:zc){n j i:Nat}(h:i<n*2):(ld x y z1 z2 n j)[i]?=za (if i<j*2 then (if i%2=0 then x else y) else (if i%2=0 then z1 else z2)):=by simp[ld,h]
def qg(x y:zc)(c:Nat):List zc:=(List.range (c*2)).map λk=>if k%2=0 then x else y
theorem BP(x y:zc)(c:Nat):(qg x y c).length=c*2:=by simp[qg]
theorem Ys(x y:zc){c i:Nat}(h:i<c*2):(qg x y c)[i]?=za (if i%2=0 then x else y):=by simp[qg,h]
theorem zmG(x y z1 z2:zc)(n:Nat):ld x y z1 z2 n n=qg x y n:=by
 unfold ld qg;apply BV;intro k hk;rw[aC (Ab.1 hk)]
theorem zh4(x y z1 z2:zc){n j c:Nat}(h:j+c<=n):splice (ld x y z1 z2 n j) (j*2) (qg x y c)=ld x y z1 z2 n (j+c):=by
 apply DY
 intro i;unfold splice;have hl:=Nv x y z1 z2 n j;have hp:=BP x y c;rw[hp]
 by_cases h1:i<j*2
 ·have e2:i<(j+c)*2:=by omega
  rw[pH (by rw[List.length_take];omega),B3,aC h1,DJ _ _ _ _ (by omega),DJ _ _ _ _ (by omega),aC h1,aC e2]
 ·rw[sJ (by rw[List.length_take];omega),List.length_take,hl,JV (by omega)]
  by_cases h2:i<(j+c)*2
  ·rw[pH (by omega),DJ _ _ _ _ (by omega),aC h2,Ys _ _ (by omega),show (i-j*2)%2=i%2 from by omega]
  ·rw[sJ (by omega),hp,RA,show j*2+c*2+(i-j*2-c*2)=i by omega]
   by_cases h3:i<n*2
   ·rw[DJ _ _ _ _ h3,DJ _ _ _ _ h3,ak h1,ak h2]
   ·rw[qw (by omega),qw (by rw[Nv];omega)]
theorem zmq(x y z1 z2:zc)(n:Nat):(madeCells #[z1,z2] (n*2)).toList=ld x y z1 z2 n 0:=by
 apply DY
 intro i
 by_cases h:i<n*2
 ·rw[DJ _ _ _ _ h];simp[madeCells,h];rcases Nat.mod_two_eq_zero_or_one i with e|e<;>simp[e]
 ·rw[qw (by simp[madeCells];omega),qw (by rw[Nv];omega)]
theorem wO{e:zk}(h:w.ownsRow base e sz (zg (za ⟨g,0,zb⟩) n n) n xs):w.heap[g]?=za (zf xs.toArray e (0,0)):=by
 rcases h.2 with ⟨h,_⟩|⟨g',cap,cr,h,_,mV,_,_,hsz,fQ⟩
 ·cases h
 ·cases h
  rw[mV]
  congr 2
  apply Array.ext'
  rw[wZ (by simp[hsz])]at fQ;rw[fQ]
theorem zhY{e:zk}(h:w.heap[g]?=za (zf xs.toArray e (0,0)))(hb:base<=g)(hl:xs.length=n*sz)(hm:n<=maxLen):w.ownsRow base e sz (zg (za ⟨g,0,zb⟩) n n) n xs:=
 ⟨hl,.inr ⟨g,n,xs.toArray,rfl,hb,h,aj _,hm,by simp[hl],by simp[<-hl]⟩⟩
theorem zfY{P:Program}(w:zd)(dT sT ty elem:zk)(g o zwf zzf:Nat)(a:Addr)(zx7 zAD:Nat)(ax:Array zc)(t:zk)(cs:List zc)(c:Nat)
  (hu:P.underlying dT=za (.slice elem)) (hs:(P.info? elem).map (·.size)=za 2)
  (hg:w.heap[g]?=za (zf ax t (0,0))) (hc:c=Nat.min zx7 zwf) (hn:cs.length=c*2)
  (Fm:∀j v,cs[j]?=za v->w.cell? (a.add j)=za v) (zzB:o+cs.length<=ax.size) (h1:∀v∈cs,v.oneCell'=true):
  (Builtin.copy_ #[dT,sT] ty #[zg (za ⟨g,o,zb⟩) zwf zzf,zg (za a) zx7 zAD]).run P w =
   .ok (goInt c) (w.setRow g (ax.toList.take o++cs++ax.toList.drop (o+cs.length)).toArray):=by
 have hl:=run_loadCells_list (P:=P) w a cs Fm;have hst:=run_storeCells_at P g o t cs 0 ax w hg (by simpa using zzB) h1;cases hq:P.info? elem with
 |none=>simp[hq]at hs
 |some i=>
  have hi:i.size=2:=by simpa [hq]using hs
  rw[hn]at hl;simp[Builtin.copy_,run_underlying hu,Builtin.lenOf,Builtin.firstCells,sizeOf,typeInfo,hq,hi,<-hc,hl,hst]
end
section
theorem Tryz.VM:(prog.info? 299).map (λi=>(i.zero,i.size,i.bytes))=za (za (zn #[zh zb,.bool false]),2,16):=by kernel_rfl
theorem Tryz.zAG:(prog.info? 299).map (·.size)=za 2:=by kernel_rfl
def zoF(ats:Array zk)(ty:zk)(args:Array zc):Sem zc:=Builtin.copy_ ats ty args
theorem zjx(ty:zk)(args:Array zc):Builtin.copy_ #[300,300] ty args=zoF #[300,300] ty args:=rfl
attribute [local go_sem ↓] zjx
theorem zfO(x y:zc)(hx:x.oneCell'=true)(hy:y.oneCell'=true){n j c g dc sl sc:Nat}{a:Addr}{W:zd}(hR:W.heap[g]?=za (zf (ld x y (zh zb) (.bool false) n j).toArray 299 (0,0)))(hj:j<=n)(hc:c=min sl (n-j))(hs:∀i,i<c*2->W.cell? (a.add i)=za (if i%2=0 then x else y))(ty:zk)(dl:Nat)(zj:dl=n-j)(o:Nat)(ho:o=j*2):
  ∃W',(zoF #[300,300] ty #[zg (za ⟨g,o,zb⟩) dl dc,zg (za a) sl sc]).run prog W=.ok (zl .i64 (c:Int)) W'/\W'.heap[g]?=za (zf (ld x y (zh zb) (.bool false) n (j+c)).toArray 299 (0,0))/\W.grownBy W' (za g):=by
 subst ho;have h:=zfY (P:=prog) W 300 300 ty 299 g (j*2) dl dc a sl sc (ld x y (zh zb) (.bool false) n j).toArray 299 (qg x y c) c underlying300 Tryz.zAG hR (by rw[zj];exact hc) (BP x y c)
  (λi v hv=>by
   by_cases hi:i<c*2
   ·rw[Ys x y hi]at hv;cases hv;exact hs i hi
   ·rw[qw (by rw[BP];omega)]at hv;cases hv) (by rw[BP,yE,Nv];omega) (by
   intro v hv;obtain⟨k,-,rfl⟩:=rh.1 hv;split
   ·exact hx
   ·exact hy)
 refine⟨_,h,?_,⟨rfl,rfl,rfl,by simp[World.setRow],λk _ hk=>setRow_other W g k _ (λe=>hk (by rw[e]))⟩⟩;rw[setRow_heap W g _ _ _ _ hR];have e:=zh4 x y (zh zb) (.bool false) (n:=n) (j:=j) (c:=c) (by omega);unfold splice at e;rw[pG,e]
theorem ziZ(x y:zc)(ox:x.oneCell'=true)(oy:y.oneCell'=true)(g0 n:Nat)(w:zd)(hx:w.cell? ⟨g0,0,zb⟩=za x)(hy:w.cell? ⟨g0,1,zb⟩=za y)(hn:n<=4000):
  zm prog 185 #[zg (za ⟨g0,0,zb⟩) 1 1,zl .i64 (n:Int)] w λe w'=>e=.returned (zg (za ⟨w.heap.size,0,zb⟩) n n)/\w'.ownsRow w.heap.size 299 2 (zg (za ⟨w.heap.size,0,zb⟩) n n) n (qg x y n)/\zi w.heap.size w w':=by
 obtain⟨i0,hi,bI,aO,aQ⟩:=info_parts Tryz.VM;have hm:=zpx n w hn;have Bh:g0<w.heap.size:=block_lt_of_cell hx;have uM:(n:Int)<=4000:=by omega
 obtain⟨c0,xE⟩:∃c,c=min 1 n:=⟨_,rfl⟩;have Fm:∀W,zi w.heap.size w W->∀i,i<c0*2->W.cell? ((⟨g0,0,zb⟩:Addr).add i)=za (if i%2=0 then x else y):=λW hb i hi=>by
  obtain rfl|rfl:i=0\/i=1:=by omega
  ·exact(hb.cell (p:=⟨g0,0,zb⟩) Bh).trans hx
  ·exact(hb.cell (p:=⟨g0,1,zb⟩) Bh).trans hy
 go_enter func185,ntmps185
 go_wp2_with (first|(go_at_call 149;refine hm.mono ?_;rintro e w' ⟨rfl,hw'⟩;subst w')|(refine wpList_make_full _ rfl _ _ 300 rfl w.heap.size 299 i0 _ 2 underlying300 hi bI aO _ _ _ _ n rfl rfl rfl rfl (by rw[aQ];omega) (by unfold maxLen;omega) (aj _) ?_;intro w1 Di Db;have ag:zi w.heap.size w w1:=(Below.refl _ _).grown Db (aj _) (by intro k h;cases h);have HR:ze (w1.heap[w.heap.size]?=za (zf (ld x y (zh zb) (.bool false) n 0).toArray 299 (0,0))):=(by have h:=wO Di;rw[show (Value.agg #[zh zb,.bool false]).cells=#[zh zb,.bool false] from rfl,zmq x y]at h;exact h);clear Di Db;obtain⟨w2,Bg,pR,bU⟩:=zfO x y ox oy (sc:=1) (a:=⟨g0,0,zb⟩) (dc:=n) HR.out (aR _) (c:=c0) (sl:=1) (by omega) (Fm _ ag) 3 n rfl 0 rfl;have J3:ze (w2.heap[w.heap.size]?=za (zf (ld x y (zh zb) (.bool false) n c0).toArray 299 (0,0))):=(by rw[jw]at pR;exact pR);have ku:ze (zi w.heap.size w w2):=ag.grown bU ag.size (λq e=>by cases e;exact aj _);clear pR bU))
 clear hx hy Bg ag hm HR Fm
 go_loopw [8] (λi wr=>∃(j:Nat),(1<=j\/n=0)/\j<=n/\i=zl .i64 j/\ze (wr.heap[w.heap.size]?=za (zf (ld x y (zh zb) (.bool false) n j).toArray 299 (0,0)))/\ze (zi w.heap.size w wr))
  (λi _=>n-(intOf i).toNat)
 case atStart=>exact⟨c0,by omega,by omega,by rw[xE],J3,ku⟩
 case round=>
  obtain⟨j,E7,hj,rfl,HR,HB⟩:=hrel
  by_cases zw:j<n
  ·have zzP:1<=j:=by omega
   have hi3:(j:Int)<(n:Int):=by omega
   have Uz:¬n=j:=by omega
   obtain⟨c,hc⟩:∃c,c=min j (n-j):=⟨_,rfl⟩;obtain⟨w5,Bg,Lc,vW⟩:=zfO x y ox oy (W:=wr.drew) (sc:=n) (a:=⟨w.heap.size,0,zb⟩) (dc:=n-j) HR.out hj (c:=c) (sl:=j) hc (λi hi=>by
    have e:(⟨w.heap.size,0,zb⟩:Addr).add i=⟨w.heap.size,i,zb⟩:=by unfold Addr.add;split<;>simp_all
    have hr:wr.drew.heap[w.heap.size]?=za (zf (ld x y (zh zb) (.bool false) n j).toArray 299 (0,0)):=HR.out;have e2:i<j*2:=by omega
    rw[e,aM _ _ _ _ _ _ hr,List.getElem?_toArray,DJ _ _ _ _ (by omega),aC e2]) 3 (n-j) rfl (j*2) rfl
   have R0:ze _:=Lc;have RL:ze (zi w.heap.size w w5):=by
    have rJ:zi w.heap.size w wr.drew:=HB.out.trans ⟨rfl,rfl,rfl,aj _,λ_ _=>rfl⟩;exact rJ.grown vW rJ.size (λq e=>by cases e;exact aj _)
   have uJ:1<=c:=by omega
   have eW:j+c<=n:=by omega
   have nU:(j:Int)+(c:Int)<=4000:=by omega
   clear Lc vW hc;go_wp2
   go_big_region
   go_wp2
   go_roundw
   case rel=>exact⟨j+c,by omega,eW,by simp,R0,RL⟩
   case measure=>simp[intOf];omega
  ·have LI:j=n:=by omega
   subst LI;go_wp2;refine bh (v:=zg (za ⟨w.heap.size,0,zb⟩) j j) (by simp[results,results185,go_sem]) rfl ⟨rfl,?_,HB.out⟩;have:=HR.out;rw[zmG]at this;exact zhY this (aj _) (BP _ _ _) (by unfold maxLen;omega)
end
structure jA(w:zd)(pl:Nat)(wr:zd)(Q:Nat->Option Pt)(F:Nat->Prop)(ps:List (Nat×Pt)):Prop where
 bu:zi w.heap.size w wr
 pm:kj w.heap.size wr pl Q
 kd:∀x,x∈ps->∃(cE:Nat) (w':zd) (Q':Nat->Option Pt),w.heap.size<=cE/\dU cE w' pl Q' x.1 x.2/\bJ w' wr/\w'.heap.size<=wr.heap.size/\(∀k,cE<=k->k<w'.heap.size->wr.heap[k]?=w'.heap[k]?/\¬F k)/\∀k q,Q' k=za q->Q k=za q
 ob:∀k,F k->w.heap.size<=k/\∃ax ty,wr.heap[k]?=za (zf ax ty (0,0))/\ty≠222/\ty≠293
theorem jA.start(w:zd)(pl:Nat)(F:Nat->Prop)(wr:zd)(hb:zi w.heap.size w wr)(ob:∀k,F k->w.heap.size<=k/\∃ax ty,wr.heap[k]?=za (zf ax ty (0,0))/\ty≠222/\ty≠293):jA w pl wr (λ_=>zb) F []:=
 ⟨hb,kj.nothing _ _ _,λx hx=>(by cases hx),ob⟩
section
variable {w:zd} {pl:Nat} {wr:zd} {Q:Nat->Option Pt} {F:Nat->Prop} {ps:List (Nat×Pt)}
theorem jA.flt(h:jA w pl wr Q F ps){k:Nat}(hk:F k):k<wr.heap.size:=by
 obtain⟨_,ax,ty,e,_⟩:=h.ob k hk;exact(ah.1 e).1
theorem jA.Mx(h:jA w pl wr Q F ps){pB:zd}(tc:ap F wr pB):bJ wr pB:=λmg f e=>(tc.same mg (ah.1 e).1 (λhF=>by
 obtain⟨_,ax,ty,e2,_,e3⟩:=h.ob mg hF;rw[e2]at e;exact e3 (bL e))).trans e
theorem jA.turn(h:jA w pl wr Q F ps){pB:zd}{F2:Nat->Prop}(tc:ap F wr pB)(hF:∀k,F2 k->F k\/wr.heap.size<=k)(ob:∀k,F2 k->w.heap.size<=k/\∃ax ty,pB.heap[k]?=za (zf ax ty (0,0))/\ty≠222/\ty≠293):jA w pl pB Q F2 ps:=by
 have hm:=h.Mx tc;have hs:=h.bu.size;refine⟨⟨tc.os.trans h.bu.os,tc.tape.trans h.bu.tape,tc.output.trans h.bu.output,aW hs tc.size,λk hk=>(tc.same k (by omega) (λe=>by have:=(h.ob k e).1;omega)).trans (h.bu.block k hk)⟩,?_,?_,ob⟩
 ·intro a q hq;obtain⟨h1,h2,v,f,h3,h4⟩:=h.pm a q hq;refine⟨h1,h2,v,f,(tc.same a (ah.1 h3).1 (λe=>?_)).trans h3,aU.keep hm q v h4⟩;obtain⟨_,ax,ty,e2,e3,_⟩:=h.ob a e;rw[e2]at h3;exact e3 (bL h3)
 ·intro x hx;obtain⟨cE,w',Q',h1,h2,h3,h4,h5,h6⟩:=h.kd x hx;refine⟨cE,w',Q',h1,h2,h3.trans hm,aW h4 tc.size,λk k1 k2=>?_,h6⟩;obtain⟨e1,e2⟩:=h5 k k1 k2;exact⟨(tc.same k (by omega) e2).trans e1,λe=>(hF k e).elim e2 (λe=>by omega)⟩
theorem jA.below(h:jA w pl wr Q F ps){pB:zd}(hb:zi wr.heap.size wr pB):jA w pl pB Q F ps:=
 h.turn (.bR hb) (λ_ e=>.inl e) (λk e=>by
  obtain⟨h1,ax,ty,h2,h3⟩:=h.ob k e;exact⟨h1,ax,ty,(hb.block k (ah.1 h2).1).trans h2,h3⟩)
theorem jA.add(h:jA w pl wr Q F ps){q:Pt}{e:Ending}{w':zd}(hp:xk wr pl q e w'):∃(a:Nat) (Q2:Nat->Option Pt),e=.returned (zh (za ⟨a,0,zb⟩))/\zi wr.heap.size wr w'/\jA w pl w' Q2 F (ps++[(a,q)]):=by
 obtain⟨a,Q',rfl,hb,hm,ha⟩:=hp;have h1:=h.below hb;have hs:=h.bu.size;have uP:kj w.heap.size w' pl Q':=hm.keep hs (λ_ _ _=>rfl) (λ_ _ e=>e);have hq:∀k q,Q' k=za q->Q k=zb:=λk q e=>h.pm.high (by have:=(hm k q e).1;omega)
 refine⟨a,qU Q Q',rfl,hb,h1.bu,h1.pm.union uP,λx hx=>?_,h1.ob⟩;rcases fm.1 hx with hx|hx
 ·obtain⟨cE,w1,Q1,k1,k2,k3,k4,k5,k6⟩:=h1.kd x hx;exact⟨cE,w1,Q1,k1,k2,k3,k4,k5,λk q e=>Yu (k6 k q e)⟩
 ·rw[eK.1 hx];exact⟨wr.heap.size,w',Q',hs,ha,λ_ _ e=>e,aj _,λk k1 k2=>⟨rfl,λe=>by have:=h.flt e;omega⟩,λk q e=>Ya (hq k q e) e⟩
theorem jA.fin(h:jA w pl wr Q F ps):∀x,x∈ps->dU w.heap.size wr pl Q x.1 x.2:=λx hx=>by
 obtain⟨cE,w',Q',h1,h2,h3,h4,h5,h6⟩:=h.kd x hx;exact h2.keep h1 (λk k1 k2=>(h5 k k1 k2).1) h3 h6
end
def Ec(lo:Nat)(w:zd)(pl:Nat)(Q:Nat->Option Pt)(p:Pt)(f:zc):Prop:=
 (f=.nilIface\/∃t x,f=.iface t x)/\∀(zF:Nat) (w1:zd) (Q1:Nat->Option Pt) (a:Nat),zF<=lo->(∀k,lo<=k->k<w.heap.size->w1.heap[k]?=w.heap[k]?)->bJ w w1->(∀k q,Q k=za q->Q1 k=za q)->tf zF w1 pl Q1 a p f->dU zF w1 pl Q1 a p
def GD(w:zd)(pl:Nat)(p:Pt)(e:Ending)(w':zd):Prop:=
 ∃(Q:Nat->Option Pt) (f:zc),e=.returned f/\zi w.heap.size w w'/\kj w.heap.size w' pl Q/\Ec w.heap.size w' pl Q p f
theorem zo1{lo:Nat}{w:zd}{pl:Nat}{Q:Nat->Option Pt}{p:Pt}(h:lK p):Ec lo w pl Q p .nilIface:=⟨.inl rfl,λ_ _ _ a _ _ _ _ hb=>.leaf a p hb h⟩
theorem XS{lo:Nat}{w:zd}{pl:Nat}{Q:Nat->Option Pt}{p:Pt}{go cap:Nat}{xs:List (Nat×fW)}(hr:w.ownsRow lo 299 2 (zg (za ⟨go,0,zb⟩) xs.length cap) xs.length (gJ xs))(hf:xs.map Prod.snd=mF p)(h1:∀l r,p≠.aN l r)(h2:∀b g,p≠.aT b g)(h3:∀b,p≠.az b 0 (-1))(h0:∀f,p≠.set f)(hp:∀x,x∈xs->dU lo w pl Q x.1 x.2.1):Ec lo w pl Q p (.iface 305 (zn #[zg (za ⟨go,0,zb⟩) xs.length cap])):=
 ⟨.inr ⟨_,_,rfl⟩,λ_ _ _ a hl hk hm hQ hb=>.chain a p go cap xs hb (ny (QB hr hk) hl) hf h1 h2 h3 h0 λx hx=>(hp x hx).keep hl hk hm hQ⟩
theorem znq{lo:Nat}{w:zd}{pl:Nat}{Q:Nat->Option Pt}{l r:Pt}{go cap:Nat}{xs:List (Nat×Pt)}(hr:w.ownsRow lo 198 1 (zg (za ⟨go,0,zb⟩) xs.length cap) xs.length (iY xs))(hf:xs.map Prod.snd=dA (.aN l r))(hp:∀x,x∈xs->dU lo w pl Q x.1 x.2):Ec lo w pl Q (.aN l r) (.iface 311 (zn #[zg (za ⟨go,0,zb⟩) xs.length cap])):=
 ⟨.inr ⟨_,_,rfl⟩,λ_ _ _ a hl hk hm hQ hb=>.choice a l r go cap xs hb (ny (QB hr hk) hl) hf λx hx=>(hp x hx).keep hl hk hm hQ⟩
theorem zo0{lo:Nat}{w:zd}{pl:Nat}{Q:Nat->Option Pt}{b:Pt}{g:Int}{a':Nat}(hp:dU lo w pl Q a' b):Ec lo w pl Q (.aT b g) (.iface 242 (zn #[zl .i64 g,zh (za ⟨a',0,zb⟩)])):=
 ⟨.inr ⟨_,_,rfl⟩,λ_ _ _ a hl hk hm hQ hb=>.group a a' b g hb (hp.keep hl hk hm hQ)⟩
theorem zjF:∀(p:Pt),(∀q,q∈jO p->lK q)->lK p
 |.seq l r,h=>⟨h l (B7 ..),zjF r λq hq=>h q (yC _ hq)⟩
 |.set _,_=>trivial
 |.aN l r,h=>h (.aN l r) (eK.2 rfl)
 |.az b mn mx,h=>h (.az b mn mx) (eK.2 rfl)
 |.aT b g,h=>h (.aT b g) (eK.2 rfl)
theorem XR:∀(p:Pt),(∀q,q∈dA p->lK q)->lK p
 |.aN l r,h=>⟨XR l λq hq=>h q (fm.2 (.inl hq)),XR r λq hq=>h q (fm.2 (.inr hq))⟩
 |.set _,_=>trivial
 |.seq l r,h=>h (.seq l r) (eK.2 rfl)
 |.az b mn mx,h=>h (.az b mn mx) (eK.2 rfl)
 |.aT b g,h=>h (.aT b g) (eK.2 rfl)
section
variable {w wr:zd}{pl:Nat}{Q:Nat -> Option Pt}{vL:zc}{xs:List (Nat×fW)}
def YY(v:zc)(p:Pt)(b:Bool)(lv rv:zc):Prop:=(∀w,Sem.run prog (Instr.typeAssert v 184 256 true) w=.ok (.tuple #[zn #[lv,rv],.bool b]) w)/\(b=true\/jO p=[p])
theorem zmQ:∀(p:Pt) (v:zc),aU w v p->∃b lv rv,YY v p b lv rv/\(b=true->∃l r,p=.seq l r/\aU w lv l/\aU w rv r)/\((b=false/\lv=.nilIface/\rv=.nilIface)\/(b=true/\(∃t x,lv=.iface t x)/\∃t x,rv=.iface t x))
 |.seq l r,_,⟨lv,rv,rfl,h1,h2⟩=>by
  obtain⟨t1,x1,e1⟩:=je h1;obtain⟨t2,x2,e2⟩:=je h2;exact⟨true,lv,rv,⟨λw=>by kernel_rfl,.inl rfl⟩,λ_=>⟨l,r,rfl,h1,h2⟩,.inr ⟨rfl,⟨t1,x1,e1⟩,⟨t2,x2,e2⟩⟩⟩
 |.set f,_,⟨mg,rfl,_⟩=>⟨false,.nilIface,.nilIface,⟨λw=>by kernel_rfl,.inr rfl⟩,λe=>(by cases e),.inl ⟨rfl,rfl,rfl⟩⟩
 |.aN l r,_,⟨lv,rv,rfl,_⟩=>⟨false,.nilIface,.nilIface,⟨λw=>by kernel_rfl,.inr rfl⟩,λe=>(by cases e),.inl ⟨rfl,rfl,rfl⟩⟩
 |.az b mn mx,_,⟨lv,rfl,_⟩=>⟨false,.nilIface,.nilIface,⟨λw=>by kernel_rfl,.inr rfl⟩,λe=>(by cases e),.inl ⟨rfl,rfl,rfl⟩⟩
 |.aT b g,_,⟨lv,rfl,_⟩=>⟨false,.nilIface,.nilIface,⟨λw=>by kernel_rfl,.inr rfl⟩,λe=>(by cases e),.inl ⟨rfl,rfl,rfl⟩⟩
def MP(xs:List (Nat×fW)):List (Nat×Pt):=xs.map λx=>(x.1,x.2.1)
structure rj(w:zd)(pl:Nat)(wr:zd)(Q:Nat->Option Pt)(vL:zc)(xs:List (Nat×fW)):Prop where
 kd:jA w pl wr Q (λk=>vL.ownBlock=za k) (MP xs)
 own:wr.ownsRow w.heap.size 299 2 vL xs.length (gJ xs)
theorem rj.below(h:rj w pl wr Q vL xs){pB:zd}(hb:zi wr.heap.size wr pB):rj w pl pB Q vL xs:=⟨h.kd.below hb,dQ h.own hb⟩
theorem rj.push{w7:zd}{a:Nat}{q:Pt}{o:Bool}{g7 bG:Nat}(h:jA w pl wr Q (λk=>vL.ownBlock=za k) (MP xs++[(a,q)]))(aB:w7.ownsRow w.heap.size 299 2 (zg (za ⟨g7,0,zb⟩) (xs.length+1) bG) (xs.length+1) (gJ xs++[zh (za ⟨a,0,zb⟩),.bool o]))(hg:wr.grownBy w7 vL.ownBlock)(dF:vL.ownBlock=za g7\/wr.heap.size<=g7):rj w pl w7 Q (zg (za ⟨g7,0,zb⟩) (xs.length+1) bG) (xs++[(a,(q,o))]):=by
 have tc:ap (λk=>vL.ownBlock=za k) wr w7:=(ap.refl _ wr).grown hg (λk e=>.inl e);refine⟨?_,?_⟩
 ·have:MP (xs++[(a,(q,o))])=MP xs++[(a,q)]:=by simp[MP]
  rw[this];refine h.turn tc (λk e=>?_) (λk e=>?_)
  ·have e:g7=k:=by simpa [Value.ownBlock]using e
   subst e;exact dF
  ·obtain⟨z1,ax,z2⟩:=dy aB e;exact⟨z1,ax,_,z2,by decide,by decide⟩
 ·have e:gJ (xs++[(a,(q,o))])=gJ xs++[zh (za ⟨a,0,zb⟩),.bool o]:=by rw[Nk];rfl
  rw[e,nG];exact aB
theorem rj.at(h:rj w pl wr Q vL xs):∀x,x∈xs->dU w.heap.size wr pl Q x.1 x.2.1:=λx hx=>h.kd.fin (x.1,x.2.1) (rh.2 ⟨x,hx,rfl⟩)
end
variable {w:zd}{v:zc}{p:Pt}
theorem ou{w':zd}(hb:zi w.heap.size w w'):bJ w w':=λmg _ e=>(hb.block mg (ah.1 e).1).trans e
theorem zrs{B go cap:Nat}{xs:List (Nat×fW)}(hr:w.ownsRow B 299 2 (zg (za ⟨go,0,zb⟩) xs.length cap) xs.length (gJ xs)){i:Nat}{x:Nat×fW}(hx:xs[i]?=za x):w.cell? ⟨go,i*2,zb⟩=za (zh (za ⟨x.1,0,zb⟩))/\w.cell? ⟨go,i*2+1,zb⟩=za (.bool x.2.2):=by
 obtain⟨h1,h2⟩:=YE xs i x.1 x.2.1 x.2.2 hx;have e:∀n,(⟨go,0,zb⟩:Addr).add n=⟨go,n,zb⟩:=λn=>by unfold Addr.add;split<;>simp_all
 have c1:=JA hr (i*2) _ h1;have c2:=JA hr (i*2+1) _ h2;rw[e]at c1 c2;exact⟨c1,c2⟩
theorem zme{lo:Nat}{pl:Nat}{Q:Nat->Option Pt}(n:Nat)(pa:Nat->Nat)(pq:Nat->Pt)(h:∀i,i<n->dU lo w pl Q (pa i) (pq i)):∃fs:Nat->zc,(∀i,i<n->w.cell? ⟨pa i,2,zb⟩=za (fs i))/\(∀i,i<n->fs i=.nilIface\/∃t x,fs i=.iface t x)/\∀i,i<n->fs i=.nilIface->lK (pq i):=by
 obtain⟨fs,Ut⟩:=@Go.Deep.choose_lt zc ⟨.nilIface⟩ n (λi f=>tf lo w pl Q (pa i) (pq i) f/\(f=.nilIface->lK (pq i))/\(f=.nilIface\/∃t x,f=.iface t x)) (λi hi=>(h i hi).KH);refine⟨fs,λi hi=>?_,λi hi=>(Ut i hi).2.2,λi hi=>(Ut i hi).2.1⟩;obtain⟨v,h1,_⟩:=(Ut i hi).1.box;exact(aM _ _ _ _ _ _ h1:_=_)
theorem zO{P:Program}(w:zd)(cs:Array zc)(ty:zk)(v:zc)(h:v.oneCell'=true)(i:Nat)(hi:i<cs.size):Sem.run P (store ⟨w.heap.size,i,zb⟩ v) (w.alloc (zf cs ty))=.ok () (w.alloc (zf (cs.setIfInBounds i v) ty)):=by
 have hx:(w.alloc (zf cs ty)).heap[w.heap.size]?=za (zf cs ty (0,0)):=aI _ _;rw[run_store P _ _ v _ h,aM _ _ _ _ _ _ hx,Array.getElem?_eq_getElem hi];simp only[cT _ _ i _ _ hx];simp[World.setCell_alloc_new]
def lnV:zc->Nat
 |.slice _ n _=>n
 |_=>0
structure Kw(w:zd)(v:zc)(p:Pt)(b:Bool)(lv rv:zc):Prop where
 tr:aU w v p
 ass:YY v p b lv rv
 sq:b=true->∃l r,p=.seq l r/\aU w lv l/\aU w rv r
 sh:(b=false/\lv=.nilIface/\rv=.nilIface)\/(b=true/\(∃t x,lv=.iface t x)/\∃t x,rv=.iface t x)
 wt:aE p<=2000
theorem Kw.ol{b:Bool}{lv rv:zc}(h:Kw w v p b lv rv):lv.oneCell'=true/\rv.oneCell'=true:=by
 rcases h.sh with ⟨_,h1,h2⟩|⟨_,⟨_,_,h1⟩,⟨_,_,h2⟩⟩<;>rw[h1,h2]<;>exact⟨rfl,rfl⟩
theorem zua(h:aU w v p)(hw:aE p<=2000):∃b lv rv,Kw w v p b lv rv:=by
 obtain⟨b,lv,rv,h1,h2,h3⟩:=zmQ p v h;exact⟨b,lv,rv,⟨h,h1,h2,h3,hw⟩⟩
theorem zm5(l r:Pt)(lT:∀q,mz q<mz (.seq l r)->sy q)(pl:Nat)(lv rv:zc)(w:zd)(hl:aU w lv l)(hr:aU w rv r)(hw:aE (.seq l r)<=2000):
  zm prog 158 #[zh (za ⟨pl,0,zb⟩),zn #[lv,rv]] w λe w'=>GD w pl (.seq l r) e w':=by
 obtain⟨i0,hi,bI,aO,aQ⟩:=info_parts Tryz.VM;have lU:aU w (.iface 256 (zn #[lv,rv])) (.seq l r):=⟨lv,rv,rfl,hl,hr⟩;have gZ:=Nu (.inl lU) hw;have hlen:=zjU _ _ lU hw;obtain⟨t1,x1,rfl⟩:=je hl;obtain⟨t2,x2,rfl⟩:=je hr;obtain⟨b,xR,yc,C4,IW,PR⟩:=zmQ r _ hr;obtain⟨W0,ai⟩:∃W0,w.alloc (zf #[.iface t1 x1,.iface t2 x2] 256)=W0:=⟨_,rfl⟩;have af:zi w.heap.size w W0:=by rw[<-ai];exact aw
 have x0:W0.heap[w.heap.size]?=za (zf #[.iface t1 x1,.iface t2 x2] 256 (0,0)):=by rw[<-ai];exact aI _ _
 have c0:=(jr x0).1;have mR:=lT l (sH (by simp[fI];omega)) pl _ W0 (aU.keep (ou af) l _ hl) gZ.1;have J2:=aA lT;have Hl:=aA hl;have Hr:=aA hr;clear lT hl hr
 go_enter func158,ntmps158
 go_wp2_with fail
 refine mR.mono ?_;intro e1 W1 A9;obtain⟨a1,Q1,rfl,zww,pP⟩:=(jA.start w pl (λ_=>False) W0 af (λ_ e=>e.elim)).add A9;have ag:=pP.bu;have mA:W1.heap[w.heap.size]?=_:=(zww.block _ (ah.1 x0).1).trans x0;obtain⟨W2,dk⟩:∃W2,W1.alloc (zf #[zh (za ⟨a1,0,zb⟩),.bool false] 299)=W2:=⟨_,rfl⟩;have ae:zi W1.heap.size W1 W2:=by rw[<-dk];exact aw
 have y1:W2.heap[W1.heap.size]?=za (zf #[zh (za ⟨a1,0,zb⟩),.bool false] 299 (0,0)):=by rw[<-dk];exact aI _ _
 have ff:W2.ownsRow w.heap.size 299 2 (zg (za ⟨W1.heap.size,0,zb⟩) 1 1) 1 (gJ [(a1,(l,false))]):=⟨by simp[gJ],.inr ⟨W1.heap.size,1,_,rfl,ag.size,y1,aj _,by unfold maxLen;omega,rfl,by simp[gJ]⟩⟩;have CR:rj w pl W2 Q1 (zg (za ⟨W1.heap.size,0,zb⟩) 1 1) [(a1,(l,false))]:=⟨pP.turn (.bR ae) (λk e=>by
   have e:W1.heap.size=k:=by simpa [Value.ownBlock]using e
   exact .inr (by omega)) (λk e=>by
   have e:W1.heap.size=k:=by simpa [Value.ownBlock]using e
   subst e;exact⟨ag.size,_,_,y1,by decide,by decide⟩),ff⟩
 have jp:W2.heap[w.heap.size]?=_:=(ae.block _ (ah.1 mA).1).trans mA;have c2:=(jr jp).2;clear A9 pP mR x0 mA y1 ff ai c0;have ol:xR.oneCell'=true:=by rcases PR with ⟨_,h,_⟩|⟨_,⟨_,_,h⟩,_⟩<;>rw[h]<;>rfl
 have or':yc.oneCell'=true:=by rcases PR with ⟨_,_,h⟩|⟨_,_,⟨_,_,h⟩⟩<;>rw[h]<;>rfl
 have T5:=C4.1;have Jd:=zO (P:=prog) W2 #[.nilIface,.nilIface] 256 xR ol 0 (by simp);have yd:=zO (P:=prog) W2 #[xR,.nilIface] 256 yc or' 1 (by simp);simp only[List.setIfInBounds_toArray,List.set_cons_zero,List.set_cons_succ]at Jd yd;obtain⟨W3,eN⟩:∃W3,W2.alloc (zf #[xR,yc] 256)=W3:=⟨_,rfl⟩;have aG:zi W2.heap.size W2 W3:=by rw[<-eN];exact aw
 have x3:W3.heap[W2.heap.size]?=za (zf #[xR,yc] 256 (0,0)):=by rw[<-eN];exact aI _ _
 have Ed:=aA (CR.below aG);have cV:w.heap.size<=W2.heap.size:=CR.kd.bu.size;have vD:ze (mF (.seq l r)=(l,false)::ua (jO r)):=rfl;clear CR jp;have Zj:=aA (show Kw w (.iface t2 x2) r b xR yc from⟨Hr.out,C4,IW,PR,gZ.2⟩);clear C4 IW PR;go_wp2;clear T5 Jd yd eN dk ol or' c2
 go_loopw [5,6,7,8] (λVU rs bx ok wr=>∃(xs:List (Nat×fW)) (gL CF:Nat) (Q:Nat->Option Pt) (p':Pt) (t3:zk) (y3:zc) (b:Bool) (xR yc:zc) (yW:Nat),VU=zg (za ⟨gL,0,zb⟩) xs.length CF/\rs=.iface t3 y3/\bx=zh (za ⟨yW,0,zb⟩)/\ok=.bool b/\ze (rj w pl wr Q (zg (za ⟨gL,0,zb⟩) xs.length CF) xs)/\ze (Kw w (.iface t3 y3) p' b xR yc)/\ze (wr.heap[yW]?=za (zf #[xR,yc] 256 (0,0)))/\ze (xs.map Prod.snd++ua (jO p')=mF (.seq l r))/\mz p'<mz (.seq l r)/\xs.length<=2000)
  (λVU _ _ _ _=>2001-lnV VU)
 case atStart=>exact⟨[(a1,(l,false))],W1.heap.size,1,Q1,r,t2,x2,b,xR,yc,W2.heap.size,rfl,rfl,rfl,rfl,Ed,Zj,x3,vD.out.symm,sH (by simp[fI];omega),by simp⟩
 case round=>
  clear Ed Zj x3 aG ae ag zww;obtain⟨xs,gL,CF,Q,p',t3,y3,b,xR,yc,yW,rfl,rfl,rfl,rfl,HC,HR,HX,HL,IK,Mq⟩:=hrel;cases b with
  |true=>
   obtain⟨l2,r2,rfl,eZ,gI⟩:=HR.out.sq rfl;obtain⟨t4,y4,rfl⟩:=je eZ;obtain⟨t5,y5,rfl⟩:=je gI;have mP:=Nu (.inl HR.out.tr) HR.out.wt;have aD:=HC.out.kd.bu;have z0:=(jr HX.out).1;have hp:=J2.out l2 (Nat.lt_trans (sH (by simp[fI];omega)) IK) pl _ wr (aU.keep (ou aD) l2 _ eZ) mP.1;obtain⟨b2,BC,Ja,pR⟩:=zua gI mP.2;have zzU:xs.length+2<=2000:=by
    have:=congrArg List.length HL.out;simp[ua,jO]at this;have h2:0<(jO r2).length:=by cases r2<;>simp[jO]
    omega
   have J3:=aA pR;have T5:=pR.ass.1;have ol:=pR.ol;have jo:=aD.size;clear pR eZ gI
   go_wp2_with fail
   refine hp.mono ?_;intro e4 W4 tz;obtain⟨a4,Q4,rfl,bE,EM⟩:=HC.out.kd.add tz;have lM:=dQ HC.out.own bE;have X4:W4.heap[yW]?=_:=(bE.block _ (ah.1 HX.out).1).trans HX.out;have NY:=aA EM;have qc:w.heap.size<=W4.heap.size:=EM.bu.size;have hX7:∀W7:zd,W4.grownBy W7 (za gL)->W7.heap[yW]?=za (zf #[.iface t4 y4,.iface t5 y5] 256 (0,0))/\W7.cell? ⟨yW,0,zb⟩=za (.iface t4 y4)/\W7.cell? ⟨yW,1,zb⟩=za (.iface t5 y5)/\Sem.run prog (store ⟨W7.heap.size,0,zb⟩ BC) (W7.alloc (zf #[.iface t4 y4,.iface t5 y5] 256))=.ok () (W7.alloc (zf #[BC,.iface t5 y5] 256))/\Sem.run prog (store ⟨W7.heap.size,1,zb⟩ Ja) (W7.alloc (zf #[BC,.iface t5 y5] 256))=.ok () (W7.alloc (zf #[BC,Ja] 256)):=λW7 er=>by
    have hne:¬(za yW:Option Nat)=za gL:=λe=>by
     injection e with e
     obtain⟨_,ax,z2⟩:=dy lM (k:=yW) (by simp[Value.ownBlock,e]);rw[X4]at z2;exact absurd (bL z2) (by decide)
    have X7:=(er.block yW (ah.1 X4).1 hne).trans X4;exact⟨X7,(jr X7).1,(jr X7).2,zO W7 #[.iface t4 y4,.iface t5 y5] 256 BC ol.1 0 (by simp),zO W7 #[BC,.iface t5 y5] 256 Ja ol.2 1 (by simp)⟩
   clear hp tz EM z0
   go_wp2_with (at_builtin;refine wM rfl (.tmp 28) (.tmp 34) 300 rfl W4 #[zh (za ⟨a4,0,zb⟩),.bool false] 299 rfl W4.heap.size rfl w.heap.size i0 _ 2 16 underlying300 hi bI aO aQ rfl (by omega) _ xs.length (gJ xs) rfl lM rfl rfl (by intro u hu;simp at hu;rcases hu with rfl|rfl<;>rfl) (by omega) (by omega) qc ?_;intro g7 bG W7 fh er iI;obtain⟨X7,y0,y1,Jd,yd⟩:=hX7 W7 er)
   have KZ:rj w pl W7 Q4 (zg (za ⟨g7,0,zb⟩) (xs.length+1) bG) (xs++[(a4,(l2,false))]):=rj.push NY.out fh er (iI.imp id (λe=>by omega));obtain⟨W8,Ba⟩:∃W8,W7.alloc (zf #[BC,Ja] 256)=W8:=⟨_,rfl⟩;have eY:zi W7.heap.size W7 W8:=by rw[<-Ba];exact aw
   have X8:W8.heap[W7.heap.size]?=za (zf #[BC,Ja] 256 (0,0)):=by rw[<-Ba];exact aI _ _
   have HC8:=aA (KZ.below eY);have HL8:ze ((xs++[(a4,(l2,false))]).map Prod.snd++ua (jO r2)=mF (.seq l r)):=by
    show _=_;rw[<-HL.out];simp[ua,jO]
   clear KZ fh er X7 hX7 Jd yd T5 ol y0 y1 HC HX HL HR eY;subst Ba
   go_roundw
   case rel=>exact⟨xs++[(a4,(l2,false))],g7,bG,Q4,r2,t5,y5,b2,BC,Ja,W7.heap.size,by simp,rfl,rfl,rfl,by rw[nG];exact HC8,J3,X8,HL8,Nat.lt_trans (sH (by simp[fI];omega)) IK,by simp;omega⟩
   case measure=>simp[lnV];omega
  |false=>
   have aD:=HC.out.kd.bu;have hp:=J2.out p' IK pl _ wr (aU.keep (ou aD) p' _ HR.out.tr) HR.out.wt;have mO:jO p'=[p']:=by
    rcases HR.out.ass.2 with h|h
    ·cases h
    ·exact h
   have zzU:xs.length+1<=2000:=by
    have:=congrArg List.length HL.out;simp[ua,mO]at this;omega
   have jo:=aD.size
   go_wp2_with fail
   refine hp.mono ?_;intro e4 W4 tz;obtain⟨a4,Q4,rfl,bE,EM⟩:=HC.out.kd.add tz;have lM:=dQ HC.out.own bE;have NY:=aA EM;have qc:w.heap.size<=W4.heap.size:=EM.bu.size;obtain⟨qX,SG⟩:∃qX,ze (xs++[(a4,(p',false))]=qX):=⟨_,rfl⟩;obtain⟨n7,Cm⟩:∃n7,ze (xs.length+1=n7):=⟨_,rfl⟩;have zw8:qX.length=n7:=by rw[<-SG.out,<-Cm.out];simp
   have zz0:n7<=2000:=by have:=Cm.out;omega
   have Zd:ze (qX.map Prod.snd=mF (.seq l r)):=by
    show _=_;rw[<-HL.out,<-SG.out,mO];simp[ua]
   have KZ:∀W7 g7 bG,W7.ownsRow w.heap.size 299 2 (zg (za ⟨g7,0,zb⟩) (xs.length+1) bG) (xs.length+1) (gJ xs++[zh (za ⟨a4,0,zb⟩),.bool false])->W4.grownBy W7 (za gL)->(za gL=za g7\/W4.heap.size<=g7)->ze (rj w pl W7 Q4 (zg (za ⟨g7,0,zb⟩) n7 bG) qX):=λW7 g7 bG h1 h2 h3=>by
    show rj _ _ _ _ _ _;rw[<-Cm.out,<-SG.out];exact rj.push NY.out h1 h2 h3
   have Is:∀W7 g7 bG,ze (rj w pl W7 Q4 (zg (za ⟨g7,0,zb⟩) n7 bG) qX)->zm prog 180 #[zg (za ⟨g7,0,zb⟩) n7 bG,.func (.func 181) #[] #[]] W7 λe w'=>∃b:Bool,e=.returned (.bool b)/\ze (b=false->lK (.seq l r))/\zi W7.heap.size W7 w':=λW7 g7 bG h=>by
    have dF:∀i,i<n7->dU w.heap.size W7 pl Q4 (wC qX i) (tR qX i):=λi hi=>h.out.at _ (B8 (DV (xs:=qX) (i:=i) (by omega)))
    obtain⟨fs,f1,f2,f3⟩:=zme n7 (wC qX) (tR qX) dF;refine(zjt g7 bG n7 (wC qX) (xQ qX) fs W7 (λi hi=>?_) f1 f2 (by omega)).mono ?_
    ·have:=h.out.own;rw[<-zw8]at this;exact zrs this (DV (by omega))
    ·rintro e w' ⟨b,rfl,k1,k2,hb⟩;refine⟨b,rfl,λe=>zjF _ λq hq=>?_,hb⟩;have mS:(q,false)∈qX.map Prod.snd:=by rw[Zd.out];exact rh.2 ⟨q,hq,rfl⟩
     obtain⟨x,hx,uW⟩:=rh.1 mS;obtain⟨i,hi,rfl⟩:=DW hx;have h3:=f3 i (by omega) (k1 e i (by omega));have h4:=DV (xs:=qX) (i:=i) hi;rw[dh hi]at h4;have h5:=Option.some.inj h4;rw[h5]at uW;have:tR qX i=q:=congrArg Prod.fst uW;rw[<-this];exact h3
   clear hp tz EM
   go_wp2_with (at_builtin;refine wM rfl (.tmp 39) (.tmp 44) 300 rfl W4 #[zh (za ⟨a4,0,zb⟩),.bool false] 299 rfl W4.heap.size rfl w.heap.size i0 _ 2 16 underlying300 hi bI aO aQ rfl (by omega) _ xs.length (gJ xs) rfl lM rfl rfl (by intro u hu;simp at hu;rcases hu with rfl|rfl<;>rfl) (by omega) (by omega) qc ?_;intro g7 bG W7 fh er iI;have Y8:=KZ W7 g7 bG fh er (iI.imp id (λe=>by omega));clear fh er iI)
   rw[Cm.out];refine(Is W7 g7 bG Y8).mono ?_;rintro e8 W8 ⟨b8,rfl,ry,eY⟩;have EK:=Y8.out.below eY;have dK:=EK.kd.bu;clear Is KZ HC HX HL HR lM NY;cases b8 with
   |false=>
    have HF:ze (GD w pl (.seq l r) (.returned .nilIface) W8):=⟨Q4,.nilIface,rfl,dK,EK.kd.pm,zo1 (ry.out rfl)⟩;clear EK ry;go_wp2;go_ret;exact HF.out
   |true=>
    have HF:ze (GD w pl (.seq l r) (.returned (.iface 305 (zn #[zg (za ⟨g7,0,zb⟩) n7 bG]))) W8):=by
     refine⟨Q4,_,rfl,dK,EK.kd.pm,?_⟩;have h1:=EK.own;have h2:=EK.at;rw[<-zw8]at h1 ⊢;exact XS h1 Zd.out (λ_ _ e=>(by cases e)) (λ_ _ e=>(by cases e)) (λ_ e=>(by cases e)) (λ_ e=>(by cases e)) h2
    clear EK ry;go_wp2;go_ret;exact HF.out
end Go.Proofs.YtdimhpfiieepiaaGreatDoor
