import Derived.Test.YtdimhpfiieepiaaGreatDoorC41
import Derived.Laws.CopyOwn
import Derived.Deep.DrawnRows
namespace Go.Proofs.YtdimhpfiieepiaaGreatDoor
set_option maxHeartbeats 4000000
set_option maxRecDepth 100000
open Go.RowKit
section
attribute [local go_sem ↓] Go.wp_at_zero Go.wp_at_succ
theorem zpA(g cap n:Nat)(pa:Nat->Nat)(fs:Nat->Value)(w:World)(hr:∀i,i<n->w.cell? ⟨g,i,none⟩=some (.pointer (some ⟨pa i,0,none⟩)))(hf:∀i,i<n->w.cell? ⟨pa i,2,none⟩=some (fs i))(hv:∀i,i<n->fs i=.nilIface\/∃t x,fs i=.iface t x)(hn:n<=100000):
  Calls Tryz.prog 201 #[.slice (some ⟨g,0,none⟩) n cap,.func (.func 184) #[] #[]] w fun e w'=>((e=.returned (.int .i64 (-1))/\∀i,i<n->fs i=.nilIface)\/∃k:Nat,e=.returned (.int .i64 k)/\k<n/\fs k≠.nilIface)/\Below w.heap.size w w':=by
 have Hr:Hid _:=hr;have Hf:Hid _:=hf;have Hv:Hid _:=hv;clear hr hf hv
 go_enter Tryz.func201,Tryz.ntmps201
 go_wp2
 go_loopw [8] (fun i wr=>∃k:Nat,k<=n/\i=.int .i64 k/\Hid (∀j,j<k->fs j=.nilIface)/\Below w.heap.size w wr) (fun i _=>n-(intOf i).toNat)
 case atStart=>exact⟨0,zvT _,rfl,fun j hj=>absurd hj (zvQ _),Below.refl _ _⟩
 case round=>
  obtain⟨k,hk,rfl,HK,hb⟩:=hrel
  by_cases hlt:k<n
  ·have c0:=Hr.out k hlt;have c1:=Hf.out k hlt;have d0:wr.cell? ⟨g,k,none⟩=some (.pointer (some ⟨pa k,0,none⟩)):=(hb.cell (p:=⟨g,k,none⟩) (block_lt_of_cell c0)).trans c0;have d1:wr.cell? ⟨pa k,2,none⟩=some (fs k):=(hb.cell (p:=⟨pa k,2,none⟩) (block_lt_of_cell c1)).trans c1;have hi0:(0:Int)<=(k:Int):=by omega
   have hi1:(k:Int)<(n:Int):=by omega
   rcases Hv.out k hlt with e|⟨t,x,e⟩
   ·rw[e] at d1;clear c0 c1;go_wp2
    go_roundw
    case rel=>exact⟨k+1,by omega,by go_num,fun j hj=>by
     by_cases e2:j=k
     ·rw[e2];exact e
     ·exact HK.out j (by omega),hb⟩
    case measure=>simp[intOf];omega
   ·rw[e] at d1;have He:Hid _:=e;clear c0 c1 e;go_wp2;go_ret;exact⟨.inr ⟨k,rfl,hlt,by rw[He.out];simp⟩,hb⟩
  ·obtain rfl:n=k:=by omega
   go_wp2;go_ret;exact⟨.inl ⟨rfl,HK.out⟩,hb⟩
theorem zjP(g cap n:Nat)(pa:Nat->Nat)(fs:Nat->Value)(w:World)(hr:∀i,i<n->w.cell? ⟨g,i,none⟩=some (.pointer (some ⟨pa i,0,none⟩)))(hf:∀i,i<n->w.cell? ⟨pa i,2,none⟩=some (fs i))(hv:∀i,i<n->fs i=.nilIface\/∃t x,fs i=.iface t x)(hn:n<=100000):
  Calls Tryz.prog 183 #[.slice (some ⟨g,0,none⟩) n cap,.func (.func 184) #[] #[]] w fun e w'=>∃b:Bool,e=.returned (.bool b)/\(b=false->∀i,i<n->fs i=.nilIface)/\(b=true->∃i,i<n/\fs i≠.nilIface)/\Below w.heap.size w w':=by
 have hx:=zpA g cap n pa fs w hr hf hv hn;clear hr hf hv
 go_enter Tryz.func183,Tryz.ntmps183
 go_wp2_with fail
 refine hx.mono ?_;rintro e w1 ⟨⟨rfl,h1⟩|⟨k,rfl,h1,h2⟩,hb⟩
 ·have H1:Hid _:=h1;clear h1 hx;go_wp2;go_ret;exact⟨false,rfl,fun _=>H1.out,fun e=>by(cases e),hb⟩
 ·have H2:Hid _:=h2;have hd:decide ((0:Int)<=(k:Int))=true:=by simp
  clear h2 hx;go_wp2;go_ret;exact⟨true,rfl,fun e=>by(cases e),fun _=>⟨k,h1,H2.out⟩,hb⟩
theorem zpz(g cap n:Nat)(pa:Nat->Nat)(os:Nat->Bool)(fs:Nat->Value)(w:World)(hr:∀i,i<n->w.cell? ⟨g,i*2,none⟩=some (.pointer (some ⟨pa i,0,none⟩))/\w.cell? ⟨g,i*2+1,none⟩=some (.bool (os i)))(hf:∀i,i<n->w.cell? ⟨pa i,2,none⟩=some (fs i))(hv:∀i,i<n->fs i=.nilIface\/∃t x,fs i=.iface t x)(hn:n<=100000):
  Calls Tryz.prog 200 #[.slice (some ⟨g,0,none⟩) n cap,.func (.func 181) #[] #[]] w fun e w'=>((e=.returned (.int .i64 (-1))/\∀i,i<n->fs i=.nilIface)\/∃k:Nat,e=.returned (.int .i64 k)/\k<n/\fs k≠.nilIface)/\Below w.heap.size w w':=by
 have Hr:Hid _:=hr;have Hf:Hid _:=hf;have Hv:Hid _:=hv;clear hr hf hv
 go_enter Tryz.func200,Tryz.ntmps200
 go_wp2
 go_loopw [8] (fun i wr=>∃k:Nat,k<=n/\i=.int .i64 k/\Hid (∀j,j<k->fs j=.nilIface)/\Below w.heap.size w wr) (fun i _=>n-(intOf i).toNat)
 case atStart=>exact⟨0,zvT _,rfl,fun j hj=>absurd hj (zvQ _),Below.refl _ _⟩
 case round=>
  obtain⟨k,hk,rfl,HK,hb⟩:=hrel
  by_cases hlt:k<n
  ·obtain⟨c0,c2⟩:=Hr.out k hlt;have c1:=Hf.out k hlt;have d0:wr.cell? ⟨g,k*2,none⟩=some (.pointer (some ⟨pa k,0,none⟩)):=(hb.cell (p:=⟨g,k*2,none⟩) (block_lt_of_cell c0)).trans c0;have d2:wr.cell? ⟨g,k*2+1,none⟩=some (.bool (os k)):=(hb.cell (p:=⟨g,k*2+1,none⟩) (block_lt_of_cell c2)).trans c2;have hal:=block_lt_of_cell c1;have hsz:=hb.size;have d1:(wr.alloc (.cells #[.pointer (some ⟨pa k,0,none⟩),.bool (os k)] 299)).cell? ⟨pa k,2,none⟩=some (fs k):=(World.cell?_of_block (Below.heap_alloc _ _ _ (show pa k<wr.heap.size from zvL hal hsz))).trans ((hb.cell (p:=⟨pa k,2,none⟩) hal).trans c1);have hba:Below w.heap.size w (wr.alloc (.cells #[.pointer (some ⟨pa k,0,none⟩),.bool (os k)] 299)):=hb.alloc hsz _;have Hba:Hid _:=hba;have hi0:(0:Int)<=(k:Int):=by omega
   have hi1:(k:Int)<(n:Int):=by omega
   rcases Hv.out k hlt with e|⟨t,x,e⟩
   ·rw[e] at d1;clear c0 c1 c2 hba;go_wp2
    go_roundw
    case rel=>exact⟨k+1,by omega,by go_num,fun j hj=>by
     by_cases e2:j=k
     ·rw[e2];exact e
     ·exact HK.out j (by omega),Hba.out⟩
    case measure=>simp[intOf];omega
   ·rw[e] at d1;have He:Hid _:=e;clear c0 c1 c2 e hba;go_wp2;go_ret;exact⟨.inr ⟨k,rfl,hlt,by rw[He.out];simp⟩,Hba.out⟩
  ·obtain rfl:n=k:=by omega
   go_wp2;go_ret;exact⟨.inl ⟨rfl,HK.out⟩,hb⟩
theorem zjO(g cap n:Nat)(pa:Nat->Nat)(os:Nat->Bool)(fs:Nat->Value)(w:World)(hr:∀i,i<n->w.cell? ⟨g,i*2,none⟩=some (.pointer (some ⟨pa i,0,none⟩))/\w.cell? ⟨g,i*2+1,none⟩=some (.bool (os i)))(hf:∀i,i<n->w.cell? ⟨pa i,2,none⟩=some (fs i))(hv:∀i,i<n->fs i=.nilIface\/∃t x,fs i=.iface t x)(hn:n<=100000):
  Calls Tryz.prog 180 #[.slice (some ⟨g,0,none⟩) n cap,.func (.func 181) #[] #[]] w fun e w'=>∃b:Bool,e=.returned (.bool b)/\(b=false->∀i,i<n->fs i=.nilIface)/\(b=true->∃i,i<n/\fs i≠.nilIface)/\Below w.heap.size w w':=by
 have hx:=zpz g cap n pa os fs w hr hf hv hn;clear hr hf hv
 go_enter Tryz.func180,Tryz.ntmps180
 go_wp2_with fail
 refine hx.mono ?_;rintro e w1 ⟨⟨rfl,h1⟩|⟨k,rfl,h1,h2⟩,hb⟩
 ·have H1:Hid _:=h1;clear h1 hx;go_wp2;go_ret;exact⟨false,rfl,fun _=>H1.out,fun e=>by(cases e),hb⟩
 ·have H2:Hid _:=h2;have hd:decide ((0:Int)<=(k:Int))=true:=by simp
  clear h2 hx;go_wp2;go_ret;exact⟨true,rfl,fun e=>by(cases e),fun _=>⟨k,h1,H2.out⟩,hb⟩
end
section
variable{w:World}{base g n sz:Nat}{xs:List Value}
attribute [local go_sem ↓] Go.wp_at_zero Go.wp_at_succ
theorem ziO(n:Nat)(h:n<4294967296):bits BinOp.and IntKind.u64 (n:Int) 4294967295=(n:Int):=by
 have h1:(BitVec.ofInt 64 (n:Int) &&& BitVec.ofInt 64 (4294967295:Int)).toNat=n:=by
  rw[show (4294967295:Int)=((4294967295:Nat):Int) from rfl,BitVec.ofInt_natCast,BitVec.ofInt_natCast,BitVec.toNat_and,BitVec.toNat_ofNat,BitVec.toNat_ofNat,zvP (by omega),zvP (by omega)];have:=Nat.and_two_pow_sub_one_eq_mod n 32;rw[show (2 ^ 32-1:Nat)=4294967295 from rfl] at this;rw[this];exact zvP (by omega)
 show IntKind.u64.wrap ((BitVec.ofInt 64 (n:Int) &&& BitVec.ofInt 64 (4294967295:Int)).toNat:Int)=_;rw[h1];simp[IntKind.wrap,IntKind.bits,IntKind.signed];omega
theorem zpT(n:Nat)(w:World)(hn:n<=4000):
  Calls Tryz.prog 172 #[.int .u64 1,.int .u64 (n:Int)] w fun e w'=>e=.returned (.tuple #[.int .u64 0,.int .u64 (n:Int)])/\w'=w:=by
 have h1:=ziO n (by omega);have h2:bits BinOp.and IntKind.u64 1 4294967295=1:=ziO 1 (by omega);have h3:bits BinOp.and IntKind.u64 0 4294967295=0:=ziO 0 (by omega);have hi:(n:Int)<=4000:=by omega
 go_enter Tryz.func172,Tryz.ntmps172
 have h4:(n:Int)/4294967296=0:=by omega
 go_wp2;refine zvV (v:=.tuple #[.int .u64 0,.int .u64 (n:Int)]) (by simp[results,Tryz.results172,go_sem]) rfl ⟨rfl,rfl⟩
theorem zpU(n:Nat)(w:World)(hn:n<=4000):
  Calls Tryz.prog 149 #[.int .u64 1,.int .u64 (n:Int)] w fun e w'=>e=.returned (.tuple #[.int .u64 0,.int .u64 (n:Int)])/\w'=w:=by
 have hm:=zpT n w hn
 go_enter Tryz.func149,Tryz.ntmps149
 go_wp2_with (go_at_call 172;refine hm.mono ?_;rintro e w' ⟨rfl,hw'⟩;subst w')
 refine zvV (v:=.tuple #[.int .u64 0,.int .u64 (n:Int)]) (by simp[results,Tryz.results149,go_sem]) rfl ⟨rfl,rfl⟩
def rp2(x y z1 z2:Value)(n j:Nat):List Value:=(List.range (n*2)).map fun k=>if k<j*2 then (if k%2=0 then x else y) else (if k%2=0 then z1 else z2)
theorem zhm(x y z1 z2:Value)(n j:Nat):(rp2 x y z1 z2 n j).length=n*2:=by simp[rp2]
theorem zd9(x y z1 z2:Value){n j i:Nat}(h:i<n*2):(rp2 x y z1 z2 n j)[i]?=some (if i<j*2 then (if i%2=0 then x else y) else (if i%2=0 then z1 else z2)):=by simp[rp2,h]
def pr2(x y:Value)(c:Nat):List Value:=(List.range (c*2)).map fun k=>if k%2=0 then x else y
theorem zdL(x y:Value)(c:Nat):(pr2 x y c).length=c*2:=by simp[pr2]
theorem zl1(x y:Value){c i:Nat}(h:i<c*2):(pr2 x y c)[i]?=some (if i%2=0 then x else y):=by simp[pr2,h]
theorem zm5(x y z1 z2:Value)(n:Nat):rp2 x y z1 z2 n n=pr2 x y n:=by
 unfold rp2 pr2;apply zvm;intro k hk;rw[zv3 (zvu.1 hk)]
theorem ziy(x y z1 z2:Value){n j c:Nat}(h:j+c<=n):splice (rp2 x y z1 z2 n j) (j*2) (pr2 x y c)=rp2 x y z1 z2 n (j+c):=by
 apply zu0
 intro i;unfold splice;have hl:=zhm x y z1 z2 n j;have hp:=zdL x y c;rw[hp]
 by_cases h1:i<j*2
 ·have e2:i<(j+c)*2:=by omega
  rw[zu5 (by rw[List.length_take];omega),zvf,zv3 h1,zd9 _ _ _ _ (by omega),zd9 _ _ _ _ (by omega),zv3 h1,zv3 e2]
 ·rw[zu6 (by rw[List.length_take];omega),List.length_take,hl,zvO (by omega)]
  by_cases h2:i<(j+c)*2
  ·rw[zu5 (by omega),zd9 _ _ _ _ (by omega),zv3 h2,zl1 _ _ (by omega),show (i-j*2)%2=i%2 from by omega]
  ·rw[zu6 (by omega),hp,zu9,show j*2+c*2+(i-j*2-c*2)=i by omega]
   by_cases h3:i<n*2
   ·rw[zd9 _ _ _ _ h3,zd9 _ _ _ _ h3,zv2 h1,zv2 h2]
   ·rw[zvb (by omega),zvb (by rw[zhm];omega)]
theorem zmP(x y z1 z2:Value)(n:Nat):(madeCells #[z1,z2] (n*2)).toList=rp2 x y z1 z2 n 0:=by
 apply zu0
 intro i
 by_cases h:i<n*2
 ·rw[zd9 _ _ _ _ h];simp[madeCells,h];rcases Nat.mod_two_eq_zero_or_one i with e|e<;>simp[e]
 ·rw[zvb (by simp[madeCells];omega),zvb (by rw[zhm];omega)]
theorem zbq{e:TypeId}(h:w.ownsRow base e sz (.slice (some ⟨g,0,none⟩) n n) n xs):w.heap[g]?=some (.cells xs.toArray e (0,0)):=by
 rcases h.2 with ⟨h,_⟩|⟨g',cap,cr,h,_,hrow,_,_,hsz,htk⟩
 ·cases h
 ·cases h
  rw[hrow]
  congr 2
  apply Array.ext'
  rw[zvC (by simp[hsz])] at htk;rw[htk]
theorem ziv{e:TypeId}(h:w.heap[g]?=some (.cells xs.toArray e (0,0)))(hb:base<=g)(hl:xs.length=n*sz)(hm:n<=maxLen):w.ownsRow base e sz (.slice (some ⟨g,0,none⟩) n n) n xs:=
 ⟨hl,.inr ⟨g,n,xs.toArray,rfl,hb,h,zvJ _,hm,by simp[hl],by simp[<-hl]⟩⟩
theorem zgd{P:Program}(w:World)(dT sT ty elem:TypeId)(g o dLen dCap:Nat)(a:Addr)(sLen sCap:Nat)(cur:Array Value)(t:TypeId)(cs:List Value)(c:Nat)
  (hu:P.underlying dT=some (.slice elem)) (hs:(P.info? elem).map (·.size)=some 2)
  (hg:w.heap[g]?=some (.cells cur t (0,0))) (hc:c=Nat.min sLen dLen) (hn:cs.length=c*2)
  (hsrc:∀j v,cs[j]?=some v->w.cell? (a.add j)=some v) (hfit:o+cs.length<=cur.size) (h1:∀v∈cs,v.oneCell'=true):
  (Builtin.copy_ #[dT,sT] ty #[.slice (some ⟨g,o,none⟩) dLen dCap,.slice (some a) sLen sCap]).run P w =
   .ok (goInt c) (w.setRow g (cur.toList.take o++cs++cur.toList.drop (o+cs.length)).toArray):=by
 have hl:=run_loadCells_list (P:=P) w a cs hsrc;have hst:=run_storeCells_at P g o t cs 0 cur w hg (by simpa using hfit) h1;cases hq:P.info? elem with
 |none=>simp[hq] at hs
 |some i=>
  have hi:i.size=2:=by simpa [hq] using hs
  rw[hn] at hl;simp[Builtin.copy_,run_underlying hu,Builtin.lenOf,Builtin.firstCells,sizeOf,typeInfo,hq,hi,<-hc,hl,hst]
end
section
attribute [local go_sem ↓] Go.wp_at_zero Go.wp_at_succ
theorem Tryz.infoLink:(Tryz.prog.info? 299).map (fun i=>(i.zero,i.size,i.bytes))=some (some (.agg #[.pointer none,.bool false]),2,16):=by kernel_rfl
theorem Tryz.sizeLink:(Tryz.prog.info? 299).map (·.size)=some 2:=by kernel_rfl
def zo4(ats:Array TypeId)(ty:TypeId)(args:Array Value):Sem Value:=Builtin.copy_ ats ty args
theorem zjR(ty:TypeId)(args:Array Value):Builtin.copy_ #[300,300] ty args=zo4 #[300,300] ty args:=rfl
attribute [local go_sem ↓] zjR
theorem zfZ(x y:Value)(hx:x.oneCell'=true)(hy:y.oneCell'=true){n j c g dc sl sc:Nat}{a:Addr}{W:World}(hR:W.heap[g]?=some (.cells (rp2 x y (.pointer none) (.bool false) n j).toArray 299 (0,0)))(hj:j<=n)(hc:c=min sl (n-j))(hs:∀i,i<c*2->W.cell? (a.add i)=some (if i%2=0 then x else y))(ty:TypeId)(dl:Nat)(hdl:dl=n-j)(o:Nat)(ho:o=j*2):
  ∃W',(zo4 #[300,300] ty #[.slice (some ⟨g,o,none⟩) dl dc,.slice (some a) sl sc]).run Tryz.prog W=.ok (.int .i64 (c:Int)) W'/\W'.heap[g]?=some (.cells (rp2 x y (.pointer none) (.bool false) n (j+c)).toArray 299 (0,0))/\W.grownBy W' (some g):=by
 subst ho;have h:=zgd (P:=Tryz.prog) W 300 300 ty 299 g (j*2) dl dc a sl sc (rp2 x y (.pointer none) (.bool false) n j).toArray 299 (pr2 x y c) c Tryz.underlying300 Tryz.sizeLink hR (by rw[hdl];exact hc) (zdL x y c)
  (fun i v hv=>by
   by_cases hi:i<c*2
   ·rw[zl1 x y hi] at hv;cases hv;exact hs i hi
   ·rw[zvb (by rw[zdL];omega)] at hv;cases hv) (by rw[zdL,zvA,zhm];omega) (by
   intro v hv;obtain⟨k,-,rfl⟩:=zvs.1 hv;split
   ·exact hx
   ·exact hy)
 refine⟨_,h,?_,⟨rfl,rfl,rfl,by simp[World.setRow],fun k _ hk=>setRow_other W g k _ (fun e=>hk (by rw[e]))⟩⟩;rw[setRow_heap W g _ _ _ _ hR];have e:=ziy x y (.pointer none) (.bool false) (n:=n) (j:=j) (c:=c) (by omega);unfold splice at e;rw[zuR,e]
theorem zjo(x y:Value)(ox:x.oneCell'=true)(oy:y.oneCell'=true)(g0 n:Nat)(w:World)(hx:w.cell? ⟨g0,0,none⟩=some x)(hy:w.cell? ⟨g0,1,none⟩=some y)(hn:n<=4000):
  Calls Tryz.prog 185 #[.slice (some ⟨g0,0,none⟩) 1 1,.int .i64 (n:Int)] w fun e w'=>e=.returned (.slice (some ⟨w.heap.size,0,none⟩) n n)/\w'.ownsRow w.heap.size 299 2 (.slice (some ⟨w.heap.size,0,none⟩) n n) n (pr2 x y n)/\Below w.heap.size w w':=by
 obtain⟨i0,hi,hz0,hz1,hz2⟩:=info_parts Tryz.infoLink;have hm:=zpU n w hn;have hg0:g0<w.heap.size:=block_lt_of_cell hx;have hi2:(n:Int)<=4000:=by omega
 obtain⟨c0,hc0⟩:∃c,c=min 1 n:=⟨_,rfl⟩;have hsrc:∀W,Below w.heap.size w W->∀i,i<c0*2->W.cell? ((⟨g0,0,none⟩:Addr).add i)=some (if i%2=0 then x else y):=fun W hb i hi=>by
  obtain rfl|rfl:i=0\/i=1:=by omega
  ·exact(hb.cell (p:=⟨g0,0,none⟩) hg0).trans hx
  ·exact(hb.cell (p:=⟨g0,1,none⟩) hg0).trans hy
 go_enter Tryz.func185,Tryz.ntmps185
 go_wp2_with (first|(go_at_call 149;refine hm.mono ?_;rintro e w' ⟨rfl,hw'⟩;subst w')|(refine wpList_make_full _ rfl _ _ 300 rfl w.heap.size 299 i0 _ 2 Tryz.underlying300 hi hz0 hz1 _ _ _ _ n rfl rfl rfl rfl (by rw[hz2];omega) (by unfold maxLen;omega) (zvJ _) ?_;intro w1 hown1 hgrow1;have hb1:Below w.heap.size w w1:=(Below.refl _ _).grown hgrow1 (zvJ _) (by intro k h;cases h);have HR:Hid (w1.heap[w.heap.size]?=some (.cells (rp2 x y (.pointer none) (.bool false) n 0).toArray 299 (0,0))):=(by have h:=zbq hown1;rw[show (Value.agg #[.pointer none,.bool false]).cells=#[.pointer none,.bool false] from rfl,zmP x y] at h;exact h);clear hown1 hgrow1;obtain⟨w2,hcp,hR2,hg2⟩:=zfZ x y ox oy (sc:=1) (a:=⟨g0,0,none⟩) (dc:=n) HR.out (zvT _) (c:=c0) (sl:=1) (by omega) (hsrc _ hb1) 3 n rfl 0 rfl;have HR2:Hid (w2.heap[w.heap.size]?=some (.cells (rp2 x y (.pointer none) (.bool false) n c0).toArray 299 (0,0))):=(by rw[zvS] at hR2;exact hR2);have hB2:Hid (Below w.heap.size w w2):=hb1.grown hg2 hb1.size (fun q e=>by cases e;exact zvJ _);clear hR2 hg2))
 clear hx hy hcp hb1 hm HR hsrc
 go_loopw [8] (fun i wr=>∃(j:Nat),(1<=j\/n=0)/\j<=n/\i=.int .i64 j/\Hid (wr.heap[w.heap.size]?=some (.cells (rp2 x y (.pointer none) (.bool false) n j).toArray 299 (0,0)))/\Hid (Below w.heap.size w wr))
  (fun i _=>n-(intOf i).toNat)
 case atStart=>exact⟨c0,by omega,by omega,by rw[hc0],HR2,hB2⟩
 case round=>
  obtain⟨j,hj1,hj,rfl,HR,HB⟩:=hrel
  by_cases hj2:j<n
  ·have hj1':1<=j:=by omega
   have hi3:(j:Int)<(n:Int):=by omega
   have hi4:¬n=j:=by omega
   obtain⟨c,hc⟩:∃c,c=min j (n-j):=⟨_,rfl⟩;obtain⟨w5,hcp,hR5,hg5⟩:=zfZ x y ox oy (W:=wr.drew) (sc:=n) (a:=⟨w.heap.size,0,none⟩) (dc:=n-j) HR.out hj (c:=c) (sl:=j) hc (fun i hi=>by
    have e:(⟨w.heap.size,0,none⟩:Addr).add i=⟨w.heap.size,i,none⟩:=by unfold Addr.add;split<;>simp_all
    have hr:wr.drew.heap[w.heap.size]?=some (.cells (rp2 x y (.pointer none) (.bool false) n j).toArray 299 (0,0)):=HR.out;have e2:i<j*2:=by omega
    rw[e,zvW _ _ _ _ _ _ hr,List.getElem?_toArray,zd9 _ _ _ _ (by omega),zv3 e2]) 3 (n-j) rfl (j*2) rfl
   have HR5:Hid _:=hR5;have HB5:Hid (Below w.heap.size w w5):=by
    have hB1:Below w.heap.size w wr.drew:=HB.out.trans ⟨rfl,rfl,rfl,zvJ _,fun _ _=>rfl⟩;exact hB1.grown hg5 hB1.size (fun q e=>by cases e;exact zvJ _)
   have hc1:1<=c:=by omega
   have hc2:j+c<=n:=by omega
   have hc3:(j:Int)+(c:Int)<=4000:=by omega
   clear hR5 hg5 hc;go_wp2
   go_big_region
   go_wp2
   go_roundw
   case rel=>exact⟨j+c,by omega,hc2,by simp,HR5,HB5⟩
   case measure=>simp[intOf];omega
  ·have hjj:j=n:=by omega
   subst hjj;go_wp2;refine zvV (v:=.slice (some ⟨w.heap.size,0,none⟩) j j) (by simp[results,Tryz.results185,go_sem]) rfl ⟨rfl,?_,HB.out⟩;have:=HR.out;rw[zm5] at this;exact ziv this (zvJ _) (zdL _ _ _) (by unfold maxLen;omega)
end
section
structure KdR(w:World)(pl:Nat)(wr:World)(Q:Nat->Option Pt)(F:Nat->Prop)(ps:List (Nat×Pt)):Prop where
 bel:Below w.heap.size w wr
 pm:PcM w.heap.size wr pl Q
 kd:∀x,x∈ps->∃(lo':Nat) (w':World) (Q':Nat->Option Pt),w.heap.size<=lo'/\PcAt lo' w' pl Q' x.1 x.2/\zaT w' wr/\w'.heap.size<=wr.heap.size/\(∀k,lo'<=k->k<w'.heap.size->wr.heap[k]?=w'.heap[k]?/\¬F k)/\∀k q,Q' k=some q->Q k=some q
 ob:∀k,F k->w.heap.size<=k/\∃cur ty,wr.heap[k]?=some (.cells cur ty (0,0))/\ty≠222/\ty≠293
theorem KdR.start(w:World)(pl:Nat)(F:Nat->Prop)(wr:World)(hb:Below w.heap.size w wr)(ob:∀k,F k->w.heap.size<=k/\∃cur ty,wr.heap[k]?=some (.cells cur ty (0,0))/\ty≠222/\ty≠293):KdR w pl wr (fun _=>none) F []:=
 ⟨hb,PcM.nothing _ _ _,fun x hx=>(by cases hx),ob⟩
section
variable {w:World} {pl:Nat} {wr:World} {Q:Nat->Option Pt} {F:Nat->Prop} {ps:List (Nat×Pt)}
theorem KdR.flt(h:KdR w pl wr Q F ps){k:Nat}(hk:F k):k<wr.heap.size:=by
 obtain⟨_,cur,ty,e,_⟩:=h.ob k hk;exact(zuH.1 e).1
theorem KdR.keepM(h:KdR w pl wr Q F ps){wr2:World}(tc:zam F wr wr2):zaT wr wr2:=fun mg f e=>(tc.same mg (zuH.1 e).1 (fun hF=>by
 obtain⟨_,cur,ty,e2,_,e3⟩:=h.ob mg hF;rw[e2] at e;exact e3 (zad e))).trans e
theorem KdR.turn(h:KdR w pl wr Q F ps){wr2:World}{F2:Nat->Prop}(tc:zam F wr wr2)(hF:∀k,F2 k->F k\/wr.heap.size<=k)(ob:∀k,F2 k->w.heap.size<=k/\∃cur ty,wr2.heap[k]?=some (.cells cur ty (0,0))/\ty≠222/\ty≠293):KdR w pl wr2 Q F2 ps:=by
 have hm:=h.keepM tc;have hs:=h.bel.size;refine⟨⟨tc.os.trans h.bel.os,tc.tape.trans h.bel.tape,tc.output.trans h.bel.output,zvK hs tc.size,fun k hk=>(tc.same k (by omega) (fun e=>by have:=(h.ob k e).1;omega)).trans (h.bel.block k hk)⟩,?_,?_,ob⟩
 ·intro a q hq;obtain⟨h1,h2,v,f,h3,h4⟩:=h.pm a q hq;refine⟨h1,h2,v,f,(tc.same a (zuH.1 h3).1 (fun e=>?_)).trans h3,zan.keep hm q v h4⟩;obtain⟨_,cur,ty,e2,e3,_⟩:=h.ob a e;rw[e2] at h3;exact e3 (zad h3)
 ·intro x hx;obtain⟨lo',w',Q',h1,h2,h3,h4,h5,h6⟩:=h.kd x hx;refine⟨lo',w',Q',h1,h2,h3.trans hm,zvK h4 tc.size,fun k k1 k2=>?_,h6⟩;obtain⟨e1,e2⟩:=h5 k k1 k2;exact⟨(tc.same k (by omega) e2).trans e1,fun e=>(hF k e).elim e2 (fun e=>by omega)⟩
theorem KdR.below(h:KdR w pl wr Q F ps){wr2:World}(hb:Below wr.heap.size wr wr2):KdR w pl wr2 Q F ps:=
 h.turn (.of_below hb) (fun _ e=>.inl e) (fun k e=>by
  obtain⟨h1,cur,ty,h2,h3⟩:=h.ob k e;exact⟨h1,cur,ty,(hb.block k (zuH.1 h2).1).trans h2,h3⟩)
theorem KdR.add(h:KdR w pl wr Q F ps){q:Pt}{e:Ending}{w':World}(hp:PcR wr pl q e w'):∃(a:Nat) (Q2:Nat->Option Pt),e=.returned (.pointer (some ⟨a,0,none⟩))/\Below wr.heap.size wr w'/\KdR w pl w' Q2 F (ps++[(a,q)]):=by
 obtain⟨a,Q',rfl,hb,hm,ha⟩:=hp;have h1:=h.below hb;have hs:=h.bel.size;have hm':PcM w.heap.size w' pl Q':=hm.keep hs (fun _ _ _=>rfl) (fun _ _ e=>e);have hq:∀k q,Q' k=some q->Q k=none:=fun k q e=>h.pm.high (by have:=(hm k q e).1;omega)
 refine⟨a,qU Q Q',rfl,hb,h1.bel,h1.pm.union hm',fun x hx=>?_,h1.ob⟩;rcases zvo.1 hx with hx|hx
 ·obtain⟨lo',w1,Q1,k1,k2,k3,k4,k5,k6⟩:=h1.kd x hx;exact⟨lo',w1,Q1,k1,k2,k3,k4,k5,fun k q e=>zl3 (k6 k q e)⟩
 ·rw[zvv.1 hx];exact⟨wr.heap.size,w',Q',hs,ha,fun _ _ e=>e,zvJ _,fun k k1 k2=>⟨rfl,fun e=>by have:=h.flt e;omega⟩,fun k q e=>zjk (hq k q e) e⟩
theorem KdR.fin(h:KdR w pl wr Q F ps):∀x,x∈ps->PcAt w.heap.size wr pl Q x.1 x.2:=fun x hx=>by
 obtain⟨lo',w',Q',h1,h2,h3,h4,h5,h6⟩:=h.kd x hx;exact h2.keep h1 (fun k k1 k2=>(h5 k k1 k2).1) h3 h6
end
def FmA(lo:Nat)(w:World)(pl:Nat)(Q:Nat->Option Pt)(p:Pt)(f:Value):Prop:=
 (f=.nilIface\/∃t x,f=.iface t x)/\∀(lo1:Nat) (w1:World) (Q1:Nat->Option Pt) (a:Nat),lo1<=lo->(∀k,lo<=k->k<w.heap.size->w1.heap[k]?=w.heap[k]?)->zaT w w1->(∀k q,Q k=some q->Q1 k=some q)->PcB lo1 w1 pl Q1 a p f->PcAt lo1 w1 pl Q1 a p
def FmR(w:World)(pl:Nat)(p:Pt)(e:Ending)(w':World):Prop:=
 ∃(Q:Nat->Option Pt) (f:Value),e=.returned f/\Below w.heap.size w w'/\PcM w.heap.size w' pl Q/\FmA w.heap.size w' pl Q p f
theorem zpp{lo:Nat}{w:World}{pl:Nat}{Q:Nat->Option Pt}{p:Pt}(h:noG p):FmA lo w pl Q p .nilIface:=⟨.inl rfl,fun _ _ _ a _ _ _ _ hb=>.leaf a p hb h⟩
theorem zgK{lo:Nat}{w:World}{pl:Nat}{Q:Nat->Option Pt}{p:Pt}{go cap:Nat}{xs:List (Nat×Lnk)}(hr:w.ownsRow lo 299 2 (.slice (some ⟨go,0,none⟩) xs.length cap) xs.length (lkL xs))(hf:xs.map Prod.snd=zby p)(h1:∀l r,p≠.alt l r)(h2:∀b g,p≠.grp b g)(h3:∀b,p≠.rep b 0 (-1))(h0:∀f,p≠.set f)(hp:∀x,x∈xs->PcAt lo w pl Q x.1 x.2.1):FmA lo w pl Q p (.iface 305 (.agg #[.slice (some ⟨go,0,none⟩) xs.length cap])):=
 ⟨.inr ⟨_,_,rfl⟩,fun _ _ _ a hl hk hm hQ hb=>.chain a p go cap xs hb (zck (zfa hr hk) hl) hf h1 h2 h3 h0 fun x hx=>(hp x hx).keep hl hk hm hQ⟩
theorem znM{lo:Nat}{w:World}{pl:Nat}{Q:Nat->Option Pt}{l r:Pt}{go cap:Nat}{xs:List (Nat×Pt)}(hr:w.ownsRow lo 198 1 (.slice (some ⟨go,0,none⟩) xs.length cap) xs.length (opL xs))(hf:xs.map Prod.snd=zbf (.alt l r))(hp:∀x,x∈xs->PcAt lo w pl Q x.1 x.2):FmA lo w pl Q (.alt l r) (.iface 311 (.agg #[.slice (some ⟨go,0,none⟩) xs.length cap])):=
 ⟨.inr ⟨_,_,rfl⟩,fun _ _ _ a hl hk hm hQ hb=>.choice a l r go cap xs hb (zck (zfa hr hk) hl) hf fun x hx=>(hp x hx).keep hl hk hm hQ⟩
theorem zpo{lo:Nat}{w:World}{pl:Nat}{Q:Nat->Option Pt}{b:Pt}{g:Int}{a':Nat}(hp:PcAt lo w pl Q a' b):FmA lo w pl Q (.grp b g) (.iface 242 (.agg #[.int .i64 g,.pointer (some ⟨a',0,none⟩)])):=
 ⟨.inr ⟨_,_,rfl⟩,fun _ _ _ a hl hk hm hQ hb=>.group a a' b g hb (hp.keep hl hk hm hQ)⟩
theorem zjZ:∀(p:Pt),(∀q,q∈zcy p->noG q)->noG p
 |.seq l r,h=>⟨h l (zvr ..),zjZ r fun q hq=>h q (zvq _ hq)⟩
 |.set _,_=>trivial
 |.alt l r,h=>h (.alt l r) (zvv.2 rfl)
 |.rep b mn mx,h=>h (.rep b mn mx) (zvv.2 rfl)
 |.grp b g,h=>h (.grp b g) (zvv.2 rfl)
theorem zgJ:∀(p:Pt),(∀q,q∈zbf p->noG q)->noG p
 |.alt l r,h=>⟨zgJ l fun q hq=>h q (zvo.2 (.inl hq)),zgJ r fun q hq=>h q (zvo.2 (.inr hq))⟩
 |.set _,_=>trivial
 |.seq l r,h=>h (.seq l r) (zvv.2 rfl)
 |.rep b mn mx,h=>h (.rep b mn mx) (zvv.2 rfl)
 |.grp b g,h=>h (.grp b g) (zvv.2 rfl)
end
section
variable{w wr:World}{pl:Nat}{Q:Nat -> Option Pt}{vL:Value}{xs:List (Nat×Lnk)}
attribute [local go_sem ↓] Go.wp_at_zero Go.wp_at_succ
def AsS(v:Value)(p:Pt)(b:Bool)(lv rv:Value):Prop:=(∀w,Sem.run Tryz.prog (Instr.typeAssert v 184 256 true) w=.ok (.tuple #[.agg #[lv,rv],.bool b]) w)/\(b=true\/zcy p=[p])
theorem znh:∀(p:Pt) (v:Value),zan w v p->∃b lv rv,AsS v p b lv rv/\(b=true->∃l r,p=.seq l r/\zan w lv l/\zan w rv r)/\((b=false/\lv=.nilIface/\rv=.nilIface)\/(b=true/\(∃t x,lv=.iface t x)/\∃t x,rv=.iface t x))
 |.seq l r,_,⟨lv,rv,rfl,h1,h2⟩=>by
  obtain⟨t1,x1,e1⟩:=zaC h1;obtain⟨t2,x2,e2⟩:=zaC h2;exact⟨true,lv,rv,⟨fun w=>by kernel_rfl,.inl rfl⟩,fun _=>⟨l,r,rfl,h1,h2⟩,.inr ⟨rfl,⟨t1,x1,e1⟩,⟨t2,x2,e2⟩⟩⟩
 |.set f,_,⟨mg,rfl,_⟩=>⟨false,.nilIface,.nilIface,⟨fun w=>by kernel_rfl,.inr rfl⟩,fun e=>(by cases e),.inl ⟨rfl,rfl,rfl⟩⟩
 |.alt l r,_,⟨lv,rv,rfl,_⟩=>⟨false,.nilIface,.nilIface,⟨fun w=>by kernel_rfl,.inr rfl⟩,fun e=>(by cases e),.inl ⟨rfl,rfl,rfl⟩⟩
 |.rep b mn mx,_,⟨lv,rfl,_⟩=>⟨false,.nilIface,.nilIface,⟨fun w=>by kernel_rfl,.inr rfl⟩,fun e=>(by cases e),.inl ⟨rfl,rfl,rfl⟩⟩
 |.grp b g,_,⟨lv,rfl,_⟩=>⟨false,.nilIface,.nilIface,⟨fun w=>by kernel_rfl,.inr rfl⟩,fun e=>(by cases e),.inl ⟨rfl,rfl,rfl⟩⟩
def psL(xs:List (Nat×Lnk)):List (Nat×Pt):=xs.map fun x=>(x.1,x.2.1)
structure ChS(w:World)(pl:Nat)(wr:World)(Q:Nat->Option Pt)(vL:Value)(xs:List (Nat×Lnk)):Prop where
 kd:KdR w pl wr Q (fun k=>vL.ownBlock=some k) (psL xs)
 own:wr.ownsRow w.heap.size 299 2 vL xs.length (lkL xs)
theorem ChS.below(h:ChS w pl wr Q vL xs){wr2:World}(hb:Below wr.heap.size wr wr2):ChS w pl wr2 Q vL xs:=⟨h.kd.below hb,zac h.own hb⟩
theorem ChS.push{w7:World}{a:Nat}{q:Pt}{o:Bool}{g7 cap7:Nat}(h:KdR w pl wr Q (fun k=>vL.ownBlock=some k) (psL xs++[(a,q)]))(hown:w7.ownsRow w.heap.size 299 2 (.slice (some ⟨g7,0,none⟩) (xs.length+1) cap7) (xs.length+1) (lkL xs++[.pointer (some ⟨a,0,none⟩),.bool o]))(hg:wr.grownBy w7 vL.ownBlock)(hat:vL.ownBlock=some g7\/wr.heap.size<=g7):ChS w pl w7 Q (.slice (some ⟨g7,0,none⟩) (xs.length+1) cap7) (xs++[(a,(q,o))]):=by
 have tc:zam (fun k=>vL.ownBlock=some k) wr w7:=(zam.refl _ wr).grown hg (fun k e=>.inl e);refine⟨?_,?_⟩
 ·have:psL (xs++[(a,(q,o))])=psL xs++[(a,q)]:=by simp[psL]
  rw[this];refine h.turn tc (fun k e=>?_) (fun k e=>?_)
  ·have e:g7=k:=by simpa [Value.ownBlock] using e
   subst e;exact hat
  ·obtain⟨z1,cur,z2⟩:=zaD hown e;exact⟨z1,cur,_,z2,by decide,by decide⟩
 ·have e:lkL (xs++[(a,(q,o))])=lkL xs++[.pointer (some ⟨a,0,none⟩),.bool o]:=by rw[zdy];rfl
  rw[e,zvh];exact hown
theorem ChS.at(h:ChS w pl wr Q vL xs):∀x,x∈xs->PcAt w.heap.size wr pl Q x.1 x.2.1:=fun x hx=>h.kd.fin (x.1,x.2.1) (zvs.2 ⟨x,hx,rfl⟩)
end
variable{w:World}{v:Value}{p:Pt}
attribute [local go_sem ↓] Go.wp_at_zero Go.wp_at_succ
theorem zaQ{w':World}(hb:Below w.heap.size w w'):zaT w w':=fun mg _ e=>(hb.block mg (zuH.1 e).1).trans e
theorem zrN{B go cap:Nat}{xs:List (Nat×Lnk)}(hr:w.ownsRow B 299 2 (.slice (some ⟨go,0,none⟩) xs.length cap) xs.length (lkL xs)){i:Nat}{x:Nat×Lnk}(hx:xs[i]?=some x):w.cell? ⟨go,i*2,none⟩=some (.pointer (some ⟨x.1,0,none⟩))/\w.cell? ⟨go,i*2+1,none⟩=some (.bool x.2.2):=by
 obtain⟨h1,h2⟩:=zlC xs i x.1 x.2.1 x.2.2 hx;have e:∀n,(⟨go,0,none⟩:Addr).add n=⟨go,n,none⟩:=fun n=>by unfold Addr.add;split<;>simp_all
 have c1:=zer hr (i*2) _ h1;have c2:=zer hr (i*2+1) _ h2;rw[e] at c1 c2;exact⟨c1,c2⟩
theorem zmC{lo:Nat}{pl:Nat}{Q:Nat->Option Pt}(n:Nat)(pa:Nat->Nat)(pq:Nat->Pt)(h:∀i,i<n->PcAt lo w pl Q (pa i) (pq i)):∃fs:Nat->Value,(∀i,i<n->w.cell? ⟨pa i,2,none⟩=some (fs i))/\(∀i,i<n->fs i=.nilIface\/∃t x,fs i=.iface t x)/\∀i,i<n->fs i=.nilIface->noG (pq i):=by
 obtain⟨fs,hfs⟩:=@Go.Deep.choose_lt Value ⟨.nilIface⟩ n (fun i f=>PcB lo w pl Q (pa i) (pq i) f/\(f=.nilIface->noG (pq i))/\(f=.nilIface\/∃t x,f=.iface t x)) (fun i hi=>(h i hi).blk);refine⟨fs,fun i hi=>?_,fun i hi=>(hfs i hi).2.2,fun i hi=>(hfs i hi).2.1⟩;obtain⟨v,h1,_⟩:=(hfs i hi).1.box;exact(zvW _ _ _ _ _ _ h1:_=_)
theorem zdB{P:Program}(w:World)(cs:Array Value)(ty:TypeId)(v:Value)(h:v.oneCell'=true)(i:Nat)(hi:i<cs.size):Sem.run P (store ⟨w.heap.size,i,none⟩ v) (w.alloc (.cells cs ty))=.ok () (w.alloc (.cells (cs.setIfInBounds i v) ty)):=by
 have hx:(w.alloc (.cells cs ty)).heap[w.heap.size]?=some (.cells cs ty (0,0)):=zvZ _ _;rw[run_store P _ _ v _ h,zvW _ _ _ _ _ _ hx,zuF hi];simp only[zvY _ _ i _ _ hx];simp[World.setCell_alloc_new]
def lnV:Value->Nat
 |.slice _ n _=>n
 |_=>0
structure RsS(w:World)(v:Value)(p:Pt)(b:Bool)(lv rv:Value):Prop where
 tr:zan w v p
 ass:AsS v p b lv rv
 sq:b=true->∃l r,p=.seq l r/\zan w lv l/\zan w rv r
 sh:(b=false/\lv=.nilIface/\rv=.nilIface)\/(b=true/\(∃t x,lv=.iface t x)/\∃t x,rv=.iface t x)
 wt:wPt p<=2000
theorem RsS.ol{b:Bool}{lv rv:Value}(h:RsS w v p b lv rv):lv.oneCell'=true/\rv.oneCell'=true:=by
 rcases h.sh with ⟨_,h1,h2⟩|⟨_,⟨_,_,h1⟩,⟨_,_,h2⟩⟩<;>rw[h1,h2]<;>exact⟨rfl,rfl⟩
theorem zuq(h:zan w v p)(hw:wPt p<=2000):∃b lv rv,RsS w v p b lv rv:=by
 obtain⟨b,lv,rv,h1,h2,h3⟩:=znh p v h;exact⟨b,lv,rv,⟨h,h1,h2,h3,hw⟩⟩
theorem znw(l r:Pt)(hIH:∀q,mz q<mz (.seq l r)->zcX q)(pl:Nat)(lv rv:Value)(w:World)(hl:zan w lv l)(hr:zan w rv r)(hw:wPt (.seq l r)<=2000):
  Calls Tryz.prog 158 #[.pointer (some ⟨pl,0,none⟩),.agg #[lv,rv]] w fun e w'=>FmR w pl (.seq l r) e w':=by
 obtain⟨i0,hi,hz0,hz1,hz2⟩:=info_parts Tryz.infoLink;have hT0:zan w (.iface 256 (.agg #[lv,rv])) (.seq l r):=⟨lv,rv,rfl,hl,hr⟩;have hk0:=zfm (.inl hT0) hw;have hlen:=zkd _ _ hT0 hw;obtain⟨t1,x1,rfl⟩:=zaC hl;obtain⟨t2,x2,rfl⟩:=zaC hr;obtain⟨b,lv',rv',hass,hseq,hsh⟩:=znh r _ hr;obtain⟨W0,hW0⟩:∃W0,w.alloc (.cells #[.iface t1 x1,.iface t2 x2] 256)=W0:=⟨_,rfl⟩;have hb0:Below w.heap.size w W0:=by rw[<-hW0];exact(Below.refl _ _).alloc (zvJ _) _
 have x0:W0.heap[w.heap.size]?=some (.cells #[.iface t1 x1,.iface t2 x2] 256 (0,0)):=by rw[<-hW0];exact zvZ _ _
 have c0:=(zaO x0).1;have hp0:=hIH l (zeN (by simp[szT];omega)) pl _ W0 (zan.keep (zaQ hb0) l _ hl) hk0.1;have HIH:=hidF hIH;have Hl:=hidF hl;have Hr:=hidF hr;clear hIH hl hr
 go_enter Tryz.func158,Tryz.ntmps158
 go_wp2_with fail
 refine hp0.mono ?_;intro e1 W1 hR1;obtain⟨a1,Q1,rfl,hbW1,hK1⟩:=(KdR.start w pl (fun _=>False) W0 hb0 (fun _ e=>e.elim)).add hR1;have hb1:=hK1.bel;have x1':W1.heap[w.heap.size]?=_:=(hbW1.block _ (zuH.1 x0).1).trans x0;obtain⟨W2,hW2⟩:∃W2,W1.alloc (.cells #[.pointer (some ⟨a1,0,none⟩),.bool false] 299)=W2:=⟨_,rfl⟩;have hb2:Below W1.heap.size W1 W2:=by rw[<-hW2];exact(Below.refl _ _).alloc (zvJ _) _
 have y1:W2.heap[W1.heap.size]?=some (.cells #[.pointer (some ⟨a1,0,none⟩),.bool false] 299 (0,0)):=by rw[<-hW2];exact zvZ _ _
 have own2:W2.ownsRow w.heap.size 299 2 (.slice (some ⟨W1.heap.size,0,none⟩) 1 1) 1 (lkL [(a1,(l,false))]):=⟨by simp[lkL],.inr ⟨W1.heap.size,1,_,rfl,hb1.size,y1,zvJ _,by unfold maxLen;omega,rfl,by simp[lkL]⟩⟩;have hC2:ChS w pl W2 Q1 (.slice (some ⟨W1.heap.size,0,none⟩) 1 1) [(a1,(l,false))]:=⟨hK1.turn (.of_below hb2) (fun k e=>by
   have e:W1.heap.size=k:=by simpa [Value.ownBlock] using e
   exact .inr (by omega)) (fun k e=>by
   have e:W1.heap.size=k:=by simpa [Value.ownBlock] using e
   subst e;exact⟨hb1.size,_,_,y1,by decide,by decide⟩),own2⟩
 have x2':W2.heap[w.heap.size]?=_:=(hb2.block _ (zuH.1 x1').1).trans x1';have c2:=(zaO x2').2;clear hR1 hK1 hp0 x0 x1' y1 own2 hW0 c0;have ol:lv'.oneCell'=true:=by rcases hsh with ⟨_,h,_⟩|⟨_,⟨_,_,h⟩,_⟩<;>rw[h]<;>rfl
 have or':rv'.oneCell'=true:=by rcases hsh with ⟨_,_,h⟩|⟨_,_,⟨_,_,h⟩⟩<;>rw[h]<;>rfl
 have hasr:=hass.1;have st0:=zdB (P:=Tryz.prog) W2 #[.nilIface,.nilIface] 256 lv' ol 0 (by simp);have st1:=zdB (P:=Tryz.prog) W2 #[lv',.nilIface] 256 rv' or' 1 (by simp);simp only[zvz,List.set_cons_zero,List.set_cons_succ] at st0 st1;obtain⟨W3,hW3⟩:∃W3,W2.alloc (.cells #[lv',rv'] 256)=W3:=⟨_,rfl⟩;have hb3:Below W2.heap.size W2 W3:=by rw[<-hW3];exact(Below.refl _ _).alloc (zvJ _) _
 have x3:W3.heap[W2.heap.size]?=some (.cells #[lv',rv'] 256 (0,0)):=by rw[<-hW3];exact zvZ _ _
 have HC3:=hidF (hC2.below hb3);have hs2:w.heap.size<=W2.heap.size:=hC2.kd.bel.size;have Hlk:Hid (zby (.seq l r)=(l,false)::zfc (zcy r)):=rfl;clear hC2 x2';have HR3:=hidF (show RsS w (.iface t2 x2) r b lv' rv' from⟨Hr.out,hass,hseq,hsh,hk0.2⟩);clear hass hseq hsh;go_wp2;clear hasr st0 st1 hW3 hW2 ol or' c2
 go_loopw [5,6,7,8] (fun lv6 rs bx ok wr=>∃(xs:List (Nat×Lnk)) (gL capL:Nat) (Q:Nat->Option Pt) (p':Pt) (t3:TypeId) (y3:Value) (b:Bool) (lv' rv':Value) (bxn:Nat),lv6=.slice (some ⟨gL,0,none⟩) xs.length capL/\rs=.iface t3 y3/\bx=.pointer (some ⟨bxn,0,none⟩)/\ok=.bool b/\Hid (ChS w pl wr Q (.slice (some ⟨gL,0,none⟩) xs.length capL) xs)/\Hid (RsS w (.iface t3 y3) p' b lv' rv')/\Hid (wr.heap[bxn]?=some (.cells #[lv',rv'] 256 (0,0)))/\Hid (xs.map Prod.snd++zfc (zcy p')=zby (.seq l r))/\mz p'<mz (.seq l r)/\xs.length<=2000)
  (fun lv6 _ _ _ _=>2001-lnV lv6)
 case atStart=>exact⟨[(a1,(l,false))],W1.heap.size,1,Q1,r,t2,x2,b,lv',rv',W2.heap.size,rfl,rfl,rfl,rfl,HC3,HR3,x3,Hlk.out.symm,zeN (by simp[szT];omega),by simp⟩
 case round=>
  clear HC3 HR3 x3 hb3 hb2 hb1 hbW1;obtain⟨xs,gL,capL,Q,p',t3,y3,b,lv',rv',bxn,rfl,rfl,rfl,rfl,HC,HR,HX,HL,hmz,hxl⟩:=hrel;cases b with
  |true=>
   obtain⟨l2,r2,rfl,hl2,hr2⟩:=HR.out.sq rfl;obtain⟨t4,y4,rfl⟩:=zaC hl2;obtain⟨t5,y5,rfl⟩:=zaC hr2;have hk2:=zfm (.inl HR.out.tr) HR.out.wt;have hbr:=HC.out.kd.bel;have z0:=(zaO HX.out).1;have hp:=HIH.out l2 (Nat.lt_trans (zeN (by simp[szT];omega)) hmz) pl _ wr (zan.keep (zaQ hbr) l2 _ hl2) hk2.1;obtain⟨b2,lv2,rv2,hR2⟩:=zuq hr2 hk2.2;have hlen2:xs.length+2<=2000:=by
    have:=congrArg List.length HL.out;simp[zfc,zcy] at this;have h2:0<(zcy r2).length:=by cases r2<;>simp[zcy]
    omega
   have HR2:=hidF hR2;have hasr:=hR2.ass.1;have ol:=hR2.ol;have hwr:=hbr.size;clear hR2 hl2 hr2
   go_wp2_with fail
   refine hp.mono ?_;intro e4 W4 hR4;obtain⟨a4,Q4,rfl,hb4,hK4⟩:=HC.out.kd.add hR4;have own4:=zac HC.out.own hb4;have X4:W4.heap[bxn]?=_:=(hb4.block _ (zuH.1 HX.out).1).trans HX.out;have HK4:=hidF hK4;have hs4:w.heap.size<=W4.heap.size:=hK4.bel.size;have hX7:∀W7:World,W4.grownBy W7 (some gL)->W7.heap[bxn]?=some (.cells #[.iface t4 y4,.iface t5 y5] 256 (0,0))/\W7.cell? ⟨bxn,0,none⟩=some (.iface t4 y4)/\W7.cell? ⟨bxn,1,none⟩=some (.iface t5 y5)/\Sem.run Tryz.prog (store ⟨W7.heap.size,0,none⟩ lv2) (W7.alloc (.cells #[.iface t4 y4,.iface t5 y5] 256))=.ok () (W7.alloc (.cells #[lv2,.iface t5 y5] 256))/\Sem.run Tryz.prog (store ⟨W7.heap.size,1,none⟩ rv2) (W7.alloc (.cells #[lv2,.iface t5 y5] 256))=.ok () (W7.alloc (.cells #[lv2,rv2] 256)):=fun W7 grow7=>by
    have hne:¬(some bxn:Option Nat)=some gL:=fun e=>by
     injection e with e
     obtain⟨_,cur,z2⟩:=zaD own4 (k:=bxn) (by simp[Value.ownBlock,e]);rw[X4] at z2;exact absurd (zad z2) (by decide)
    have X7:=(grow7.block bxn (zuH.1 X4).1 hne).trans X4;exact⟨X7,(zaO X7).1,(zaO X7).2,zdB W7 #[.iface t4 y4,.iface t5 y5] 256 lv2 ol.1 0 (by simp),zdB W7 #[lv2,.iface t5 y5] 256 rv2 ol.2 1 (by simp)⟩
   clear hp hR4 hK4 z0
   go_wp2_with (at_builtin;refine za9 rfl (.tmp 28) (.tmp 34) 300 rfl W4 #[.pointer (some ⟨a4,0,none⟩),.bool false] 299 rfl W4.heap.size rfl w.heap.size i0 _ 2 16 Tryz.underlying300 hi hz0 hz1 hz2 rfl (by omega) _ xs.length (lkL xs) rfl own4 rfl rfl (by intro u hu;simp at hu;rcases hu with rfl|rfl<;>rfl) (by omega) (by omega) hs4 ?_;intro g7 cap7 W7 own7 grow7 at7;obtain⟨X7,y0,y1,st0,st1⟩:=hX7 W7 grow7)
   have hC7:ChS w pl W7 Q4 (.slice (some ⟨g7,0,none⟩) (xs.length+1) cap7) (xs++[(a4,(l2,false))]):=ChS.push HK4.out own7 grow7 (at7.imp id (fun e=>by omega));obtain⟨W8,hW8⟩:∃W8,W7.alloc (.cells #[lv2,rv2] 256)=W8:=⟨_,rfl⟩;have hb8:Below W7.heap.size W7 W8:=by rw[<-hW8];exact(Below.refl _ _).alloc (zvJ _) _
   have X8:W8.heap[W7.heap.size]?=some (.cells #[lv2,rv2] 256 (0,0)):=by rw[<-hW8];exact zvZ _ _
   have HC8:=hidF (hC7.below hb8);have HL8:Hid ((xs++[(a4,(l2,false))]).map Prod.snd++zfc (zcy r2)=zby (.seq l r)):=by
    show _=_;rw[<-HL.out];simp[zfc,zcy]
   clear hC7 own7 grow7 X7 hX7 st0 st1 hasr ol y0 y1 HC HX HL HR hb8;subst hW8
   go_roundw
   case rel=>exact⟨xs++[(a4,(l2,false))],g7,cap7,Q4,r2,t5,y5,b2,lv2,rv2,W7.heap.size,by simp,rfl,rfl,rfl,by rw[zvh];exact HC8,HR2,X8,HL8,Nat.lt_trans (zeN (by simp[szT];omega)) hmz,by simp;omega⟩
   case measure=>simp[lnV];omega
  |false=>
   have hbr:=HC.out.kd.bel;have hp:=HIH.out p' hmz pl _ wr (zan.keep (zaQ hbr) p' _ HR.out.tr) HR.out.wt;have hfl:zcy p'=[p']:=by
    rcases HR.out.ass.2 with h|h
    ·cases h
    ·exact h
   have hlen2:xs.length+1<=2000:=by
    have:=congrArg List.length HL.out;simp[zfc,hfl] at this;omega
   have hwr:=hbr.size
   go_wp2_with fail
   refine hp.mono ?_;intro e4 W4 hR4;obtain⟨a4,Q4,rfl,hb4,hK4⟩:=HC.out.kd.add hR4;have own4:=zac HC.out.own hb4;have HK4:=hidF hK4;have hs4:w.heap.size<=W4.heap.size:=hK4.bel.size;obtain⟨xs7,Hxs7⟩:∃xs7,Hid (xs++[(a4,(p',false))]=xs7):=⟨_,rfl⟩;obtain⟨n7,Hn7⟩:∃n7,Hid (xs.length+1=n7):=⟨_,rfl⟩;have hlx7:xs7.length=n7:=by rw[<-Hxs7.out,<-Hn7.out];simp
   have hn79:n7<=2000:=by have:=Hn7.out;omega
   have HL7:Hid (xs7.map Prod.snd=zby (.seq l r)):=by
    show _=_;rw[<-HL.out,<-Hxs7.out,hfl];simp[zfc]
   have hC7:∀W7 g7 cap7,W7.ownsRow w.heap.size 299 2 (.slice (some ⟨g7,0,none⟩) (xs.length+1) cap7) (xs.length+1) (lkL xs++[.pointer (some ⟨a4,0,none⟩),.bool false])->W4.grownBy W7 (some gL)->(some gL=some g7\/W4.heap.size<=g7)->Hid (ChS w pl W7 Q4 (.slice (some ⟨g7,0,none⟩) n7 cap7) xs7):=fun W7 g7 cap7 h1 h2 h3=>by
    show ChS _ _ _ _ _ _;rw[<-Hn7.out,<-Hxs7.out];exact ChS.push HK4.out h1 h2 h3
   have hct:∀W7 g7 cap7,Hid (ChS w pl W7 Q4 (.slice (some ⟨g7,0,none⟩) n7 cap7) xs7)->Calls Tryz.prog 180 #[.slice (some ⟨g7,0,none⟩) n7 cap7,.func (.func 181) #[] #[]] W7 fun e w'=>∃b:Bool,e=.returned (.bool b)/\Hid (b=false->noG (.seq l r))/\Below W7.heap.size W7 w':=fun W7 g7 cap7 h=>by
    have hat:∀i,i<n7->PcAt w.heap.size W7 pl Q4 (lkA xs7 i) (lkQ xs7 i):=fun i hi=>h.out.at _ (zvt (zf7 (xs:=xs7) (i:=i) (by omega)))
    obtain⟨fs,f1,f2,f3⟩:=zmC n7 (lkA xs7) (lkQ xs7) hat;refine(zjO g7 cap7 n7 (lkA xs7) (lkO xs7) fs W7 (fun i hi=>?_) f1 f2 (by omega)).mono ?_
    ·have:=h.out.own;rw[<-hlx7] at this;exact zrN this (zf7 (by omega))
    ·rintro e w' ⟨b,rfl,k1,k2,hb⟩;refine⟨b,rfl,fun e=>zjZ _ fun q hq=>?_,hb⟩;have hq2:(q,false)∈xs7.map Prod.snd:=by rw[HL7.out];exact zvs.2 ⟨q,hq,rfl⟩
     obtain⟨x,hx,hx2⟩:=zvs.1 hq2;obtain⟨i,hi,rfl⟩:=List.getElem_of_mem hx;have h3:=f3 i (by omega) (k1 e i (by omega));have h4:=zf7 (xs:=xs7) (i:=i) hi;rw[zva hi] at h4;have h5:=Option.some.inj h4;rw[h5] at hx2;have:lkQ xs7 i=q:=congrArg Prod.fst hx2;rw[<-this];exact h3
   clear hp hR4 hK4
   go_wp2_with (at_builtin;refine za9 rfl (.tmp 39) (.tmp 44) 300 rfl W4 #[.pointer (some ⟨a4,0,none⟩),.bool false] 299 rfl W4.heap.size rfl w.heap.size i0 _ 2 16 Tryz.underlying300 hi hz0 hz1 hz2 rfl (by omega) _ xs.length (lkL xs) rfl own4 rfl rfl (by intro u hu;simp at hu;rcases hu with rfl|rfl<;>rfl) (by omega) (by omega) hs4 ?_;intro g7 cap7 W7 own7 grow7 at7;have HC7:=hC7 W7 g7 cap7 own7 grow7 (at7.imp id (fun e=>by omega));clear own7 grow7 at7)
   rw[Hn7.out];refine(hct W7 g7 cap7 HC7).mono ?_;rintro e8 W8 ⟨b8,rfl,Hno,hb8⟩;have hC8:=HC7.out.below hb8;have hbel:=hC8.kd.bel;clear hct hC7 HC HX HL HR own4 HK4;cases b8 with
   |false=>
    have HF:Hid (FmR w pl (.seq l r) (.returned .nilIface) W8):=⟨Q4,.nilIface,rfl,hbel,hC8.kd.pm,zpp (Hno.out rfl)⟩;clear hC8 Hno;go_wp2;go_ret;exact HF.out
   |true=>
    have HF:Hid (FmR w pl (.seq l r) (.returned (.iface 305 (.agg #[.slice (some ⟨g7,0,none⟩) n7 cap7]))) W8):=by
     refine⟨Q4,_,rfl,hbel,hC8.kd.pm,?_⟩;have h1:=hC8.own;have h2:=hC8.at;rw[<-hlx7] at h1 ⊢;exact zgK h1 HL7.out (fun _ _ e=>(by cases e)) (fun _ _ e=>(by cases e)) (fun _ e=>(by cases e)) (fun _ e=>(by cases e)) h2
    clear hC8 Hno;go_wp2;go_ret;exact HF.out
end Go.Proofs.YtdimhpfiieepiaaGreatDoor
