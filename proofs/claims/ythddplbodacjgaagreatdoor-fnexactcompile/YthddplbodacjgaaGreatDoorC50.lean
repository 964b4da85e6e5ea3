import Derived.Test.YthddplbodacjgaaGreatDoorC49
import Derived.ProofKit
import Derived.Deep.Slices
import Derived.Deep.Strs
import Derived.Lib.SmallJoins
namespace Go.Proofs.YthddplbodacjgaaGreatDoor
set_option maxHeartbeats 1000000
set_option maxRecDepth 100000
section
open Go.RowKit
attribute [local go_sem ↓] Go.wp_at_zero Go.wp_at_succ
theorem zr7{rs:List za0}{most code width:Int}{l:Nat->List Int}(h:CmR rs most code width l):∀i,i<4->(l i).length<=1048576:=by
 intro i hi;rcases h with h|h|h|h
 ·rw[h.2.2.2];simp
 ·rw[h.2.2.2.2];simp
 ·rw[h.2.2.2.2.2];simp
 ·obtain⟨K,_,_,_,e⟩:=h.2.2;rw[e];exact zqY _ i hi
theorem ziC{lo:Nat}(v:Value)(rs:List za0)(most:Int)(w:World)(hs:zaW lo w v rs)(hBr:zbj w)(h0:0<w.heap.size):
  Calls Tryz.prog 3 #[v,.int .i64 most] w fun e w'=>e=.returned (.bool true)/\Below w.heap.size w w':=by
 by_cases hneg:zcv rs 1048576<0
 ·obtain⟨ao,cap,rfl,hm,hc⟩:=id hs;have HS:Hid (zaW lo w (.slice ao rs.length cap) rs):=hs;clear hs hc hm hBr
  go_enter Tryz.func3,Tryz.ntmps3
  go_wp2_with fail
  refine(zic _ rs 1048576 _ HS.out (by omega) (by omega)).mono ?_;rintro e w1 ⟨rfl,hb1⟩;go_wp2;go_ret;exact⟨rfl,hb1⟩
 ·have hsm:zdB rs:=zib (by omega);obtain⟨code,width,l,hr⟩:=zqs rs most;exact ziB v rs most code width l w hs hneg (zr7 hr) hBr h0 (fun v w hx=>zhD v rs most code width l w hx hsm (zqW hsm) hr) (fun v w hx hB=>zhz v rs most code width l w hx hsm hB.out hr)
end
section
open Go.RowKit Go.ChangeShapes Go.WideShapes Go.ChangeAt
theorem Tryz.cellsInt:Tryz.prog.cellsOf 3=1:=by kernel_rfl
theorem Tryz.cellsBool:Tryz.prog.cellsOf 4=1:=by kernel_rfl
theorem Tryz.cellsRange:Tryz.prog.cellsOf 236=2:=by kernel_rfl
theorem Tryz.cellsRangeS:Tryz.prog.cellsOf 220=1:=by kernel_rfl
theorem Tryz.cellsNode:Tryz.prog.cellsOf 222=5:=by kernel_rfl
theorem Tryz.cellsNodeS:Tryz.prog.cellsOf 138=1:=by kernel_rfl
theorem Tryz.cellsBranch:Tryz.prog.cellsOf 140=3:=by kernel_rfl
theorem Tryz.cellsBranchS:Tryz.prog.cellsOf 37=1:=by kernel_rfl
theorem Tryz.cellsRule:Tryz.prog.cellsOf 39=2:=by kernel_rfl
section
variable {H:Type} {enc:TypeId×Value->H} {W:World} {spare:Nat->Bool} {held:Bool}
theorem znz{fuel:Nat}{cs:List Value}{x:DataW H×List MemPlace}(h:DataW.trod enc Tryz.prog W 0 spare held fuel 236 cs=some x):∃lo hi:Int,cs=[.int .i64 lo,.int .i64 hi]:=by
 obtain⟨y0,y1,n,_,hl,h0,h1⟩:=trod_struct2 Tryz.underlying236 h;rw[Tryz.cellsRange] at hl
 match cs,hl with
 |[c0,c1],_=>
  simp[Tryz.cellsInt] at h0 h1;obtain⟨a,e0,_,_⟩:=DataW.trod_int Tryz.underlying3 h0;obtain⟨b,e1,_,_⟩:=DataW.trod_int Tryz.underlying3 h1;simp only[List.cons.injEq,and_true] at e0 e1;exact⟨a,b,by rw[e0,e1]⟩
theorem zls{fuel:Nat}{c:Value}{x:DataW H×List MemPlace}(h:DataW.trod enc Tryz.prog W 0 spare held fuel 220 [c]=some x):∃rs,zan 0 W c rs:=by
 rcases Go.Deep.open_slice Tryz.underlying220 h with ⟨hc,_⟩|⟨a,len,cap,m,n,D,Pl,hc,_,hlc,hcm,hmm,_,hx⟩
 ·simp only[List.cons.injEq,and_true] at hc;exact⟨[],none,0,hc,by simp,fun h0=>absurd h0 (zuI _)⟩
 ·simp only[List.cons.injEq,and_true] at hc;have hlm:len<=m:=by rw[hmm];split<;>omega
  rw[Tryz.cellsRange] at hx;rcases zuy len with h0|h0
  ·subst h0;exact⟨[],some a,cap,hc,by simp,fun h0=>absurd h0 (zuI _)⟩
  ·obtain⟨b,o,C,rfl,hb,hC⟩:=ze8 (W:=W) (a:=a) (len:=len) (sz:=2) (E:=fun cs=>∃r:Int×Int,cs=[.int .i64 r.1,.int .i64 r.2]) (by omega) (fun i hi=>by
    obtain⟨cs',h1,h2⟩:=hx i (by omega);obtain⟨lo,hi',he⟩:=znz h2;exact⟨cs',h1,(lo,hi'),he⟩) h0
   obtain⟨F,hF⟩:=Go.Deep.choose_lt (α:=Int×Int) (p:=fun i r=>C i=[.int .i64 r.1,.int .i64 r.2]) (fun i hi=>(hC i hi).1);refine⟨(List.range len).map F,some ⟨b,o,none⟩,cap,by rw[hc];simp,by simp;exact zeA (zuA hlc hcm),fun _=>⟨b,o,rfl,zuL _,hb,fun i hi=>?_⟩⟩;have hi':i<len:=by simpa using hi
   rw[zct F (0,0) len i hi'];have q0:=(hC i hi').2 0 (by omega);have q1:=(hC i hi').2 1 (by omega);rw[hF i hi'] at q0 q1;exact⟨by simpa using q0,by simpa using q1⟩
theorem zpc{fuel:Nat}{cs:List Value}{x:DataW H×List MemPlace}(h:DataW.trod enc Tryz.prog W 0 spare held fuel 222 cs=some x):∃(nd:zau) (sv:Value),cs=[.int .i64 nd.kind,sv,.int .i64 nd.min,.int .i64 nd.max,.int .i64 nd.group]/\zan 0 W sv nd.set:=by
 obtain⟨xs,n,_,_,hl,hlen,hf⟩:=DataW.trod_struct Tryz.underlying222 h;rw[Tryz.cellsNode] at hl;obtain⟨y0,y1,y2,y3,y4,rfl⟩:=zs9 (show xs.length=5 from hlen);obtain⟨c0,c1,c2,c3,c4,rfl⟩:=zs9 hl
 ··have f0:=hf 0 _ rfl;have f1:=hf 1 _ rfl;have f2:=hf 2 _ rfl;have f3:=hf 3 _ rfl;have f4:=hf 4 _ rfl;simp[Tryz.cellsInt,Tryz.cellsRangeS] at f0 f1 f2 f3 f4;obtain⟨k,e0,_,_⟩:=DataW.trod_int Tryz.underlying3 f0;obtain⟨rs,hrs⟩:=zls f1;obtain⟨mn,e2,_,_⟩:=DataW.trod_int Tryz.underlying3 f2;obtain⟨mx,e3,_,_⟩:=DataW.trod_int Tryz.underlying3 f3;obtain⟨g,e4,_,_⟩:=DataW.trod_int Tryz.underlying3 f4;simp only[List.cons.injEq,and_true] at e0 e2 e3 e4;exact⟨⟨k,rs,mn,mx,g⟩,c1,by rw[e0,e2,e3,e4],hrs⟩
theorem zny{fuel:Nat}{c:Value}{x:DataW H×List MemPlace}(h:DataW.trod enc Tryz.prog W 0 spare held fuel 138 [c]=some x):∃ns,zaP 0 W c ns:=by
 rcases Go.Deep.open_slice Tryz.underlying138 h with ⟨hc,_⟩|⟨a,len,cap,m,n,D,Pl,hc,_,hlc,hcm,hmm,_,hx⟩
 ·simp only[List.cons.injEq,and_true] at hc;exact⟨[],none,0,hc,by simp,fun h0=>absurd h0 (zuI _)⟩
 ·simp only[List.cons.injEq,and_true] at hc;have hlm:len<=m:=by rw[hmm];split<;>omega
  rw[Tryz.cellsNode] at hx;rcases zuy len with h0|h0
  ·subst h0;exact⟨[],some a,cap,hc,by simp,fun h0=>absurd h0 (zuI _)⟩
  ·obtain⟨b,o,C,rfl,hb,hC⟩:=ze8 (W:=W) (a:=a) (len:=len) (sz:=5) (E:=fun cs=>∃q:zau×Value,cs=[.int .i64 q.1.kind,q.2,.int .i64 q.1.min,.int .i64 q.1.max,.int .i64 q.1.group]/\zan 0 W q.2 q.1.set) (by omega) (fun i hi=>by
    obtain⟨cs',h1,h2⟩:=hx i (by omega);obtain⟨nd,sv,he,hr⟩:=zpc h2;exact⟨cs',h1,(nd,sv),he,hr⟩) h0
   obtain⟨F,hF⟩:=@Go.Deep.choose_lt (zau×Value) ⟨(.zero,.nilIface)⟩ len (fun i q=>C i=[.int .i64 q.1.kind,q.2,.int .i64 q.1.min,.int .i64 q.1.max,.int .i64 q.1.group]/\zan 0 W q.2 q.1.set) (fun i hi=>(hC i hi).1);refine⟨(List.range len).map fun i=>(F i).1,some ⟨b,o,none⟩,cap,by rw[hc];simp,by simp;exact zeA (zuA hlc hcm),fun _=>⟨b,o,rfl,zuL _,hb,fun i hi=>?_⟩⟩;have hi':i<len:=by simpa using hi
   rw[zct (fun i=>(F i).1) .zero len i hi'];have q0:=(hC i hi').2 0 (by omega);have q1:=(hC i hi').2 1 (by omega);have q2:=(hC i hi').2 2 (by omega);have q3:=(hC i hi').2 3 (by omega);have q4:=(hC i hi').2 4 (by omega);rw[(hF i hi').1] at q0 q1 q2 q3 q4;exact⟨by simpa using q0,⟨(F i).2,by simpa using q1,(hF i hi').2⟩,by simpa using q2,by simpa using q3,by simpa using q4⟩
theorem zlr{fuel:Nat}{cs:List Value}{x:DataW H×List MemPlace}(h:DataW.trod enc Tryz.prog W 0 spare held fuel 140 cs=some x):∃(bd:zai) (nv:Value),cs=[.bool bd.bol,.bool bd.eol,nv]/\zaP 0 W nv bd.nodes:=by
 obtain⟨xs,n,_,_,hl,hlen,hf⟩:=DataW.trod_struct Tryz.underlying140 h;rw[Tryz.cellsBranch] at hl;obtain⟨y0,y1,y2,rfl⟩:=zs8 (show xs.length=3 from hlen);obtain⟨c0,c1,c2,rfl⟩:=zs8 hl
 ··have f0:=hf 0 _ rfl;have f1:=hf 1 _ rfl;have f2:=hf 2 _ rfl;simp[Tryz.cellsBool,Tryz.cellsNodeS] at f0 f1 f2;obtain⟨k,e0,_⟩:=DataW.trod_bool Tryz.underlying4 f0;obtain⟨k2,e1,_⟩:=DataW.trod_bool Tryz.underlying4 f1;obtain⟨ns,hns⟩:=zny f2;simp only[List.cons.injEq,and_true] at e0 e1;exact⟨⟨k,k2,ns⟩,c2,by rw[e0,e1],hns⟩
theorem ziN{fuel:Nat}{c:Value}{x:DataW H×List MemPlace}(h:DataW.trod enc Tryz.prog W 0 spare held fuel 37 [c]=some x):∃bs,zax 0 W c bs:=by
 rcases Go.Deep.open_slice Tryz.underlying37 h with ⟨hc,_⟩|⟨a,len,cap,m,n,D,Pl,hc,_,hlc,hcm,hmm,_,hx⟩
 ·simp only[List.cons.injEq,and_true] at hc;exact⟨[],none,0,hc,by simp,fun h0=>absurd h0 (zuI _)⟩
 ·simp only[List.cons.injEq,and_true] at hc;have hlm:len<=m:=by rw[hmm];split<;>omega
  rw[Tryz.cellsBranch] at hx;rcases zuy len with h0|h0
  ·subst h0;exact⟨[],some a,cap,hc,by simp,fun h0=>absurd h0 (zuI _)⟩
  ·obtain⟨b,o,C,rfl,hb,hC⟩:=ze8 (W:=W) (a:=a) (len:=len) (sz:=3) (E:=fun cs=>∃q:zai×Value,cs=[.bool q.1.bol,.bool q.1.eol,q.2]/\zaP 0 W q.2 q.1.nodes) (by omega) (fun i hi=>by
    obtain⟨cs',h1,h2⟩:=hx i (by omega);obtain⟨nd,sv,he,hr⟩:=zlr h2;exact⟨cs',h1,(nd,sv),he,hr⟩) h0
   obtain⟨F,hF⟩:=@Go.Deep.choose_lt (zai×Value) ⟨(.zero,.nilIface)⟩ len (fun i q=>C i=[.bool q.1.bol,.bool q.1.eol,q.2]/\zaP 0 W q.2 q.1.nodes) (fun i hi=>(hC i hi).1);refine⟨(List.range len).map fun i=>(F i).1,some ⟨b,o,none⟩,cap,by rw[hc];simp,by simp;exact zeA (zuA hlc hcm),fun _=>⟨b,o,rfl,zuL _,hb,fun i hi=>?_⟩⟩;have hi':i<len:=by simpa using hi
   rw[zct (fun i=>(F i).1) .zero len i hi'];have q0:=(hC i hi').2 0 (by omega);have q1:=(hC i hi').2 1 (by omega);have q2:=(hC i hi').2 2 (by omega);rw[(hF i hi').1] at q0 q1 q2;exact⟨by simpa using q0,by simpa using q1,⟨(F i).2,by simpa using q2,(hF i hi').2⟩⟩
end
end
open Go.RowKit Go.ChangeShapes Go.WideShapes Go.ChangeAt
section
variable {H:Type} {enc:TypeId×Value->H} {W:World} {spare:Nat->Bool} {held:Bool}
theorem zpd{fuel:Nat}{cs:List Value}{x:DataW H×List MemPlace}(h:DataW.trod enc Tryz.prog W 0 spare held fuel 39 cs=some x):∃(rd:za0) (bv:Value),cs=[bv,.int .i64 rd.groups]/\zax 0 W bv rd.branches:=by
 obtain⟨y0,y1,n,_,hl,h0,h1⟩:=trod_struct2 Tryz.underlying39 h;rw[Tryz.cellsRule] at hl
 match cs,hl with
 |[c0,c1],_=>
  simp[Tryz.cellsInt,Tryz.cellsBranchS] at h0 h1;obtain⟨bs,hbs⟩:=ziN h0;obtain⟨g,e1,_,_⟩:=DataW.trod_int Tryz.underlying3 h1;simp only[List.cons.injEq,and_true] at e1;exact⟨⟨bs,g⟩,c0,by rw[e1],hbs⟩
theorem znA{fuel:Nat}{c:Value}{x:DataW H×List MemPlace}(h:DataW.trod enc Tryz.prog W 0 spare held fuel 22 [c]=some x):∃rs,zaW 0 W c rs:=by
 rcases Go.Deep.open_slice Tryz.underlying22 h with ⟨hc,_⟩|⟨a,len,cap,m,n,D,Pl,hc,_,hlc,hcm,hmm,_,hx⟩
 ·simp only[List.cons.injEq,and_true] at hc;exact⟨[],none,0,hc,by simp,fun h0=>absurd h0 (zuI _)⟩
 ·simp only[List.cons.injEq,and_true] at hc;have hlm:len<=m:=by rw[hmm];split<;>omega
  rw[Tryz.cellsRule] at hx;rcases zuy len with h0|h0
  ·subst h0;exact⟨[],some a,cap,hc,by simp,fun h0=>absurd h0 (zuI _)⟩
  ·obtain⟨b,o,C,rfl,hb,hC⟩:=ze8 (W:=W) (a:=a) (len:=len) (sz:=2) (E:=fun cs=>∃q:za0×Value,cs=[q.2,.int .i64 q.1.groups]/\zax 0 W q.2 q.1.branches) (by omega) (fun i hi=>by
    obtain⟨cs',h1,h2⟩:=hx i (by omega);obtain⟨nd,sv,he,hr⟩:=zpd h2;exact⟨cs',h1,(nd,sv),he,hr⟩) h0
   obtain⟨F,hF⟩:=@Go.Deep.choose_lt (za0×Value) ⟨(.zero,.nilIface)⟩ len (fun i q=>C i=[q.2,.int .i64 q.1.groups]/\zax 0 W q.2 q.1.branches) (fun i hi=>(hC i hi).1);refine⟨(List.range len).map fun i=>(F i).1,some ⟨b,o,none⟩,cap,by rw[hc];simp,by simp;exact zeA (zuA hlc hcm),fun _=>⟨b,o,rfl,zuL _,hb,fun i hi=>?_⟩⟩;have hi':i<len:=by simpa using hi
   rw[zct (fun i=>(F i).1) .zero len i hi'];have q0:=(hC i hi').2 0 (by omega);have q1:=(hC i hi').2 1 (by omega);rw[(hF i hi').1] at q0 q1;exact⟨⟨(F i).2,by simpa using q0,(hF i hi').2⟩,by simpa using q1⟩
theorem znu{r:Reach}{b0:Nat}{v:Value}{d:DataW H}{p:List MemPlace}(hv:Value.okWide Tryz.prog W r b0 22 v)(h:DataW.Trod enc Tryz.prog W 0 spare held 22 v d p):∃rs,zaW 0 W v rs:=by
 obtain⟨a,l,c,rfl⟩:=okWide_slice Tryz.underlying22 hv;obtain⟨fuel,hf⟩:=h;exact znA hf
end
end Go.Proofs.YthddplbodacjgaaGreatDoor
