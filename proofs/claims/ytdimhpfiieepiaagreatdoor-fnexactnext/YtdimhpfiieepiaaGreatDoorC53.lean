import Derived.Test.YtdimhpfiieepiaaGreatDoorC52
import Derived.ProofKit
import Derived.Deep.Slices
import Derived.Deep.Strs
import Derived.Lib.SmallJoins
import Derived.Test.YtdimhpfiieepiaaGreatDoorRows
import Derived.Test.YtdimhpfiieepiaaGreatDoorCards
import Derived.Test.YtdimhpfiieepiaaGreatDoorTie
import Derived.ChangeMaps5
import Derived.ChangeSame
import Derived.ChangeVars
import Derived.JoinedOf
import Derived.RowKitTokens
import Derived.LaidLaws
import Derived.LaidHandle
import Derived.Lib.LaidTab
import Derived.SevenTiedAt
namespace Go.Proofs.YtdimhpfiieepiaaGreatDoor
set_option maxRecDepth 100000
section
open Go.RowKit Go.ChangeShapes Go.WideShapes Go.ChangeAt
theorem Tryz.cellsInt:Tryz.prog.cellsOf 3=1:=by kernel_rfl
theorem Tryz.cellsBool:Tryz.prog.cellsOf 4=1:=by kernel_rfl
theorem Tryz.cellsRange:Tryz.prog.cellsOf 325=2:=by kernel_rfl
theorem Tryz.cellsRangeS:Tryz.prog.cellsOf 250=1:=by kernel_rfl
theorem Tryz.cellsNode:Tryz.prog.cellsOf 252=5:=by kernel_rfl
theorem Tryz.cellsNodeS:Tryz.prog.cellsOf 170=1:=by kernel_rfl
theorem Tryz.cellsBranch:Tryz.prog.cellsOf 172=3:=by kernel_rfl
theorem Tryz.cellsBranchS:Tryz.prog.cellsOf 105=1:=by kernel_rfl
theorem Tryz.cellsRule:Tryz.prog.cellsOf 107=2:=by kernel_rfl
section
variable {H:Type} {enc:TypeId×Value->H} {W:World} {spare:Nat->Bool} {held:Bool}
theorem zol{fuel:Nat}{cs:List Value}{x:DataW H×List MemPlace}(h:DataW.trod enc Tryz.prog W 0 spare held fuel 325 cs=some x):∃lo hi:Int,cs=[.int .i64 lo,.int .i64 hi]:=by
 obtain⟨y0,y1,n,_,hl,h0,h1⟩:=trod_struct2 Tryz.underlying325 h;rw[Tryz.cellsRange] at hl
 match cs,hl with
 |[c0,c1],_=>
  simp[Tryz.cellsInt] at h0 h1;obtain⟨a,e0,_,_⟩:=DataW.trod_int Tryz.underlying3 h0;obtain⟨b,e1,_,_⟩:=DataW.trod_int Tryz.underlying3 h1;simp only[List.cons.injEq,and_true] at e0 e1;exact⟨a,b,by rw[e0,e1]⟩
theorem zl6{fuel:Nat}{c:Value}{x:DataW H×List MemPlace}(h:DataW.trod enc Tryz.prog W 0 spare held fuel 250 [c]=some x):∃rs,zal 0 W c rs:=by
 rcases Go.Deep.open_slice Tryz.underlying250 h with ⟨hc,_⟩|⟨a,len,cap,m,n,D,Pl,hc,_,hlc,hcm,hmm,_,hx⟩
 ·simp only[List.cons.injEq,and_true] at hc;exact⟨[],none,0,hc,by simp,fun h0=>absurd h0 (zvQ _)⟩
 ·simp only[List.cons.injEq,and_true] at hc;have hlm:len<=m:=by rw[hmm];split<;>omega
  rw[Tryz.cellsRange] at hx;rcases zvI len with h0|h0
  ·subst h0;exact⟨[],some a,cap,hc,by simp,fun h0=>absurd h0 (zvQ _)⟩
  ·obtain⟨b,o,C,rfl,hb,hC⟩:=zd5 (W:=W) (a:=a) (len:=len) (sz:=2) (E:=fun cs=>∃r:Int×Int,cs=[.int .i64 r.1,.int .i64 r.2]) (by omega) (fun i hi=>by
    obtain⟨cs',h1,h2⟩:=hx i (by omega);obtain⟨lo,hi',he⟩:=zol h2;exact⟨cs',h1,(lo,hi'),he⟩) h0
   obtain⟨F,hF⟩:=Go.Deep.choose_lt (α:=Int×Int) (p:=fun i r=>C i=[.int .i64 r.1,.int .i64 r.2]) (fun i hi=>(hC i hi).1);refine⟨(List.range len).map F,some ⟨b,o,none⟩,cap,by rw[hc];simp,by simp;exact zcV (zvK hlc hcm),fun _=>⟨b,o,rfl,zvT _,hb,fun i hi=>?_⟩⟩;have hi':i<len:=by simpa using hi
   rw[zcc F (0,0) len i hi'];have q0:=(hC i hi').2 0 (by omega);have q1:=(hC i hi').2 1 (by omega);rw[hF i hi'] at q0 q1;exact⟨by simpa using q0,by simpa using q1⟩
theorem zqm{fuel:Nat}{cs:List Value}{x:DataW H×List MemPlace}(h:DataW.trod enc Tryz.prog W 0 spare held fuel 252 cs=some x):∃(nd:zaq) (sv:Value),cs=[.int .i64 nd.kind,sv,.int .i64 nd.min,.int .i64 nd.max,.int .i64 nd.group]/\zal 0 W sv nd.set:=by
 obtain⟨xs,n,_,_,hl,hlen,hf⟩:=DataW.trod_struct Tryz.underlying252 h;rw[Tryz.cellsNode] at hl;obtain⟨y0,y1,y2,y3,y4,rfl⟩:=ztr (show xs.length=5 from hlen);obtain⟨c0,c1,c2,c3,c4,rfl⟩:=ztr hl
 ·· have f0:=hf 0 _ rfl;have f1:=hf 1 _ rfl;have f2:=hf 2 _ rfl;have f3:=hf 3 _ rfl;have f4:=hf 4 _ rfl;simp[Tryz.cellsInt,Tryz.cellsRangeS] at f0 f1 f2 f3 f4;obtain⟨k,e0,_,_⟩:=DataW.trod_int Tryz.underlying3 f0;obtain⟨rs,hrs⟩:=zl6 f1;obtain⟨mn,e2,_,_⟩:=DataW.trod_int Tryz.underlying3 f2;obtain⟨mx,e3,_,_⟩:=DataW.trod_int Tryz.underlying3 f3;obtain⟨g,e4,_,_⟩:=DataW.trod_int Tryz.underlying3 f4;simp only[List.cons.injEq,and_true] at e0 e2 e3 e4;exact⟨⟨k,rs,mn,mx,g⟩,c1,by rw[e0,e2,e3,e4],hrs⟩
theorem zok{fuel:Nat}{c:Value}{x:DataW H×List MemPlace}(h:DataW.trod enc Tryz.prog W 0 spare held fuel 170 [c]=some x):∃ns,zaI 0 W c ns:=by
 rcases Go.Deep.open_slice Tryz.underlying170 h with ⟨hc,_⟩|⟨a,len,cap,m,n,D,Pl,hc,_,hlc,hcm,hmm,_,hx⟩
 ·simp only[List.cons.injEq,and_true] at hc;exact⟨[],none,0,hc,by simp,fun h0=>absurd h0 (zvQ _)⟩
 ·simp only[List.cons.injEq,and_true] at hc;have hlm:len<=m:=by rw[hmm];split<;>omega
  rw[Tryz.cellsNode] at hx;rcases zvI len with h0|h0
  ·subst h0;exact⟨[],some a,cap,hc,by simp,fun h0=>absurd h0 (zvQ _)⟩
  ·obtain⟨b,o,C,rfl,hb,hC⟩:=zd5 (W:=W) (a:=a) (len:=len) (sz:=5) (E:=fun cs=>∃q:zaq×Value,cs=[.int .i64 q.1.kind,q.2,.int .i64 q.1.min,.int .i64 q.1.max,.int .i64 q.1.group]/\zal 0 W q.2 q.1.set) (by omega) (fun i hi=>by
    obtain⟨cs',h1,h2⟩:=hx i (by omega);obtain⟨nd,sv,he,hr⟩:=zqm h2;exact⟨cs',h1,(nd,sv),he,hr⟩) h0
   obtain⟨F,hF⟩:=@Go.Deep.choose_lt (zaq×Value) ⟨(.zero,.nilIface)⟩ len (fun i q=>C i=[.int .i64 q.1.kind,q.2,.int .i64 q.1.min,.int .i64 q.1.max,.int .i64 q.1.group]/\zal 0 W q.2 q.1.set) (fun i hi=>(hC i hi).1);refine⟨(List.range len).map fun i=>(F i).1,some ⟨b,o,none⟩,cap,by rw[hc];simp,by simp;exact zcV (zvK hlc hcm),fun _=>⟨b,o,rfl,zvT _,hb,fun i hi=>?_⟩⟩;have hi':i<len:=by simpa using hi
   rw[zcc (fun i=>(F i).1) .zero len i hi'];have q0:=(hC i hi').2 0 (by omega);have q1:=(hC i hi').2 1 (by omega);have q2:=(hC i hi').2 2 (by omega);have q3:=(hC i hi').2 3 (by omega);have q4:=(hC i hi').2 4 (by omega);rw[(hF i hi').1] at q0 q1 q2 q3 q4;exact⟨by simpa using q0,⟨(F i).2,by simpa using q1,(hF i hi').2⟩,by simpa using q2,by simpa using q3,by simpa using q4⟩
theorem zl5{fuel:Nat}{cs:List Value}{x:DataW H×List MemPlace}(h:DataW.trod enc Tryz.prog W 0 spare held fuel 172 cs=some x):∃(bd:zah) (nv:Value),cs=[.bool bd.bol,.bool bd.eol,nv]/\zaI 0 W nv bd.nodes:=by
 obtain⟨xs,n,_,_,hl,hlen,hf⟩:=DataW.trod_struct Tryz.underlying172 h;rw[Tryz.cellsBranch] at hl;obtain⟨y0,y1,y2,rfl⟩:=zub (show xs.length=3 from hlen);obtain⟨c0,c1,c2,rfl⟩:=zub hl
 ·· have f0:=hf 0 _ rfl;have f1:=hf 1 _ rfl;have f2:=hf 2 _ rfl;simp[Tryz.cellsBool,Tryz.cellsNodeS] at f0 f1 f2;obtain⟨k,e0,_⟩:=DataW.trod_bool Tryz.underlying4 f0;obtain⟨k2,e1,_⟩:=DataW.trod_bool Tryz.underlying4 f1;obtain⟨ns,hns⟩:=zok f2;simp only[List.cons.injEq,and_true] at e0 e1;exact⟨⟨k,k2,ns⟩,c2,by rw[e0,e1],hns⟩
theorem zjl{fuel:Nat}{c:Value}{x:DataW H×List MemPlace}(h:DataW.trod enc Tryz.prog W 0 spare held fuel 105 [c]=some x):∃bs,zao 0 W c bs:=by
 rcases Go.Deep.open_slice Tryz.underlying105 h with ⟨hc,_⟩|⟨a,len,cap,m,n,D,Pl,hc,_,hlc,hcm,hmm,_,hx⟩
 ·simp only[List.cons.injEq,and_true] at hc;exact⟨[],none,0,hc,by simp,fun h0=>absurd h0 (zvQ _)⟩
 ·simp only[List.cons.injEq,and_true] at hc;have hlm:len<=m:=by rw[hmm];split<;>omega
  rw[Tryz.cellsBranch] at hx;rcases zvI len with h0|h0
  ·subst h0;exact⟨[],some a,cap,hc,by simp,fun h0=>absurd h0 (zvQ _)⟩
  ·obtain⟨b,o,C,rfl,hb,hC⟩:=zd5 (W:=W) (a:=a) (len:=len) (sz:=3) (E:=fun cs=>∃q:zah×Value,cs=[.bool q.1.bol,.bool q.1.eol,q.2]/\zaI 0 W q.2 q.1.nodes) (by omega) (fun i hi=>by
    obtain⟨cs',h1,h2⟩:=hx i (by omega);obtain⟨nd,sv,he,hr⟩:=zl5 h2;exact⟨cs',h1,(nd,sv),he,hr⟩) h0
   obtain⟨F,hF⟩:=@Go.Deep.choose_lt (zah×Value) ⟨(.zero,.nilIface)⟩ len (fun i q=>C i=[.bool q.1.bol,.bool q.1.eol,q.2]/\zaI 0 W q.2 q.1.nodes) (fun i hi=>(hC i hi).1);refine⟨(List.range len).map fun i=>(F i).1,some ⟨b,o,none⟩,cap,by rw[hc];simp,by simp;exact zcV (zvK hlc hcm),fun _=>⟨b,o,rfl,zvT _,hb,fun i hi=>?_⟩⟩;have hi':i<len:=by simpa using hi
   rw[zcc (fun i=>(F i).1) .zero len i hi'];have q0:=(hC i hi').2 0 (by omega);have q1:=(hC i hi').2 1 (by omega);have q2:=(hC i hi').2 2 (by omega);rw[(hF i hi').1] at q0 q1 q2;exact⟨by simpa using q0,by simpa using q1,⟨(F i).2,by simpa using q2,(hF i hi').2⟩⟩
end
end
section
open Go.RowKit Go.ChangeShapes Go.WideShapes Go.ChangeAt
theorem Tryz.cellsIntS:Tryz.prog.cellsOf 23=1:=by kernel_rfl
theorem Tryz.cellsRuleS:Tryz.prog.cellsOf 22=1:=by kernel_rfl
theorem Tryz.cellsStr:Tryz.prog.cellsOf 9=1:=by kernel_rfl
theorem Tryz.cellsSess:Tryz.prog.cellsOf 29=5:=by kernel_rfl
theorem Tryz.cellsTabM:Tryz.prog.cellsOf 25=8:=by kernel_rfl
theorem Tryz.cellsMat:Tryz.prog.cellsOf 27=9:=by kernel_rfl
theorem zs2{α:Type}{cs:Array α}(h:cs.size=5):∃c0 c1 c2 c3 c4,cs=#[c0,c1,c2,c3,c4]:=by
 obtain⟨l⟩:=cs
 match l,h with
 |[c0,c1,c2,c3,c4],_=>exact⟨c0,c1,c2,c3,c4,rfl⟩
theorem zs3{α:Type}{cs:Array α}(h:cs.size=9):∃c0 c1 c2 c3 c4 c5 c6 c7 c8,cs=#[c0,c1,c2,c3,c4,c5,c6,c7,c8]:=by
 obtain⟨l⟩:=cs
 match l,h with
 |[c0,c1,c2,c3,c4,c5,c6,c7,c8],_=>exact⟨c0,c1,c2,c3,c4,c5,c6,c7,c8,rfl⟩
theorem zuc{α:Type}{l:List α}(h:l.length=8):∃c0 c1 c2 c3 c4 c5 c6 c7,l=[c0,c1,c2,c3,c4,c5,c6,c7]:=by
 match l,h with
 |[c0,c1,c2,c3,c4,c5,c6,c7],_=>exact⟨c0,c1,c2,c3,c4,c5,c6,c7,rfl⟩
section
variable {H:Type} {enc:TypeId×Value->H} {W:World} {spare:Nat->Bool} {held:Bool}
theorem zc5{fuel:Nat}{c:Value}{x:DataW H×List MemPlace}(h:DataW.trod enc Tryz.prog W 0 spare held fuel 23 [c]=some x):∃xs,zbr 0 W c xs:=by
 rcases Go.Deep.open_slice Tryz.underlying23 h with ⟨hc,_⟩|⟨a,len,cap,m,n,D,Pl,hc,_,hlc,hcm,hmm,_,hx⟩
 ·simp only[List.cons.injEq,and_true] at hc;exact⟨[],none,0,hc,by simp,fun h0=>absurd h0 (zvQ _)⟩
 ·simp only[List.cons.injEq,and_true] at hc;have hlm:len<=m:=by rw[hmm];split<;>omega
  rw[Tryz.cellsInt] at hx;rcases zvI len with h0|h0
  ·subst h0;exact⟨[],some a,cap,hc,by simp,fun h0=>absurd h0 (zvQ _)⟩
  ·obtain⟨b,o,C,rfl,hb,hC⟩:=zd5 (W:=W) (a:=a) (len:=len) (sz:=1) (E:=fun cs=>∃r:Int,cs=[.int .i64 r]) (by omega) (fun i hi=>by
    obtain⟨cs',h1,h2⟩:=hx i (by omega);obtain⟨k,he,_,_⟩:=DataW.trod_int Tryz.underlying3 h2;exact⟨cs',h1,k,he⟩) h0
   obtain⟨F,hF⟩:=Go.Deep.choose_lt (α:=Int) (p:=fun i r=>C i=[.int .i64 r]) (fun i hi=>(hC i hi).1);refine⟨(List.range len).map F,some ⟨b,o,none⟩,cap,by rw[hc];simp,by simp;exact zcV (zvK hlc hcm),fun _=>⟨b,o,rfl,zvT _,hb,fun i hi=>?_⟩⟩;have hi':i<len:=by simpa using hi
   rw[zcc F 0 len i hi'];have q0:=(hC i hi').2 0 (by omega);rw[hF i hi'] at q0
   simpa using q0
theorem zqn{fuel:Nat}{cs:List Value}{x:DataW H×List MemPlace}(h:DataW.trod enc Tryz.prog W 0 spare held fuel 107 cs=some x):∃(rd:zaG) (bv:Value),cs=[bv,.int .i64 rd.groups]/\zao 0 W bv rd.branches:=by
 obtain⟨y0,y1,n,_,hl,h0,h1⟩:=trod_struct2 Tryz.underlying107 h;rw[Tryz.cellsRule] at hl
 match cs,hl with
 |[c0,c1],_=>
  simp[Tryz.cellsInt,Tryz.cellsBranchS] at h0 h1;obtain⟨bs,hbs⟩:=zjl h0;obtain⟨g,e1,_,_⟩:=DataW.trod_int Tryz.underlying3 h1;simp only[List.cons.injEq,and_true] at e1;exact⟨⟨bs,g⟩,c0,by rw[e1],hbs⟩
theorem zom{fuel:Nat}{c:Value}{x:DataW H×List MemPlace}(h:DataW.trod enc Tryz.prog W 0 spare held fuel 22 [c]=some x):∃rs,zaY 0 W c rs:=by
 rcases Go.Deep.open_slice Tryz.underlying22 h with ⟨hc,_⟩|⟨a,len,cap,m,n,D,Pl,hc,_,hlc,hcm,hmm,_,hx⟩
 ·simp only[List.cons.injEq,and_true] at hc;exact⟨[],none,0,hc,by simp,fun h0=>absurd h0 (zvQ _)⟩
 ·simp only[List.cons.injEq,and_true] at hc;have hlm:len<=m:=by rw[hmm];split<;>omega
  rw[Tryz.cellsRule] at hx;rcases zvI len with h0|h0
  ·subst h0;exact⟨[],some a,cap,hc,by simp,fun h0=>absurd h0 (zvQ _)⟩
  ·obtain⟨b,o,C,rfl,hb,hC⟩:=zd5 (W:=W) (a:=a) (len:=len) (sz:=2) (E:=fun cs=>∃q:zaG×Value,cs=[q.2,.int .i64 q.1.groups]/\zao 0 W q.2 q.1.branches) (by omega) (fun i hi=>by
    obtain⟨cs',h1,h2⟩:=hx i (by omega);obtain⟨nd,sv,he,hr⟩:=zqn h2;exact⟨cs',h1,(nd,sv),he,hr⟩) h0
   obtain⟨F,hF⟩:=@Go.Deep.choose_lt (zaG×Value) ⟨(.zero,.nilIface)⟩ len (fun i q=>C i=[q.2,.int .i64 q.1.groups]/\zao 0 W q.2 q.1.branches) (fun i hi=>(hC i hi).1);refine⟨(List.range len).map fun i=>(F i).1,some ⟨b,o,none⟩,cap,by rw[hc];simp,by simp;exact zcV (zvK hlc hcm),fun _=>⟨b,o,rfl,zvT _,hb,fun i hi=>?_⟩⟩;have hi':i<len:=by simpa using hi
   rw[zcc (fun i=>(F i).1) .zero len i hi'];have q0:=(hC i hi').2 0 (by omega);have q1:=(hC i hi').2 1 (by omega);rw[(hF i hi').1] at q0 q1;exact⟨⟨(F i).2,by simpa using q0,(hF i hi').2⟩,by simpa using q1⟩
theorem zp3{r:Reach}{b0:Nat}{v:Value}{d:DataW H}{p:List MemPlace}(hv:Value.okWide Tryz.prog W r b0 29 v)(h:DataW.Trod enc Tryz.prog W 0 spare held 29 v d p):
  ∃s:zbs,v=.agg #[.int .i64 s.L,.string s.B,.bool s.C,.int .i64 s.S,.int .i64 s.N]/\s.B.size<=9223372036854775807:=by
 obtain⟨cs,rfl,hsz⟩:=okWide_struct Tryz.underlying29 hv;obtain⟨c0,c1,c2,c3,c4,rfl⟩:=zs2 (hsz.trans Tryz.cellsSess);obtain⟨fuel,hf0⟩:=h;obtain⟨xs,n,_,_,_,hlen,hf⟩:=DataW.trod_struct Tryz.underlying29 hf0;obtain⟨y0,y1,y2,y3,y4,rfl⟩:=ztr (show xs.length=5 from hlen);have f0:=hf 0 _ rfl;have f1:=hf 1 _ rfl;have f2:=hf 2 _ rfl;have f3:=hf 3 _ rfl;have f4:=hf 4 _ rfl;simp[Tryz.cellsInt,Tryz.cellsStr,Tryz.cellsBool,Value.cells] at f0 f1 f2 f3 f4;obtain⟨L,e0,_,_⟩:=DataW.trod_int Tryz.underlying3 f0;obtain⟨B,e1,_,hB⟩:=DataW.trod_string Tryz.underlying9 f1;obtain⟨C,e2,_⟩:=DataW.trod_bool Tryz.underlying4 f2;obtain⟨S,e3,_,_⟩:=DataW.trod_int Tryz.underlying3 f3;obtain⟨N,e4,_,_⟩:=DataW.trod_int Tryz.underlying3 f4;simp only[List.cons.injEq,and_true] at e0 e1 e2 e3 e4;exact⟨⟨L,B,C,S,N⟩,by rw[e0,e1,e2,e3,e4],zcV hB⟩
theorem zsg{fuel:Nat}{c1 c2 c3 c4 c5 c6 c7 c8:Value}{x:DataW H×List MemPlace}(h:DataW.trod enc Tryz.prog W 0 spare held fuel 25 [c1,c2,c3,c4,c5,c6,c7,c8]=some x):∃D:TabD,c2=.int .i64 D.width/\zbe 0 W c1 c3 c4 c5 c6 c7 c8 D:=by
 obtain⟨xs,n,_,_,_,hlen,hf⟩:=DataW.trod_struct Tryz.underlying25 h;obtain⟨y1,y2,y3,y4,y5,y6,y7,y8,rfl⟩:=zuc (show xs.length=8 from hlen);have f1:=hf 0 _ rfl;have f2:=hf 1 _ rfl;have f3:=hf 2 _ rfl;have f4:=hf 3 _ rfl;have f5:=hf 4 _ rfl;have f6:=hf 5 _ rfl;have f7:=hf 6 _ rfl;have f8:=hf 7 _ rfl;simp[Tryz.cellsInt,Tryz.cellsIntS] at f1 f2 f3 f4 f5 f6 f7 f8;obtain⟨wd,e2,_,_⟩:=DataW.trod_int Tryz.underlying3 f2;obtain⟨l1,h1⟩:=zc5 f1;obtain⟨l3,h3⟩:=zc5 f3;obtain⟨l4,h4⟩:=zc5 f4;obtain⟨l5,h5⟩:=zc5 f5;obtain⟨l6,h6⟩:=zc5 f6;obtain⟨l7,h7⟩:=zc5 f7;obtain⟨l8,h8⟩:=zc5 f8;simp only[List.cons.injEq,and_true] at e2;exact⟨⟨l1,wd,l3,l4,l5,l6,l7,l8⟩,e2,h1,h3,h4,h5,h6,h7,h8⟩
theorem zrY{r:Reach}{b0:Nat}{v:Value}{d:DataW H}{p:List MemPlace}(hv:Value.okWide Tryz.prog W r b0 27 v)(h:DataW.Trod enc Tryz.prog W 0 spare held 27 v d p):
  ∃(ao:Option Addr) (rc:Nat) (cv bv fv tv ev nv kv:Value) (rs:List zaG) (D:TabD),v=.agg #[.slice ao rs.length rc,cv,.int .i64 D.width,bv,fv,tv,ev,nv,kv]/\zaY 0 W (.slice ao rs.length rc) rs/\zbe 0 W cv bv fv tv ev nv kv D:=by
 obtain⟨cs,rfl,hsz⟩:=okWide_struct Tryz.underlying27 hv;obtain⟨c0,c1,c2,c3,c4,c5,c6,c7,c8,rfl⟩:=zs3 (hsz.trans Tryz.cellsMat);obtain⟨fuel,hf0⟩:=h;obtain⟨y0,y1,n,_,hl,h0,h1⟩:=trod_struct2 Tryz.underlying27 hf0;simp[Tryz.cellsRuleS,Tryz.cellsTabM,Value.cells] at h0 h1;obtain⟨rs,hrs⟩:=zom h0;obtain⟨D,e2,hD⟩:=zsg h1;obtain⟨ao,rc,e0,hr⟩:=hrs;exact⟨ao,rc,c1,c3,c4,c5,c6,c7,c8,rs,D,by rw[e2,e0],⟨ao,rc,rfl,hr⟩,hD⟩
end
end
open Go.ChangeShapes Go.WideShapes Go.ChangeAt Go.RowKit Go.Joins
theorem Tryz.own:ownKnob Tryz.prog.godebug=none:=by kernel_rfl
theorem Tryz.laidOut:laidOutB Tryz.prog=true:=by kernel_rfl
theorem Tryz.tabNamed:Tryz.prog.globalNamed "math/bits.deBruijn64tab" = some 0:=by kernel_rfl
theorem Tryz.tabType:(Tryz.prog.globals[0]?).map (·.type)=some 280:=by kernel_rfl
theorem Tryz.cellsByte:Tryz.prog.cellsOf 5=1:=by kernel_rfl
theorem Tryz.cellsTab:Tryz.prog.cellsOf 280=64:=by kernel_rfl
theorem zhI{W:World}(h:laidMetH Tryz.prog Rows.fnExactNextRow.laid W):za7 W:=by
 have h':laidMet Tryz.prog [("math/bits.deBruijn64tab",Lib.tabData .u8 (zkQ.map fun n:Nat=>(n:Int)))] W:=h;have hT:=Lib.tabIs_of_head Tryz.tabNamed Tryz.tabType Tryz.underlying280 Tryz.underlying5 Tryz.cellsByte Tryz.cellsTab h';intro i hi;have hi':i<zkQ.length:=hi;have:=hT.cell Tryz.tabNamed i (by simpa using hi');rw[this];simp[List.getD,hi']
noncomputable def zj8 (os:Os):World:=
 {World.holding Tryz.prog os ⟨#[],#[],[]⟩ with heap:=(World.holding Tryz.prog os ⟨#[],#[],[]⟩).heap.modify 0 fun
   |.cells _ t frozen=>.cells (zkQ.map fun n:Nat=>Value.int .u8 (n:Int)).toArray t frozen
   |o=>o}
theorem zi6(os:Os)(args:Array Value):laidMetH Tryz.prog Rows.fnExactNextRow.laid ((zj8 os).forCall (fun _ _=>0) ⟨#[],args,[]⟩).memory:=
 laidMet_of_run' 8 (by kernel_rfl) (by kernel_rfl)
theorem ze2(os:Os)(started:os.Started)(H:Type)(enc:TypeId×Value->H):
  ReturnsInHanded {} Tryz.checked os 3 .any (fun w args=>(Rows.fnExactNextSpec.pre enc Tryz.prog Tryz.f3 Rows.fnExactNextRow.domain false w args/\laidMetH Tryz.prog Rows.fnExactNextRow.laid w)/\sizedMet enc Tryz.prog Tryz.f3 (OpenSpec.ofChange Rows.fnExactNextSpec) false w args)
   (Rows.fnExactNextSpec.post enc Tryz.prog Tryz.f3 false true false false):=by
 refine returnsInHanded_of_change_and (C:=Tryz.checked) (X:=fun w _=>laidMetH Tryz.prog Rows.fnExactNextRow.laid w) (fun _ _ _ hh h=>h.of_heap hh) Tryz.own started (by kernel_rfl) Tryz.func3
  (ChangeSpec.witness_at (enc:=enc) (C:=Tryz.checked) (os:=os) (X:=fun w _=>laidMetH Tryz.prog Rows.fnExactNextRow.laid w) false (zj8 os) #[.agg #[.slice none 0 0,.slice none 0 0,.int .i64 0,.slice none 0 0,.slice none 0 0,.slice none 0 0,.slice none 0 0,.slice none 0 0,.slice none 0 0],.agg #[.int .i64 0,.string ⟨#[]⟩,.bool false,.int .i64 0,.int .i64 0]] 8 rfl (by kernel_rfl) (by kernel_rfl) (by kernel_rfl) (by kernel_rfl) (by kernel_rfl) (zi6 os _)) ?_
 intro W base args ds gs before hval0 hW _ _ hL _;have hval:∀(j:Nat) t v,Tryz.f3.params[j]?=some t->args[j]?=some v->Value.okWide Tryz.prog W .any base t v:=hval0;have hW':=hW;obtain⟨p,q,hA0,hV,rfl,hfz,hnd⟩:=hW;have hA:DataW.TrodAll enc Tryz.prog W 0 (fun _=>true) true Tryz.f3.params.toList args.toList ds p:=hA0;rw[Tryz.params3] at hA hval;obtain⟨v0,vs0,d0,ds0,p0,q0,hargs,rfl,rfl,h0,r0⟩:=trodAll_cons hA;obtain⟨v1,vs1,d1,ds1,p1,q1,rfl,rfl,rfl,h1,r1⟩:=trodAll_cons r0;obtain⟨rfl,rfl,rfl⟩:=trodAll_nil r1;obtain rfl:args=#[v0,v1]:=by cases args;simp_all
 obtain⟨rfl,rfl⟩:=trodVars_none hV;have k0:=h0;have lt0:∀x∈p0,x.block<W.heap.size:=by obtain⟨m,hm⟩:=k0;exact DataW.trod_lt m _ _ _ hm
 have k1:=h1;have lt1:∀x∈p1,x.block<W.heap.size:=by obtain⟨m,hm⟩:=k1;exact DataW.trod_lt m _ _ _ hm
 obtain⟨ao,rc,cv,bv,fv,tv,ev,nv,kv,rs,D,rfl,hrs,hD⟩:=zrY (hval 0 27 v0 rfl rfl) h0;obtain⟨s,rfl,hsB⟩:=zp3 (hval 1 29 v1 rfl rfl) h1;clear hA0 hval0;have hB:=zhI hL;refine(znT ao rc cv bv fv tv ev nv kv rs D s W hrs hD hsB hB).mono fun e W' ⟨he,bel⟩=>?_
 subst he;exact⟨_,rfl,_,_,_,[],_,[],hW',trodAll_mk1 (shut_bool Tryz.underlying4 _),(trodAll_cons_mk (Below.trod Tryz.laidOut (by kernel_rfl) (of_decide_eq_true (by kernel_rfl)) k0 bel lt0) (trodAll_cons_mk (Below.trod Tryz.laidOut (by kernel_rfl) (of_decide_eq_true (by kernel_rfl)) k1 bel lt1) trodAll_mk0)),rfl,bel.frame _,fun h=>by cases h⟩
theorem zgL:Rows.FnExactNextSaid:=
 OpenClaim.holds_of_wide 3 Tryz.f3 rfl rfl rfl rfl rfl rfl rfl ⟨rfl,rfl,rfl,rfl,rfl⟩ rfl rfl rfl rfl rfl (by kernel_rfl) Tryz.func3 (by kernel_rfl)
  (of_decide_eq_true (by kernel_rfl)) (by unfold Func.isWrapper;first|(rw[zv3 (by decide +kernel)];kernel_rfl)|(rw[zv2 (by decide +kernel)];exact⟨rfl,rfl⟩))
  (fun os started H enc _=>ze2 os started H enc)
theorem fnExactNext_holds:Rows.FnExactNextCardSaid:=
 Claim7.holds_tied_plain_at .later [] [.data] true Rows.fnExactNextCard.stood.harness Rows.fnExactNextCard.stood.looks
  zgL (fun _ h=>by cases h) (by kernel_rfl) (fun _ h=>by cases h) fnExactNext_row_tie rfl ⟨rfl,rfl⟩ (by kernel_rfl) rfl
  (fun f fn hf hfn=>by
   obtain rfl:f=3:=Option.some.inj ((show Tryz.prog.funcNamed "loop.example/s0007/laws.FnExactNext" = some 3 by kernel_rfl).symm.trans hf) |>.symm
   obtain rfl:fn=Tryz.f3:=(Option.some.inj (Tryz.func3.symm.trans hfn)).symm;exact⟨by kernel_rfl,fun j t ht=>by
    rw[Tryz.params3] at ht;have h3:t=27\/t=29:=by
     rcases j with _|_|j
     ·exact .inl (by simpa using ht.symm)
     ·exact .inr (by simpa using ht.symm)
     ·simp at ht
    rcases h3 with h3|h3
    ·subst h3;exact(show Tryz.prog.wantsStandIn 27=false by kernel_rfl)
    ·subst h3;exact(show Tryz.prog.wantsStandIn 29=false by kernel_rfl)⟩)
  (by kernel_rfl)
#print axioms fnExactNext_holds
end Go.Proofs.YtdimhpfiieepiaaGreatDoor
