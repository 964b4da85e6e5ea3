import Derived.Test.YtdimhpfiieepiaaGreatDoorC52
import Derived.ProofKit
import Derived.Deep.Slices
import Derived.Deep.Strs
import Derived.Lib.SmallJoins
import Derived.Test.YtdimhpfiieepiaaGreatDoorRows
import Derived.Test.YtdimhpfiieepiaaGreatDoorCards
import Derived.Test.YtdimhpfiieepiaaGreatDoorTie
import Derived.ChangeMaps5
import Derived.ChangeSame
import Derived.ChangeVars
import Derived.JoinedOf
import Derived.RowKitTokens
import Derived.LaidLaws
import Derived.LaidHandle
import Derived.Lib.LaidTab
import Derived.SevenTiedAt
namespace Go.Proofs.YtdimhpfiieepiaaGreatDoor
open Proofs.Tryz
open Value renaming int->za,slice->ze
open Go renaming Value->zb,World->zf,TypeId->zg
open Option renaming some->zc,none->zd
set_option maxRecDepth 100000
section
open Go.RowKit Go.ChangeShapes Go.WideShapes Go.ChangeAt
theorem Tryz.Gi:prog.cellsOf 3=1:=by kernel_rfl
theorem Tryz.Zh:prog.cellsOf 4=1:=by kernel_rfl
theorem Tryz.Zk:prog.cellsOf 325=2:=by kernel_rfl
theorem Tryz.zxJ:prog.cellsOf 250=1:=by kernel_rfl
theorem Tryz.Zj:prog.cellsOf 252=5:=by kernel_rfl
theorem Tryz.zxI:prog.cellsOf 170=1:=by kernel_rfl
theorem Tryz.Zi:prog.cellsOf 172=3:=by kernel_rfl
theorem Tryz.zxE:prog.cellsOf 105=1:=by kernel_rfl
theorem Tryz.Zl:prog.cellsOf 107=2:=by kernel_rfl
section
variable {H:Type} {enc:zg×zb->H} {W:zf} {spare:Nat->Bool} {held:Bool}
theorem znR{fuel:Nat}{cs:List zb}{x:DataW H×List MemPlace}(h:DataW.trod enc prog W 0 spare held fuel 325 cs=zc x):∃lo hi:Int,cs=[za .i64 lo,za .i64 hi]:=by
 obtain⟨y0,y1,n,_,hl,h0,h1⟩:=trod_struct2 underlying325 h;rw[Tryz.Zk]at hl
 match cs,hl with
 |[c0,c1],_=>
  simp[Tryz.Gi]at h0 h1;obtain⟨a,e0,_,_⟩:=DataW.trod_int underlying3 h0;obtain⟨b,e1,_,_⟩:=DataW.trod_int underlying3 h1;simp only[List.cons.injEq,and_true]at e0 e1;exact⟨a,b,by rw[e0,e1]⟩
theorem zlB{fuel:Nat}{c:zb}{x:DataW H×List MemPlace}(h:DataW.trod enc prog W 0 spare held fuel 250 [c]=zc x):∃rs,dD 0 W c rs:=by
 rcases Go.Deep.open_slice underlying250 h with ⟨hc,_⟩|⟨a,len,cap,m,n,D,Pl,hc,_,AG,te,nX,_,hx⟩
 ·simp only[List.cons.injEq,and_true]at hc;exact⟨[],zd,0,hc,by simp,λh0=>absurd h0 (dk _)⟩
 ·simp only[List.cons.injEq,and_true]at hc;have Oe:len<=m:=by rw[nX];split<;>omega
  rw[Tryz.Zk]at hx;rcases Fz len with h0|h0
  ·subst h0;exact⟨[],zc a,cap,hc,by simp,λh0=>absurd h0 (dk _)⟩
  ·obtain⟨b,o,C,rfl,hb,hC⟩:=LK (W:=W) (a:=a) (len:=len) (sz:=2) (E:=λcs=>∃r:Int×Int,cs=[za .i64 r.1,za .i64 r.2]) (by omega) (λi hi=>by
    obtain⟨gj,h1,h2⟩:=hx i (by omega);obtain⟨lo,fh,he⟩:=znR h2;exact⟨gj,h1,(lo,fh),he⟩) h0
   obtain⟨F,hF⟩:=Go.Deep.choose_lt (α:=Int×Int) (p:=λi r=>C i=[za .i64 r.1,za .i64 r.2]) (λi hi=>(hC i hi).1);refine⟨(List.range len).map F,zc ⟨b,o,zd⟩,cap,by rw[hc];simp,by simp;exact Ib (aU AG te),λ_=>⟨b,o,rfl,aZ _,hb,λi hi=>?_⟩⟩;have fh:i<len:=by simpa using hi
   rw[Lz F (0,0) len i fh];have q0:=(hC i fh).2 0 (by omega);have q1:=(hC i fh).2 1 (by omega);rw[hF i fh]at q0 q1;exact⟨by simpa using q0,by simpa using q1⟩
theorem zpR{fuel:Nat}{cs:List zb}{x:DataW H×List MemPlace}(h:DataW.trod enc prog W 0 spare held fuel 252 cs=zc x):∃(nd:aM) (sv:zb),cs=[za .i64 nd.kind,sv,za .i64 nd.min,za .i64 nd.max,za .i64 nd.group]/\dD 0 W sv nd.set:=by
 obtain⟨xs,n,_,_,hl,hlen,hf⟩:=DataW.trod_struct underlying252 h;rw[Tryz.Zj]at hl;obtain⟨y0,y1,y2,y3,y4,rfl⟩:=Xh (show xs.length=5 from hlen);obtain⟨c0,c1,c2,c3,c4,rfl⟩:=Xh hl
 ·· have f0:=hf 0 _ rfl;have f1:=hf 1 _ rfl;have f2:=hf 2 _ rfl;have f3:=hf 3 _ rfl;have f4:=hf 4 _ rfl;simp[Tryz.Gi,Tryz.zxJ]at f0 f1 f2 f3 f4;obtain⟨k,e0,_,_⟩:=DataW.trod_int underlying3 f0;obtain⟨rs,KC⟩:=zlB f1;obtain⟨mn,e2,_,_⟩:=DataW.trod_int underlying3 f2;obtain⟨mx,e3,_,_⟩:=DataW.trod_int underlying3 f3;obtain⟨g,e4,_,_⟩:=DataW.trod_int underlying3 f4;simp only[List.cons.injEq,and_true]at e0 e2 e3 e4;exact⟨⟨k,rs,mn,mx,g⟩,c1,by rw[e0,e2,e3,e4],KC⟩
theorem znQ{fuel:Nat}{c:zb}{x:DataW H×List MemPlace}(h:DataW.trod enc prog W 0 spare held fuel 170 [c]=zc x):∃ns,dU 0 W c ns:=by
 rcases Go.Deep.open_slice underlying170 h with ⟨hc,_⟩|⟨a,len,cap,m,n,D,Pl,hc,_,AG,te,nX,_,hx⟩
 ·simp only[List.cons.injEq,and_true]at hc;exact⟨[],zd,0,hc,by simp,λh0=>absurd h0 (dk _)⟩
 ·simp only[List.cons.injEq,and_true]at hc;have Oe:len<=m:=by rw[nX];split<;>omega
  rw[Tryz.Zj]at hx;rcases Fz len with h0|h0
  ·subst h0;exact⟨[],zc a,cap,hc,by simp,λh0=>absurd h0 (dk _)⟩
  ·obtain⟨b,o,C,rfl,hb,hC⟩:=LK (W:=W) (a:=a) (len:=len) (sz:=5) (E:=λcs=>∃q:aM×zb,cs=[za .i64 q.1.kind,q.2,za .i64 q.1.min,za .i64 q.1.max,za .i64 q.1.group]/\dD 0 W q.2 q.1.set) (by omega) (λi hi=>by
    obtain⟨gj,h1,h2⟩:=hx i (by omega);obtain⟨nd,sv,he,hr⟩:=zpR h2;exact⟨gj,h1,(nd,sv),he,hr⟩) h0
   obtain⟨F,hF⟩:=@Go.Deep.choose_lt (aM×zb) ⟨(.zero,.nilIface)⟩ len (λi q=>C i=[za .i64 q.1.kind,q.2,za .i64 q.1.min,za .i64 q.1.max,za .i64 q.1.group]/\dD 0 W q.2 q.1.set) (λi hi=>(hC i hi).1);refine⟨(List.range len).map λi=>(F i).1,zc ⟨b,o,zd⟩,cap,by rw[hc];simp,by simp;exact Ib (aU AG te),λ_=>⟨b,o,rfl,aZ _,hb,λi hi=>?_⟩⟩;have fh:i<len:=by simpa using hi
   rw[Lz (λi=>(F i).1) .zero len i fh];have q0:=(hC i fh).2 0 (by omega);have q1:=(hC i fh).2 1 (by omega);have q2:=(hC i fh).2 2 (by omega);have q3:=(hC i fh).2 3 (by omega);have q4:=(hC i fh).2 4 (by omega);rw[(hF i fh).1]at q0 q1 q2 q3 q4;exact⟨by simpa using q0,⟨(F i).2,by simpa using q1,(hF i fh).2⟩,by simpa using q2,by simpa using q3,by simpa using q4⟩
theorem zlA{fuel:Nat}{cs:List zb}{x:DataW H×List MemPlace}(h:DataW.trod enc prog W 0 spare held fuel 172 cs=zc x):∃(bd:aW) (nv:zb),cs=[.bool bd.aV,.bool bd.bm,nv]/\dU 0 W nv bd.nodes:=by
 obtain⟨xs,n,_,_,hl,hlen,hf⟩:=DataW.trod_struct underlying172 h;rw[Tryz.Zi]at hl;obtain⟨y0,y1,y2,rfl⟩:=ztw (show xs.length=3 from hlen);obtain⟨c0,c1,c2,rfl⟩:=ztw hl
 ·· have f0:=hf 0 _ rfl;have f1:=hf 1 _ rfl;have f2:=hf 2 _ rfl;simp[Tryz.Zh,Tryz.zxI]at f0 f1 f2;obtain⟨k,e0,_⟩:=DataW.trod_bool underlying4 f0;obtain⟨k2,e1,_⟩:=DataW.trod_bool underlying4 f1;obtain⟨ns,Oj⟩:=znQ f2;simp only[List.cons.injEq,and_true]at e0 e1;exact⟨⟨k,k2,ns⟩,c2,by rw[e0,e1],Oj⟩
theorem zi0{fuel:Nat}{c:zb}{x:DataW H×List MemPlace}(h:DataW.trod enc prog W 0 spare held fuel 105 [c]=zc x):∃bs,eh 0 W c bs:=by
 rcases Go.Deep.open_slice underlying105 h with ⟨hc,_⟩|⟨a,len,cap,m,n,D,Pl,hc,_,AG,te,nX,_,hx⟩
 ·simp only[List.cons.injEq,and_true]at hc;exact⟨[],zd,0,hc,by simp,λh0=>absurd h0 (dk _)⟩
 ·simp only[List.cons.injEq,and_true]at hc;have Oe:len<=m:=by rw[nX];split<;>omega
  rw[Tryz.Zi]at hx;rcases Fz len with h0|h0
  ·subst h0;exact⟨[],zc a,cap,hc,by simp,λh0=>absurd h0 (dk _)⟩
  ·obtain⟨b,o,C,rfl,hb,hC⟩:=LK (W:=W) (a:=a) (len:=len) (sz:=3) (E:=λcs=>∃q:aW×zb,cs=[.bool q.1.aV,.bool q.1.bm,q.2]/\dU 0 W q.2 q.1.nodes) (by omega) (λi hi=>by
    obtain⟨gj,h1,h2⟩:=hx i (by omega);obtain⟨nd,sv,he,hr⟩:=zlA h2;exact⟨gj,h1,(nd,sv),he,hr⟩) h0
   obtain⟨F,hF⟩:=@Go.Deep.choose_lt (aW×zb) ⟨(.zero,.nilIface)⟩ len (λi q=>C i=[.bool q.1.aV,.bool q.1.bm,q.2]/\dU 0 W q.2 q.1.nodes) (λi hi=>(hC i hi).1);refine⟨(List.range len).map λi=>(F i).1,zc ⟨b,o,zd⟩,cap,by rw[hc];simp,by simp;exact Ib (aU AG te),λ_=>⟨b,o,rfl,aZ _,hb,λi hi=>?_⟩⟩;have fh:i<len:=by simpa using hi
   rw[Lz (λi=>(F i).1) .zero len i fh];have q0:=(hC i fh).2 0 (by omega);have q1:=(hC i fh).2 1 (by omega);have q2:=(hC i fh).2 2 (by omega);rw[(hF i fh).1]at q0 q1 q2;exact⟨by simpa using q0,by simpa using q1,⟨(F i).2,by simpa using q2,(hF i fh).2⟩⟩
end
end
section
open Go.RowKit Go.ChangeShapes Go.WideShapes Go.ChangeAt
theorem Tryz.zxG:prog.cellsOf 23=1:=by kernel_rfl
theorem Tryz.zxK:prog.cellsOf 22=1:=by kernel_rfl
theorem Tryz.zxM:prog.cellsOf 9=1:=by kernel_rfl
theorem Tryz.zxL:prog.cellsOf 29=5:=by kernel_rfl
theorem Tryz.zxO:prog.cellsOf 25=8:=by kernel_rfl
theorem Tryz.zxH:prog.cellsOf 27=9:=by kernel_rfl
theorem zsv{α:Type}{cs:Array α}(h:cs.size=5):∃c0 c1 c2 c3 c4,cs=#[c0,c1,c2,c3,c4]:=by
 obtain⟨l⟩:=cs
 match l,h with
 |[c0,c1,c2,c3,c4],_=>exact⟨c0,c1,c2,c3,c4,rfl⟩
theorem zsw{α:Type}{cs:Array α}(h:cs.size=9):∃c0 c1 c2 c3 c4 c5 c6 c7 c8,cs=#[c0,c1,c2,c3,c4,c5,c6,c7,c8]:=by
 obtain⟨l⟩:=cs
 match l,h with
 |[c0,c1,c2,c3,c4,c5,c6,c7,c8],_=>exact⟨c0,c1,c2,c3,c4,c5,c6,c7,c8,rfl⟩
theorem ztx{α:Type}{l:List α}(h:l.length=8):∃c0 c1 c2 c3 c4 c5 c6 c7,l=[c0,c1,c2,c3,c4,c5,c6,c7]:=by
 match l,h with
 |[c0,c1,c2,c3,c4,c5,c6,c7],_=>exact⟨c0,c1,c2,c3,c4,c5,c6,c7,rfl⟩
section
variable {H:Type} {enc:zg×zb->H} {W:zf} {spare:Nat->Bool} {held:Bool}
theorem E6{fuel:Nat}{c:zb}{x:DataW H×List MemPlace}(h:DataW.trod enc prog W 0 spare held fuel 23 [c]=zc x):∃xs,iR 0 W c xs:=by
 rcases Go.Deep.open_slice underlying23 h with ⟨hc,_⟩|⟨a,len,cap,m,n,D,Pl,hc,_,AG,te,nX,_,hx⟩
 ·simp only[List.cons.injEq,and_true]at hc;exact⟨[],zd,0,hc,by simp,λh0=>absurd h0 (dk _)⟩
 ·simp only[List.cons.injEq,and_true]at hc;have Oe:len<=m:=by rw[nX];split<;>omega
  rw[Tryz.Gi]at hx;rcases Fz len with h0|h0
  ·subst h0;exact⟨[],zc a,cap,hc,by simp,λh0=>absurd h0 (dk _)⟩
  ·obtain⟨b,o,C,rfl,hb,hC⟩:=LK (W:=W) (a:=a) (len:=len) (sz:=1) (E:=λcs=>∃r:Int,cs=[za .i64 r]) (by omega) (λi hi=>by
    obtain⟨gj,h1,h2⟩:=hx i (by omega);obtain⟨k,he,_,_⟩:=DataW.trod_int underlying3 h2;exact⟨gj,h1,k,he⟩) h0
   obtain⟨F,hF⟩:=Go.Deep.choose_lt (α:=Int) (p:=λi r=>C i=[za .i64 r]) (λi hi=>(hC i hi).1);refine⟨(List.range len).map F,zc ⟨b,o,zd⟩,cap,by rw[hc];simp,by simp;exact Ib (aU AG te),λ_=>⟨b,o,rfl,aZ _,hb,λi hi=>?_⟩⟩;have fh:i<len:=by simpa using hi
   rw[Lz F 0 len i fh];have q0:=(hC i fh).2 0 (by omega);rw[hF i fh]at q0
   simpa using q0
theorem zpS{fuel:Nat}{cs:List zb}{x:DataW H×List MemPlace}(h:DataW.trod enc prog W 0 spare held fuel 107 cs=zc x):∃(rd:bL) (bv:zb),cs=[bv,za .i64 rd.dG]/\eh 0 W bv rd.branches:=by
 obtain⟨y0,y1,n,_,hl,h0,h1⟩:=trod_struct2 underlying107 h;rw[Tryz.Zl]at hl
 match cs,hl with
 |[c0,c1],_=>
  simp[Tryz.Gi,Tryz.zxE]at h0 h1;obtain⟨bs,iY⟩:=zi0 h0;obtain⟨g,e1,_,_⟩:=DataW.trod_int underlying3 h1;simp only[List.cons.injEq,and_true]at e1;exact⟨⟨bs,g⟩,c0,by rw[e1],iY⟩
theorem znS{fuel:Nat}{c:zb}{x:DataW H×List MemPlace}(h:DataW.trod enc prog W 0 spare held fuel 22 [c]=zc x):∃rs,gZ 0 W c rs:=by
 rcases Go.Deep.open_slice underlying22 h with ⟨hc,_⟩|⟨a,len,cap,m,n,D,Pl,hc,_,AG,te,nX,_,hx⟩
 ·simp only[List.cons.injEq,and_true]at hc;exact⟨[],zd,0,hc,by simp,λh0=>absurd h0 (dk _)⟩
 ·simp only[List.cons.injEq,and_true]at hc;have Oe:len<=m:=by rw[nX];split<;>omega
  rw[Tryz.Zl]at hx;rcases Fz len with h0|h0
  ·subst h0;exact⟨[],zc a,cap,hc,by simp,λh0=>absurd h0 (dk _)⟩
  ·obtain⟨b,o,C,rfl,hb,hC⟩:=LK (W:=W) (a:=a) (len:=len) (sz:=2) (E:=λcs=>∃q:bL×zb,cs=[q.2,za .i64 q.1.dG]/\eh 0 W q.2 q.1.branches) (by omega) (λi hi=>by
    obtain⟨gj,h1,h2⟩:=hx i (by omega);obtain⟨nd,sv,he,hr⟩:=zpS h2;exact⟨gj,h1,(nd,sv),he,hr⟩) h0
   obtain⟨F,hF⟩:=@Go.Deep.choose_lt (bL×zb) ⟨(.zero,.nilIface)⟩ len (λi q=>C i=[q.2,za .i64 q.1.dG]/\eh 0 W q.2 q.1.branches) (λi hi=>(hC i hi).1);refine⟨(List.range len).map λi=>(F i).1,zc ⟨b,o,zd⟩,cap,by rw[hc];simp,by simp;exact Ib (aU AG te),λ_=>⟨b,o,rfl,aZ _,hb,λi hi=>?_⟩⟩;have fh:i<len:=by simpa using hi
   rw[Lz (λi=>(F i).1) .zero len i fh];have q0:=(hC i fh).2 0 (by omega);have q1:=(hC i fh).2 1 (by omega);rw[(hF i fh).1]at q0 q1;exact⟨⟨(F i).2,by simpa using q0,(hF i fh).2⟩,by simpa using q1⟩
theorem zpx{r:Reach}{b0:Nat}{v:zb}{d:DataW H}{p:List MemPlace}(hv:Value.okWide prog W r b0 29 v)(h:DataW.Trod enc prog W 0 spare held 29 v d p):
  ∃s:eE,v=.agg #[za .i64 s.L,.string s.B,.bool s.C,za .i64 s.S,za .i64 s.N]/\s.B.size<=9223372036854775807:=by
 obtain⟨cs,rfl,hsz⟩:=okWide_struct underlying29 hv;obtain⟨c0,c1,c2,c3,c4,rfl⟩:=zsv (hsz.trans Tryz.zxL);obtain⟨fuel,Ea⟩:=h;obtain⟨xs,n,_,_,_,hlen,hf⟩:=DataW.trod_struct underlying29 Ea;obtain⟨y0,y1,y2,y3,y4,rfl⟩:=Xh (show xs.length=5 from hlen);have f0:=hf 0 _ rfl;have f1:=hf 1 _ rfl;have f2:=hf 2 _ rfl;have f3:=hf 3 _ rfl;have f4:=hf 4 _ rfl;simp[Tryz.Gi,Tryz.zxM,Tryz.Zh,Value.cells]at f0 f1 f2 f3 f4;obtain⟨L,e0,_,_⟩:=DataW.trod_int underlying3 f0;obtain⟨B,e1,_,hB⟩:=DataW.trod_string underlying9 f1;obtain⟨C,e2,_⟩:=DataW.trod_bool underlying4 f2;obtain⟨S,e3,_,_⟩:=DataW.trod_int underlying3 f3;obtain⟨N,e4,_,_⟩:=DataW.trod_int underlying3 f4;simp only[List.cons.injEq,and_true]at e0 e1 e2 e3 e4;exact⟨⟨L,B,C,S,N⟩,by rw[e0,e1,e2,e3,e4],Ib hB⟩
theorem zrJ{fuel:Nat}{c1 c2 c3 c4 c5 c6 c7 c8:zb}{x:DataW H×List MemPlace}(h:DataW.trod enc prog W 0 spare held fuel 25 [c1,c2,c3,c4,c5,c6,c7,c8]=zc x):∃D:bG,c2=za .i64 D.width/\eN 0 W c1 c3 c4 c5 c6 c7 c8 D:=by
 obtain⟨xs,n,_,_,_,hlen,hf⟩:=DataW.trod_struct underlying25 h;obtain⟨y1,y2,y3,y4,y5,y6,y7,y8,rfl⟩:=ztx (show xs.length=8 from hlen);have f1:=hf 0 _ rfl;have f2:=hf 1 _ rfl;have f3:=hf 2 _ rfl;have f4:=hf 3 _ rfl;have f5:=hf 4 _ rfl;have f6:=hf 5 _ rfl;have f7:=hf 6 _ rfl;have f8:=hf 7 _ rfl;simp[Tryz.Gi,Tryz.zxG]at f1 f2 f3 f4 f5 f6 f7 f8;obtain⟨wd,e2,_,_⟩:=DataW.trod_int underlying3 f2;obtain⟨l1,h1⟩:=E6 f1;obtain⟨l3,h3⟩:=E6 f3;obtain⟨l4,h4⟩:=E6 f4;obtain⟨l5,h5⟩:=E6 f5;obtain⟨l6,h6⟩:=E6 f6;obtain⟨l7,h7⟩:=E6 f7;obtain⟨l8,h8⟩:=E6 f8;simp only[List.cons.injEq,and_true]at e2;exact⟨⟨l1,wd,l3,l4,l5,l6,l7,l8⟩,e2,h1,h3,h4,h5,h6,h7,h8⟩
theorem zrt{r:Reach}{b0:Nat}{v:zb}{d:DataW H}{p:List MemPlace}(hv:Value.okWide prog W r b0 27 v)(h:DataW.Trod enc prog W 0 spare held 27 v d p):
  ∃(ao:Option Addr) (rc:Nat) (cv bv fv tv ev nv kv:zb) (rs:List bL) (D:bG),v=.agg #[.slice ao rs.length rc,cv,za .i64 D.width,bv,fv,tv,ev,nv,kv]/\gZ 0 W (.slice ao rs.length rc) rs/\eN 0 W cv bv fv tv ev nv kv D:=by
 obtain⟨cs,rfl,hsz⟩:=okWide_struct underlying27 hv;obtain⟨c0,c1,c2,c3,c4,c5,c6,c7,c8,rfl⟩:=zsw (hsz.trans Tryz.zxH);obtain⟨fuel,Ea⟩:=h;obtain⟨y0,y1,n,_,hl,h0,h1⟩:=trod_struct2 underlying27 Ea;simp[Tryz.zxK,Tryz.zxO,Value.cells]at h0 h1;obtain⟨rs,KC⟩:=znS h0;obtain⟨D,e2,hD⟩:=zrJ h1;obtain⟨ao,rc,e0,hr⟩:=KC;exact⟨ao,rc,c1,c3,c4,c5,c6,c7,c8,rs,D,by rw[e2,e0],⟨ao,rc,rfl,hr⟩,hD⟩
end
end
open Go.ChangeShapes Go.WideShapes Go.ChangeAt Go.RowKit Go.Joins
theorem Tryz.own:ownKnob prog.godebug=zd:=by kernel_rfl
theorem Tryz.laidOut:laidOutB prog=true:=by kernel_rfl
theorem Tryz.zwS:prog.globalNamed "math/bits.deBruijn64tab" = zc 0:=by kernel_rfl
theorem Tryz.zzv:(prog.globals[0]?).map (·.type)=zc 280:=by kernel_rfl
theorem Tryz.zxF:prog.cellsOf 5=1:=by kernel_rfl
theorem Tryz.zxN:prog.cellsOf 280=64:=by kernel_rfl
theorem zhy{W:zf}(h:laidMetH prog Rows.fnExactNextRow.laid W):fG W:=by
 have h':laidMet prog [("math/bits.deBruijn64tab",Lib.tabData .u8 (Mn.map λn:Nat=>(n:Int)))] W:=h;have hT:=Lib.tabIs_of_head Tryz.zwS Tryz.zzv underlying280 underlying5 Tryz.zxF Tryz.zxN h';intro i hi;have fh:i<Mn.length:=hi;have:=hT.cell Tryz.zwS i (by simpa using fh);rw[this];simp[List.getD,fh]
noncomputable def zjQ (os:Os):zf:=
 {World.holding prog os ⟨#[],#[],[]⟩with heap:=(World.holding prog os ⟨#[],#[],[]⟩).heap.modify 0 fun
   |.cells _ t frozen=>.cells (Mn.map λn:Nat=>Value.int .u8 (n:Int)).toArray t frozen
   |o=>o}
theorem ziL(os:Os)(args:Array zb):laidMetH prog Rows.fnExactNextRow.laid ((zjQ os).forCall (λ_ _=>0) ⟨#[],args,[]⟩).memory:=
 laidMet_of_run' 8 (by kernel_rfl) (by kernel_rfl)
theorem zeY(os:Os)(started:os.Started)(H:Type)(enc:zg×zb->H):
  ReturnsInHanded {} checked os 3 .any (λw args=>(Rows.fnExactNextSpec.pre enc prog Tryz.f3 Rows.fnExactNextRow.domain false w args/\laidMetH prog Rows.fnExactNextRow.laid w)/\sizedMet enc prog Tryz.f3 (OpenSpec.ofChange Rows.fnExactNextSpec) false w args)
   (Rows.fnExactNextSpec.post enc prog Tryz.f3 false true false false):=by
 refine returnsInHanded_of_change_and (C:=checked) (X:=λw _=>laidMetH prog Rows.fnExactNextRow.laid w) (λ_ _ _ hh h=>h.of_heap hh) Tryz.own started (by kernel_rfl) func3
  (ChangeSpec.witness_at (enc:=enc) (C:=checked) (os:=os) (X:=λw _=>laidMetH prog Rows.fnExactNextRow.laid w) false (zjQ os) #[.agg #[ze zd 0 0,ze zd 0 0,za .i64 0,ze zd 0 0,ze zd 0 0,ze zd 0 0,ze zd 0 0,ze zd 0 0,ze zd 0 0],.agg #[za .i64 0,.string ⟨#[]⟩,.bool false,za .i64 0,za .i64 0]] 8 rfl (by kernel_rfl) (by kernel_rfl) (by kernel_rfl) (by kernel_rfl) (by kernel_rfl) (ziL os _)) ?_
 intro W base args ds gs before zwy hW _ _ hL _;have hval:∀(j:Nat) t v,Tryz.f3.params[j]?=zc t->args[j]?=zc v->Value.okWide prog W .any base t v:=zwy;have hW':=hW;obtain⟨p,q,mM,hV,rfl,hfz,gG⟩:=hW;have hA:DataW.TrodAll enc prog W 0 (λ_=>true) true Tryz.f3.params.toList args.toList ds p:=mM;rw[params3]at hA hval;obtain⟨v0,vs0,d0,ds0,p0,q0,Ck,rfl,rfl,h0,r0⟩:=trodAll_cons hA;obtain⟨v1,vs1,d1,ds1,p1,q1,rfl,rfl,rfl,h1,r1⟩:=trodAll_cons r0;obtain⟨rfl,rfl,rfl⟩:=trodAll_nil r1;obtain rfl:args=#[v0,v1]:=by cases args;simp_all
 obtain⟨rfl,rfl⟩:=trodVars_none hV;have k0:=h0;have lt0:∀x∈p0,x.block<W.heap.size:=by obtain⟨m,hm⟩:=k0;exact DataW.trod_lt m _ _ _ hm
 have k1:=h1;have Uh:∀x∈p1,x.block<W.heap.size:=by obtain⟨m,hm⟩:=k1;exact DataW.trod_lt m _ _ _ hm
 obtain⟨ao,rc,cv,bv,fv,tv,ev,nv,kv,rs,D,rfl,KC,hD⟩:=zrt (hval 0 27 v0 rfl rfl) h0;obtain⟨s,rfl,TH⟩:=zpx (hval 1 29 v1 rfl rfl) h1;clear mM zwy;have hB:=zhy hL;refine(zno ao rc cv bv fv tv ev nv kv rs D s W KC hD TH hB).mono λe W' ⟨he,bj⟩=>?_
 subst he;exact⟨_,rfl,_,_,_,[],_,[],hW',trodAll_mk1 (shut_bool underlying4 _),(trodAll_cons_mk (Below.trod Tryz.laidOut (by kernel_rfl) (of_decide_eq_true (by kernel_rfl)) k0 bj lt0) (trodAll_cons_mk (Below.trod Tryz.laidOut (by kernel_rfl) (of_decide_eq_true (by kernel_rfl)) k1 bj Uh) trodAll_mk0)),rfl,bj.frame _,λh=>by cases h⟩
theorem zgH:Rows.FnExactNextSaid:=
 OpenClaim.holds_of_wide 3 Tryz.f3 rfl rfl rfl rfl rfl rfl rfl ⟨rfl,rfl,rfl,rfl,rfl⟩ rfl rfl rfl rfl rfl (by kernel_rfl) func3 (by kernel_rfl)
  (of_decide_eq_true (by kernel_rfl)) (by unfold Func.isWrapper;first|(rw[aD (by decide +kernel)];kernel_rfl)|(rw[aq (by decide +kernel)];exact⟨rfl,rfl⟩))
  (λos started H enc _=>zeY os started H enc)
theorem fnExactNext_holds:Rows.FnExactNextCardSaid:=
 Claim7.holds_tied_plain_at .later [] [.data] true Rows.fnExactNextCard.stood.harness Rows.fnExactNextCard.stood.looks
  zgH (λ_ h=>by cases h) (by kernel_rfl) (λ_ h=>by cases h) fnExactNext_row_tie rfl ⟨rfl,rfl⟩ (by kernel_rfl) rfl
  (λf fn hf vJ=>by
   obtain rfl:f=3:=Option.some.inj ((show prog.funcNamed "loop.example/s0007/laws.FnExactNext" = zc 3 by kernel_rfl).symm.trans hf) |>.symm
   obtain rfl:fn=Tryz.f3:=(Option.some.inj (func3.symm.trans vJ)).symm;exact⟨by kernel_rfl,λj t ht=>by
    rw[params3]at ht;have h3:t=27\/t=29:=by
     rcases j with _|_|j
     ·exact .inl (by simpa using ht.symm)
     ·exact .inr (by simpa using ht.symm)
     ·simp at ht
    rcases h3 with h3|h3
    ·subst h3;exact(show prog.wantsStandIn 27=false by kernel_rfl)
    ·subst h3;exact(show prog.wantsStandIn 29=false by kernel_rfl)⟩)
  (by kernel_rfl)
#print axioms fnExactNext_holds
end Go.Proofs.YtdimhpfiieepiaaGreatDoor
