import Derived.Test.YtfajjdgkiilhfaaGreatDoorC0
namespace Go.Proofs.YtfajjdgkiilhfaaGreatDoor
open Proofs.Tryz
open RowKit renaming Hid->zb
open Option renaming some->zc,none->zd
open Value renaming int->ze,pointer->zf
open Go renaming World->zh,Calls->zi
open Obj renaming cells->zj
set_option maxHeartbeats 4000000
set_option maxRecDepth 100000
open Go.RowKit
attribute [local go_sem ↓] wp_at_zero wp_at_succ
def sT:List ByteArray:=[⟨#[97]⟩,⟨#[98]⟩,⟨#[99]⟩,⟨#[97]⟩,⟨#[98]⟩,⟨#[97,98]⟩,⟨#[91,97,98,93]⟩,⟨#[46]⟩,⟨#[91,94,97,93]⟩,⟨#[91,97,45,99,93]⟩,⟨#[91,98,45,93]⟩,⟨#[91,91,58,100,105,103,105,116,58,93,93]⟩,⟨#[49]⟩,⟨#[92,46]⟩,⟨#[91,93,97,93]⟩,⟨#[91,94,91,58,97,108,112,104,97,58,93,98,93]⟩,⟨#[91,91,58,120,100,105,103,105,116,58,93,45,93]⟩,⟨#[91,97,45,99,98,45,102,93]⟩,⟨#[45]⟩,⟨#[125]⟩,⟨#[91,94,93,45,97,93]⟩,⟨#[92,92]⟩,⟨#[91,91,58,117,112,112,101,114,58,93,91,58,115,112,97,99,101,58,93,120,93]⟩,⟨#[91,92,93]⟩]
def pA:List ByteArray:=[⟨#[]⟩,⟨#[]⟩,⟨#[]⟩,⟨#[42]⟩,⟨#[43]⟩,⟨#[63]⟩,⟨#[123,50,125]⟩,⟨#[123,49,44,50,125]⟩,⟨#[123,48,44,50,125]⟩,⟨#[123,50,44,125]⟩,⟨#[123,48,125]⟩,⟨#[42]⟩,⟨#[63]⟩,⟨#[123,49,44,51,125]⟩,⟨#[123,48,44,125]⟩,⟨#[123,48,51,125]⟩]
def lP(L:List ByteArray)(c:List UInt8)(a:Nat):ByteArray×Nat:=(L.getD (ae c L.length a).1.toNat ⟨#[]⟩,(ae c L.length a).2)
theorem zok{w:zh}{g:Nat}{L:List ByteArray}{t:TypeId}(h:w.heap[g]?=zc (zj (L.map Value.string).toArray t (0,0))){x:Nat}(hx:x<L.length):w.cell? ⟨g,x,zd⟩=zc (.string (L.getD x ⟨#[]⟩)):=by
 rw[iY _ _ _ _ _ _ h];simp[List.getD,hx]
theorem zjY(w:zh)(p:Nat)(c:List UInt8)(a:Nat)(room:Int)(h:aR w p c a room):
  zi prog 101 #[zf (zc ⟨p,0,zd⟩)] w λe w'=>e=.returned (.string (lP sT c a).1)/\aR w' p c (lP sT c a).2 room/\aE p w w':=by
 have du:=h.lt;have aD:Below w.heap.size w (w.alloc (zj (sT.map Value.string).toArray 9)):=ax;have r0:(w.alloc (zj (sT.map Value.string).toArray 9)).heap[w.heap.size]?=zc (zj (sT.map Value.string).toArray 9 (0,0)):=aJ _ _;have hb:=rK (w.alloc (zj (sT.map Value.string).toArray 9)) p c a room (h.keep λk hk=>aD.block k (by omega)) 24 (by omega);have Ho:zb (lP sT c a=(sT.getD (ae c 24 a).1.toNat ⟨#[]⟩,(ae c 24 a).2)):=rfl;have hl:=jL h.le 24;obtain⟨x,y,hx⟩:∃x y,ae c 24 a=(x,y):=⟨_,_,rfl⟩;rw[hx]at hb Ho hl;have x0:0<=x:=hl.2.1;have x1:x<24:=by have:=hl.2.2;simp only at this;omega
 obtain⟨x,rfl⟩:∃n:Nat,x=n:=⟨x.toNat,by omega⟩;clear hl hx;have hlen:sT.length=24:=rfl;have Hr:zb _:=r0
 go_enter func101,ntmps101
 go_wp2_with (go_at_call 17;refine hb.mono ?_;rintro e w' ⟨rfl,hd,hk⟩;have k0:=zok ((hk.block _ (lU.1 Hr.out).1 (by omega)).trans Hr.out) (x:=x) (by omega))
 go_ret
 exact⟨by rw[Ho.out];simp,by rw[Ho.out];exact hd,(aE.of aD).trans hk⟩
theorem zjZ(w:zh)(p:Nat)(c:List UInt8)(a:Nat)(room:Int)(h:aR w p c a room):
  zi prog 102 #[zf (zc ⟨p,0,zd⟩)] w λe w'=>e=.returned (.string (lP pA c a).1)/\aR w' p c (lP pA c a).2 room/\aE p w w':=by
 have du:=h.lt;have aD:Below w.heap.size w (w.alloc (zj (pA.map Value.string).toArray 9)):=ax;have r0:(w.alloc (zj (pA.map Value.string).toArray 9)).heap[w.heap.size]?=zc (zj (pA.map Value.string).toArray 9 (0,0)):=aJ _ _;have hb:=rK (w.alloc (zj (pA.map Value.string).toArray 9)) p c a room (h.keep λk hk=>aD.block k (by omega)) 16 (by omega);have Ho:zb (lP pA c a=(pA.getD (ae c 16 a).1.toNat ⟨#[]⟩,(ae c 16 a).2)):=rfl;have hl:=jL h.le 16;obtain⟨x,y,hx⟩:∃x y,ae c 16 a=(x,y):=⟨_,_,rfl⟩;rw[hx]at hb Ho hl;have x0:0<=x:=hl.2.1;have x1:x<16:=by have:=hl.2.2;simp only at this;omega
 obtain⟨x,rfl⟩:∃n:Nat,x=n:=⟨x.toNat,by omega⟩;clear hl hx;have hlen:pA.length=16:=rfl;have Hr:zb _:=r0
 go_enter func102,ntmps102
 go_wp2_with (go_at_call 17;refine hb.mono ?_;rintro e w' ⟨rfl,hd,hk⟩;have k0:=zok ((hk.block _ (lU.1 Hr.out).1 (by omega)).trans Hr.out) (x:=x) (by omega))
 go_ret
 exact⟨by rw[Ho.out];simp,by rw[Ho.out];exact hd,(aE.of aD).trans hk⟩
section
variable {c:List UInt8}{k:Nat}{first:Bool}{x:ByteArray}
abbrev ft:=Nat×Int
def IF(c:List UInt8)(a:Nat)(r:Int):ByteArray×ft:=((lP sT c a).1,((lP sT c a).2,r))
def wM(c:List UInt8)(alts:Option (ft->ByteArray×ft))(a:Nat)(r:Int):ByteArray×ft:=
 match alts with
 |none=>IF c a r
 |some f=>if 0<r then (if (ae c 3 a).1=1 then (⟨#[40]⟩++(f ((ae c 3 a).2,r)).1 ++ ⟨#[41]⟩,(f ((ae c 3 a).2,r)).2) else IF c (ae c 3 a).2 r) else IF c a r
def ID(c:List UInt8)(alts:Option (ft->ByteArray×ft))(s:ft):ByteArray×ft:=
 ((wM c alts s.1 (s.2-1)).1++(lP pA c (wM c alts s.1 (s.2-1)).2.1).1,((lP pA c (wM c alts s.1 (s.2-1)).2.1).2,(wM c alts s.1 (s.2-1)).2.2))
def Dc(c:List UInt8)(alts:Option (ft->ByteArray×ft)):Nat->Bool->ByteArray×ft->ByteArray×ft
 |0,_,x=>x
 |k+1,first,x=>if first=true\/0<x.2.2 then Dc c alts k false (x.1++(ID c alts x.2).1,(ID c alts x.2).2) else x
def uC(c:List UInt8)(alts:Option (ft->ByteArray×ft))(s:ft):ByteArray×ft:=Dc c alts (1+(ae c 4 s.1).1).toNat true (⟨#[]⟩,((ae c 4 s.1).2,s.2))
def sO(c:List UInt8)(eH:ft->ByteArray×ft):Nat->ByteArray×ft->ByteArray×ft
 |0,x=>x
 |k+1,x=>if 0<x.2.2 then (if (ae c 3 x.2.1).1=1 then sO c eH k (x.1++(⟨#[124]⟩++(eH ((ae c 3 x.2.1).2,x.2.2)).1),(eH ((ae c 3 x.2.1).2,x.2.2)).2) else (x.1,((ae c 3 x.2.1).2,x.2.2))) else x
def BQ(c:List UInt8):Nat->ft->ByteArray×ft
 |0=>uC c zd
 |d+1=>uC c (zc λs=>sO c (BQ c d) s.2.toNat (BQ c d s))
theorem aR.room{w:zh}{p:Nat}{a:Nat}{room:Int}(h:aR w p c a room)(r:Int):aR (w.setCell ⟨p,2,zd⟩ (ze .i64 r)) p c a r:=by
 obtain⟨ao,cap,hp,hc⟩:=h.box;refine⟨⟨ao,cap,by simpa using cJ w p 2 _ _ (ze .i64 r) hp,λh0=>?_⟩,h.len,h.le⟩;obtain⟨b,o,e,hb,hk⟩:=hc h0;exact⟨b,o,e,hb,λk hl=>(World.cell?_of_block (bh _ _ _ _ (Nat.ne_of_lt hb))).trans (hk k hl)⟩
def LH(fn:Nat)(p:Nat)(c:List UInt8)(f:ft->ByteArray×ft)(D:Int):Prop:=∀(W:zh) (a:Nat) (r:Int),aR W p c a r->1<=r->r<=1000->
 zi prog fn #[zf (zc ⟨p,0,zd⟩),ze .i64 D] W λe w'=>e=.returned (.string (f (a,r)).1)/\aR w' p c (f (a,r)).2.1 (f (a,r)).2.2/\aE p W w'/\0<=(f (a,r)).2.2/\(f (a,r)).2.2<r/\((f (a,r)).1.size:Int)+5<=40*(r-(f (a,r)).2.2)
theorem zlE{L:List ByteArray}{n:Nat}(h:∀x∈L,x.size<=n)(c:List UInt8)(a:Nat):(lP L c a).1.size<=n:=by
 show (L.getD _ _).size<=n;rw[bJ];cases hq:L[(ae c L.length a).1.toNat]? with
 |none=>exact dz _
 |some x=>exact h x (IL hq)
theorem zhj(c:List UInt8)(a:Nat):(lP sT c a).1.size<=23:=zlE (by decide) c a
theorem Tt(c:List UInt8)(a:Nat):(lP pA c a).1.size<=5:=zlE (by decide) c a
theorem Ky(b:UInt8):(⟨#[b]⟩:ByteArray).size=1:=rfl
theorem zoo{A:Option (ft->ByteArray×ft)}{s:ft}(h:first=true\/0<s.2):Dc c A (k+1) first (x,s)=Dc c A k false (x++(ID c A s).1,(ID c A s).2):=af h
theorem zmn{A:Option (ft->ByteArray×ft)}{s:ft}(h:¬(first=true\/0<s.2)):Dc c A k first (x,s)=(x,s):=by
 cases k with
 |zero=>rfl
 |succ k=>exact ab h
theorem zht(p:Nat)(c:List UInt8)(A:Option (ft->ByteArray×ft))(D:Int)(hA:(A=zd/\D=3)\/∃f,A=zc f/\0<=D/\D<3/\LH 100 p c f (D+1)):LH 91 p c (uC c A) D:=by
 intro w a room h iL sq;have hb:=rK w p c a room h 4 (by omega);have hl:=jL h.le 4;have Hg:zb (uC c A (a,room)=Dc c A (1+(ae c 4 a).1).toNat true (⟨#[]⟩,((ae c 4 a).2,room))):=rfl;obtain⟨x,y,hx⟩:∃x y,ae c 4 a=(x,y):=⟨_,_,rfl⟩;rw[hx]at hb hl Hg;have x0:0<=x:=hl.2.1;have x1:x<4:=by have:=hl.2.2;simp only at this;omega
 obtain⟨x,rfl⟩:∃n:Nat,x=n:=⟨x.toNat,by omega⟩;rw[show (1+(x:Int)).toNat=x+1 by omega]at Hg;clear hl hx h
 go_enter func91,ntmps91
 go_wp2_with (go_at_call 17;refine hb.mono ?_;rintro e w0 ⟨rfl,hd,hk⟩)
 clear hb
 go_loopw [5,7] (λo i wr=>∃(k:Nat) (out:ByteArray) (a':Nat) (r':Int),k<=x+1/\o=.string out/\i=ze .i64 k/\aR wr p c a' r'/\aE p w wr/\0<=r'/\r'<=room/\(0<k->r'<room)/\(k=0->1<=r')/\(out.size:Int)<=40*(room-r')/\(0<k->(out.size:Int)+5<=40*(room-r'))/\zb (uC c A (a,room)=Dc c A (x+1-k) (decide (k=0)) (out,(a',r'))))
  (λ_ i _=>x+1-(intOf i).toNat)
 case atStart=>exact⟨0,_,y,room,by omega,rfl,rfl,hd,hk,by omega,by omega,by omega,λ_=>iL,(by show ((0:Nat):Int)<=_;omega),by omega,Hg⟩
 case round=>
  obtain⟨k,out,a',r',GN,rfl,rfl,vT,bC,r0,r1,r2,r3,r4,r5,HS⟩:=hrel;obtain⟨ao,cap,hp,_⟩:=vT.box;have c2:wr.cell? ⟨p,2,zd⟩=zc (ze .i64 r'):=cG hp 2;have f2:wr.frozen? ⟨p,2,zd⟩=false:=aM _ _ _ _ _ hp
  by_cases Yg:k=x+1\/(0<k/\r'=0)
  ·have HE:zb (uC c A (a,room)=(out,(a',r'))):=by
    refine HS.out.trans ?_;rcases Yg with rfl|⟨h1,rfl⟩
    ·rw[Nat.sub_self];rfl
    ·exact zmn (by simp;omega)
   have hrr:r'<room:=r2 (by omega);have Yt:zb (aR wr p c (uC c A (a,room)).2.1 (uC c A (a,room)).2.2/\aE p w wr/\0<=(uC c A (a,room)).2.2/\(uC c A (a,room)).2.2<room/\((uC c A (a,room)).1.size:Int)+5<=40*(room-(uC c A (a,room)).2.2)):=by
    show _;rw[HE.out];exact⟨vT,bC,r0,hrr,r5 (by omega)⟩
   clear hA hd hk HS Hg;rcases Yg with rfl|⟨h1,rfl⟩
   ·go_wp2;go_ret;exact⟨by rw[HE.out];rfl,Yt.out⟩
   ·by_cases vY:k=x+1
    ·subst vY;go_wp2;go_ret;exact⟨by rw[HE.out];rfl,Yt.out⟩
    ·have h2:((k:Int)==0)=false:=by simp;omega
     have h3:(k:Int)<1+(x:Int):=by omega
     go_wp2;go_ret;exact⟨by rw[HE.out];rfl,Yt.out⟩
  ·have pO:(k:Int)<1+(x:Int):=by omega
   have jE:k=0\/0<r':=by omega
   have gY:zb (uC c A (a,room)=Dc c A (x+1-(k+1)) false (out++(ID c A (a',r')).1,(ID c A (a',r')).2)):=by
    refine HS.out.trans ?_;rw[show x+1-k=(x+1-(k+1))+1 by omega];exact zoo (jE.imp (λh=>by simp[h]) id)
   have dC:1<=r':=jE.elim r3 (by omega);have eM:=vT.room (r'-1);have bO:=bC.trans (aE.set wr 2 (ze .i64 (r'-1)));obtain⟨ao1,mL,xP,_⟩:=eM.box;have c21:(wr.setCell ⟨p,2,zd⟩ (ze .i64 (r'-1))).cell? ⟨p,2,zd⟩=zc (ze .i64 (r'-1)):=cG xP 2;have HF:zb (ID c A (a',r')=((wM c A a' (r'-1)).1++(lP pA c (wM c A a' (r'-1)).2.1).1,((lP pA c (wM c A a' (r'-1)).2.1).2,(wM c A a' (r'-1)).2.2))):=rfl;have Ei:=λ(W:zh) (a2:Nat) (r2:Int) hW=>zjZ W p c a2 r2 hW
   have tD:=λ(W:zh) (a2:Nat) hW=>zjY W p c a2 (r'-1) hW
   have fin:∀(b:ByteArray) (a3:Nat) (r3:Int),wM c A a' (r'-1)=(b,(a3,r3))->zb (uC c A (a,room)=Dc c A (x+1-(k+1)) (decide (k+1=0)) ((out++b)++(lP pA c a3).1,((lP pA c a3).2,r3))):=λb a3 r3 hb=>by
    refine gY.out.trans ?_;rw[HF.out,hb,ByteArray.append_assoc,show decide (k+1=0)=false by simp]
   have hq:((k:Int)==0)=true\/(((k:Int)==0)=false/\0<r'):=by
    rcases Nat.eq_zero_or_pos k with rfl|h
    ·exact .inl rfl
    ·exact .inr ⟨by simp;omega,by omega⟩
   have aO:=λW hW=>rK W p c a' (r'-1) hW 3 (by omega)
   obtain⟨x3,y3,sA⟩:∃x y,ae c 3 a'=(x,y):=⟨_,_,rfl⟩;rw[sA]at aO;obtain⟨ba,ya,wu⟩:∃x y,lP sT c a'=(x,y):=⟨_,_,rfl⟩;clear HS HF gY Yg hp xP Hg hd hk;rcases hA with ⟨rfl,rfl⟩|⟨f,rfl,WA,pL,hf⟩
   ·have hB:wM c zd a' (r'-1)=(ba,(ya,r'-1)):=by show IF c a' (r'-1)=_;unfold IF;rw[wu]
    have Ec:=tD _ a' eM;have HX:=fin _ _ _ hB;rw[wu]at Ec;have zg:=λW=>Ei W ya (r'-1)
    have za:=zhj c a';rw[wu]at za;have zp:=Tt c ya;obtain⟨bp,yp,Hj⟩:∃x y,lP pA c ya=(x,y):=⟨_,_,rfl⟩;rw[Hj]at zg HX zp;have za:ba.size<=23:=za;have zp:bp.size<=5:=zp;have z1:¬9223372036854775807<out.size+ba.size:=by omega
    have z2:¬9223372036854775807<out.size+ba.size+bp.size:=by omega
    clear fin Ei tD aO;rcases hq with hq|⟨hq,j8⟩
    all_goals
     go_wp2_with (first|(go_at_call 101;refine Ec.mono ?_;rintro e w2 ⟨rfl,eQ,bu⟩)|(go_at_call 102;refine(zg _ eQ).mono ?_;rintro e w3 ⟨rfl,eU,bQ⟩))
     go_roundw
     case rel=>exact⟨k+1,_,_,_,by omega,rfl,by go_num,eU,(bO.trans bu).trans bQ,by omega,by omega,by omega,by omega,by simp only[ByteArray.size_append];omega,by simp only[ByteArray.size_append];omega,HX⟩
     case measure=>simp[intOf];omega
   ·have hD:decide (D<3)=true:=by simp[pL]
    by_cases Cv:0<r'-1
    ·by_cases He:x3=1
     ·subst He;have hB:wM c (zc f) a' (r'-1)=(⟨#[40]⟩++(f (y3,r'-1)).1 ++ ⟨#[41]⟩,(f (y3,r'-1)).2):=by
       show (if 0<r'-1 then _ else _)=_;rw[af Cv,sA,af rfl]
      obtain⟨bf,yf,rf,Kl⟩:∃b y r,f (y3,r'-1)=(b,(y,r)):=⟨_,_,_,rfl⟩;rw[Kl]at hB;have r9:∀W,aR W p c y3 (r'-1)->zi prog 100 #[zf (zc ⟨p,0,zd⟩),ze .i64 (D+1)] W λe w'=>e=.returned (.string bf)/\aR w' p c yf rf/\aE p W w'/\0<=rf/\rf<r'-1/\(bf.size:Int)+5<=40*(r'-1-rf):=λW hW=>by
       have h1:=hf W y3 (r'-1) hW (by omega) (by omega);rw[Kl]at h1;exact h1
      have HX:=fin _ _ _ hB;have zg:=λW=>Ei W yf rf
      have zp:=Tt c yf;obtain⟨bp,yp,Hj⟩:∃x y,lP pA c yf=(x,y):=⟨_,_,rfl⟩;rw[Hj]at zg HX zp;have zp:bp.size<=5:=zp;clear fin Ei tD hf;rcases hq with hq|⟨hq,j8⟩
      all_goals
       go_wp2_with (first|(go_at_call 17;refine(aO _ eM).mono ?_;rintro e w2 ⟨rfl,eQ,bu⟩)|(go_at_call 100;refine(r9 _ eQ).mono ?_;rintro e w4 ⟨rfl,pd,jf,g0,g1,g2⟩;have z0:¬9223372036854775807<1+bf.size:=(by omega);have z1:¬9223372036854775807<1+bf.size+1:=(by omega);have z2:¬9223372036854775807<out.size+(1+bf.size+1):=(by omega);have z3:¬9223372036854775807<out.size+(1+bf.size+1)+bp.size:=(by omega))|(go_at_call 102;refine(zg _ pd).mono ?_;rintro e w3 ⟨rfl,eU,bQ⟩))
       go_roundw
       case rel=>exact⟨k+1,_,_,_,by omega,rfl,by go_num,eU,((bO.trans bu).trans jf).trans bQ,by omega,by omega,by omega,by omega,by simp only[ByteArray.size_append,Ky];omega,by simp only[ByteArray.size_append,Ky];omega,HX⟩
       case measure=>simp[intOf];omega
     ·have zCg:(x3==1)=false:=by simp[He]
      have hB:wM c (zc f) a' (r'-1)=((lP sT c y3).1,((lP sT c y3).2,r'-1)):=by
       show (if 0<r'-1 then _ else _)=_;rw[af Cv,sA,ab He]
       rfl
      have Ec:=λW=>tD W y3
      have za:=zhj c y3;obtain⟨bb,yb,EP⟩:∃x y,lP sT c y3=(x,y):=⟨_,_,rfl⟩;rw[EP]at Ec hB za;have HX:=fin _ _ _ hB;have zg:=λW=>Ei W yb (r'-1)
      have zp:=Tt c yb;obtain⟨bp,yp,Hj⟩:∃x y,lP pA c yb=(x,y):=⟨_,_,rfl⟩;rw[Hj]at zg HX zp;have za:bb.size<=23:=za;have zp:bp.size<=5:=zp;have z1:¬9223372036854775807<out.size+bb.size:=by omega
      have z2:¬9223372036854775807<out.size+bb.size+bp.size:=by omega
      clear fin Ei tD hf;rcases hq with hq|⟨hq,j8⟩
      all_goals
       go_wp2_with (first|(go_at_call 17;refine(aO _ eM).mono ?_;rintro e w4 ⟨rfl,pd,jf⟩)|(go_at_call 101;refine(Ec _ pd).mono ?_;rintro e w2 ⟨rfl,eQ,bu⟩)|(go_at_call 102;refine(zg _ eQ).mono ?_;rintro e w3 ⟨rfl,eU,bQ⟩))
       go_roundw
       case rel=>exact⟨k+1,_,_,_,by omega,rfl,by go_num,eU,((bO.trans jf).trans bu).trans bQ,by omega,by omega,by omega,by omega,by simp only[ByteArray.size_append];omega,by simp only[ByteArray.size_append];omega,HX⟩
       case measure=>simp[intOf];omega
    ·have hB:wM c (zc f) a' (r'-1)=(ba,(ya,r'-1)):=by
      show (if 0<r'-1 then _ else _)=_;rw[ab Cv];show IF c a' (r'-1)=_;unfold IF;rw[wu]
     have Ec:=tD _ a' eM;have HX:=fin _ _ _ hB;rw[wu]at Ec;have zg:=λW=>Ei W ya (r'-1)
     have za:=zhj c a';rw[wu]at za;have zp:=Tt c ya;obtain⟨bp,yp,Hj⟩:∃x y,lP pA c ya=(x,y):=⟨_,_,rfl⟩;rw[Hj]at zg HX zp;have za:ba.size<=23:=za;have zp:bp.size<=5:=zp;have z1:¬9223372036854775807<out.size+ba.size:=by omega
     have z2:¬9223372036854775807<out.size+ba.size+bp.size:=by omega
     clear fin Ei tD hf aO;rcases hq with hq|⟨hq,j8⟩
     all_goals
      go_wp2_with (first|(go_at_call 101;refine Ec.mono ?_;rintro e w2 ⟨rfl,eQ,bu⟩)|(go_at_call 102;refine(zg _ eQ).mono ?_;rintro e w3 ⟨rfl,eU,bQ⟩))
      go_roundw
      case rel=>exact⟨k+1,_,_,_,by omega,rfl,by go_num,eU,(bO.trans bu).trans bQ,by omega,by omega,by omega,by omega,by simp only[ByteArray.size_append];omega,by simp only[ByteArray.size_append];omega,HX⟩
      case measure=>simp[intOf];omega
end
theorem zkA{c:List UInt8}{g:ft->ByteArray×ft}{k:Nat}{x:ByteArray}{s:ft}(h:¬0<s.2):sO c g k (x,s)=(x,s):=by
 cases k with
 |zero=>rfl
 |succ k=>exact ab h
theorem zkP(p:Nat)(c:List UInt8)(g:ft->ByteArray×ft)(D:Int)(hg:LH 91 p c g D):LH 100 p c (λs=>sO c g s.2.toNat (g s)) D:=by
 intro w a room h iL sq;have h0:=hg w a room h iL sq;obtain⟨b0,y0,Oe,lM⟩:∃b y r,g (a,room)=(b,(y,r)):=⟨_,_,_,rfl⟩;rw[lM]at h0;have h0:zi prog 91 #[zf (zc ⟨p,0,zd⟩),ze .i64 D] w λe w'=>e=.returned (.string b0)/\aR w' p c y0 Oe/\aE p w w'/\0<=Oe/\Oe<room/\(b0.size:Int)+5<=40*(room-Oe):=h0
 obtain⟨F,hF⟩:∃F,sO c g room.toNat (g (a,room))=F:=⟨_,rfl⟩;have HF:zb (F=sO c g room.toNat (b0,(y0,Oe))):=by rw[<-hF,lM];rfl
 show zi prog 100 #[zf (zc ⟨p,0,zd⟩),ze .i64 D] w λe w'=>e=.returned (.string (sO c g room.toNat (g (a,room))).1)/\aR w' p c (sO c g room.toNat (g (a,room))).2.1 (sO c g room.toNat (g (a,room))).2.2/\aE p w w'/\0<=(sO c g room.toNat (g (a,room))).2.2/\(sO c g room.toNat (g (a,room))).2.2<room/\((sO c g room.toNat (g (a,room))).1.size:Int)+5<=40*(room-(sO c g room.toNat (g (a,room))).2.2)
 rw[hF];clear hF lM h;have xI:=λW a r hW=>rK W p c a r hW 3 (by omega)
 go_enter func100,ntmps100
 go_wp2_with (go_at_call 91;refine h0.mono ?_;rintro e w0 ⟨rfl,hd,hk,g0,g1,g2⟩)
 clear h0
 go_loopw [5] (λo wr=>∃(n:Nat) (out:ByteArray) (a':Nat) (r':Int),o=.string out/\aR wr p c a' r'/\aE p w wr/\0<=r'/\r'<room/\(out.size:Int)+5<=40*(room-r')/\r'<=n/\zb (F=sO c g n (out,(a',r'))))
  (λ_ wr=>(intOf ((wr.cell? ⟨p,2,zd⟩).getD undef)).toNat)
 case atStart=>exact⟨room.toNat,_,_,_,rfl,hd,hk,g0,g1,g2,by omega,HF⟩
 case round=>
  obtain⟨n,out,a',r',rfl,vT,bC,r0,r1,r2,r3,HS⟩:=hrel;obtain⟨ao,cap,hp,_⟩:=vT.box;have c2:wr.cell? ⟨p,2,zd⟩=zc (ze .i64 r'):=cG hp 2;clear hp
  by_cases dC:0<r'
  ·obtain⟨n,rfl⟩:∃m,n=m+1:=⟨n-1,by omega⟩;have hb:=xI wr a' r' vT;have gY:zb (F=if (ae c 3 a').1=1 then sO c g n (out++(⟨#[124]⟩++(g ((ae c 3 a').2,r')).1),(g ((ae c 3 a').2,r')).2) else (out,((ae c 3 a').2,r'))):=HS.out.trans (af dC);obtain⟨x3,y3,sA⟩:∃x y,ae c 3 a'=(x,y):=⟨_,_,rfl⟩;rw[sA]at hb gY;clear HS xI sA
   by_cases He:x3=1
   ·subst He;obtain⟨bf,yf,rf,Kl⟩:∃b y r,g (y3,r')=(b,(y,r)):=⟨_,_,_,rfl⟩;have r9:∀W,aR W p c y3 r'->zi prog 91 #[zf (zc ⟨p,0,zd⟩),ze .i64 D] W λe w'=>e=.returned (.string bf)/\aR w' p c yf rf/\aE p W w'/\0<=rf/\rf<r'/\(bf.size:Int)+5<=40*(r'-rf):=λW hW=>by
     have h1:=hg W y3 r' hW (by omega) (by omega);rw[Kl]at h1;exact h1
    have BF:zb (F=sO c g n (out++(⟨#[124]⟩++bf),(yf,rf))):=by
     refine gY.out.trans ?_;rw[af rfl,Kl]
    clear gY hg HF Kl
    go_wp2_with (first|(go_at_call 17;refine hb.mono ?_;rintro e w2 ⟨rfl,eQ,bu⟩)|(go_at_call 91;refine(r9 _ eQ).mono ?_;rintro e w4 ⟨rfl,pd,jf,q0,q1,q2⟩;have z0:¬9223372036854775807<1+bf.size:=(by omega);have z1:¬9223372036854775807<out.size+(1+bf.size):=(by omega)))
    go_roundw
    case rel=>exact⟨n,_,_,_,rfl,pd,(bC.trans bu).trans jf,by omega,by omega,by simp only[ByteArray.size_append,Ky];omega,by omega,BF⟩
    case measure=>
     obtain⟨Qu,oX,NH,_⟩:=pd.box;rw[c2,show w4.cell? ⟨p,2,zd⟩=zc (ze .i64 rf) from cG NH 2];simp[intOf];omega
   ·have zCg:(x3==1)=false:=by simp[He]
    have HE:zb (F=(out,(y3,r'))):=gY.out.trans (ab He);clear gY hg HF
    go_wp2_with (go_at_call 17;refine hb.mono ?_;rintro e w2 ⟨rfl,eQ,bu⟩)
    go_ret
    exact⟨by rw[HE.out];rfl,by rw[HE.out];exact⟨eQ,bC.trans bu,r0,r1,r2⟩⟩
  ·have HE:zb (F=(out,(a',r'))):=HS.out.trans (zkA dC);clear HS hg HF xI;go_wp2;go_ret;exact⟨by rw[HE.out];rfl,by rw[HE.out];exact⟨vT,bC,r0,r1,r2⟩⟩
theorem ziU(p:Nat)(c:List UInt8):∀d:Nat,d<=3->LH 91 p c (BQ c d) (3-d)
 |0,_=>zht p c zd _ (.inl ⟨rfl,rfl⟩)
 |d+1,h=>zht p c (zc _) _ (.inr ⟨_,rfl,by omega,by omega,by
   have:=zkP p c _ _ (ziU p c d (by omega));rw[show (3-((d+1:Nat):Int)+1)=3-(d:Int) by omega];exact this⟩)
def OY(c:List UInt8)(h:Int)(a:Nat)(o:ByteArray):ByteArray×Nat:=
 if h=7 then (o ++ ⟨#[36]⟩,a) else if h=6 then (if (ae c 2 a).1=1 then o ++ ⟨#[36]⟩ else o,(ae c 2 a).2) else (o,a)
def OX(first:Bool)(h:Int)(o:ByteArray):ByteArray:=if h=6 then (if first=true then o else o ++ ⟨#[124]⟩) ++ ⟨#[94]⟩ else if first=true then o else o ++ ⟨#[124]⟩
def yn(c:List UInt8)(first:Bool)(o:ByteArray)(s:ft):ByteArray×ft:=
 ((OY c (ae c 8 s.1).1 (BQ c 3 ((ae c 8 s.1).2,s.2)).2.1 (OX first (ae c 8 s.1).1 o++(BQ c 3 ((ae c 8 s.1).2,s.2)).1)).1,
  ((OY c (ae c 8 s.1).1 (BQ c 3 ((ae c 8 s.1).2,s.2)).2.1 (OX first (ae c 8 s.1).1 o++(BQ c 3 ((ae c 8 s.1).2,s.2)).1)).2,(BQ c 3 ((ae c 8 s.1).2,s.2)).2.2))
def Iv(c:List UInt8):Nat->Bool->ByteArray×ft->ByteArray×ft
 |0,_,x=>x
 |k+1,first,x=>if (yn c first x.1 x.2).2.2<=0 then yn c first x.1 x.2 else
   if (ae c 3 (yn c first x.1 x.2).2.1).1=1 then Iv c k false ((yn c first x.1 x.2).1,((ae c 3 (yn c first x.1 x.2).2.1).2,(yn c first x.1 x.2).2.2))
   else ((yn c first x.1 x.2).1,((ae c 3 (yn c first x.1 x.2).2.1).2,(yn c first x.1 x.2).2.2))
def jH(c:List UInt8)(room:Int)(a:Nat):ByteArray×ft:=Iv c 4 true (⟨#[]⟩,(a,room))
theorem aR.c2{w:zh}{p:Nat}{c:List UInt8}{a:Nat}{r:Int}(h:aR w p c a r):w.cell? ⟨p,2,zd⟩=zc (ze .i64 r):=by
 obtain⟨ao,cap,hp,_⟩:=h.box;exact cG hp 2
theorem ziy(w:zh)(p:Nat)(c:List UInt8)(a:Nat)(r:Int)(h:aR w p c a r)(room:Int)(iL:1<=room)(sq:room<=1000):
  zi prog 78 #[zf (zc ⟨p,0,zd⟩),ze .i64 room] w λe w'=>e=.returned (.string (jH c room a).1)/\aR w' p c (jH c room a).2.1 (jH c room a).2.2/\aE p w w'/\((jH c room a).1.size:Int)<=40*room:=by
 obtain⟨ao,cap,hp,_⟩:=h.box;have f2:w.frozen? ⟨p,2,zd⟩=false:=aM _ _ _ _ _ hp;have c2:w.cell? ⟨p,2,zd⟩=zc (ze .i64 r):=cG hp 2;have hd:=h.room room;have hk:=aE.set (p:=p) w 2 (ze .i64 room);have Hp:zb (jH c room a=Iv c 4 true (⟨#[]⟩,(a,room))):=rfl;clear hp h
 go_enter func78,ntmps78
 go_wp2;have xK:=ziU p c 3 (by omega);rw[show (3-((3:Nat):Int))=0 from rfl]at xK;have xI:=λW a r hW (n:Int) (hn:n<=65536)=>rK W p c a r hW n hn
 go_loopw [5,6] (λo i wr=>∃(k:Nat) (out:ByteArray) (a':Nat) (r':Int),k<=4/\o=.string out/\i=ze .i64 k/\aR wr p c a' r'/\aE p w wr/\0<=r'/\r'<=room/\(k<4->1<=r')/\(out.size:Int)<=40*(room-r')/\zb (jH c room a=Iv c (4-k) (decide (k=0)) (out,(a',r'))))
  (λ_ i _=>4-(intOf i).toNat)
 case atStart=>exact⟨0,_,a,room,by omega,rfl,rfl,hd,hk,by omega,by omega,λ_=>iL,(by show ((0:Nat):Int)<=_;omega),Hp⟩
 case round=>
  obtain⟨k,out,a',r',jf,rfl,rfl,vT,bC,r0,r1,r3,r4,HS⟩:=hrel;clear hd hk Hp f2 c2
  by_cases RO:k=4
  ·subst RO;have HE:zb (jH c room a=(out,(a',r'))):=HS.out;clear HS xK xI;go_wp2;go_ret;exact⟨by rw[HE.out];rfl,by rw[HE.out];exact⟨vT,bC,by show (out.size:Int)<=_;omega⟩⟩
  have r3:=r3 (by omega);have hlt:(k:Int)<4:=by omega
  have gY:zb (jH c room a=Iv c (4-(k+1)+1) (decide (k=0)) (out,(a',r'))):=by
   have:=HS.out;rw[show 4-k=4-(k+1)+1 by omega]at this;exact this
  have gQ:=xI wr a' r' vT 8 (by omega);obtain⟨xh,yh,YR⟩:∃x y,ae c 8 a'=(x,y):=⟨_,_,rfl⟩;rw[YR]at gQ;obtain⟨bx,yx,rx,tS⟩:∃b y r,BQ c 3 (yh,r')=(b,(y,r)):=⟨_,_,_,rfl⟩;have r9:∀W,aR W p c yh r'->zi prog 91 #[zf (zc ⟨p,0,zd⟩),ze .i64 0] W λe w'=>e=.returned (.string bx)/\aR w' p c yx rx/\aE p W w'/\0<=rx/\rx<r'/\(bx.size:Int)+5<=40*(r'-rx):=λW hW=>by
   have h1:=xK W yh r' hW (by omega) (by omega);rw[tS]at h1;exact h1
  have aB:=λW hW=>xI W yx rx hW 2 (by omega)
  obtain⟨x2,y2,lN⟩:∃x y,ae c 2 yx=(x,y):=⟨_,_,rfl⟩;rw[lN]at aB;have Vp:∀(o4:ByteArray) (a4:Nat),yn c (decide (k=0)) out (a',r')=(o4,(a4,rx))->zb (jH c room a=if rx<=0 then (o4,(a4,rx)) else if (ae c 3 a4).1=1 then Iv c (4-(k+1)) (decide (k+1=0)) (o4,((ae c 3 a4).2,rx)) else (o4,((ae c 3 a4).2,rx))):=λo4 a4 ho=>by
   refine gY.out.trans ?_;rw[Iv,ho,show decide (k+1=0)=false by simp]
  have tO:yn c (decide (k=0)) out (a',r')=((OY c xh yx (OX (decide (k=0)) xh out++bx)).1,((OY c xh yx (OX (decide (k=0)) xh out++bx)).2,rx)):=by
   unfold yn;rw[YR,tS]
  obtain⟨fb,RA⟩:∃fb,decide (k=0)=fb:=⟨_,rfl⟩;rw[RA]at Vp tO;have XH:(¬(0:Int)<(k:Int)/\fb=true)\/((0:Int)<(k:Int)/\fb=false):=by
   rcases Nat.eq_zero_or_pos k with h|h
   ·exact .inl ⟨by omega,by rw[<-RA];simp[h]⟩
   ·exact .inr ⟨by omega,by rw[<-RA];simp;omega⟩
  have hh:(xh=7\/(xh≠6/\xh≠7))\/((xh=6/\x2=1)\/(xh=6/\x2≠1)):=by omega
  have y1:¬9223372036854775807<out.size+1:=by omega
  have SV:¬9223372036854775807<out.size+1+1:=by omega
  have y3':¬9223372036854775807<out.size+2:=by omega
  clear RA HS gY xK tS YR;rcases XH with ⟨pe,rfl⟩|⟨pe,rfl⟩
  all_goals
   rcases hh with hA|hB
   case' inl=>
    have de:=λW hW=>xI W yx rx hW 3 (by omega)
    obtain⟨x4,y4,EO⟩:∃x y,ae c 3 yx=(x,y):=⟨_,_,rfl⟩;rw[EO]at de;clear aB
   case' inr=>
    have de:=λW hW=>xI W y2 rx hW 3 (by omega)
    obtain⟨x4,y4,EO⟩:∃x y,ae c 3 y2=(x,y):=⟨_,_,rfl⟩;rw[EO]at de
   all_goals first|(rcases hA with rfl|⟨h6,h7⟩)|(rcases hB with ⟨rfl,rfl⟩|⟨rfl,h21⟩)
   all_goals
    try have m6:(xh==6)=false:=by simp[h6]
    try have m7:(xh==7)=false:=by simp[h7]
    try have m2:(x2==1)=false:=by simp[h21]
    try simp[OY,OX,lN]at tO
    try simp[h6,h7]at tO
    try simp[h21]at tO
    have HX:=Vp _ _ tO;rw[EO]at HX;clear Vp tO lN EO xI
    by_cases G5:rx<=0
    ·have HE:zb (jH c room a=_):=HX.out.trans (af G5);clear de HX
     go_wp2_with (first|(go_at_call 17;refine gQ.mono ?_;rintro e w1 ⟨rfl,eM,bO⟩;clear gQ)|(go_at_call 91;refine(r9 _ eM).mono ?_;rintro e w2 ⟨rfl,eQ,bu,g0,g1,g2⟩;have wZ:zb _:=(bC.trans bO).trans bu;have yK:zb (aR w2 p c yx rx):=eQ;have vu:zb _:=g2;have k2:=eQ.c2;have Qg:zb _:=g0;have z0:¬9223372036854775807<out.size+bx.size:=(by omega);have z1:¬9223372036854775807<out.size+1+bx.size:=(by omega);have z2:¬9223372036854775807<out.size+1+1+bx.size:=(by omega);have z3:¬9223372036854775807<out.size+2+bx.size:=(by omega);have z4:¬9223372036854775807<out.size+bx.size+1:=(by omega);have z5:¬9223372036854775807<out.size+1+bx.size+1:=(by omega);have z6:¬9223372036854775807<out.size+1+1+bx.size+1:=(by omega);have z7:¬9223372036854775807<out.size+2+bx.size+1:=(by omega))|(go_at_call 17;refine(aB _ yK.out).mono ?_;rintro e w3 ⟨rfl,eU,bQ⟩;clear aB;have FQ:zb _:=wZ.out.trans bQ;have Au:zb _:=eU;have k3:=eU.c2))
     go_ret
     exact⟨by rw[HE.out];rfl,by rw[HE.out];exact⟨by first|exact Au.out|exact yK.out,by first|exact FQ.out|exact wZ.out,by have:=vu.out;have:=Qg.out;simp only[ByteArray.size_append,Ky];omega⟩⟩
    by_cases YO:x4=1
    ·subst YO;have HE:zb (jH c room a=_):=(HX.out.trans (ab G5)).trans (af rfl);clear HX
     go_wp2_with (first|(go_at_call 17;refine gQ.mono ?_;rintro e w1 ⟨rfl,eM,bO⟩;clear gQ)|(go_at_call 91;refine(r9 _ eM).mono ?_;rintro e w2 ⟨rfl,eQ,bu,g0,g1,g2⟩;have wZ:zb _:=(bC.trans bO).trans bu;have yK:zb (aR w2 p c yx rx):=eQ;have vu:zb _:=g2;have k2:=eQ.c2;have Qg:zb _:=g0;have z0:¬9223372036854775807<out.size+bx.size:=(by omega);have z1:¬9223372036854775807<out.size+1+bx.size:=(by omega);have z2:¬9223372036854775807<out.size+1+1+bx.size:=(by omega);have z3:¬9223372036854775807<out.size+2+bx.size:=(by omega);have z4:¬9223372036854775807<out.size+bx.size+1:=(by omega);have z5:¬9223372036854775807<out.size+1+bx.size+1:=(by omega);have z6:¬9223372036854775807<out.size+1+1+bx.size+1:=(by omega);have z7:¬9223372036854775807<out.size+2+bx.size+1:=(by omega))|(go_at_call 17;refine(aB _ yK.out).mono ?_;rintro e w3 ⟨rfl,eU,bQ⟩;clear aB;have FQ:zb _:=wZ.out.trans bQ;have Au:zb _:=eU;have k3:=eU.c2)|(go_at_call 17;refine(de _ (by first|exact Au.out|exact yK.out)).mono ?_;rintro e w5 ⟨rfl,JT,vV⟩))
     go_roundw
     case rel=>exact⟨k+1,_,_,_,by omega,rfl,by go_num,JT,by first|exact FQ.out.trans vV|exact wZ.out.trans vV,by omega,by omega,by omega,by simp only[ByteArray.size_append,Ky];omega,HE⟩
     case measure=>simp[intOf];omega
    ·have HE:zb (jH c room a=_):=(HX.out.trans (ab G5)).trans (ab YO);have m4:(x4 != 1)=true:=by simp[YO]
     clear HX
     go_wp2_with (first|(go_at_call 17;refine gQ.mono ?_;rintro e w1 ⟨rfl,eM,bO⟩;clear gQ)|(go_at_call 91;refine(r9 _ eM).mono ?_;rintro e w2 ⟨rfl,eQ,bu,g0,g1,g2⟩;have wZ:zb _:=(bC.trans bO).trans bu;have yK:zb (aR w2 p c yx rx):=eQ;have vu:zb _:=g2;have k2:=eQ.c2;have Qg:zb _:=g0;have z0:¬9223372036854775807<out.size+bx.size:=(by omega);have z1:¬9223372036854775807<out.size+1+bx.size:=(by omega);have z2:¬9223372036854775807<out.size+1+1+bx.size:=(by omega);have z3:¬9223372036854775807<out.size+2+bx.size:=(by omega);have z4:¬9223372036854775807<out.size+bx.size+1:=(by omega);have z5:¬9223372036854775807<out.size+1+bx.size+1:=(by omega);have z6:¬9223372036854775807<out.size+1+1+bx.size+1:=(by omega);have z7:¬9223372036854775807<out.size+2+bx.size+1:=(by omega))|(go_at_call 17;refine(aB _ yK.out).mono ?_;rintro e w3 ⟨rfl,eU,bQ⟩;clear aB;have FQ:zb _:=wZ.out.trans bQ;have Au:zb _:=eU;have k3:=eU.c2)|(go_at_call 17;refine(de _ (by first|exact Au.out|exact yK.out)).mono ?_;rintro e w5 ⟨rfl,JT,vV⟩))
     go_ret
     exact⟨by rw[HE.out];rfl,by rw[HE.out];exact⟨JT,by first|exact FQ.out.trans vV|exact wZ.out.trans vV,by have:=vu.out;have:=Qg.out;simp only[ByteArray.size_append,Ky];omega⟩⟩
end Go.Proofs.YtfajjdgkiilhfaaGreatDoor
