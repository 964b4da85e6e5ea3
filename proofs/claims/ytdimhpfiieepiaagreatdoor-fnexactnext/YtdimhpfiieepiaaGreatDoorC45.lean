import Derived.Test.YtdimhpfiieepiaaGreatDoorC44
namespace Go.Proofs.YtdimhpfiieepiaaGreatDoor
set_option maxHeartbeats 4000000
set_option maxRecDepth 100000
section
open Go.RowKit
attribute [local go_sem ↓] Go.wp_at_zero Go.wp_at_succ
theorem Tryz.sizePair:(Tryz.prog.info? 71).map (·.size)=some 2:=by kernel_rfl
def zo5(ats:Array TypeId)(ty:TypeId)(args:Array Value):Sem Value:=Builtin.copy_ ats ty args
theorem zjS(ty:TypeId)(args:Array Value):Builtin.copy_ #[33,33] ty args=zo5 #[33,33] ty args:=rfl
attribute [local go_sem ↓] zjS
theorem zf0(x y:Value)(hx:x.oneCell'=true)(hy:y.oneCell'=true){n j c g dc sl sc:Nat}{a:Addr}{W:World}(hR:W.heap[g]?=some (.cells (rp2 x y (.int .i64 0) (.int .i64 0) n j).toArray 71 (0,0)))(hj:j<=n)(hc:c=min sl (n-j))(hs:∀i,i<c*2->W.cell? (a.add i)=some (if i%2=0 then x else y))(ty:TypeId)(dl:Nat)(hdl:dl=n-j)(o:Nat)(ho:o=j*2):
  ∃W',(zo5 #[33,33] ty #[.slice (some ⟨g,o,none⟩) dl dc,.slice (some a) sl sc]).run Tryz.prog W=.ok (.int .i64 (c:Int)) W'/\W'.heap[g]?=some (.cells (rp2 x y (.int .i64 0) (.int .i64 0) n (j+c)).toArray 71 (0,0))/\W.grownBy W' (some g):=by
 subst ho;have h:=zgd (P:=Tryz.prog) W 33 33 ty 71 g (j*2) dl dc a sl sc (rp2 x y (.int .i64 0) (.int .i64 0) n j).toArray 71 (pr2 x y c) c Tryz.underlying33 Tryz.sizePair hR (by rw[hdl];exact hc) (zdL x y c)
  (fun i v hv=>by
   by_cases hi:i<c*2
   ·rw[zl1 x y hi] at hv;cases hv;exact hs i hi
   ·rw[zvb (by rw[zdL];omega)] at hv;cases hv) (by rw[zdL,zvA,zhm];omega) (by
   intro v hv;obtain⟨k,-,rfl⟩:=zvs.1 hv;split
   ·exact hx
   ·exact hy)
 refine⟨_,h,?_,⟨rfl,rfl,rfl,by simp[World.setRow],fun k _ hk=>setRow_other W g k _ (fun e=>hk (by rw[e]))⟩⟩;rw[setRow_heap W g _ _ _ _ hR];have e:=ziy x y (.int .i64 0) (.int .i64 0) (n:=n) (j:=j) (c:=c) (by omega);unfold splice at e;rw[zuR,e]
theorem zjp(x y:Value)(ox:x.oneCell'=true)(oy:y.oneCell'=true)(g0 n:Nat)(w:World)(hx:w.cell? ⟨g0,0,none⟩=some x)(hy:w.cell? ⟨g0,1,none⟩=some y)(hn:n<=4000):
  Calls Tryz.prog 129 #[.slice (some ⟨g0,0,none⟩) 1 1,.int .i64 (n:Int)] w fun e w'=>e=.returned (.slice (some ⟨w.heap.size,0,none⟩) n n)/\w'.ownsRow w.heap.size 71 2 (.slice (some ⟨w.heap.size,0,none⟩) n n) n (pr2 x y n)/\Below w.heap.size w w':=by
 obtain⟨i0,hi,hz0,hz1,hz2⟩:=info_parts Tryz.infoPair;have hm:=zpU n w hn;have hg0:g0<w.heap.size:=block_lt_of_cell hx;have hi2:(n:Int)<=4000:=by omega
 obtain⟨c0,hc0⟩:∃c,c=min 1 n:=⟨_,rfl⟩;have hsrc:∀W,Below w.heap.size w W->∀i,i<c0*2->W.cell? ((⟨g0,0,none⟩:Addr).add i)=some (if i%2=0 then x else y):=fun W hb i hi=>by
  obtain rfl|rfl:i=0\/i=1:=by omega
  ·exact(hb.cell (p:=⟨g0,0,none⟩) hg0).trans hx
  ·exact(hb.cell (p:=⟨g0,1,none⟩) hg0).trans hy
 go_enter Tryz.func129,Tryz.ntmps129
 go_wp2_with (first|(go_at_call 149;refine hm.mono ?_;rintro e w' ⟨rfl,hw'⟩;subst w')|(refine wpList_make_full _ rfl _ _ 33 rfl w.heap.size 71 i0 _ 2 Tryz.underlying33 hi hz0 hz1 _ _ _ _ n rfl rfl rfl rfl (by rw[hz2];omega) (by unfold maxLen;omega) (zvJ _) ?_;intro w1 hown1 hgrow1;have hb1:Below w.heap.size w w1:=(Below.refl _ _).grown hgrow1 (zvJ _) (by intro k h;cases h);have HR:Hid (w1.heap[w.heap.size]?=some (.cells (rp2 x y (.int .i64 0) (.int .i64 0) n 0).toArray 71 (0,0))):=(by have h:=zbq hown1;rw[show (Value.agg #[.int .i64 0,.int .i64 0]).cells=#[.int .i64 0,.int .i64 0] from rfl,zmP x y] at h;exact h);clear hown1 hgrow1;obtain⟨w2,hcp,hR2,hg2⟩:=zf0 x y ox oy (sc:=1) (a:=⟨g0,0,none⟩) (dc:=n) HR.out (zvT _) (c:=c0) (sl:=1) (by omega) (hsrc _ hb1) 3 n rfl 0 rfl;have HR2:Hid (w2.heap[w.heap.size]?=some (.cells (rp2 x y (.int .i64 0) (.int .i64 0) n c0).toArray 71 (0,0))):=(by rw[zvS] at hR2;exact hR2);have hB2:Hid (Below w.heap.size w w2):=hb1.grown hg2 hb1.size (fun q e=>by cases e;exact zvJ _);clear hR2 hg2))
 clear hx hy hcp hb1 hm HR hsrc
 go_loopw [8] (fun i wr=>∃(j:Nat),(1<=j\/n=0)/\j<=n/\i=.int .i64 j/\Hid (wr.heap[w.heap.size]?=some (.cells (rp2 x y (.int .i64 0) (.int .i64 0) n j).toArray 71 (0,0)))/\Hid (Below w.heap.size w wr))
  (fun i _=>n-(intOf i).toNat)
 case atStart=>exact⟨c0,by omega,by omega,by rw[hc0],HR2,hB2⟩
 case round=>
  obtain⟨j,hj1,hj,rfl,HR,HB⟩:=hrel
  by_cases hj2:j<n
  ·have hj1':1<=j:=by omega
   have hi3:(j:Int)<(n:Int):=by omega
   have hi4:¬n=j:=by omega
   obtain⟨c,hc⟩:∃c,c=min j (n-j):=⟨_,rfl⟩;obtain⟨w5,hcp,hR5,hg5⟩:=zf0 x y ox oy (W:=wr.drew) (sc:=n) (a:=⟨w.heap.size,0,none⟩) (dc:=n-j) HR.out hj (c:=c) (sl:=j) hc (fun i hi=>by
    have e:(⟨w.heap.size,0,none⟩:Addr).add i=⟨w.heap.size,i,none⟩:=by unfold Addr.add;split<;>simp_all
    have hr:wr.drew.heap[w.heap.size]?=some (.cells (rp2 x y (.int .i64 0) (.int .i64 0) n j).toArray 71 (0,0)):=HR.out;have e2:i<j*2:=by omega
    rw[e,zvW _ _ _ _ _ _ hr,List.getElem?_toArray,zd9 _ _ _ _ (by omega),zv3 e2]) 3 (n-j) rfl (j*2) rfl
   have HR5:Hid _:=hR5;have HB5:Hid (Below w.heap.size w w5):=by
    have hB1:Below w.heap.size w wr.drew:=HB.out.trans ⟨rfl,rfl,rfl,zvJ _,fun _ _=>rfl⟩;exact hB1.grown hg5 hB1.size (fun q e=>by cases e;exact zvJ _)
   have hc1:1<=c:=by omega
   have hc2:j+c<=n:=by omega
   have hc3:(j:Int)+(c:Int)<=4000:=by omega
   clear hR5 hg5 hc;go_wp2
   go_big_region
   go_wp2
   go_roundw
   case rel=>exact⟨j+c,by omega,hc2,by simp,HR5,HB5⟩
   case measure=>simp[intOf];omega
  ·have hjj:j=n:=by omega
   subst hjj;go_wp2;refine zvV (v:=.slice (some ⟨w.heap.size,0,none⟩) j j) (by simp[results,Tryz.results129,go_sem]) rfl ⟨rfl,?_,HB.out⟩;have:=HR.out;rw[zm5] at this;exact ziv this (zvJ _) (zdL _ _ _) (by unfold maxLen;omega)
end
section
open Go.RowKit
attribute [local go_sem ↓] Go.wp_at_zero Go.wp_at_succ
theorem zgY(bol eol:Bool)(ao:Option Addr)(k c:Nat)(a:Nat)(w:World):
  Calls Tryz.prog 128 #[.agg #[.bool bol,.bool eol,.slice ao k c],.int .i64 a] w fun r w'=>r=.returned (.bool (a==0 || !bol))/\Below w.heap.size w w':=by
 have hb:Below w.heap.size w (w.alloc (.cells #[.bool bol,.bool eol,.slice ao k c] 115)):=(Below.refl _ _).alloc (zvJ _) _;have h0:((a:Int)==0)=(a==0):=by
  by_cases h:a=0
  ·subst h;rfl
  ·have:((a:Int)==0)=false:=by simp;omega
   rw[this];simp;omega
 cases hz:(a==0)<;>cases bol
 all_goals
  rw[hz] at h0
  go_enter Tryz.func128,Tryz.ntmps128
  go_wp2;go_ret;exact⟨rfl,hb⟩
theorem zkk(bol eol cl:Bool)(ao:Option Addr)(k c:Nat)(t:ByteArray)(e:Nat)(w:World):
  Calls Tryz.prog 123 #[.agg #[.bool bol,.bool eol,.slice ao k c],.string t,.int .i64 e,.bool cl] w fun r w'=>r=.returned (.bool ((cl&&e==t.size) || !eol))/\Below w.heap.size w w':=by
 have hb:Below w.heap.size w (w.alloc (.cells #[.bool bol,.bool eol,.slice ao k c] 115)):=(Below.refl _ _).alloc (zvJ _) _;have h1:((e:Int)==(t.size:Int))=(e==t.size):=by
  by_cases h:e=t.size
  ·subst h;simp
  ·have:((e:Int)==(t.size:Int))=false:=by simp;omega
   rw[this];simp;omega
 cases he:(e==t.size)<;>cases eol<;>cases cl
 all_goals
  rw[he] at h1
  go_enter Tryz.func123,Tryz.ntmps123
  go_wp2;go_ret;exact⟨rfl,hb⟩
theorem ziw(bol eol cl:Bool)(n a e:Nat):zdK bol eol n a e cl=((a==0 || !bol)&&((cl&&e==n) || !eol)):=by
 unfold zdK;cases (a==0)<;>cases bol<;>cases (e==n)<;>cases eol<;>cases cl<;>rfl
theorem zul(n:Nat)(a b:Int):pr2 (.int .i64 a) (.int .i64 b) n=pv (List.replicate n (a,b)):=by
 induction n with
 |zero=>rfl
 |succ n ih=>
  rw[List.replicate_succ',zql,<-ih];unfold pr2;rw[show (n+1)*2=n*2+1+1 from by omega,zvy,zvy];simp
theorem zir(pl G:Nat)(x1 x2 x3:Value)(w:World)(hx:w.heap[pl]?=some (.cells #[.int .i64 (G:Int),x1,x2,x3] 189 (0,0)))(hG:G<=500):
  Calls Tryz.prog 103 #[.pointer (some ⟨pl,0,none⟩)] w fun e w'=>∃g,e=.returned (.slice (some ⟨g,0,none⟩) (G+1) (G+1))/\w.heap.size<=g/\w'.ownsRow w.heap.size 71 2 (.slice (some ⟨g,0,none⟩) (G+1) (G+1)) (G+1) (pv (List.replicate (G+1) (-1,-1)))/\Below w.heap.size w w':=by
 obtain⟨W1,hW1⟩:∃W1,w.alloc (.cells #[.int .i64 (-1),.int .i64 (-1)] 71)=W1:=⟨_,rfl⟩;have hb1:Below w.heap.size w W1:=by rw[<-hW1];exact(Below.refl _ _).alloc (zvJ _) _
 have y1:W1.heap[w.heap.size]?=some (.cells #[.int .i64 (-1),.int .i64 (-1)] 71 (0,0)):=by rw[<-hW1];exact zvZ _ _
 have hc:=zjp (.int .i64 (-1)) (.int .i64 (-1)) rfl rfl w.heap.size (G+1) W1 (zaO y1).1 (zaO y1).2 (by omega);have c0:W1.cell? ⟨pl,0,none⟩=some (.int .i64 (G:Int)):=(hb1.cell (p:=⟨pl,0,none⟩) (zuH.1 hx).1).trans (zvW _ _ _ _ _ _ hx:w.cell? ⟨pl,0,none⟩=_);rw[zul] at hc;obtain⟨m,Hm⟩:∃m,Hid (G+1=m):=⟨_,rfl⟩;have hGi:(G:Int)+1=(m:Int):=by have:=Hm.out;omega
 rw[Hm.out] at hc ⊢;clear hx y1
 go_enter Tryz.func103,Tryz.ntmps103
 go_wp2_with fail
 refine hc.mono ?_;rintro e W2 ⟨rfl,own2,hb2⟩;have HO:=hidF own2;clear hc own2 c0;go_wp2;go_ret;exact⟨W1.heap.size,rfl,hb1.size,zck HO.out hb1.size,zaa hb1 hb1.size hb2⟩
end
section
variable{w wr:World}{pl:Nat}{x0 x1 vP:Value}{Q:Nat -> Option Pt}{ps:List (Nat×Pt)}
open Go.RowKit
attribute [local go_sem ↓] Go.wp_at_zero Go.wp_at_succ
structure NpS(w:World)(pl:Nat)(x0 x1:Value)(wr:World)(Q:Nat->Option Pt)(vP:Value)(ps:List (Nat×Pt)):Prop where
 kd:KdR w pl wr Q (fun k=>vP.ownBlock=some k\/k=pl) ps
 own:wr.ownsRow w.heap.size 198 1 vP ps.length (opL ps)
 xp:wr.heap[pl]?=some (.cells #[x0,x1,vP,.int .i64 1048576] 189 (0,0))
 lo:w.heap.size<=pl
theorem NpS.below(h:NpS w pl x0 x1 wr Q vP ps){wr2:World}(hb:Below wr.heap.size wr wr2):NpS w pl x0 x1 wr2 Q vP ps:=
 ⟨h.kd.below hb,zac h.own hb,(hb.block _ (zuH.1 h.xp).1).trans h.xp,h.lo⟩
theorem NpS.push{w7:World}{a:Nat}{q:Pt}{g7 cap7:Nat}(h:KdR w pl wr Q (fun k=>vP.ownBlock=some k\/k=pl) (ps++[(a,q)]))(hown0:wr.ownsRow w.heap.size 198 1 vP ps.length (opL ps))(xp:wr.heap[pl]?=some (.cells #[x0,x1,vP,.int .i64 1048576] 189 (0,0)))(lo:w.heap.size<=pl)
  (hown:w7.ownsRow w.heap.size 198 1 (.slice (some ⟨g7,0,none⟩) (ps.length+1) cap7) (ps.length+1) (opL ps++[.pointer (some ⟨a,0,none⟩)])) (hg:wr.grownBy w7 vP.ownBlock) (hat:vP.ownBlock=some g7\/wr.heap.size<=g7):
  w7.heap[pl]?=some (.cells #[x0,x1,vP,.int .i64 1048576] 189 (0,0))/\NpS w pl x0 x1 (w7.setCell ⟨pl,2,none⟩ (.slice (some ⟨g7,0,none⟩) (ps.length+1) cap7)) Q (.slice (some ⟨g7,0,none⟩) (ps.length+1) cap7) (ps++[(a,q)]):=by
 have ty:∀{k:Nat} {cs:Array Value} {t:TypeId},wr.heap[k]?=some (.cells cs t (0,0))->t≠198->¬some k=vP.ownBlock:=fun e1 e2 e3=>by
  obtain⟨_,cur,z⟩:=zaD hown0 e3.symm;rw[e1] at z;exact e2 (zad z)
 have xp7:=(hg.block _ (zuH.1 xp).1 (ty xp (by decide))).trans xp;refine⟨xp7,?_⟩;have ho8:=zv1 w7 pl 2 _ _ (.slice (some ⟨g7,0,none⟩) (ps.length+1) cap7) xp7;obtain⟨w8,hw8⟩:∃w8,w7.setCell ⟨pl,2,none⟩ (.slice (some ⟨g7,0,none⟩) (ps.length+1) cap7)=w8:=⟨_,rfl⟩;have g8:w7.grownBy w8 (some pl):=by rw[<-hw8];exact zaK w7 pl 2 _
 rw[hw8] at ho8 ⊢;have xp8:w8.heap[pl]?=some (.cells #[x0,x1,.slice (some ⟨g7,0,none⟩) (ps.length+1) cap7,.int .i64 1048576] 189 (0,0)):=by rw[ho8];rfl
 have tc:zam (fun k=>vP.ownBlock=some k\/k=pl) wr w8:=((zam.refl _ wr).grown hg (fun k e=>.inl (.inl e))).grown g8 (fun k e=>.inl (.inr (Option.some.inj e).symm));have ne8:∀{k:Nat} {cs:Array Value} {t:TypeId},w7.heap[k]?=some (.cells cs t (0,0))->t≠189->w8.heap[k]?=some (.cells cs t (0,0)):=fun e1 e2=>(g8.block _ (zuH.1 e1).1 (fun e=>by
  injection e with e
  rw[e,xp7] at e1;exact e2 (zad e1).symm)).trans e1
 have own8:w8.ownsRow w.heap.size 198 1 (.slice (some ⟨g7,0,none⟩) (ps.length+1) cap7) (ps.length+1) (opL ps++[.pointer (some ⟨a,0,none⟩)]):=zav hown (fun b e=>by
  obtain⟨_,cur,z⟩:=zaD hown e;exact(ne8 z (by decide)).trans z.symm)
 refine⟨h.turn tc (fun k e=>?_) (fun k e=>?_),?_,xp8,lo⟩
 ·rcases e with e|e
  ·have e:g7=k:=by simpa [Value.ownBlock] using e
   subst e;rcases hat with h1|h1
   ·exact .inl (.inl h1)
   ·exact .inr h1
  ·exact .inl (.inr e)
 ·rcases e with e|e
  ·obtain⟨z1,cur,z2⟩:=zaD own8 e;exact⟨z1,cur,_,z2,by decide,by decide⟩
  ·subst e;exact⟨lo,_,_,xp8,by decide,by decide⟩
 ·have e:opL (ps++[(a,q)])=opL ps++[.pointer (some ⟨a,0,none⟩)]:=by simp[opL]
  rw[e,zvh];exact own8
def NpA(w:World)(x0 x1:Value)(n:Nat)(pq:Nat->Pt)(e:Ending)(w':World):Prop:=
 ∃(pl:Nat) (Q:Nat->Option Pt) (vP:Value) (ps:List (Nat×Pt)),e=.returned (.pointer (some ⟨pl,0,none⟩))/\NpS w pl x0 x1 w' Q vP ps/\ps.length=n/\∀k,k<n->opQ ps k=pq k
theorem znZ(G:Int)(ao:Option Addr)(bn bc g sc n:Nat)(tt:Nat->TypeId)(xx:Nat->Value)(pq:Nat->Pt)(w:World)(hr:∀k,k<n->w.cell? ⟨g,k,none⟩=some (.iface (tt k) (xx k)))(hT:∀k,k<n->zan w (.iface (tt k) (xx k)) (pq k))(hw:∀k,k<n->wPt (pq k)<=2000)(hn:n<=100000):
  Calls Tryz.prog 122 #[.agg #[.slice ao bn bc,.int .i64 G],.slice (some ⟨g,0,none⟩) n sc] w fun e w'=>NpA w (.int .i64 G) (.slice ao bn bc) n pq e w':=by
 obtain⟨i0,hi,hz0,hz1,hz2⟩:=info_parts Tryz.infoPieceP;obtain⟨W0,hW0⟩:∃W0,(w.alloc (.cells #[.slice ao bn bc,.int .i64 G] 69)).alloc (.cells #[.int .i64 G,.slice ao bn bc,.slice none 0 0,.int .i64 1048576] 189)=W0:=⟨_,rfl⟩;have hb0:Below w.heap.size w W0:=by rw[<-hW0];exact((Below.refl _ _).alloc (zvJ _) _).alloc (by simp) _
 have x0:W0.heap[w.heap.size+1]?=some (.cells #[.int .i64 G,.slice ao bn bc,.slice none 0 0,.int .i64 1048576] 189 (0,0)):=by rw[<-hW0];exact zdj _ _ _
 have HN0:Hid (NpS w (w.heap.size+1) (.int .i64 G) (.slice ao bn bc) W0 (fun _=>none) (.slice none 0 0) []):=⟨KdR.start w _ _ W0 hb0 (fun k e=>by
   rcases e with e|e
   ·simp[Value.ownBlock] at e
   ·subst e;exact⟨by omega,_,_,x0,by decide,by decide⟩),⟨rfl,.inl ⟨rfl,rfl⟩⟩,x0,by omega⟩
 have Hr:=hidF hr;have HT:=hidF hT;have Hw:=hidF hw;have hp:=fun k=>zr4 (pq k)
 clear hr hT hw x0 hb0
 go_enter Tryz.func122,Tryz.ntmps122
 go_wp2;clear hW0
 go_loopw [16] (fun iv wr=>∃(k:Nat) (Q:Nat->Option Pt) (vP:Value) (ps:List (Nat×Pt)),iv=.int .i64 k/\k<=n/\ps.length=k/\Hid (NpS w (w.heap.size+1) (.int .i64 G) (.slice ao bn bc) wr Q vP ps)/\Hid (∀j,j<k->opQ ps j=pq j))
  (fun iv _=>n-(intOf iv).toNat)
 case atStart=>exact⟨0,_,_,[],rfl,zvT _,rfl,HN0,fun j hj=>absurd hj (zvQ _)⟩
 case round=>
  clear HN0;obtain⟨k,Q,vP,ps,rfl,hkn,hpk,HN,HQ⟩:=hrel
  by_cases hlt:k<n
  ·have hk0:(0:Int)<=(k:Int):=by omega
   have hk1:(k:Int)<(n:Int):=by omega
   have hbel:=HN.out.kd.bel;have cg:wr.cell? ⟨g,k,none⟩=some (.iface (tt k) (xx k)):=(hbel.cell (p:=⟨g,k,none⟩) (block_lt_of_cell (Hr.out k hlt))).trans (Hr.out k hlt);have hA0:=HN.out.below ((Below.refl wr.heap.size wr).drew);have hc:=hp k (w.heap.size+1) (.iface (tt k) (xx k)) wr.drew (zan.keep (zaQ hA0.kd.bel) _ _ (HT.out k hlt)) (Hw.out k hlt);have cp:wr.cell? ⟨w.heap.size+1,2,none⟩=some vP:=(zbk HN.out.xp).1;have hpl:=(zuH.1 HN.out.xp).1;have Hnx:Hid (∀(e:Ending) (w':World),PcR wr.drew (w.heap.size+1) (pq k) e w'->∃(a:Nat) (Q2:Nat->Option Pt),e=.returned (.pointer (some ⟨a,0,none⟩))/\w'.ownsRow w.heap.size 198 1 vP ps.length (opL ps)/\w.heap.size<=w'.heap.size/\w.heap.size+1<w'.heap.size/\w'.cell? ⟨w.heap.size+1,2,none⟩=some vP/\∀w7 g7 cap7,w7.ownsRow w.heap.size 198 1 (.slice (some ⟨g7,0,none⟩) (ps.length+1) cap7) (ps.length+1) (opL ps++[.pointer (some ⟨a,0,none⟩)])->w'.grownBy w7 vP.ownBlock->(vP.ownBlock=some g7\/w'.heap.size<=g7)->w7.cell? ⟨w.heap.size+1,2,none⟩=some vP/\w7.frozen? ⟨w.heap.size+1,2,none⟩=false/\NpS w (w.heap.size+1) (.int .i64 G) (.slice ao bn bc) (w7.setCell ⟨w.heap.size+1,2,none⟩ (.slice (some ⟨g7,0,none⟩) (ps.length+1) cap7)) Q2 (.slice (some ⟨g7,0,none⟩) (ps.length+1) cap7) (ps++[(a,pq k)])):=fun e w' hR=>by
    obtain⟨a,Q2,rfl,hb2,hK2⟩:=hA0.kd.add hR;have hA2:=hA0.below hb2;refine⟨a,Q2,rfl,hA2.own,hK2.bel.size,(zuH.1 hA2.xp).1,(zbk hA2.xp).1,fun w7 g7 cap7 h1 h2 h3=>?_⟩;obtain⟨k1,k2⟩:=NpS.push hK2 hA2.own hA2.xp hA2.lo h1 h2 h3;exact⟨(zbk k1).1,(zbk k1).2,k2⟩
   have hcE:Calls Tryz.prog 139 #[.pointer (some ⟨w.heap.size+1,0,none⟩),.iface (tt k) (xx k)] wr.drew fun e w'=>∃v,e=.returned v/\PcR wr.drew (w.heap.size+1) (pq k) (.returned v) w':=hc.mono fun e w' h=>by
    obtain⟨a,Q2,rfl,h2⟩:=h;exact⟨_,rfl,a,Q2,rfl,h2⟩
   have hps:ps.length<=100000:=by omega
   have Hget:Hid (∀a,∀j,j<k+1->opQ (ps++[(a,pq k)]) j=pq j):=fun a j hj=>by
    by_cases e:j=k
    ·subst e;unfold opQ;rw[zu3,zu6 (by omega),hpk,zvR]
     rfl
    ·have:=HQ.out j (by omega);unfold opQ at this ⊢;rw[zu3,zu5 (by omega),<-zu3];exact this
   have Hpk:=hidF hpk;clear hA0 hc hp hpk
   go_upto_region 5 with fail
   refine wp_mono (Q:=zfB _) ?_ zcm
   go_region_law ((first|(refine zcQ (by rfl) 139 #[.tmp 25,.tmp 26] #[161,184] (by rfl) #[.pointer (some ⟨w.heap.size+1,0,none⟩),.iface (tt k) (xx k)] (by first|(simp[Act.eval];done)|simp[Act.eval,Act.put]) _ (zfF _ _) hcE ?_;intro v4 W4 hR4;obtain⟨a4,Q4,hv4,own4,hs4,hbo4,co4,Hn4⟩:=Hnx.out _ W4 hR4;injection hv4 with hv4;subst hv4;have co5:(W4.alloc (.cells #[.pointer (some ⟨a4,0,none⟩)] 198)).cell? ⟨w.heap.size+1,2,none⟩=some vP:=(((Below.refl W4.heap.size W4).alloc (zvJ _) _).cell (p:=⟨w.heap.size+1,2,none⟩) hbo4).trans co4;have Hn4:=hidF Hn4;clear hR4)|(refine zee (by rfl) (.tmp 24) (.tmp 28) 187 (by rfl) W4 #[.pointer (some ⟨a4,0,none⟩)] 198 (by rfl) W4.heap.size (by rfl) w.heap.size i0 _ 1 8 Tryz.underlying187 hi hz0 hz1 hz2 (by rfl) (by omega) vP ps.length (opL ps) (by rfl) own4 (by rfl) (by rfl) (by intro u hu;simp at hu;subst hu;rfl) (by omega) (by omega) hs4 ?_;intro g7 cap7 W7 own7 grow7 at7;obtain⟨co7,fo7,hA7⟩:=Hn4.out W7 g7 cap7 own7 grow7 at7;have HA7:=hidF hA7;clear own7 grow7 at7 hA7)|fail))
   all_goals
    rw[za5];clear hcE own4 co4 co5 co7 fo7 Hn4 Hnx cg cp;go_wp2
    go_roundw
    case rel=>exact⟨k+1,Q4,_,ps++[(a4,pq k)],by go_num,by omega,by simp[Hpk.out],HA7,Hget.out a4⟩
    case measure=>simp[intOf];omega
  ·obtain rfl:k=n:=by omega
   have HF:Hid (NpA w (.int .i64 G) (.slice ao bn bc) k pq (.returned (.pointer (some ⟨w.heap.size+1,0,none⟩))) wr):=⟨_,Q,vP,ps,rfl,HN.out,hpk,HQ.out⟩;clear HN HQ;go_wp2;go_ret;exact HF.out
end
open Go
section
variable {P:Program} {ops:Array Oper} {md:Region.Mode} {C:World->Prop} {Q:Exit->Act->World->Prop}
theorem zgP{l:Array Bool}{i t:Nat}(h:l.getD t true=true):(l.setIfInBounds i true).getD t true=true:=by
 by_cases e:i=t
 ·subst e;rcases zvM i l.size with h'|h'
  ·simp[h']
  ·simp
 ·rw[zcz e];exact h
theorem zfo{t:Nat}:∀(fuel:Nat) (listed:Array Bool) (a:Act) (w:World),listed.getD t true=true->wpAny P md ops Q fuel listed a w->zdS P md ops C t Q fuel listed a w
 |0,_,_,_,_,h=>h
 |fuel+1,listed,a,w,ht,h=>⟨h.1,fun i hi=>wpOp_mono (fun a' w' k=>⟨fun e=>by(rw[zgP ht] at e;cases e),zfo fuel _ a' w' (zgP ht) k⟩) (h.2 i hi)⟩
def QK(Q:Exit->Act->World->Prop)(K:Act->World->Prop):Exit->Act->World->Prop
 |.normal,a,w=>K a w
 |e,a,w=>Q e a w
def zcK(l:Array Bool):List Nat->Array Bool
 |[]=>l
 |i::is=>zcK (l.setIfInBounds i true) is
def zgN(md:Region.Mode)(ops:Array Oper):List Nat->Array Bool->Bool
 |[],_=>true
 |j::js,listed=>(Region.ready md ops listed == [j])&&zgN md ops js (listed.setIfInBounds j true)
theorem zuw{K' K:Act->World->Prop}{o:Oper}{a:Act}{w:World}(h:o.wp P a w K (QK Q K')):o.wp P a w K Q:=by
 unfold Oper.wp at *;generalize (execOp a.eval o).run P w=r at *;cases r with
 |ok n w'=>cases n<;>exact h
 |halt x w'=>cases x<;>exact h
theorem zfp{fr:Nat}(hL:∀a w,¬Q .outgrown a w):∀(js:List Nat) (l:List Oper) (listed:Array Bool) (a:Act) (w:World),l.length=js.length->(∀k,k<js.length->∃j o,js[k]?=some j/\l[k]?=some o/\ops[j]?=some o)->zgN md ops js listed=true->wpList P ops (QK Q (fun a w=>wpAny P md ops Q fr (zcK listed js) a w)) l a w->wpAny P md ops Q (js.length+fr) listed a w
 |[],[],listed,a,w,_,_,_,h=>by rw[zvk,zvS];exact h
 |j::js,o::l,listed,a,w,hl,ho,hB,h=>by
  simp only[zgN,zuK,beq_iff_eq] at hB;obtain⟨j',o',e1,e2,h0⟩:=ho 0 (by simp);simp at e1 e2;subst e1;subst e2;have ih:=fun a w h=>zfp (fr:=fr) hL js l (listed.setIfInBounds j true) a w (by simpa using hl) (fun k hk=>by have:=ho (k+1) (by simp;omega);simpa using this) hB.2 h
  rw[show (j::js).length+fr=(js.length+fr)+1 by simp;omega];refine⟨fun e=>absurd e (by rw[hB.1];simp),fun i hi=>?_⟩;rw[hB.1] at hi;have e:i=j:=by simpa using hi
  subst e;unfold wpOp;simp only[h0];unfold wpList at h
  by_cases hw:Region.wanted o (yielded ops a.tmps)=true
  ·rw[zv3 hw] at h ⊢;rcases h with h|h
   ·exact .inl (Oper.wp_mono (fun a w h=>ih a w h) (zuw h))
   ·obtain⟨_,a',w',h'⟩:=h;exact absurd h' (hL a' w')
  ·rw[zv2 hw] at h ⊢;exact ih _ _ h
 |[],_::_,_,_,_,h,_,_,_=>by simp at h
 |_::_,[],_,_,_,h,_,_,_=>by simp at h
def zhh(o:Oper):Bool:=match o.op with
 |.move _=>true
 |.assign _=>true
 |.load _ _=>true
 |.fieldAddr _ _ _=>true
 |.indexAddr _ _ _=>true
 |.binOp _ _ _ _ _=>true
 |.nilCheck _=>true
 |.slice _ _ _ _ _=>true
 |_=>false
theorem zl7{o:Oper}(h:zhh o=true){ρ:Operand->Value}{w w':World}{n:Next}(hr:(execOp ρ o).run P w=.ok n w'):∃u,n=.value u:=by
 obtain⟨dst,op,type,pos,after,guard⟩:=o;cases op<;>simp only[zhh,zuL] at h
 all_goals (simp only[execOp] at hr)
 case move x=>rw[Sem.run_pure] at hr;injection hr with h1;exact⟨_,h1.symm⟩
 case assign x=>rw[Sem.run_pure] at hr;injection hr with h1;exact⟨_,h1.symm⟩
 case nilCheck x=>
  split at hr
  case h_4=>
   split at hr
   case h_1=>simp[runtimePanic,go_sem] at hr
   case h_2=>
    simp only[Sem.run_bind] at hr;generalize Sem.run P program w=r1 at hr;cases r1 with
    |halt x w1=>simp[Result.andThen] at hr
    |ok a w1=>
     simp only[Result.andThen] at hr;generalize Sem.run P (nilAhead _ _ _ _) w1=r2 at hr;cases r2 with
     |halt x w2=>simp at hr
     |ok b w2=>
      simp only at hr;split at hr
      ·simp[unsupported,go_sem] at hr
      ·rw[Sem.run_pure] at hr;injection hr with h1;exact⟨_,h1.symm⟩
   case h_3=>rw[Sem.run_pure] at hr;injection hr with h1;exact⟨_,h1.symm⟩
  case h_5=>rw[Sem.run_pure] at hr;injection hr with h1;exact⟨_,h1.symm⟩
  all_goals (simp[runtimePanic,go_sem] at hr)
 all_goals exact zkC hr
theorem zeB{o:Oper}{a:Act}{K:Act->Prop}(hb:zhh o=true)(hw:Region.wanted o (yielded ops a.tmps)=true)(h:o.quiet P a C K):∃v,zbJ P ops C o v a/\K (a.put o.dst v):=by
 obtain⟨v,h1,h2⟩:=h;refine⟨v,.inl ⟨hw,fun w hC=>?_⟩,h2⟩;have h3:=h1 w hC;unfold Oper.quietAt at h3;cases hr:(execOp a.eval o).run P w with
 |ok n w'=>
  obtain⟨u,rfl⟩:=zl7 hb hr;rw[hr] at h3;obtain⟨e1,e2⟩:=h3;rw[e1,e2]
 |halt x w'=>rw[hr] at h3;exact h3.elim
def lexK(md:Region.Mode)(ops:Array Oper)(js:List Nat):List Nat->Array Bool->Bool
 |[],listed=>zgN md ops js listed
 |i::is,listed=>(Region.ready md ops listed).contains i&&Region.free md ops listed i&&lexK md ops js is (listed.setIfInBounds i true)
theorem ziA{t:Nat}:∀(js:List Nat) (l:Array Bool),(t∈js\/l.getD t true=true)->(zcK l js).getD t true=true
 |[],_,h=>by
  rcases h with h|h
  ·cases h
  ·exact h
 |j::js,l,h=>by
  refine ziA js _ ?_;rcases h with h|h
  ·rcases zvp.1 h with e|e
   ·subst e;refine .inr ?_;rcases zvM t l.size with h'|h'
    ·simp[h']
    ·simp
   ·exact .inl e
  ·exact .inr (zgP h)
theorem zhD{t fr:Nat}{js:List Nat}{lj:List Oper}(hs:Region.noSelect ops=true)(hL:∀a w,¬Q .outgrown a w)(hlj:lj.length=js.length)(hoj:∀k,k<js.length->∃j o,js[k]?=some j/\lj[k]?=some o/\ops[j]?=some o)(hQ:∀c a a' w,Q (.panic c) a w->Q (.panic c) a' w)(hjs:∃r,js=t::r):
  ∀(is:List Nat) (l:List Oper) (listed:Array Bool) (a:Act) (w:World),zbx md ops listed->l.length=is.length->(∀k,k<is.length->∃i o,is[k]?=some i/\l[k]?=some o/\ops[i]?=some o/\zhh o=true/\zcd md ops 8 t i=true/\t≠i)->
   lexK md ops js is listed=true->C w->wpQuiet P ops C (fun a'=>∀w',C w'->∀r,r=lj->wpList P ops (QK Q (fun a w=>wpAny P md ops Q fr (zcK listed (is++js)) a w)) r a' w') l a->zdS P md ops C t Q (is.length+(js.length+fr)) listed a w
 |[],[],listed,a,w,hcl,_,_,hB,hC,h=>by
  rw[zvk,zvS];have h1:=zfp (fr:=fr) hL js lj listed a w hlj hoj hB (h w hC _ rfl);obtain⟨r,hr⟩:=hjs
  -- t is at the head: it is the one that is ready
  subst hr;simp only[lexK,zgN,zuK,beq_iff_eq] at hB;rw[show (t::r).length+fr=(r.length+fr)+1 by simp;omega] at h1 ⊢;refine⟨h1.1,fun i hi=>?_⟩;have e:i=t:=by rw[hB.1] at hi;simpa using hi
  subst e;have ht:(listed.setIfInBounds i true).getD i true=true:=ziA [i] listed (.inl (by simp));exact wpOp_mono (fun a' w' k=>⟨fun e=>by(rw[ht] at e;cases e),zfo _ _ a' w' ht k⟩) (h1.2 i hi)
 |i::is,o::l,listed,a,w,hcl,hll,hio,hB,hC,h=>by
  obtain⟨i',o',e1,e2,h0,hrd,hwt,hti⟩:=hio 0 (by simp);simp at e1 e2;subst e1;subst e2;simp only[lexK,zuK] at hB;obtain⟨⟨hr,hf⟩,hB'⟩:=hB;have hr':i∈Region.ready md ops listed:=by simpa using hr
  have next:∀v,zbJ P ops C o v a->wpQuiet P ops C (fun a'=>∀w',C w'->∀r,r=lj->wpList P ops (QK Q (fun a w=>wpAny P md ops Q fr (zcK listed ((i::is)++js)) a w)) r a' w') l (a.put o.dst v)->zdS P md ops C t Q ((i::is).length+(js.length+fr)) listed a w:=fun v hy hk=>by
   have ih:=zhD (fr:=fr) hs hL hlj hoj hQ hjs is l (listed.setIfInBounds i true) (a.put o.dst v) w (hcl.set hr') (by simpa using hll) (fun k hk=>by have:=hio (k+1) (by simp;omega);simpa using this) hB' hC hk;rw[show (i::is).length+(js.length+fr)=(is.length+(js.length+fr))+1 by simp;omega];exact zeV h0 hti (fun L hc hl=>zbE hc 8 t i hl hwt) (Region.noSelect_spec hs) hQ _ listed a w hcl (Region.free_spec h0 hf) hr' hy hC ih
  unfold wpQuiet at h
  by_cases hw:Region.wanted o (yielded ops a.tmps)=true
  ·rw[zv3 hw] at h;obtain⟨v,hy,hk⟩:=zeB hrd hw h;exact next v hy hk
  ·rw[zv2 hw] at h;exact next undef (.inr ⟨by simpa using hw,rfl⟩) h
 |[],_::_,_,_,_,_,h,_,_,_,_=>by simp at h
 |_::_,[],_,_,_,_,h,_,_,_,_=>by simp at h
def zs8(md:Region.Mode)(all:List Oper)(done:List Nat):Bool:=lexD md all.toArray done (Array.replicate all.length false)
where lexD (md:Region.Mode) (ops:Array Oper):List Nat->Array Bool->Bool
 |[],_=>true
 |i::is,listed=>(Region.ready md ops listed).contains i&&lexD md ops is (listed.setIfInBounds i true)
theorem zie:∀(is:List Nat) (l:Array Bool),zs8.lexD md ops is l=true->zbx md ops l->zbx md ops (zcK l is)
 |[],_,_,h=>h
 |i::is,l,hB,h=>by
  simp only[zs8.lexD,zuK] at hB;exact zie is _ hB.2 (h.set (by simpa using hB.1))
def phaB(md:Region.Mode)(all:List Oper)(done is js:List Nat):Bool:=
 Region.noSelect all.toArray&&zs8 md all done&&(match js with | []=>false|t::_=>is.all (fun i=>zcd md all.toArray 8 t i&&decide (t≠i)&&(match all[i]? with|some o=>zhh o|none=>false)))&&lexK md all.toArray js is (zcK (Array.replicate all.length false) done)&&js.all (fun j=>decide (j<all.length))
theorem zcs(done is js:List Nat)(fr:Nat){a:Act}{w:World}{all:List Oper}(C:World->Prop)(hC:C w)(hB:phaB md all done is js=true)(hL:∀a w,¬Q .outgrown a w)(hQ:∀c a a' w,Q (.panic c) a w->Q (.panic c) a' w)
  (h:∀l,l=is.filterMap (fun i=>all[i]?)->wpQuiet P all.toArray C (fun a'=>∀w',C w'->∀r,r=js.filterMap (fun j=>all[j]?)->wpList P all.toArray (QK Q (fun a w=>wpAny P md all.toArray Q fr (zcK (zcK (Array.replicate all.length false) done) (is++js)) a w)) r a' w') l a) (n:Nat) (hn:n=is.length+(js.length+fr)):wpAny P md all.toArray Q n (zcK (Array.replicate all.length false) done) a w:=by
 subst hn;cases js with
 |nil=>simp[phaB] at hB
 |cons t rs=>
  simp only[phaB,zuK,zuP,zvX] at hB;obtain⟨⟨⟨⟨hs,hcl⟩,hi⟩,hlx⟩,hj⟩:=hB;have key:∀(is:List Nat),(∀x∈is,(zcd md all.toArray 8 t x=true/\t≠x)/\(match all[x]? with|some o=>zhh o|none=>false)=true)->(is.filterMap (fun i=>all[i]?)).length=is.length/\∀k,k<is.length->∃i o,is[k]?=some i/\(is.filterMap (fun i=>all[i]?))[k]?=some o/\all.toArray[i]?=some o/\zhh o=true/\zcd md all.toArray 8 t i=true/\t≠i:=by
   intro is
   induction is with
   |nil=>intro _;exact⟨rfl,fun k hk=>absurd hk (zvQ _)⟩
   |cons i is ih=>
    intro hx;obtain⟨⟨q1,q2⟩,q3⟩:=hx i (by simp);obtain⟨r1,r2⟩:=ih (fun x hxm=>hx x (by simp[hxm]));cases ho:all[i]? with
    |none=>rw[ho] at q3;cases q3
    |some o=>
     rw[ho] at q3;have e:(i::is).filterMap (fun i=>all[i]?)=o::is.filterMap (fun i=>all[i]?):=by simp[ho]
     rw[e];refine⟨by simp[r1],fun k hk=>?_⟩;cases k with
     |zero=>exact⟨i,o,rfl,rfl,by simpa using ho,q3,q1,q2⟩
     |succ k=>simpa using r2 k (by simpa using hk)
  have keyj:∀(js:List Nat),(∀j∈js,j<all.length)->(js.filterMap (fun j=>all[j]?)).length=js.length/\∀k,k<js.length->∃j o,js[k]?=some j/\(js.filterMap (fun j=>all[j]?))[k]?=some o/\all.toArray[j]?=some o:=by
   intro js
   induction js with
   |nil=>intro _;exact⟨rfl,fun k hk=>absurd hk (zvQ _)⟩
   |cons j js ih=>
    intro hx;obtain⟨r1,r2⟩:=ih (fun x hxm=>hx x (by simp[hxm]));have hl:=hx j (by simp);have e:(j::js).filterMap (fun j=>all[j]?)=all[j]::js.filterMap (fun j=>all[j]?):=by simp[hl]
    rw[e];refine⟨by simp[r1],fun k hk=>?_⟩;cases k with
    |zero=>exact⟨j,all[j],rfl,rfl,by simp[hl]⟩
    |succ k=>simpa using r2 k (by simpa using hk)
  obtain⟨k1,k2⟩:=key is (fun x hx=>by obtain⟨⟨a1,a2⟩,a3⟩:=hi x hx;exact⟨⟨a1,a2⟩,a3⟩);obtain⟨j1,j2⟩:=keyj (t::rs) hj;exact zeu _ _ _ _ (zhD (P:=P) (C:=C) (Q:=Q) (md:=md) (fr:=fr) hs hL j1 j2 hQ ⟨rs,rfl⟩ is _ _ a w (zie done _ hcl (zbx.start _ _)) k1 k2 hlx hC (h _ rfl))
theorem zbA{Q:Exit->Act->World->Prop}{K:Act->World->Prop}{a:Act}{w:World}:QK Q K .normal a w=K a w:=rfl
theorem zhG{id:Nat}{a:Act}{w:World}{all:List Oper}(hm:P.follows .mixedOrders=true)(h:wpAny P .any all.toArray (zfB Q) all.length (zcK (Array.replicate all.length false) []) a w.drew):(Code.region id all.toArray true).wp P Q a w:=by
 refine wp_mono (wp_region_any hm ?_) zcm
 simpa [zcK] using h
def zpJ(md:Region.Mode)(ops:Array Oper)(js:List Nat):List Nat->Array Bool->Bool
 |[],listed=>zfG md ops js listed&&(List.range ops.size).all (fun k=>listed.getD k true || js.contains k)
 |i::is,listed=>(Region.ready md ops listed).contains i&&Region.free md ops listed i&&zpJ md ops js is (listed.setIfInBounds i true)
def zti(md:Region.Mode)(all:List Oper)(is js:List Nat)(t:Nat):Bool:=
 Region.noSelect all.toArray&&is.all (fun i=>zcd md all.toArray 8 t i&&decide (t≠i)&&(match all[i]? with|some o=>zhh o|none=>false))&&zpJ md all.toArray js is (Array.replicate all.length false)&&decide (is.length+js.length=all.length)&&js.all (fun j=>decide (j<all.length))
theorem zgf{t:Nat}{js:List Nat}{lj:List (Nat×Oper)}(hs:Region.noSelect ops=true)(hlj:lj.map Prod.fst=js)(hoj:∀x∈lj,ops[x.1]?=some x.2)(hQ:∀c a a' w,Q (.panic c) a w->Q (.panic c) a' w):
  ∀(is:List Nat) (l:List Oper) (listed:Array Bool) (a:Act) (w:World),zbx md ops listed->listed.size=ops.size->l.length=is.length->(∀k,k<is.length->∃i o,is[k]?=some i/\l[k]?=some o/\ops[i]?=some o/\zhh o=true/\zcd md ops 8 t i=true/\t≠i)->
   zpJ md ops js is listed=true->C w->wpQuiet P ops C (fun a'=>∀w',C w'->∀r,r=lj->zbF P ops C t Q r a' w') l a->zdS P md ops C t Q (is.length+lj.length) listed a w
 |[],[],listed,a,w,hcl,hsz,_,_,hB,hC,h=>by
  simp only[zpJ,zuK,zuP,zvu,zuM,List.contains_iff_mem] at hB;rw[zvk,zvS];refine zdr js lj listed a w hlj hoj (fun k hk=>?_) hB.1 (h w hC _ rfl);have hlt:k<ops.size:=by
   rcases zvM k ops.size with h'|h'
   ·exact h'
   ·rw[<-hsz] at h';simp[Array.getElem?_eq_none h'] at hk
  rcases hB.2 k hlt with h1|h1
  ·rw[hk] at h1;cases h1
  ·exact h1
 |i::is,o::l,listed,a,w,hcl,hsz,hll,hio,hB,hC,h=>by
  obtain⟨i',o',e1,e2,h0,hrd,hwt,hti⟩:=hio 0 (by simp);simp at e1 e2;subst e1;subst e2;simp only[zpJ,zuK] at hB;obtain⟨⟨hr,hf⟩,hB'⟩:=hB;have hr':i∈Region.ready md ops listed:=by simpa using hr
  have next:∀v,zbJ P ops C o v a->wpQuiet P ops C (fun a'=>∀w',C w'->∀r,r=lj->zbF P ops C t Q r a' w') l (a.put o.dst v)->zdS P md ops C t Q ((i::is).length+lj.length) listed a w:=fun v hy hk=>by
   have ih:=zgf hs hlj hoj hQ is l (listed.setIfInBounds i true) (a.put o.dst v) w (hcl.set hr') (by simpa using hsz) (by simpa using hll) (fun k hk=>by have:=hio (k+1) (by simp;omega);simpa using this) hB' hC hk;rw[show (i::is).length+lj.length=(is.length+lj.length)+1 by simp;omega];exact zeV h0 hti (fun L hc hl=>zbE hc 8 t i hl hwt) (Region.noSelect_spec hs) hQ _ listed a w hcl (Region.free_spec h0 hf) hr' hy hC ih
  unfold wpQuiet at h
  by_cases hw:Region.wanted o (yielded ops a.tmps)=true
  ·rw[zv3 hw] at h;obtain⟨v,hy,hk⟩:=zeB hrd hw h;exact next v hy hk
  ·rw[zv2 hw] at h;exact next undef (.inr ⟨by simpa using hw,rfl⟩) h
 |[],_::_,_,_,_,_,_,h,_,_,_,_=>by simp at h
 |_::_,[],_,_,_,_,_,h,_,_,_,_=>by simp at h
theorem zoE(is js:List Nat)(t:Nat){a:Act}{w:World}{all:List Oper}(C:World->Prop)(hC:C w)(hB:zti .any all is js t=true)(hQ:∀c a a' w,Q (.panic c) a w->Q (.panic c) a' w)
  (h:∀l,l=is.filterMap (fun i=>all[i]?)->wpQuiet P all.toArray C (fun a'=>∀w',C w'->∀r,r=js.filterMap (fun j=>(all[j]?).map fun o=>(j,o))->zbF P all.toArray C t Q r a' w') l a):wpAny P .any all.toArray Q all.toArray.size (Array.replicate all.toArray.size false) a w:=by
 simp only[zti,zuK,zuP,zvX] at hB;obtain⟨⟨⟨⟨hs,hi⟩,hlx⟩,hlen⟩,hj⟩:=hB;have key:∀(is:List Nat),(∀x∈is,(zcd .any all.toArray 8 t x=true/\t≠x)/\(match all[x]? with|some o=>zhh o|none=>false)=true)->(is.filterMap (fun i=>all[i]?)).length=is.length/\∀k,k<is.length->∃i o,is[k]?=some i/\(is.filterMap (fun i=>all[i]?))[k]?=some o/\all.toArray[i]?=some o/\zhh o=true/\zcd .any all.toArray 8 t i=true/\t≠i:=by
  intro is
  induction is with
  |nil=>intro _;exact⟨rfl,fun k hk=>absurd hk (zvQ _)⟩
  |cons i is ih=>
   intro hx;obtain⟨⟨q1,q2⟩,q3⟩:=hx i (by simp);obtain⟨r1,r2⟩:=ih (fun x hxm=>hx x (by simp[hxm]));cases ho:all[i]? with
   |none=>rw[ho] at q3;cases q3
   |some o=>
    rw[ho] at q3;have e:(i::is).filterMap (fun i=>all[i]?)=o::is.filterMap (fun i=>all[i]?):=by simp[ho]
    rw[e];refine⟨by simp[r1],fun k hk=>?_⟩;cases k with
    |zero=>exact⟨i,o,rfl,rfl,by simpa using ho,q3,q1,q2⟩
    |succ k=>simpa using r2 k (by simpa using hk)
 have keyj:∀(js:List Nat),(∀j∈js,j<all.length)->(js.filterMap (fun j=>(all[j]?).map fun o=>(j,o))).map Prod.fst=js/\∀x∈js.filterMap (fun j=>(all[j]?).map fun o=>(j,o)),all.toArray[x.1]?=some x.2:=by
  intro js
  induction js with
  |nil=>intro _;exact⟨rfl,fun x hx=>by cases hx⟩
  |cons j js ih=>
   intro hx;obtain⟨r1,r2⟩:=ih (fun x hxm=>hx x (by simp[hxm]));have hl:=hx j (by simp);have e:(j::js).filterMap (fun j=>(all[j]?).map fun o=>(j,o))=(j,all[j])::js.filterMap (fun j=>(all[j]?).map fun o=>(j,o)):=by simp[hl]
   rw[e];refine⟨by simp[r1],fun x hxm=>?_⟩;rcases zvp.1 hxm with rfl|hxm
   ·simp[hl]
   ·exact r2 x hxm
 obtain⟨k1,k2⟩:=key is (fun x hx=>by
  obtain⟨⟨a1,a2⟩,a3⟩:=hi x hx;exact⟨⟨a1,a2⟩,a3⟩)
 obtain⟨j1,j2⟩:=keyj js hj;have hjl:(js.filterMap (fun j=>(all[j]?).map fun o=>(j,o))).length=js.length:=by rw[<-zvj (f:=Prod.fst),j1]
 have h1:=zgf (P:=P) (C:=C) (Q:=Q) (md:=.any) (t:=t) hs j1 j2 hQ is _ (Array.replicate all.toArray.size false) a w (zbx.start _ _) (by simp) k1 k2 (by simpa using hlx) hC (h _ rfl);have h2:=zeu _ _ _ _ h1;rw[hjl,hlen] at h2
 simpa using h2
theorem zcx(is js:List Nat)(t:Nat){id:Nat}{a:Act}{w:World}{all:List Oper}(C:World->Prop)(hm:P.follows .mixedOrders=true)(hC:C w.drew)(hB:zti .any all is js t=true)
  (h:∀l,l=is.filterMap (fun i=>all[i]?)->wpQuiet P all.toArray C (fun a'=>∀w',C w'->∀r,r=js.filterMap (fun j=>(all[j]?).map fun o=>(j,o))->zbF P all.toArray C t (zfB Q) r a' w') l a):(Code.region id all.toArray true).wp P Q a w:=by
 refine wp_mono (wp_region_any hm ?_) zcm;exact zoE (Q:=zfB Q) is js t C hC hB (fun _ _ _ _ h=>h.elim) h
end
end Go.Proofs.YtdimhpfiieepiaaGreatDoor
