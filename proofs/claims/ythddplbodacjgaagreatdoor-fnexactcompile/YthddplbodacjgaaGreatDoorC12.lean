import Derived.Test.YthddplbodacjgaaGreatDoorC11
import Derived.Deep.RegionHeld3
import Derived.Deep.DrawnRows
import Derived.Deep.QuietTactic
import Derived.BigQuiet
namespace Go.Proofs.YthddplbodacjgaaGreatDoor
set_option maxHeartbeats 4000000
set_option maxRecDepth 100000
section
variable {w0 w W W':World}{nv bv:Value}{Ns:List NdX}{gm go N l:Nat}{m O s:Nat -> Bool}
open Go.RowKit
attribute [local go_sem ↓] Go.wp_at_zero Go.wp_at_succ
structure StG(w0 w W:World)(nv bv:Value)(Ns:List NdX)(gm go N:Nat)(m O s:Nat->Bool)(l:Nat):Prop where
 bx:BxT go w W nv bv (.int .u8 42) (.int .i64 l) (.int .i64 0) (.slice none 0 0)
 sh:∃O1,ShA w0 W nv Ns gm go N m O1/\∀x,(O1 x || s x)=(O x || s x)
theorem StG.call(h:StG w0 w W nv bv Ns gm go N m O s l)(hb:Below W.heap.size W W'):StG w0 w W' nv bv Ns gm go N m O s l:=by
 obtain⟨h1,O1,h2,h3⟩:=h;exact⟨h1.call hb,O1,h2.call hb,h3⟩
theorem StG.touch(h:StG w0 w W nv bv Ns gm go N m O s l)(hg:go<w.heap.size)(t:zaM (·= go) W W')(o:Mks W' go N (fun x=>O x || s x)):StG w0 w W' nv bv Ns gm go N m O s l:=by
 obtain⟨h1,O1,h2,h3⟩:=h;exact⟨h1.touch hg t,_,h2.touch t o,fun x=>by rw[ztv,Bool.or_self]⟩
theorem StG.full(h:StG w0 w W nv bv Ns gm go N m O s l):StG w0 w W nv bv Ns gm go N m O s l/\W.cell? ⟨w.heap.size,0,none⟩=some nv/\W.cell? ⟨w.heap.size,1,none⟩=some bv/\W.cell? ⟨w.heap.size+1,1,none⟩=some (.int .i64 l):=
 ⟨h,(zal h.bx.x0).1,(zal h.bx.x0).2,(zam h.bx.x1).2.1⟩
theorem zrm(w0:World)(a:GT)(ha:ShC w0 a):ShC w0 (.st a):=by
 intro Ns n w nv bv gm cm go co N c m O g hS hA hc;obtain⟨l,hx,hl⟩:=hA;obtain⟨g1,cap,rfl,hn,hg,c0,c1,c2,c3⟩:=hS.nx.node hx;have hln:=hS.nx.len;have hgo:go<w.heap.size:=zae hS.ou;have hi0:(0:Int)<=(n:Int):=by omega
 have hi1:(n:Int)<(Ns.length:Int):=by omega
 obtain⟨W0,hW0⟩:∃W0,(w.alloc (.cells #[.slice (some ⟨g1,0,none⟩) Ns.length cap,bv] 45)).alloc (.cells #[.int .u8 42,.int .i64 l,.int .i64 0,.slice none 0 0] 85)=W0:=⟨_,rfl⟩;have hB0:=BxT.start (go:=go) hW0;have hS0:=hS.call (Bx.start hW0).bl;obtain⟨p0,p1⟩:=zal hB0.x0;obtain⟨q0,q1,q2,q3⟩:=zam hB0.x1;have HW0:=hdn hW0;have HB0:=hdn hB0;have HS0:=hdn hS0;have HC:=hdn hc;clear hx hS hS0 hW0 hB0 hc
 go_enter Tryz.func40,Tryz.ntmps40
 go_upto_region 2 with fail
 rw[HW0.out];clear HW0 c0 c1 c2 c3;have hBd:=HB0.out.call (Below.refl _ _).drew;have hSd:=HS0.out.call (Below.refl _ _).drew;cases g
 ·obtain⟨v,hv⟩:∃v,finB m a=v:=⟨_,rfl⟩;obtain⟨s,hs⟩:∃s,shB m c a v=s:=⟨_,rfl⟩;have hG0:StG w0 w W0.drew (.slice (some ⟨g1,0,none⟩) Ns.length cap) bv Ns gm go N m O s l:=⟨hBd,O,hSd,fun _=>rfl⟩;have cf:∀W,StG w0 w W (.slice (some ⟨g1,0,none⟩) Ns.length cap) bv Ns gm go N m O s l->Calls Tryz.prog 38 #[.agg #[.slice (some ⟨g1,0,none⟩) Ns.length cap,bv],.int .i64 l,.slice (some ⟨gm,0,none⟩) N cm] W fun e W2=>e=.returned (.bool v)/\Below W.heap.size W W2:=fun W h=>by
   obtain⟨O1,h1,-⟩:=h.sh;rw[<-hv];exact zb1 w0 a Ns l W _ bv gm cm N m h1.nx hl h1.ma h1.le
  have ca:∀W,StG w0 w W (.slice (some ⟨g1,0,none⟩) Ns.length cap) bv Ns gm go N m O s l->Calls Tryz.prog 40 #[.agg #[.slice (some ⟨g1,0,none⟩) Ns.length cap,bv],.int .i64 l,.bool v,.slice (some ⟨gm,0,none⟩) N cm,.int .u8 c,.slice (some ⟨go,0,none⟩) N co] W fun e W2=>e=.returned (.tuple #[])/\Mks W2 go N (fun x=>O x || s x)/\zaM (·= go) W W2:=fun W h=>by
   obtain⟨O1,h1,h2⟩:=h.sh;refine(ha Ns l W _ bv gm cm go co N c m O1 v h1 hl HC.out).mono fun e W2 ⟨k1,k2,k3⟩=>⟨k1,?_,k3⟩
   rw[hs,show (fun x=>O1 x || s x)=fun x=>O x || s x from funext h2] at k2;exact k2
  have hz:∀x,shB m c (.st a) false x=s x:=fun x=>by show shB m c a (false || finB m a) x=s x;rw[hv,Bool.false_or,hs]
  have HZ:=hdn hz;have HG0:=hdn hG0;clear hl hv hs hBd hSd hz hG0 HB0 HS0;have e0:=p0;have e1:=p1;have e2:=q1
  go_upto_region 14 with fail
  go_region_held3 (fun w'=>StG w0 w w' (.slice (some ⟨g1,0,none⟩) Ns.length cap) bv Ns gm go N m O s l/\w'.cell? ⟨w.heap.size,0,none⟩=some (.slice (some ⟨g1,0,none⟩) Ns.length cap)/\w'.cell? ⟨w.heap.size,1,none⟩=some bv/\w'.cell? ⟨w.heap.size+1,1,none⟩=some (.int .i64 l))
   ((first|exact StG.full HG0.out|exact StG.full (StG.call (‹StG w0 w _ _ _ _ _ _ _ _ _ _ _/\_›).1 b1)|exact StG.full (StG.touch (‹StG w0 w _ _ _ _ _ _ _ _ _ _ _/\_›).1 hgo t9 o9)|go_keep))
   ((first|(go_at_call 38;refine(cf _ (by first|exact HG0.out|exact(‹StG w0 w _ _ _ _ _ _ _ _ _ _ _/\_›).1)).mono ?_;rintro e W1 ⟨rfl,b1⟩)|(go_at_call 40;refine(ca _ (by first|exact HG0.out|exact(‹StG w0 w _ _ _ _ _ _ _ _ _ _ _/\_›).1)).mono ?_;rintro e W9 ⟨rfl,o9,t9⟩)))
  all_goals
   have hfin:=‹StG w0 w _ _ _ _ _ _ _ _ _ _ _/\_›;go_wp2;refine zuN (v:=.tuple #[]) (by simp[results,Tryz.results40,go_sem]) rfl ?_;refine⟨rfl,?_,hfin.1.bx.t⟩;rw[show (fun x=>O x || shB m c (.st a) false x)=fun x=>O x || s x from funext fun x=>by rw[HZ.out x]];exact o9
 ·have ca:∀W,Below W0.heap.size W0 W->Calls Tryz.prog 40 #[.agg #[.slice (some ⟨g1,0,none⟩) Ns.length cap,bv],.int .i64 l,.bool true,.slice (some ⟨gm,0,none⟩) N cm,.int .u8 c,.slice (some ⟨go,0,none⟩) N co] W fun e W2=>e=.returned (.tuple #[])/\Mks W2 go N (fun x=>O x || shB m c a true x)/\zaM (·= go) w W2:=fun W hb=>
   (ha Ns l W _ bv gm cm go co N c m O true (HS0.out.call hb) hl HC.out).mono fun e W2 ⟨h1,h2,h3⟩=>⟨h1,h2,((HB0.out.call hb).touch hgo h3).t⟩
  have hmix:Tryz.prog.follows .mixedOrders=true:=by kernel_rfl
  clear hl
  go_upto_region 14 with fail
  refine zhs 14 hmix (by kernel_rfl) rfl rfl rfl ?_;intro os hos;simp only[zus,zuu] at hos;subst hos
  repeat (go_big_quiet_step (fail))
  refine wpQuiet_nil ?_;intro w' hw' K hK;obtain⟨nq,rfl⟩:=hw';have cq:=(ca (W0.drewN nq) ⟨rfl,rfl,rfl,zuz _,fun _ _=>rfl⟩).mono (R':=fun e W2=>∃v,e=.returned v/\v=.tuple #[]/\Mks W2 go N (fun x=>O x || shB m c a true x)/\zaM (·= go) w W2) fun e W2 ⟨h1,h2⟩=>⟨_,h1,rfl,h2⟩
  refine ziL 40 #[.tmp 85,.tmp 87,.tmp 95,.tmp 96,.tmp 97,.tmp 98] #[45,3,4,49,5,49] (by rfl) #[.agg #[.slice (some ⟨g1,0,none⟩) Ns.length cap,bv],.int .i64 l,.bool true,.slice (some ⟨gm,0,none⟩) N cm,.int .u8 c,.slice (some ⟨go,0,none⟩) N co] (by simp[Act.eval]) _ (zmR _ _) cq ?_;rintro v W9 ⟨rfl,o9,t9⟩;refine hK _ _ ?_;go_wp2;refine zuN (v:=.tuple #[]) (by simp[results,Tryz.results40,go_sem]) rfl ?_;refine⟨rfl,?_,t9⟩;rw[show (fun x=>O x || shB m c (.st a) true x)=fun x=>O x || shB m c a true x from rfl];exact o9
theorem zc5(w0:World):∀T:GT,ShC w0 T
 |.s p f=>zsE w0 p f
 |.q a b=>zsD w0 a b (zc5 w0 a) (zc5 w0 b)
 |.o a b=>zsC w0 a b (zc5 w0 a) (zc5 w0 b)
 |.st a=>zrm w0 a (zc5 w0 a)
 |.e=>zsB w0
end
section
variable {st:Nat -> Nat -> Nat}{s t x y:Nat}{os l m:List Nat}
def runN(st:Nat->Nat->Nat)(s:Nat)(l:List Nat):Nat:=l.foldl st s
def zbc(st:Nat->Nat->Nat)(an:Nat->Int×Int)(s t:Nat):Prop:=∀l:List Nat,(∀c∈l,c<256)->an (runN st s l)=an (runN st t l)
noncomputable instance alikeDec (st:Nat->Nat->Nat) (an:Nat->Int×Int) (s t:Nat):Decidable (zbc st an s t):=Classical.propDecidable _
theorem zbc.refl(st:Nat->Nat->Nat)(an:Nat->Int×Int)(s:Nat):zbc st an s s:=fun _ _=>rfl
theorem zbc.symm{an:Nat->Int×Int}(h:zbc st an s t):zbc st an t s:=fun l hl=>(h l hl).symm
theorem zbc.trans{an:Nat->Int×Int}{u:Nat}(h:zbc st an s t)(k:zbc st an t u):zbc st an s u:=fun l hl=>(h l hl).trans (k l hl)
theorem zbc.an{an:Nat->Int×Int}(h:zbc st an s t):an s=an t:=h [] (by simp)
theorem zbc.step{an:Nat->Int×Int}(h:zbc st an s t){c:Nat}(hc:c<256):zbc st an (st s c) (st t c):=fun l hl=>h (c::l) (by
 intro x hx;rcases zud.1 hx with rfl|hx
 ·exact hc
 ·exact hl x hx)
theorem zlU{an:Nat->Int×Int}(R:Nat->Nat->Prop)(h1:∀s t,R s t->an s=an t)(h2:∀s t c,R s t->c<256->R (st s c) (st t c)){s t:Nat}(h:R s t):zbc st an s t:=by
 intro l
 induction l generalizing s t with
 |nil=>intro _;exact h1 s t h
 |cons c l ih=>intro hl;exact ih (h2 s t c h (hl c (by simp))) (fun x hx=>hl x (by simp[hx]))
noncomputable def idxA (st:Nat->Nat->Nat) (an:Nat->Int×Int) (os:List Nat) (x:Nat):Nat:=
 os.findIdx fun o=>decide (zbc st an o x)
theorem zkZ(st:Nat->Nat->Nat)(an:Nat->Int×Int)(os:List Nat)(x:Nat):idxA st an os x<=os.length:=ztN
theorem zgI{an:Nat->Int×Int}:idxA st an os x<os.length↔∃o∈os,zbc st an o x:=by
 unfold idxA;rw[List.findIdx_lt_length];constructor
 ·rintro ⟨o,h1,h2⟩;exact⟨o,h1,of_decide_eq_true h2⟩
 ·rintro ⟨o,h1,h2⟩;exact⟨o,h1,decide_eq_true h2⟩
theorem zoC{an:Nat->Int×Int}(h:idxA st an os x<os.length):idxA st an (os++[y]) x=idxA st an os x:=by
 unfold idxA at h ⊢;rw[List.findIdx_append,zuV h]
theorem zgh{an:Nat->Int×Int}(h:¬idxA st an os x<os.length):idxA st an (os++[y]) x=if zbc st an y x then os.length else os.length+1:=by
 have hl:=zkZ st an os x;unfold idxA at h hl ⊢;rw[List.findIdx_append,zuU h,List.findIdx_singleton]
 by_cases e:zbc st an y x
 ·rw[zuV e,zuV (decide_eq_true e)];omega
 ·rw[zuU e,zuU (by simpa using e)];omega
inductive zcX (st:Nat->Nat->Nat) (an:Nat->Int×Int):List Nat->List Nat->Prop
 |nil:zcX st an [] []
 |cons {s t:Nat} {l m:List Nat}:zbc st an s t->zcX st an l m->zcX st an (s::l) (t::m)
theorem zcX.length{an:Nat->Int×Int}(h:zcX st an l m):l.length=m.length:=by
 induction h with
 |nil=>rfl
 |cons _ _ ih=>simp[ih]
theorem zcX.snoc{an:Nat->Int×Int}(h:zcX st an l m){s t:Nat}(hs:zbc st an s t):zcX st an (l++[s]) (m++[t]):=by
 induction h with
 |nil=>exact .cons hs .nil
 |cons k _ ih=>exact .cons k ih
theorem zcX.at{an:Nat->Int×Int}(h:zcX st an l m):∀k,k<l.length->zbc st an (l.getD k 0) (m.getD k 0):=by
 induction h with
 |nil=>intro k hk;exact absurd hk (zuI _)
 |cons e _ ih=>
  intro k hk;cases k with
  |zero=>exact e
  |succ k=>exact ih k (by simpa using hk)
theorem zcX.idx{an:Nat->Int×Int}(h:zcX st an l m){x y:Nat}(hxy:zbc st an x y):idxA st an l x=idxA st an m y:=by
 induction h with
 |nil=>rfl
 | @cons s t l m e _ ih=>
  unfold idxA at ih ⊢;rw[ztM,ztM,ih];have:decide (zbc st an s x)=decide (zbc st an t y):=by
   rw[decide_eq_decide];exact⟨fun k=>e.symm.trans (k.trans hxy),fun k=>e.trans (k.trans hxy.symm)⟩
  rw[this]
noncomputable def addA (st:Nat->Nat->Nat) (an:Nat->Int×Int) (os:List Nat) (x:Nat):List Nat:=if idxA st an os x<os.length then os else os++[x]
noncomputable def zat (st:Nat->Nat->Nat) (an:Nat->Int×Int):Nat->Nat->List Nat
 |0,0=>[0]
 |k+1,0=>zat st an k 256
 |k,c+1=>addA st an (zat st an k c) (st ((zat st an k c).getD k 0) c)
theorem zcl(st:Nat->Nat->Nat)(an:Nat->Int×Int)(k c:Nat):zat st an k (c+1)=addA st an (zat st an k c) (st ((zat st an k c).getD k 0) c):=by rw[zat]
theorem zcS(st:Nat->Nat->Nat)(an:Nat->Int×Int)(k:Nat):zat st an (k+1) 0=zat st an k 256:=by rw[zat]
theorem zcD(st:Nat->Nat->Nat)(an:Nat->Int×Int):zat st an 0 0=[0]:=by rw[zat]
theorem zqd(st:Nat->Nat->Nat)(an:Nat->Int×Int)(os:List Nat)(x:Nat):∃t,addA st an os x=os++t:=by
 unfold addA;split
 ·exact⟨[],by simp⟩
 ·exact⟨[x],rfl⟩
theorem zlT(st:Nat->Nat->Nat)(an:Nat->Int×Int)(os:List Nat)(x:Nat):idxA st an (addA st an os x) x=idxA st an os x/\idxA st an (addA st an os x) x<(addA st an os x).length:=by
 unfold addA;split
 ·rename_i h;exact⟨rfl,h⟩
 ·rename_i h
  have:=zkZ st an os x;rw[zgh h,zuV (zbc.refl _ _ _)];exact⟨by omega,by simp⟩
theorem zqG{an:Nat->Int×Int}{t:List Nat}(h:idxA st an os x<os.length):idxA st an (os++t) x=idxA st an os x:=by
 unfold idxA at h ⊢;rw[List.findIdx_append,zuV h]
theorem zb4(st:Nat->Nat->Nat)(an:Nat->Int×Int)(k:Nat):∀c d,c<=d->∃t,zat st an k d=zat st an k c++t
 |c,0,h=>⟨[],by rw[show c=0 by omega];simp⟩
 |c,d+1,h=>by
  by_cases e:c=d+1
  ·subst e;exact⟨[],by simp⟩
  ·obtain⟨t,ht⟩:=zb4 st an k c d (by omega);obtain⟨t2,ht2⟩:=zqd st an (zat st an k d) (st ((zat st an k d).getD k 0) d);exact⟨t++t2,by rw[zcl,ht2,ht,ztD]⟩
theorem zdj(st:Nat->Nat->Nat)(an:Nat->Int×Int):∀j k,j<=k->∃t,zat st an k 0=zat st an j 0++t
 |j,0,h=>⟨[],by rw[show j=0 by omega];simp⟩
 |j,k+1,h=>by
  by_cases e:j=k+1
  ·subst e;exact⟨[],by simp⟩
  ·obtain⟨t,ht⟩:=zdj st an j k (by omega);obtain⟨t2,ht2⟩:=zb4 st an k 0 256 (by omega);exact⟨t++t2,by rw[zcS,ht2,ht,ztD]⟩
end
section
variable {st:Nat -> Nat -> Nat}{an:Nat -> Int×Int}{k K c:Nat}
noncomputable def rowA (st:Nat->Nat->Nat) (an:Nat->Int×Int) (k c:Nat):Nat:=idxA st an (zat st an k (c+1)) (st ((zat st an k c).getD k 0) c)
def zef(st:Nat->Nat->Nat)(an:Nat->Int×Int)(k:Nat):Prop:=∀j,j<k->j<(zat st an j 0).length
theorem zef.next(h:zef st an k)(hk:k<(zat st an k 0).length):zef st an (k+1):=fun j hj=>by
 by_cases e:j=k
 ·subst e;exact hk
 ·exact h j (by omega)
theorem zov{m:Nat}(h1:zef st an k)(e1:(zat st an k 0).length=k)(h2:zef st an m)(e2:(zat st an m 0).length=m):k=m:=by
 rcases zuD k m with h|h|h
 ·have:=h2 k h;omega
 ·exact h
 ·have:=h1 m h;omega
theorem zgm(st:Nat->Nat->Nat)(an:Nat->Int×Int)(k:Nat){c d:Nat}(h:c<=d):(zat st an k c).length<=(zat st an k d).length:=by
 obtain⟨t,ht⟩:=zb4 st an k c d h;rw[ht];simp
theorem zdX{l t:List Nat}(h:k<l.length):(l++t).getD k 0=l.getD k 0:=by
 rw[ztO,ztQ h,ztO]
theorem zpY(st:Nat->Nat->Nat)(an:Nat->Int×Int){k c:Nat}(h:k<(zat st an k 0).length):(zat st an k c).getD k 0=(zat st an k 0).getD k 0:=by
 obtain⟨t,ht⟩:=zb4 st an k 0 c (zuL _);rw[ht,zdX h]
theorem zpn(st:Nat->Nat->Nat)(an:Nat->Int×Int)(k c:Nat):rowA st an k c<(zat st an k (c+1)).length:=by
 unfold rowA;rw[zcl];exact(zlT st an _ _).2
theorem zg7(st:Nat->Nat->Nat)(an:Nat->Int×Int)(k c:Nat):rowA st an k c=idxA st an (zat st an k c) (st ((zat st an k c).getD k 0) c):=by
 unfold rowA;rw[zcl];exact(zlT st an _ _).1
theorem zpt(hG:zef st an K)(hk:k<K)(hc:c<256):rowA st an k c=idxA st an (zat st an K 0) (st ((zat st an K 0).getD k 0) c):=by
 have h0:=hG k hk;obtain⟨t,ht⟩:=zdj st an (k+1) K (by omega);obtain⟨t2,ht2⟩:=zb4 st an k (c+1) 256 (by omega);have e1:zat st an K 0=zat st an k (c+1)++(t2++t):=by rw[ht,zcS,ht2,ztD]
 have hl:k<(zat st an k (c+1)).length:=zuB h0 (zgm st an k (zuL _));have e2:(zat st an K 0).getD k 0=(zat st an k c).getD k 0:=by rw[e1,zdX hl,zpY st an h0];exact(zpY st an h0).symm
 rw[e2,e1];exact(zqG (zpn st an k c)).symm
theorem zrf(hk:k<K)(hc:c<256):rowA st an k c<(zat st an K 0).length:=by
 obtain⟨t,ht⟩:=zdj st an (k+1) K (by omega);obtain⟨t2,ht2⟩:=zb4 st an k (c+1) 256 (by omega);have:=zpn st an k c;rw[ht,zcS,ht2];simp only[zt1];omega
def zbZ(K:Nat)(R:Nat->Nat->Nat)(h c:Nat):Bool:=(List.range K).all fun k=>R k h==R k c
theorem zeh{R:Nat->Nat->Nat}{h:Nat}:zbZ K R h c=true↔∀k,k<K->R k h=R k c:=by simp[zbZ]
def zah(K:Nat)(R:Nat->Nat->Nat):Nat->List Nat
 |0=>[]
 |c+1=>if (zah K R c).findIdx (fun h=>zbZ K R h c)<(zah K R c).length then zah K R c else zah K R c++[c]
def clsF(K:Nat)(R:Nat->Nat->Nat)(c:Nat):Nat:=(zah K R c).findIdx fun h=>zbZ K R h c
theorem zba(K:Nat)(R:Nat->Nat->Nat)(c:Nat):zah K R (c+1)=if clsF K R c<(zah K R c).length then zah K R c else zah K R c++[c]:=rfl
theorem zc0(K:Nat)(R:Nat->Nat->Nat):∀c,∀h∈zah K R c,h<c
 |0,h,hh=>by simp[zah] at hh
 |c+1,h,hh=>by
  rw[zba] at hh;split at hh
  ·have:=zc0 K R c h hh;omega
  ·rcases zuc.1 hh with hh|hh
   ·have:=zc0 K R c h hh;omega
   ·simp at hh;omega
theorem zcq(K:Nat)(R:Nat->Nat->Nat):∀c,(zah K R c).length<=c
 |0=>by simp[zah]
 |c+1=>by
  have:=zcq K R c;rw[zba];split
  ·omega
  ·simp;omega
theorem zeP(K:Nat)(R:Nat->Nat->Nat):∀c i j,i<(zah K R c).length->j<(zah K R c).length->zbZ K R ((zah K R c).getD i 0) ((zah K R c).getD j 0)=true->i=j
 |0,i,j,hi,_,_=>by simp[zah] at hi
 |c+1,i,j,hi,hj,h=>by
  rw[zba] at hi hj h
  by_cases hc:clsF K R c<(zah K R c).length
  ·rw[zuV hc] at hi hj h;exact zeP K R c i j hi hj h
  ·rw[zuU hc] at hi hj h;simp only[zt1,zt2,zt4] at hi hj;have hnew:∀i,i<(zah K R c).length->zbZ K R ((zah K R c).getD i 0) c=false:=fun i hi=>by
    have hle:(zah K R c).length<=clsF K R c:=by omega
    unfold clsF at hle;have:=List.not_of_lt_findIdx (p:=fun h=>zbZ K R h c) (i:=i) (by omega:i<(zah K R c).findIdx fun h=>zbZ K R h c);rw[ztO,ztT hi]
    simpa using this
   have hlast:(zah K R c++[c]).getD (zah K R c).length 0=c:=by simp
   by_cases h1:i<(zah K R c).length<;>by_cases h2:j<(zah K R c).length
   ·rw[zdX h1,zdX h2] at h;exact zeP K R c i j h1 h2 h
   ·have ej:j=(zah K R c).length:=by omega
    rw[zdX h1,ej,hlast,hnew i h1] at h;cases h
   ·have ei:i=(zah K R c).length:=by omega
    rw[zdX h2,ei,hlast] at h;have:=hnew j h2;have h':zbZ K R ((zah K R c).getD j 0) c=true:=zeh.2 fun k hk=>(zeh.1 h k hk).symm
    rw[this] at h';cases h'
   ·omega
end
section
variable {lo:Nat}{w w':World}{v:Value}{xs:List Int}
open Go.RowKit
attribute [local go_sem ↓] Go.wp_at_zero Go.wp_at_succ
def zii(lo:Nat)(w:World)(ao:Option Addr)(xs:List Int):Prop:=
 0<xs.length->∃b o,ao=some ⟨b,o,none⟩/\lo<=b/\b<w.heap.size/\∀i,i<xs.length->w.cell? ⟨b,o+i,none⟩=some (.int .i64 (xs.getD i 0))
def zbx(lo:Nat)(w:World)(v:Value)(xs:List Int):Prop:=∃ao cap,v=.slice ao xs.length cap/\xs.length<=9223372036854775807/\zii lo w ao xs
theorem zbx.same(h:zbx lo w v xs)(hb:Same lo w w'):zbx lo w' v xs:=by
 obtain⟨ao,cap,rfl,hm,h⟩:=h;refine⟨ao,cap,rfl,hm,fun h0=>?_⟩;obtain⟨b,o,rfl,hge,hlt,hc⟩:=h h0;exact⟨b,o,rfl,hge,zuB hlt hb.size,fun i hi=>(hb.cell (by exact hge) (by exact hlt)).trans (hc i hi)⟩
theorem zbx.below(h:zbx lo w v xs)(hb:Below w.heap.size w w'):zbx lo w' v xs:=h.same (.of_below hb)
theorem zii.elem{wr:World}{ao:Option Addr}(h:zii lo w ao xs)(hb:Below w.heap.size w wr){k:Nat}(hk:k<xs.length):
  ∃(b o:Nat) (x:Int),ao=some ⟨b,o,none⟩/\Hid (xs.getD k 0=x)/\b<w.heap.size/\wr.cell? ⟨b,o+k,none⟩=some (.int .i64 x):=by
 obtain⟨b,o,rfl,_,hlt,hc⟩:=h (by omega);exact⟨b,o,_,rfl,rfl,hlt,(hb.cell (by exact hlt)).trans (hc k hk)⟩
theorem zeY{l1 l2:Nat}(v v2:Value)(xs:List Int)(w:World)(hs:zbx l1 w v xs)(hs2:zbx l2 w v2 xs):
  Calls Tryz.prog 27 #[v,v2] w fun e w'=>e=.returned (.bool true)/\Below w.heap.size w w':=by
 obtain⟨ao,cap,rfl,hm,hc⟩:=hs;obtain⟨ao2,cap2,rfl,_,hc2⟩:=hs2
 go_enter Tryz.func27,Tryz.ntmps27
 go_wp2
 go_loopw [5] (fun i wr=>∃k:Nat,k<=xs.length/\i=.int .i64 k/\Below w.heap.size w wr)
  (fun i _=>xs.length-(intOf i).toNat)
 case atStart=>exact⟨0,zuL _,rfl,Below.refl _ _⟩
 case round=>
  obtain⟨k,hk,rfl,hb⟩:=hrel
  by_cases hlt:k<xs.length
  ·obtain⟨b,o,x,rfl,Hn,hbl,c0⟩:=hc.elem hb hlt;obtain⟨b2,o2,x2,rfl,Hn2,hbl2,d0⟩:=hc2.elem hb hlt;have hee:x=x2:=Hn.out.symm.trans Hn2.out;subst hee;have hi0:(0:Int)<=(k:Int):=by omega
   have hi1:(k:Int)<(xs.length:Int):=by omega
   have hne:(x != x)=false:=by simp
   go_wp2
   go_quiet (fail)
   go_wp2
   go_roundw
   case rel=>exact⟨k+1,by omega,by go_num,below_drewN hb _⟩
   case measure=>simp[intOf];omega
  ·go_wp2;go_ret;exact⟨rfl,hb⟩
def zcY(lo hi:Int)(xs:List Int):Bool:=xs.all fun x=>btw x lo hi
theorem zmH(lo hi:Int)(xs:List Int)(k:Nat)(hk:k<xs.length)(x:Int)(h:xs.getD k 0=x):zcY lo hi (xs.drop k)=(btw x lo hi&&zcY lo hi (xs.drop (k+1))):=by
 rw[ztG hk];have:xs[k]=x:=by rw[<-h];simp[List.getD,hk]
 unfold zcY;rw[List.all_cons,this]
theorem zcZ{lo hi:Int}(h:zcY lo hi xs=true){k:Nat}(hk:k<xs.length):lo<=xs.getD k 0/\xs.getD k 0<=hi:=by
 have:=ztC.1 h (xs.getD k 0) (by
  rw[ztO,ztT hk];exact zt0 _)
 simpa [btw] using this
end
section
open Go.RowKit
structure DfaD where
 classes:List Int
 width:Int
 next:List Int
 tag:List Int
 fin:List Int
structure zbU(lo:Nat)(w:World)(cv nv tv ev:Value)(d:DfaD):Prop where
 classes:zbx lo w cv d.classes
 next:zbx lo w nv d.next
 tag:zbx lo w tv d.tag
 fin:zbx lo w ev d.fin
theorem zbU.below{lo:Nat}{w w':World}{cv nv tv ev:Value}{d:DfaD}(h:zbU lo w cv nv tv ev d)(hb:Below w.heap.size w w'):zbU lo w' cv nv tv ev d:=
 ⟨h.classes.below hb,h.next.below hb,h.tag.below hb,h.fin.below hb⟩
theorem za8{l:Nat}(lo hi:Int)(v:Value)(xs:List Int)(w:World)(hs:zbx l w v xs):
  Calls Tryz.prog 73 #[v,.int .i64 lo,.int .i64 hi] w fun e w'=>e=.returned (.bool (zcY lo hi xs))/\w'=w:=by
 obtain⟨ao,cap,rfl,hm,hc⟩:=hs
 go_enter Tryz.func73,Tryz.ntmps73
 go_wp2
 go_loop [11] (fun i=>∃k:Nat,k<=xs.length/\i=.int .i64 k/\Hid (zcY lo hi xs=zcY lo hi (xs.drop k)))
  (fun i=>xs.length-(intOf i).toNat)
 case atStart=>exact⟨0,zuL _,rfl,rfl⟩
 case round=>
  obtain⟨k,hk,rfl,HS⟩:=hrel
  by_cases hlt:k<xs.length
  ·obtain⟨b,o,x,rfl,Hn,hbl,c0⟩:=hc.elem (Below.refl _ _) hlt;have HD:Hid _:=zmH lo hi xs k hlt x Hn.out
   by_cases hb:btw x lo hi=true
   ·go_wp2_with (go_at_call 14;refine(zaw _ _ _ _).mono ?_;rintro e w' ⟨rfl,rfl⟩)
    go_round
    case rel=>exact⟨k+1,by omega,by go_num,by show _=_;rw[HS.out,HD.out,hb,zty]⟩
    case measure=>simp[intOf];omega
   ·have hb':btw x lo hi=false:=by simpa using hb
    clear hb
    go_wp2_with (go_at_call 14;refine(zaw _ _ _ _).mono ?_;rintro e w' ⟨rfl,rfl⟩)
    go_ret
    exact⟨zay (by rw[HS.out,HD.out,hb',Bool.false_and]),rfl⟩
  ·go_wp2;go_ret;exact⟨zay (by rw[HS.out,ztH (by omega)];rfl),rfl⟩
theorem ziu{l1 l2:Nat}(cv nv tv ev cv2 nv2 tv2 ev2:Value)(d:DfaD)(w:World)(hs:zbU l1 w cv nv tv ev d)(hs2:zbU l2 w cv2 nv2 tv2 ev2 d):
  Calls Tryz.prog 8 #[.agg #[cv,.int .i64 d.width,nv,tv,ev],.agg #[cv2,.int .i64 d.width,nv2,tv2,ev2]] w fun e w'=>e=.returned (.bool true)/\Below w.heap.size w w':=by
 have hb0:∀X Y,Below w.heap.size w ((w.alloc (.cells X 26)).alloc (.cells Y 26)):=fun X Y=>((Below.refl _ _).alloc (zuz _) _).alloc (by simp) _
 go_enter Tryz.func8,Tryz.ntmps8
 go_wp2_with fail
 refine(zeY _ _ d.classes _ (hs.below (hb0 _ _)).classes (hs2.below (hb0 _ _)).classes).mono ?_;rintro e w1 ⟨rfl,hb1⟩;have hbb1:=zaa (hb0 #[cv,.int .i64 d.width,nv,tv,ev] #[cv2,.int .i64 d.width,nv2,tv2,ev2]) (hb0 _ _).size hb1;have hz1:w.heap.size+1+1<=w1.heap.size:=zuA (by simp) hb1.size;have hc1:∀b o,b<w.heap.size+1+1->w1.cell? ⟨b,o,none⟩=((w.alloc (.cells #[cv,.int .i64 d.width,nv,tv,ev] 26)).alloc (.cells #[cv2,.int .i64 d.width,nv2,tv2,ev2] 26)).cell? ⟨b,o,none⟩:=fun b o h=>hb1.cell (p:=⟨b,o,none⟩) (by simpa using h)
 clear hb1
 go_wp2_with fail
 refine(zeY _ _ d.next _ (hs.below hbb1).next (hs2.below hbb1).next).mono ?_;rintro e w2 ⟨rfl,hb2⟩;have hbb2:=zaa hbb1 hbb1.size hb2;have hz2:w.heap.size+1+1<=w2.heap.size:=zuA hz1 hb2.size;have hc2:∀b o,b<w.heap.size+1+1->w2.cell? ⟨b,o,none⟩=((w.alloc (.cells #[cv,.int .i64 d.width,nv,tv,ev] 26)).alloc (.cells #[cv2,.int .i64 d.width,nv2,tv2,ev2] 26)).cell? ⟨b,o,none⟩:=fun b o h=>(hb2.cell (p:=⟨b,o,none⟩) (zuB h hz1)).trans (hc1 b o h)
 clear hb2 hc1
 go_wp2_with fail
 refine(zeY _ _ d.tag _ (hs.below hbb2).tag (hs2.below hbb2).tag).mono ?_;rintro e w3 ⟨rfl,hb3⟩;have hbb3:=zaa hbb2 hbb2.size hb3;have hz3:w.heap.size+1+1<=w3.heap.size:=zuA hz2 hb3.size;have hc3:∀b o,b<w.heap.size+1+1->w3.cell? ⟨b,o,none⟩=((w.alloc (.cells #[cv,.int .i64 d.width,nv,tv,ev] 26)).alloc (.cells #[cv2,.int .i64 d.width,nv2,tv2,ev2] 26)).cell? ⟨b,o,none⟩:=fun b o h=>(hb3.cell (p:=⟨b,o,none⟩) (zuB h hz2)).trans (hc2 b o h)
 clear hb3 hc2
 go_wp2_with fail
 refine(zeY _ _ d.fin _ (hs.below hbb3).fin (hs2.below hbb3).fin).mono ?_;rintro e w4 ⟨rfl,hb4⟩;have hbb4:=zaa hbb3 hbb3.size hb4;have hz4:w.heap.size+1+1<=w4.heap.size:=zuA hz3 hb4.size;have hc4:∀b o,b<w.heap.size+1+1->w4.cell? ⟨b,o,none⟩=((w.alloc (.cells #[cv,.int .i64 d.width,nv,tv,ev] 26)).alloc (.cells #[cv2,.int .i64 d.width,nv2,tv2,ev2] 26)).cell? ⟨b,o,none⟩:=fun b o h=>(hb4.cell (p:=⟨b,o,none⟩) (zuB h hz3)).trans (hc3 b o h)
 clear hb4 hc3;go_wp2;go_ret;exact⟨rfl,hbb4⟩
end
section
open Go.RowKit
end
variable {lo:Nat}
open Go.RowKit
def dfaB(d:DfaD):Bool:=
 decide (d.classes.length=256)&&btw d.width 1 256&&btw d.tag.length 1 4000&&decide (d.fin.length=d.tag.length)&&decide ((d.next.length:Int)=d.tag.length*d.width) &&
 zcY 0 (d.width-1) d.classes&&zcY 0 (d.tag.length-1) d.next&&zcY (-1) 99 d.tag&&zcY (-1) 99 d.fin
theorem zdb{x a b:Int}:btw x a b=true↔a<=x/\x<=b:=by simp[btw]
theorem zj8(cv nv tv ev:Value)(d:DfaD)(w:World)(hs:zbU lo w cv nv tv ev d)(h:¬d.classes.length=256):
  Calls Tryz.prog 41 #[.agg #[cv,.int .i64 d.width,nv,tv,ev]] w fun e w'=>e=.returned (.bool (dfaB d))/\Below w.heap.size w w':=by
 have hb0:Below w.heap.size w (w.alloc (.cells #[cv,.int .i64 d.width,nv,tv,ev] 26)):=(Below.refl _ _).alloc (zuz _) _;have hs1:=hs.below hb0;clear hb0;obtain⟨⟨ca,cc,rfl,cm,cx⟩,⟨na,nc,rfl,nm,nx⟩,⟨ta,tc,rfl,tm,tx⟩,⟨ea,ec,rfl,em,ex⟩⟩:=hs;clear cx nx tx ex;have H:Hid (dfaB d=false):=by show _=_;simp[dfaB, *]
 go_enter Tryz.func41,Tryz.ntmps41
 go_wp2_with (first|(go_at_call 14;refine(zaw _ _ _ _).mono ?_;rintro e w' ⟨rfl,rfl⟩)|(go_at_call 73;(first|refine(za8 _ _ _ d.classes _ hs1.classes).mono ?_|refine(za8 _ _ _ d.next _ hs1.next).mono ?_|refine(za8 _ _ _ d.tag _ hs1.tag).mono ?_|refine(za8 _ _ _ d.fin _ hs1.fin).mono ?_);rintro e w' ⟨rfl,rfl⟩))
 go_ret
 exact⟨zay H.out.symm,(Below.refl _ _).alloc (zuz _) _⟩
theorem zj9(cv nv tv ev:Value)(d:DfaD)(w:World)(hs:zbU lo w cv nv tv ev d)(g1:d.classes.length=256)(h:btw d.width 1 256=false):
  Calls Tryz.prog 41 #[.agg #[cv,.int .i64 d.width,nv,tv,ev]] w fun e w'=>e=.returned (.bool (dfaB d))/\Below w.heap.size w w':=by
 have hb0:Below w.heap.size w (w.alloc (.cells #[cv,.int .i64 d.width,nv,tv,ev] 26)):=(Below.refl _ _).alloc (zuz _) _;have hs1:=hs.below hb0;clear hb0;obtain⟨⟨ca,cc,rfl,cm,cx⟩,⟨na,nc,rfl,nm,nx⟩,⟨ta,tc,rfl,tm,tx⟩,⟨ea,ec,rfl,em,ex⟩⟩:=hs;clear cx nx tx ex;have H:Hid (dfaB d=false):=by show _=_;simp[dfaB, *]
 go_enter Tryz.func41,Tryz.ntmps41
 go_wp2_with (first|(go_at_call 14;refine(zaw _ _ _ _).mono ?_;rintro e w' ⟨rfl,rfl⟩)|(go_at_call 73;(first|refine(za8 _ _ _ d.classes _ hs1.classes).mono ?_|refine(za8 _ _ _ d.next _ hs1.next).mono ?_|refine(za8 _ _ _ d.tag _ hs1.tag).mono ?_|refine(za8 _ _ _ d.fin _ hs1.fin).mono ?_);rintro e w' ⟨rfl,rfl⟩))
 go_ret
 exact⟨zay H.out.symm,(Below.refl _ _).alloc (zuz _) _⟩
theorem zka(cv nv tv ev:Value)(d:DfaD)(w:World)(hs:zbU lo w cv nv tv ev d)(g1:d.classes.length=256)(g2:btw d.width 1 256=true)(h:btw d.tag.length 1 4000=false):
  Calls Tryz.prog 41 #[.agg #[cv,.int .i64 d.width,nv,tv,ev]] w fun e w'=>e=.returned (.bool (dfaB d))/\Below w.heap.size w w':=by
 have hb0:Below w.heap.size w (w.alloc (.cells #[cv,.int .i64 d.width,nv,tv,ev] 26)):=(Below.refl _ _).alloc (zuz _) _;have hs1:=hs.below hb0;clear hb0;obtain⟨⟨ca,cc,rfl,cm,cx⟩,⟨na,nc,rfl,nm,nx⟩,⟨ta,tc,rfl,tm,tx⟩,⟨ea,ec,rfl,em,ex⟩⟩:=hs;clear cx nx tx ex;have H:Hid (dfaB d=false):=by show _=_;simp[dfaB, *]
 go_enter Tryz.func41,Tryz.ntmps41
 go_wp2_with (first|(go_at_call 14;refine(zaw _ _ _ _).mono ?_;rintro e w' ⟨rfl,rfl⟩)|(go_at_call 73;(first|refine(za8 _ _ _ d.classes _ hs1.classes).mono ?_|refine(za8 _ _ _ d.next _ hs1.next).mono ?_|refine(za8 _ _ _ d.tag _ hs1.tag).mono ?_|refine(za8 _ _ _ d.fin _ hs1.fin).mono ?_);rintro e w' ⟨rfl,rfl⟩))
 go_ret
 exact⟨zay H.out.symm,(Below.refl _ _).alloc (zuz _) _⟩
theorem zkb(cv nv tv ev:Value)(d:DfaD)(w:World)(hs:zbU lo w cv nv tv ev d)(g1:d.classes.length=256)(g2:btw d.width 1 256=true)(g3:btw d.tag.length 1 4000=true)(h:¬d.fin.length=d.tag.length):
  Calls Tryz.prog 41 #[.agg #[cv,.int .i64 d.width,nv,tv,ev]] w fun e w'=>e=.returned (.bool (dfaB d))/\Below w.heap.size w w':=by
 have hb0:Below w.heap.size w (w.alloc (.cells #[cv,.int .i64 d.width,nv,tv,ev] 26)):=(Below.refl _ _).alloc (zuz _) _;have hs1:=hs.below hb0;clear hb0;obtain⟨⟨ca,cc,rfl,cm,cx⟩,⟨na,nc,rfl,nm,nx⟩,⟨ta,tc,rfl,tm,tx⟩,⟨ea,ec,rfl,em,ex⟩⟩:=hs;clear cx nx tx ex;have hw:=zdb.1 g2;have ht:=zdb.1 g3;have hmul:(d.tag.length:Int)*d.width<=4000*256:=ztA (by omega) (by omega) (by omega) (by omega);have hmul0:0<=(d.tag.length:Int)*d.width:=Int.mul_nonneg (by omega) (by omega);have H:Hid (dfaB d=false):=by show _=_;simp[dfaB, *]
 go_enter Tryz.func41,Tryz.ntmps41
 go_wp2_with (first|(go_at_call 14;refine(zaw _ _ _ _).mono ?_;rintro e w' ⟨rfl,rfl⟩)|(go_at_call 73;(first|refine(za8 _ _ _ d.classes _ hs1.classes).mono ?_|refine(za8 _ _ _ d.next _ hs1.next).mono ?_|refine(za8 _ _ _ d.tag _ hs1.tag).mono ?_|refine(za8 _ _ _ d.fin _ hs1.fin).mono ?_);rintro e w' ⟨rfl,rfl⟩))
 go_ret
 exact⟨zay H.out.symm,(Below.refl _ _).alloc (zuz _) _⟩
theorem zkc(cv nv tv ev:Value)(d:DfaD)(w:World)(hs:zbU lo w cv nv tv ev d)(g1:d.classes.length=256)(g2:btw d.width 1 256=true)(g3:btw d.tag.length 1 4000=true)(g4:d.fin.length=d.tag.length)(h:¬(d.next.length:Int)=d.tag.length*d.width):
  Calls Tryz.prog 41 #[.agg #[cv,.int .i64 d.width,nv,tv,ev]] w fun e w'=>e=.returned (.bool (dfaB d))/\Below w.heap.size w w':=by
 have hb0:Below w.heap.size w (w.alloc (.cells #[cv,.int .i64 d.width,nv,tv,ev] 26)):=(Below.refl _ _).alloc (zuz _) _;have hs1:=hs.below hb0;clear hb0;obtain⟨⟨ca,cc,rfl,cm,cx⟩,⟨na,nc,rfl,nm,nx⟩,⟨ta,tc,rfl,tm,tx⟩,⟨ea,ec,rfl,em,ex⟩⟩:=hs;clear cx nx tx ex;have hw:=zdb.1 g2;have ht:=zdb.1 g3;have hmul:(d.tag.length:Int)*d.width<=4000*256:=ztA (by omega) (by omega) (by omega) (by omega);have hmul0:0<=(d.tag.length:Int)*d.width:=Int.mul_nonneg (by omega) (by omega);have H:Hid (dfaB d=false):=by show _=_;simp[dfaB, *]
 go_enter Tryz.func41,Tryz.ntmps41
 go_wp2_with (first|(go_at_call 14;refine(zaw _ _ _ _).mono ?_;rintro e w' ⟨rfl,rfl⟩)|(go_at_call 73;(first|refine(za8 _ _ _ d.classes _ hs1.classes).mono ?_|refine(za8 _ _ _ d.next _ hs1.next).mono ?_|refine(za8 _ _ _ d.tag _ hs1.tag).mono ?_|refine(za8 _ _ _ d.fin _ hs1.fin).mono ?_);rintro e w' ⟨rfl,rfl⟩))
 go_ret
 exact⟨zay H.out.symm,(Below.refl _ _).alloc (zuz _) _⟩
theorem zlF(cv nv tv ev:Value)(d:DfaD)(w:World)(hs:zbU lo w cv nv tv ev d)(g1:d.classes.length=256)(g2:btw d.width 1 256=true)(g3:btw d.tag.length 1 4000=true)(g4:d.fin.length=d.tag.length)(g5:(d.next.length:Int)=d.tag.length*d.width):
  Calls Tryz.prog 41 #[.agg #[cv,.int .i64 d.width,nv,tv,ev]] w fun e w'=>e=.returned (.bool (dfaB d))/\Below w.heap.size w w':=by
 have hb0:Below w.heap.size w (w.alloc (.cells #[cv,.int .i64 d.width,nv,tv,ev] 26)):=(Below.refl _ _).alloc (zuz _) _;have hs1:=hs.below hb0;clear hb0;obtain⟨⟨ca,cc,rfl,cm,cx⟩,⟨na,nc,rfl,nm,nx⟩,⟨ta,tc,rfl,tm,tx⟩,⟨ea,ec,rfl,em,ex⟩⟩:=hs;clear cx nx tx ex;have hw:=zdb.1 g2;have ht:=zdb.1 g3;have hmul:(d.tag.length:Int)*d.width<=4000*256:=ztA (by omega) (by omega) (by omega) (by omega);have hmul0:0<=(d.tag.length:Int)*d.width:=Int.mul_nonneg (by omega) (by omega);have b1:((d.classes.length:Int) != 256)=false:=by simp[g1]
 have b4:((d.fin.length:Int) != d.tag.length)=false:=by simp[g4]
 have b5:((d.next.length:Int) != d.tag.length*d.width)=false:=by simp[g5]
 have H:Hid (dfaB d=(zcY 0 (d.width-1) d.classes&&zcY 0 (d.tag.length-1) d.next&&zcY (-1) 99 d.tag&&zcY (-1) 99 d.fin)):=by show _=_;simp[dfaB, *]
 clear g1 g4 g5
 go_enter Tryz.func41,Tryz.ntmps41
 go_wp2_with (go_at_call 14;refine(zaw _ _ _ _).mono ?_;rintro e w' ⟨rfl,rfl⟩)
 refine(za8 _ _ _ d.classes _ hs1.classes).mono ?_;rintro e w' ⟨rfl,rfl⟩;cases g6:zcY 0 (d.width-1) d.classes
 case false=>
  rw[g6] at H;go_wp2;go_ret;exact⟨zay (by rw[H.out];simp),(Below.refl _ _).alloc (zuz _) _⟩
 rw[g6] at H
 go_wp2_with fail
 refine(za8 _ _ _ d.next _ hs1.next).mono ?_;rintro e w' ⟨rfl,rfl⟩;cases g7:zcY 0 (d.tag.length-1) d.next
 case false=>
  rw[g7] at H;go_wp2;go_ret;exact⟨zay (by rw[H.out];simp),(Below.refl _ _).alloc (zuz _) _⟩
 rw[g7] at H
 go_wp2_with fail
 refine(za8 _ _ _ d.tag _ hs1.tag).mono ?_;rintro e w' ⟨rfl,rfl⟩;cases g8:zcY (-1) 99 d.tag
 case false=>
  rw[g8] at H;go_wp2;go_ret;exact⟨zay (by rw[H.out];simp),(Below.refl _ _).alloc (zuz _) _⟩
 rw[g8] at H
 go_wp2_with fail
 refine(za8 _ _ _ d.fin _ hs1.fin).mono ?_;rintro e w' ⟨rfl,rfl⟩;go_wp2;go_ret;exact⟨zay (by rw[H.out];simp),(Below.refl _ _).alloc (zuz _) _⟩
theorem zfV(cv nv tv ev:Value)(d:DfaD)(w:World)(hs:zbU lo w cv nv tv ev d):
  Calls Tryz.prog 41 #[.agg #[cv,.int .i64 d.width,nv,tv,ev]] w fun e w'=>e=.returned (.bool (dfaB d))/\Below w.heap.size w w':=by
 by_cases g1:d.classes.length=256
 case neg=>exact zj8 cv nv tv ev d w hs g1
 cases g2:btw d.width 1 256
 case false=>exact zj9 cv nv tv ev d w hs g1 g2
 cases g3:btw d.tag.length 1 4000
 case false=>exact zka cv nv tv ev d w hs g1 g2 g3
 by_cases g4:d.fin.length=d.tag.length
 case neg=>exact zkb cv nv tv ev d w hs g1 g2 g3 g4
 by_cases g5:(d.next.length:Int)=d.tag.length*d.width
 case neg=>exact zkc cv nv tv ev d w hs g1 g2 g3 g4 g5
 exact zlF cv nv tv ev d w hs g1 g2 g3 g4 g5
end Go.Proofs.YthddplbodacjgaaGreatDoor
