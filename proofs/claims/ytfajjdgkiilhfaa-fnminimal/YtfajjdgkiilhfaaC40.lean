import Derived.Test.YtfajjdgkiilhfaaC19
import Derived.Test.YtfajjdgkiilhfaaC37
namespace Go.Proofs.Ytfajjdgkiilhfaa
open Go renaming World->za,Value->zh
open Go.RowKit
variable {l:List Tok}{B:Nat}{W W':za}{sv:zh}{q:Nat -> Nat}
def kB:Nat->Int
 |0=>97
 |1=>40
 |2=>41
 |3=>124
 |4=>114
 |5=>94
 |_=>36
theorem ztw{a b:Nat}(ha:a<7)(hb:b<7)(h:kB a=kB b):a=b:=by
 match a,b,ha,hb with
 |0,0,_,_=>rfl
 |1,1,_,_=>rfl
 |2,2,_,_=>rfl
 |3,3,_,_=>rfl
 |4,4,_,_=>rfl
 |5,5,_,_=>rfl
 |6,6,_,_=>rfl
 |0,1,_,_|0,2,_,_|0,3,_,_|0,4,_,_|0,5,_,_|0,6,_,_=>exact absurd h (by decide)
 |1,0,_,_|1,2,_,_|1,3,_,_|1,4,_,_|1,5,_,_|1,6,_,_=>exact absurd h (by decide)
 |2,0,_,_|2,1,_,_|2,3,_,_|2,4,_,_|2,5,_,_|2,6,_,_=>exact absurd h (by decide)
 |3,0,_,_|3,1,_,_|3,2,_,_|3,4,_,_|3,5,_,_|3,6,_,_=>exact absurd h (by decide)
 |4,0,_,_|4,1,_,_|4,2,_,_|4,3,_,_|4,5,_,_|4,6,_,_=>exact absurd h (by decide)
 |5,0,_,_|5,1,_,_|5,2,_,_|5,3,_,_|5,4,_,_|5,6,_,_=>exact absurd h (by decide)
 |6,0,_,_|6,1,_,_|6,2,_,_|6,3,_,_|6,4,_,_|6,5,_,_=>exact absurd h (by decide)
def DK(x:Tok)(q:Nat):zh:=if x.kind=0 then .slice (some ⟨q,0,none⟩) 256 256 else .slice none 0 0
def mS(g:Nat)(l:List Tok)(k:Nat):Int:=if aZ l k=1 then ((g+cZ l (k+1):Nat):Int) else (l.getD k jb).mn
def vp(g:Nat)(l:List Tok)(q:Nat->Nat)(k:Nat):List zh:=[.int .u8 (kB (aZ l k)),.int .i64 ((l.getD k jb).pos:Int),DK (l.getD k jb) (q k),.int .i64 (mS g l k),.int .i64 (l.getD k jb).mx]
def F2(l:List Tok)(q:Nat->Nat):List zh:=(List.range l.length).flatMap (vp 0 l q)
theorem zrw(l:List Tok)(q:Nat->Nat){k j:Nat}(hk:k<l.length)(hj:j<5):(F2 l q)[k*5+j]?=(vp 0 l q k)[j]?:=Ud (f:=vp 0 l q) (sz:=5) (λ_=>rfl) _ _ _ hk hj
theorem Uf(m:List Tok){k:Nat}(h:k<l.length):(l++m).getD k jb=l.getD k jb:=by simp[List.getD,List.getElem?_append_left h]
theorem zgR(l m:List Tok)(k:Nat):(l++m).getD (l.length+k) jb=m.getD k jb:=by
 simp only[List.getD];rw[vH (by omega),lW]
theorem ziZ(l:List Tok)(x:Tok):(l++[x]).getD l.length jb=x:=by simp[List.getD]
theorem xt(m:List Tok){k:Nat}(h:k<l.length):aZ (l++m) k=aZ l k:=by unfold aZ;rw[Uf m h]
theorem Gg(l m:List Tok)(k:Nat):aZ (l++m) (l.length+k)=aZ m k:=by unfold aZ;rw[zgR]
theorem Qe(l:List Tok)(x:Tok):aZ (l++[x]) l.length=x.kind:=by unfold aZ;rw[ziZ]
theorem Mi(m:List Tok):∀{k:Nat},k<=l.length->cZ (l++m) k=cZ l k
 |0,_=>rfl
 |k+1,h=>by show cZ (l++m) k+_=cZ l k+_;rw[Mi m (show k<=l.length by omega),xt m (by omega)]
theorem zhe(l m:List Tok):∀k,cZ (l++m) (l.length+k)=cZ l l.length+cZ m k
 |0=>by rw[xJ,Mi m (ax _)];rfl
 |k+1=>by
  show cZ (l++m) (l.length+k)+(if aZ (l++m) (l.length+k)=1 then 1 else 0)=_+(cZ m k+_);rw[zhe l m k,Gg];omega
theorem Ux(l:List Tok):∀k,cZ l k<=k
 |0=>ax _
 |k+1=>by
  have:=Ux l k;show cZ l k+(if aZ l k=1 then 1 else 0)<=k+1;split<;>omega
theorem Cf(m:List Tok):∀{k:Nat},k<=l.length->bA (l++m) k=bA l k
 |0,_=>rfl
 |k+1,h=>by show bA (l++m) k+_=bA l k+_;rw[Cf m (show k<=l.length by omega),xt m (by omega)]
theorem Gc(l m:List Tok):∀k,bA (l++m) (l.length+k)=bA l l.length+bA m k
 |0=>by rw[xJ,Cf m (ax _)];show _=_+0;omega
 |k+1=>by
  show bA (l++m) (l.length+k)+(if aZ (l++m) (l.length+k)=1 then 1 else if aZ (l++m) (l.length+k)=2 then -1 else 0)=_+(bA m k+_);rw[Gc l m k,Gg];omega
theorem zsZ{g:Nat}(m:List Tok){q q':Nat->Nat}{k:Nat}(h:k<l.length)(hq:q' k=q k):vp g (l++m) q' k=vp g l q k:=by
 unfold vp mS;rw[xt m h,Uf m h,Mi m (by omega),hq]
theorem zrv(l:List Tok)(x:Tok)(q q':Nat->Nat)(hq:∀k,k<l.length->q' k=q k):F2 (l++[x]) q'=F2 l q++vp 0 (l++[x]) q' l.length:=by
 unfold F2;rw[a6,show [x].length=1 from rfl,LY]
 congr 1
 exact PM _ λk hk=>zsZ _ hk (hq k hk)
structure mH(B:Nat)(W:za)(sv:zh)(l:List Tok)(q:Nat->Nat):Prop where
 row:W.ownsRow B 135 5 sv l.length (F2 l q)
 set:∀k,k<l.length->aZ l k=0->B<=q k/\sv.ownBlock≠some (q k)/\bC W (q k) (l.getD k jb).set
theorem mH.keep(h:mH B W sv l q)(hk:∀b,B<=b->b<W.heap.size->W'.heap[b]?=W.heap[b]?):mH B W' sv l q:=
 ⟨uo h.row λb hb=>hk b (dL h.row hb).1 (dL h.row hb).2,λk h1 h2=>⟨(h.set k h1 h2).1,(h.set k h1 h2).2.1,(hk _ (h.set k h1 h2).1 (az (h.set k h1 h2).2.2)).trans (h.set k h1 h2).2.2⟩⟩
theorem mH.below(h:mH B W sv l q)(hb:Below W.heap.size W W'):mH B W' sv l q:=h.keep λb _ hl=>hb.block b hl
theorem mH.start(w:za)(B H:Nat)(hB:B<=H)(hH:w.heap.size=H):mH B (w.alloc (.cells #[] 135)) (.slice (some ⟨H,0,none⟩) 0 0) [] (λ_=>0):=
 ⟨LX w _ 5 B H hB hH,λk h=>absurd h (by simp)⟩
structure r8(B:Nat)(w:za)(s:List UInt8)(i:Nat)(l:List Tok)(q:Nat->Nat)(sv:zh)(P:Nat)(v6 v10:zh)(wx:za)(x:Tok)(j:Nat)(q0:Nat):Prop where
 tok:fL s i=.inr (x,j)
 zBt:v10=.int .i64 (j:Int)
 v6e:v6=.int .i64 ((cZ (l++[x]) (l.length+1):Nat):Int)
 below:Below B w wx
 zvB:mH B wx sv l q
 box:wx.heap[P]?=some (.cells (vp 0 (l++[x]) (λk=>if k=l.length then q0 else q k) l.length).toArray 135 (0,0))
 set:x.kind=0->B<=q0/\sv.ownBlock≠some q0/\bC wx q0 x.set
theorem zl9(l:List Tok)(x:Tok)(q:Nat->Nat)(q0:Nat):vp 0 (l++[x]) (λk=>if k=l.length then q0 else q k) l.length=[.int .u8 (kB x.kind),.int .i64 (x.pos:Int),DK x q0,.int .i64 (if x.kind=1 then ((cZ l l.length+1:Nat):Int) else x.mn),.int .i64 x.mx]:=by
 unfold vp mS;rw[Qe,ziZ];simp only[if_true]
 by_cases h:x.kind=1
 ·rw[ae h,ae h];have:0+cZ (l++[x]) (l.length+1)=cZ l l.length+1:=by
   show 0+(cZ (l++[x]) l.length+_)=_;rw[Mi _ (ax _),Qe,ae h];omega
  rw[this]
 ·rw[ab h,ab h]
theorem zq6(l:List Tok)(x:Tok):cZ (l++[x]) (l.length+1)=cZ l l.length+(if x.kind=1 then 1 else 0):=by
 show cZ (l++[x]) l.length+_=_;rw[Mi _ (ax _),Qe]
theorem mH.more{w':za}{x:Tok}{q0 g' cap':Nat}(h:mH B W sv l q)(hs:x.kind=0->B<=q0/\sv.ownBlock≠some q0/\bC W q0 x.set)
  (ho:w'.ownsRow B 135 5 (.slice (some ⟨g',0,none⟩) (l.length+1) cap') (l.length+1) (F2 l q++vp 0 (l++[x]) (λk=>if k=l.length then q0 else q k) l.length))
  (hg:W.grownBy w' sv.ownBlock) (eY:sv.ownBlock=some g'\/W.heap.size<=g'):mH B w' (.slice (some ⟨g',0,none⟩) (l.length+1) cap') (l++[x]) (λk=>if k=l.length then q0 else q k):=by
 have ff:∀b f,sv.ownBlock≠some b->bC W b f->b≠g'/\bC w' b f:=by
  intro b f hne hb;have hlt:=az hb;refine⟨?_,?_⟩
  ·rintro rfl;rcases eY with h|h
   ·exact hne h
   ·omega
  ·exact(hg.block b hlt (λe=>hne e.symm)).trans hb
 refine⟨by rw[a6,show [x].length=1 from rfl,zrv l x q _ (λk hk=>by rw[ab (by omega)])];exact ho,?_⟩;intro k hk tY
 by_cases e:k=l.length
 ·subst e;rw[Qe]at tY;obtain⟨a,b,c⟩:=hs tY;obtain⟨d,f⟩:=ff q0 _ b c;simp only[if_true];rw[ziZ];exact⟨a,λh=>d (by simpa [Value.ownBlock]using h.symm),f⟩
 ·have bP:k<l.length:=by simp at hk;omega
  rw[xt _ bP]at tY;obtain⟨a,b,c⟩:=h.set k bP tY;obtain⟨d,f⟩:=ff (q k) _ b c;simp only[ab e];rw[Uf _ bP];exact⟨a,λh=>d (by simpa [Value.ownBlock]using h.symm),f⟩
def zzb(w:za)(r:List Tok×Int×Nat)(e:Ending)(w':za):Prop:=Below w.heap.size w w'/\∃sv q,e=.returned (.tuple #[sv,.int .i64 r.2.1,.int .i64 (r.2.2:Int)])/\mH w.heap.size w' sv r.1 q
end Go.Proofs.Ytfajjdgkiilhfaa
