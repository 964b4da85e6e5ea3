import Derived.Test.YthdljcdbfmhleaaGreatDoorC12
import Derived.Test.YthdljcdbfmhleaaGreatDoorC17
import Derived.Deep.RegionLaw
import Derived.Deep.Cut
import Derived.Deep.CutRange
namespace Go.Proofs.YthdljcdbfmhleaaGreatDoor
section
open Go.RowKit
def wstk(ns:List zak):Nat->List Int
 |0=>[]
 |i+1=>zgm (wstk ns i) (ns.getD i .zero)
def wOf(ns:List zak)(i:Nat):Int:=zcb (ns.getD i .zero) ((wstk ns i).drop ((wstk ns i).length-zaA (zap ns i)))
theorem zhC(ns:List zak):∀i,(stk ns i).map (wOf ns)=wstk ns i
 |0=>rfl
 |i+1=>by
  have ih:=zhC ns i;have hl:(stk ns i).length=(wstk ns i).length:=by rw[<-ih,zrM]
  rw[stk,wstk,zgm,zrO,List.map_take,ih,hl]
  rfl
theorem zed(ns:List zak)(i:Nat):(wstk ns i).length=(stk ns i).length:=by rw[<-zhC,zrM]
theorem zfe(ns:List zak)(i j:Nat)(h:j<(stk ns i).length):(wstk ns i).getD j 0=wOf ns ((stk ns i).getD j 0):=by
 rw[<-zhC];simp[List.getD_eq_getElem?_getD,h]
theorem zeB:∀(ns:List zak) (st st':List Int),zcw ns st=some st'->zcF ns st.length=some st'.length/\ns.all zav=true
 |[],st,st',h=>by cases h;exact⟨rfl,rfl⟩
 |n::ns,st,st',h=>by
  unfold zcw at h
  by_cases hc:st.length<zaA n.kind\/zav n=false
  ·rw[zst hc] at h;cases h
  ·rw[zss hc] at h;have hl:(zgm st n).length=st.length-zaA n.kind+1:=by simp[zgm]
   obtain⟨h1,h2⟩:=zeB ns (zgm st n) st' h;refine⟨?_,?_⟩
   ·unfold zcF;rw[zss (fun q=>hc (.inl q)),<-hl];exact h1
   ·have:zav n=true:=by
     cases hb:zav n
     ·exact absurd (.inr hb) hc
     ·rfl
    simp only[List.all_cons,h2,this,Bool.and_true]
theorem zgJ(ns:List zak)(ha:∀i,i<ns.length->zaA (zap ns i)<=(stk ns i).length)(hb:ns.all zav=true):∀k,k<=ns.length->zcw ns []=zcw (ns.drop k) (wstk ns k)
 |0,_=>rfl
 |k+1,hk=>by
  rw[zgJ ns ha hb k (by omega),zgI ns k (by omega) (wstk ns k) _ rfl,zss]
  ·rfl
  ·have h1:=ha k (by omega);rintro (h|h)
   ·rw[zed] at h;unfold zap at h1;omega
   ·have:zav (ns.getD k .zero)=true:=by
     have:=zrj.1 hb (ns.getD k .zero) (by
      rw[zrw,zrD (show k<ns.length by omega)];exact zrJ _)
     exact this
    rw[h] at this;cases this
theorem zhj(ns:List zak)(hk:zbW ns=true)(ha:∀i,i<ns.length->zaA (zap ns i)<=(stk ns i).length)(hb:ns.all zav=true):0<ns.length/\zd5 ns=some (wOf ns (ns.length-1)):=by
 have h1:=zgJ ns ha hb ns.length (zsa _);rw[zrq (zsa _),zcw] at h1;have h2:=(zeB ns [] _ h1).1;have h3:(wstk ns ns.length).length=1:=by
  unfold zbW at hk;have:=eq_of_beq hk;simp only[zrN] at h2;rw[h2] at this;exact Option.some.inj this
 have hpos:0<ns.length:=by
  rcases Nat.eq_zero_or_pos ns.length with h0|h0
  ·rw[h0] at h3;simp[wstk] at h3
  ·exact h0
 refine⟨hpos,?_⟩;obtain⟨m,hm⟩:∃m,ns.length=m+1:=⟨ns.length-1,by omega⟩;rw[hm] at h1 h3 ⊢;unfold zd5;rw[h1];have h4:=zhC ns (m+1);have h5:stk ns (m+1)=[m]:=by
  have hl:=zed ns (m+1);rw[h3] at hl;rw[stk] at hl ⊢
  match (stk ns m).take ((stk ns m).length-zaA (zap ns m)),hl with
  |[],_=>rfl
  |_::_,hl=>simp at hl
 rw[h5] at h4;rw[<-h4]
 rfl
theorem zoN(ns:List zak)(h:zbW ns=false\/ns.all zav=false):zd5 ns=none:=by
 unfold zd5;cases hq:zcw ns [] with
 |none=>rfl
 |some st=>
  obtain⟨h1,h2⟩:=zeB ns [] st hq;rcases h with h|h
  ·unfold zbW at h;simp only[zrN] at h1;rw[h1] at h
   match st with
   |[]=>rfl
   |[a]=>simp at h
   |_::_::_=>rfl
  ·rw[h2] at h;cases h
theorem zeg(ns:List zak)(ha:∀i,i<ns.length->zaA (zap ns i)<=(stk ns i).length)(hb:ns.all zav=true):∀n i,i<n->i<ns.length->1<=wOf ns i/\wOf ns i<=2001
 |0,_,h,_=>absurd h (zsg _)
 |n+1,i,_,hi=>by
  have hnode:zav (ns.getD i .zero)=true:=zrj.1 hb (ns.getD i .zero) (by
   rw[zrw,zrD hi];exact zrJ _)
  have har:=ha i hi;have hget:∀j,j<(stk ns i).length->1<=(wstk ns i).getD j 0/\(wstk ns i).getD j 0<=2001:=by
   intro j hj;rw[zfe ns i j hj];have hmem:(stk ns i).getD j 0∈stk ns i:=by
    rw[zrw,zrD hj];exact zrJ _
   have hlt:=ziG ns i _ hmem;exact zeg ns ha hb n _ (by omega) (by omega)
  unfold wOf;generalize hnd:ns.getD i .zero=nd at *;obtain⟨k,rs,mn,mx,g⟩:=nd;have hkd:zap ns i=k:=by unfold zap;rw[hnd]
  rw[hkd] at har ⊢;have hdrop0:=ze7 (wstk ns i) ((wstk ns i).length-zaA k);have hl:=zed ns i;rcases zfN hnode with rfl|rfl|rfl|rfl|rfl
  ·simp[zcb]
  ·have e:=zdo (wstk ns i) ((wstk ns i).length-zaA 2);have a2:zaA 2=2:=rfl;unfold zcb;rw[zss (by simp),zst (by simp),e.1,e.2];have p:=hget ((wstk ns i).length-zaA 2) (by omega);have q:=hget ((wstk ns i).length-zaA 2+1) (by omega);exact zcM (by omega)
  ·have e:=zdo (wstk ns i) ((wstk ns i).length-zaA 3);have a2:zaA 3=2:=rfl;unfold zcb;rw[zss (by simp),zst (by simp),e.1,e.2];have p:=hget ((wstk ns i).length-zaA 3) (by omega);have q:=hget ((wstk ns i).length-zaA 3+1) (by omega);exact zcM (by omega)
  ·have a2:zaA 4=1:=rfl;unfold zcb;rw[zss (by simp),zss (by simp),zst (by simp),hdrop0];have p:=hget ((wstk ns i).length-zaA 4) (by omega);have c:=zcg (zfM hnode).2.1;have hm:1*1<=(wstk ns i).getD ((wstk ns i).length-zaA 4) 0*zaL mn mx:=Int.mul_le_mul p.1 c.1 (by omega) (by omega);exact zcM (by simpa using hm)
  ·have a2:zaA 5=1:=rfl;unfold zcb;rw[zss (by simp),zss (by simp),zss (by simp),hdrop0];exact hget ((wstk ns i).length-zaA 5) (by omega)
end
section
variable {ns:List zak}{k mn n:Nat}{u:Word}{L M:Word -> Prop}{F P:Nat -> Prop}{S:List Bool}
def hasF(rs:List (Int×Int))(c:Nat):Bool:=rs.any fun r=>decide (r.1<=c/\(c:Int)<=r.2)
def zbh:Pt:=.set fun _=>false
def zbq(n:zak)(ops:List Pt):Pt:=
 if n.kind=1 then .set (hasF n.set)
 else if n.kind=2 then .seq (ops.getD 0 zbh) (ops.getD 1 zbh)
 else if n.kind=3 then .alt (ops.getD 0 zbh) (ops.getD 1 zbh)
 else if n.kind=4 then .rep (ops.getD 0 zbh) n.min n.max
 else .grp (ops.getD 0 zbh) n.group
def zpu(st:List Pt)(n:zak):List Pt:=st.take (st.length-zaA n.kind)++[zbq n (st.drop (st.length-zaA n.kind))]
def tstk(ns:List zak):Nat->List Pt
 |0=>[]
 |i+1=>zpu (tstk ns i) (ns.getD i .zero)
def tOf(ns:List zak)(i:Nat):Pt:=zbq (ns.getD i .zero) ((tstk ns i).drop ((tstk ns i).length-zaA (zap ns i)))
theorem zfd(ns:List zak):∀i,(stk ns i).map (tOf ns)=tstk ns i
 |0=>rfl
 |i+1=>by
  have ih:=zfd ns i;have hl:(stk ns i).length=(tstk ns i).length:=by rw[<-ih,zrM]
  rw[stk,tstk,zpu,zrO,List.map_take,ih,hl]
  rfl
theorem zpo(ns:List zak)(i:Nat):(tstk ns i).length=(stk ns i).length:=by rw[<-zfd,zrM]
theorem zdT(ns:List zak)(k j:Nat)(hj:j<(stk ns k).length):(stk ns k).getD j 0<k:=ziG ns k _ (by
 rw[zrw,zrD hj];exact zrJ _)
theorem zcL(ha:zaA (zap ns k)=2)(hl:2<=(stk ns k).length):∃x y:Nat,zbn ns k=x/\zbf ns k=y/\x<k/\y<k/\tOf ns k=zbq (ns.getD k .zero) [tOf ns x,tOf ns y]:=by
 refine⟨(stk ns k).getD ((stk ns k).length-2) 0,(stk ns k).getD ((stk ns k).length-1) 0,?_,?_,zdT _ _ _ (by omega),zdT _ _ _ (by omega),?_⟩
 ·rw[zbn,ha,zss (by omega)]
 ·rw[zbf,zst ha]
 ·have hw:=zpo ns k;unfold tOf;rw[ha]
  congr 1
  rw[<-zfd ns k,zrM];apply zrt;intro i;rw[zrC,zrG]
  match i with
  |0=>simp[List.getD_eq_getElem?_getD,List.getElem?_eq_getElem (show (stk ns k).length-2<(stk ns k).length by omega),tOf]
  |1=>rw[show (stk ns k).length-2+1=(stk ns k).length-1 by omega];simp[List.getD_eq_getElem?_getD,List.getElem?_eq_getElem (show (stk ns k).length-1<(stk ns k).length by omega),tOf]
  |i+2=>rw[zrE (by omega)];simp
theorem zcK(ha:zaA (zap ns k)=1)(hl:1<=(stk ns k).length):∃x:Nat,zbn ns k=x/\x<k/\tOf ns k=zbq (ns.getD k .zero) [tOf ns x]:=by
 refine⟨(stk ns k).getD ((stk ns k).length-1) 0,?_,zdT _ _ _ (by omega),?_⟩
 ·rw[zbn,ha,zss (by omega)]
 ·unfold tOf;rw[ha]
  congr 1
  rw[<-zfd ns k,zrM];apply zrt;intro i;rw[zrC,zrG]
  match i with
  |0=>simp[List.getD_eq_getElem?_getD,List.getElem?_eq_getElem (show (stk ns k).length-1<(stk ns k).length by omega),tOf]
  |i+1=>rw[zrE (by omega)];simp
def zaU(u:Word)(L:Word->Prop)(F:Nat->Prop)(j:Nat):Prop:=∃i,F i/\i<=j/\j<=u.length/\L ((u.drop i).take (j-i))
theorem zgA{G:Nat->Prop}(hl:∀w,L w↔M w)(hf:∀i,F i↔G i)(j:Nat):zaU u L F j↔zaU u M G j:=
 exists_congr fun i=>and_congr (hf i) (and_congr_right fun _=>and_congr_right fun _=>hl _)
theorem zdg(u:Word){i m j:Nat}(h1:i<=m)(h2:m<=j):(u.drop i).take (j-i)=(u.drop i).take (m-i)++(u.drop m).take (j-m):=by
 have h3:u.drop m=(u.drop i).drop (m-i):=by rw[List.drop_drop];congr 1;omega
 rw[h3,show j-i=(m-i)+(j-m) by omega,List.take_add]
theorem ze8(j:Nat):zaU u (fun w=>∃x y,w=x++y/\L x/\M y) F j↔zaU u M (zaU u L F) j:=by
 constructor
 ·rintro ⟨i,hi,hij,hj,x,y,e,hx,hy⟩;have hlen:((u.drop i).take (j-i)).length=j-i:=by simp;omega
  have hl2:x.length+y.length=j-i:=by rw[<-hlen,e,zrK]
  have e2:=zdg u (i:=i) (m:=i+x.length) (j:=j) (by omega) (by omega);rw[e] at e2;have hx2:x=(u.drop i).take (i+x.length-i):=List.append_inj_left e2 (by simp;omega);have hy2:y=(u.drop (i+x.length)).take (j-(i+x.length)):=List.append_inj_right e2 (by simp;omega);exact⟨i+x.length,⟨i,hi,by omega,by omega,by rw[<-hx2];exact hx⟩,by omega,hj,by rw[<-hy2];exact hy⟩
 ·rintro ⟨m,⟨i,hi,him,hm,hx⟩,hmj,hj,hy⟩;exact⟨i,hi,by omega,hj,_,_,zdg u him hmj,hx,hy⟩
theorem zoo(j:Nat):zaU u (fun w=>L w\/M w) F j↔zaU u L F j\/zaU u M F j:=by
 constructor
 ·rintro ⟨i,h1,h2,h3,h|h⟩
  ·exact .inl ⟨i,h1,h2,h3,h⟩
  ·exact .inr ⟨i,h1,h2,h3,h⟩
 ·rintro (⟨i,h1,h2,h3,h⟩|⟨i,h1,h2,h3,h⟩)
  ·exact⟨i,h1,h2,h3,.inl h⟩
  ·exact⟨i,h1,h2,h3,.inr h⟩
theorem zop{f:Nat->Bool}(j:Nat):zaU u (In (.set f)) F j↔∃i,∃h:i<u.length,j=i+1/\F i/\f (u[i]'h).toNat=true:=by
 constructor
 ·rintro ⟨i,h1,h2,h3,c,e,hc⟩;have hlen:((u.drop i).take (j-i)).length=j-i:=by simp;omega
  rw[e] at hlen;simp only[zrL,zrN] at hlen;have hi:i<u.length:=by omega
  refine⟨i,hi,by omega,h1,?_⟩;have:(u.drop i).take (j-i)=[u[i]]:=by rw[zrp hi,show j-i=1 by omega];rfl
  rw[this] at e;cases e;exact hc
 ·rintro ⟨i,hi,rfl,h1,h⟩;refine⟨i,h1,by omega,by omega,u[i],?_,h⟩;rw[zrp hi,show i+1-i=1 by omega]
  rfl
theorem zg9(hF:∀i,F i->i<=u.length)(j:Nat):zaU u (Pow L 0) F j↔F j:=by
 constructor
 ·rintro ⟨i,h1,h2,h3,h⟩;have hlen:((u.drop i).take (j-i)).length=j-i:=by simp;omega
  have h':(u.drop i).take (j-i)=[]:=h;rw[h'] at hlen;simp only[zrN] at hlen;obtain rfl:i=j:=by omega
  exact h1
 ·intro h;exact⟨j,h,zsa _,hF j h,by rw[zsh];rfl⟩
theorem zb7(k j:Nat):zaU u (Pow L (k+1)) F j↔zaU u L (zaU u (Pow L k) F) j:=by
 rw[<-ze8 j];exact zgA (fun w=>⟨fun h=>h.unsnoc,fun⟨x,y,e,hx,hy⟩=>by rw[e];exact hx.snoc hy⟩) (fun _=>Iff.rfl) j
theorem zmB{M:Nat->Word->Prop}(j:Nat):zaU u (fun w=>∃k,P k/\M k w) F j↔∃k,P k/\zaU u (M k) F j:=by
 constructor
 ·rintro ⟨i,h1,h2,h3,k,hk,h⟩;exact⟨k,hk,i,h1,h2,h3,h⟩
 ·rintro ⟨k,hk,i,h1,h2,h3,h⟩;exact⟨i,h1,h2,h3,k,hk,h⟩
theorem zmC{K:Nat}(hK:mn<=K)(h:∀j,zaU u (Pow L (K+1)) F j->∃i,mn<=i/\i<=K/\zaU u (Pow L i) F j):
  ∀m,mn<=m->∀j,zaU u (Pow L m) F j->∃i,mn<=i/\i<=K/\zaU u (Pow L i) F j:=by
 intro m
 induction m with
 |zero=>intro hm j hj;exact⟨0,hm,by omega,hj⟩
 |succ m ih=>
  intro hm j hj
  by_cases hmK:m+1<=K
  ·exact⟨m+1,hm,hmK,hj⟩
  by_cases hmm:mn<=m
  ·obtain⟨i,hi,hij,hjl,hL⟩:=(zb7 m j).1 hj;obtain⟨i0,a,b,c⟩:=ih hmm i hi;have:zaU u (Pow L (i0+1)) F j:=(zb7 i0 j).2 ⟨i,c,hij,hjl,hL⟩
   by_cases e:i0+1<=K
   ·exact⟨i0+1,by omega,e,this⟩
   ·obtain rfl:i0=K:=by omega
    exact h j this
  ·obtain rfl:m+1=mn:=by omega
   exact absurd hK hmK
def repP(mn:Nat)(mx:Int)(k:Nat):Prop:=mn<=k/\(mx=-1\/(k:Int)<=mx)
theorem zkm{b:Pt}{mx:Int}(j:Nat):zaU u (In (.rep b mn mx)) F j↔∃k,repP mn mx k/\zaU u (Pow (In b) k) F j:=by
 rw[<-zmB j];exact zgA (fun w=>⟨fun⟨k,a,c,d⟩=>⟨k,⟨by omega,c⟩,d⟩,fun⟨k,a,d⟩=>⟨k,by have:=a.1;omega,a.2,d⟩⟩) (fun _=>Iff.rfl) j
structure zcn(n:Nat)(S:List Bool)(P:Nat->Prop):Prop where
 len:S.length=n+1
 iff:∀j,S.getD j false=true↔P j
theorem zcn.le(h:zcn n S P):∀j,P j->j<=n:=fun j hj=>by
 have:=(h.iff j).2 hj
 by_cases e:j<S.length
 ·have:=h.len;omega
 ·rw[zrw,zrE (by omega)] at this;cases this
theorem zcn.congr{Q:Nat->Prop}(h:zcn n S P)(hq:∀j,P j↔Q j):zcn n S Q:=⟨h.len,fun j=>(h.iff j).trans (hq j)⟩
end
section
variable {b:Pt}{w w':World}{L:Word -> Prop}{u:Word}{mx:Int}
open Go.RowKit
def zai(w:World):Value->Pt->Prop
 |v,.set f=>∃mg:Nat,v=.iface 201 (.agg #[.pointer (some ⟨mg,0,none⟩)])/\w.heap[mg]?=some (.cells (zao f) 197 (0,0))
 |v,.seq l r=>∃lv rv,v=.iface 116 (.agg #[lv,rv])/\zai w lv l/\zai w rv r
 |v,.alt l r=>∃lv rv,v=.iface 118 (.agg #[lv,rv])/\zai w lv l/\zai w rv r
 |v,.rep b mn mx=>∃lv,v=.iface 121 (.agg #[lv,.int .i64 mn,.int .i64 mx])/\zai w lv b/\zaD mn mx=true
 |v,.grp b g=>∃lv,v=.iface 124 (.agg #[lv,.int .i64 g])/\zai w lv b
def zaJ(w w':World):Prop:=∀(mg:Nat) (f:Nat->Bool),w.heap[mg]?=some (.cells (zao f) 197 (0,0))->w'.heap[mg]?=some (.cells (zao f) 197 (0,0))
theorem zaJ.trans{a b c:World}(h:zaJ a b)(k:zaJ b c):zaJ a c:=fun mg f e=>k mg f (h mg f e)
theorem zaJ.of(h:Below w.heap.size w w'):zaJ w w':=fun mg _ e=>(h.block mg (zrc.1 e).1).trans e
theorem zaJ.grown{g:Nat}{cs:Array Value}{t:TypeId}{fr:Nat×Nat}(h:w.grownBy w' (some g))(hg:w.heap[g]?=some (.cells cs t fr))(ht:t≠197):zaJ w w':=fun mg f e=>by
 refine(h.block mg (zrc.1 e).1 (fun q=>?_)).trans e;cases q;rw[hg] at e;cases e;exact ht rfl
theorem zai.keep(hk:zaJ w w'):∀(p:Pt) (v:Value),zai w v p->zai w' v p
 |.set f,_,⟨mg,h1,h2⟩=>⟨mg,h1,hk mg f h2⟩
 |.seq l r,_,⟨lv,rv,h1,h2,h3⟩=>⟨lv,rv,h1,zai.keep hk l lv h2,zai.keep hk r rv h3⟩
 |.alt l r,_,⟨lv,rv,h1,h2,h3⟩=>⟨lv,rv,h1,zai.keep hk l lv h2,zai.keep hk r rv h3⟩
 |.rep b _ _,_,⟨lv,h1,h2,h3⟩=>⟨lv,h1,zai.keep hk b lv h2,h3⟩
 |.grp b _,_,⟨lv,h1,h2⟩=>⟨lv,h1,zai.keep hk b lv h2⟩
def wPt:Pt->Int
 |.set _=>1
 |.seq l r=>capW (wPt l+wPt r)
 |.alt l r=>capW (wPt l+wPt r)
 |.rep b mn mx=>capW (wPt b*zaL mn mx)
 |.grp b _=>wPt b
theorem Pow.many{M:Word->Prop}(h:∀u,M u->∃j,Pow L j u):∀(k:Nat) (u:Word),Pow M k u->∃j,Pow L j u
 |0,_,hu=>⟨0,hu⟩
 |k+1,_,⟨a,b,e,ha,hb⟩=>by
  obtain⟨i,hi⟩:=h a ha;obtain⟨j,hj⟩:=Pow.many h k b hb;exact⟨i+j,by rw[e];exact hi.add i j hj⟩
theorem zjR(h:L u):Pow L 1 u:=⟨u,[],by simp,h,rfl⟩
theorem zqg(h:Pow L 1 u):L u:=by
 obtain⟨x,y,rfl,hx,hy⟩:=h;cases hy
 simpa using hx
theorem zhg(h:zbu 0 mx=true)(u:Word):In (.rep b 0 mx) u↔∃k:Nat,(mx=-1\/k<=1)/\Pow (In b) k u:=by
 have hm:mx=1\/mx=-1:=by simpa [zbu] using h
 constructor
 ·rintro ⟨k,_,h2,h3⟩;exact⟨k,by omega,h3⟩
 ·rintro ⟨k,h2,h3⟩;exact⟨k,by omega,by omega,h3⟩
theorem zeQ{imn imx mn:Int}(h1:zbu imn imx=true)(h2:zbu mn mx=true)(u:Word):In (.rep b 0 (if imx<=mx then imx else mx)) u↔In (.rep (.rep b imn imx) mn mx) u:=by
 have e1:imn=0:=by simp[zbu] at h1;exact h1.1
 have e2:mn=0:=by simp[zbu] at h2;exact h2.1
 subst e1 e2;have hm1:imx=1\/imx=-1:=by simpa [zbu] using h1
 have hm2:mx=1\/mx=-1:=by simpa [zbu] using h2
 rw[zhg (zfC h1 h2),zhg h2];have hi:∀u,In (.rep b 0 imx) u↔_:=zhg h1;constructor
 ·rintro ⟨k,hk,hp⟩
  by_cases hx:imx=-1
  ·exact⟨1,.inr (zsa _),zjR ((hi u).2 ⟨k,.inl hx,hp⟩)⟩
  ·have hx1:imx=1:=by omega
   by_cases hx2:mx=-1
   ·refine⟨k,.inl hx2,?_⟩;clear hk
    induction k generalizing u with
    |zero=>exact hp
    |succ k ih=>
     obtain⟨x,y,e,hx',hy⟩:=hp;exact⟨x,y,e,(hi x).2 ⟨1,.inr (zsa _),zjR hx'⟩,ih y hy⟩
   ·have hk1:k<=1:=by
     rcases hk with hk|hk
     ·rw[hx1] at hk;split at hk<;>omega
     ·exact hk
    exact⟨1,.inr (zsa _),zjR ((hi u).2 ⟨k,.inr hk1,hp⟩)⟩
 ·rintro ⟨k,hk,hp⟩
  by_cases hs:imx=-1\/mx=-1
  ·obtain⟨j,hj⟩:=Pow.many (L:=In b) (fun u hu=>by obtain⟨j,_,hj⟩:=(hi u).1 hu;exact⟨j,hj⟩) k u hp;exact⟨j,.inl (by split<;>omega),hj⟩
  ·have hk1:k<=1:=by omega
   match k,hk1,hp with
   |0,_,hp=>exact⟨0,.inr (by omega),hp⟩
   |1,_,hp=>
    obtain⟨j,hj1,hj⟩:=(hi u).1 (zqg hp);exact⟨j,.inr (by omega),hj⟩
theorem zh6{p q:Pt}(h:∀u,In p u↔In q u)(mn mx:Int)(u:Word):In (.rep p mn mx) u↔In (.rep q mn mx) u:=
 exists_congr fun k=>and_congr_right fun _=>and_congr_right fun _=>Pow.congr h k u
end
section
variable {B nw g ga gl n bt n' k o ha hl:Nat}{b c:Bool}{w W W1 W2:World}{S D E:Nat -> Prop}{T A L mk fr mk' fr' A' L':Nat -> Nat}{f f':Nat -> Nat -> Bool}{F F':Nat -> Nat -> Nat}{M N:PA}{sv fv v:Value}{cs:Array Value}
open Go.RowKit
structure Kp(B:Nat)(w W:World):Prop where
 os:W.os=w.os
 tape:W.tape=w.tape
 output:W.output=w.output
 size:w.heap.size<=W.heap.size
 low:∀k,k<B->W.heap[k]?=w.heap[k]?
 typ:∀(k:Nat) (cs:Array Value) (t:TypeId),w.heap[k]?=some (.cells cs t (0,0))->t≠207->t≠199->t≠129->W.heap[k]?=some (.cells cs t (0,0))
theorem Kp.trans{a b c:World}(h:Kp B a b)(k:Kp B b c):Kp B a c:=
 ⟨k.os.trans h.os,k.tape.trans h.tape,k.output.trans h.output,zsb h.size k.size,fun i hi=>(k.low i hi).trans (h.low i hi),fun i cs t e h1 h2 h3=>k.typ i cs t (h.typ i cs t e h1 h2 h3) h1 h2 h3⟩
theorem Kp.of_below(hB:B<=w.heap.size)(h:Below w.heap.size w W):Kp B w W:=
 ⟨h.os,h.tape,h.output,h.size,fun k hk=>h.block k (by omega),fun k cs t e _ _ _=>(h.block k (zrc.1 e).1).trans e⟩
theorem Kp.of_touch(t:zan S w W)(hB:B<=w.heap.size)(hS:∀k,k<w.heap.size->S k->B<=k/\∃cs t,w.heap[k]?=some (.cells cs t (0,0))/\(t=207\/t=199\/t=129)):Kp B w W:=
 ⟨t.os,t.tape,t.output,t.size,fun k hk=>t.same k (by omega) (fun hs=>by have:=(hS k (by omega) hs).1;omega),fun k cs u e h1 h2 h3=>by
  have hlt:=(zrc.1 e).1;refine(t.same k hlt (fun hs=>?_)).trans e;obtain⟨-,cs',u',e',hu⟩:=hS k hlt hs;rw[e] at e';have:=zad e';subst this;rcases hu with hu|hu|hu
  ·exact h1 hu
  ·exact h2 hu
  ·exact h3 hu⟩
theorem Kp.touch(h:Kp B w W1)(hB:B<=w.heap.size)(t:zan S W1 W2)(hS:∀k,k<w.heap.size->S k->W2.heap[k]?=W1.heap[k]?):Kp B w W2:=by
 have same:∀k,k<w.heap.size->W2.heap[k]?=W1.heap[k]?:=fun k hk=>by
  by_cases hs:S k
  ·exact hS k hk hs
  ·exact t.same k (zsc hk h.size) hs
 exact⟨t.os.trans h.os,t.tape.trans h.tape,t.output.trans h.output,zsb h.size t.size,fun k hk=>(same k (by omega)).trans (h.low k hk),fun k cs t e h1 h2 h3=>(same k (zrc.1 e).1).trans (h.typ k cs t e h1 h2 h3)⟩
theorem Kp.pos(h:Kp B w W)(hp:zal w nw g T):zal W nw g T:=⟨h.typ _ _ _ hp.row (by decide) (by decide) (by decide),hp.lt⟩
theorem Kp.frag(h:Kp B w W)(hp:FrAt w nw ga gl A L):FrAt W nw ga gl A L:=⟨h.pos hp.fi,h.pos hp.la,hp.ne⟩
theorem Kp.keepM(h:Kp B w W):zaJ w W:=fun _ _ e=>h.typ _ _ _ e (by decide) (by decide) (by decide)
def tkOf(f:Nat->Nat->Bool)(p:Nat)(c:UInt8):Prop:=f p c.toNat=true
def zfu(F:Nat->Nat->Nat)(p q:Nat):Prop:=zae (F p) q=true
def inT(T:Nat->Nat)(p:Nat):Prop:=zae T p=true
structure WrD(B:Nat)(w:World)(n nw bt:Nat)(mk:Nat->Nat)(f:Nat->Nat->Bool)(fr:Nat->Nat)(F:Nat->Nat->Nat)(W:World)(n' ga gl:Nat)(b:Bool)(M:PA)(sv fv:Value)(mk':Nat->Nat)(f':Nat->Nat->Bool)(fr':Nat->Nat)(F':Nat->Nat->Nat)(A L:Nat->Nat):Prop where
 tk:Trk B W n' nw bt sv fv mk' f' fr' F'
 fg:FrAt W nw ga gl A L
 le:n<=n'
 na:w.heap.size<=ga
 nl:w.heap.size<=gl
 ea:∀p,p<n'->fr' p≠ga
 el:∀p,p<n'->fr' p≠gl
 old:∀p,p<n->mk' p=mk p/\f' p=f p/\fr' p=fr p/\F' p=F p
 new:∀p,n<=p->p<n'->w.heap.size<=fr' p
 good:zbv (tkOf f') (zfu F') (fun p=>n<=p/\p<n') (b=true) (inT A) (inT L) M
 kp:Kp B w W
 hB:B<=w.heap.size
theorem WrD.cnt
  (h:WrD B w n nw bt mk f fr F W n' ga gl b M sv fv mk' f' fr' F' A L) (hM:∀q,M.D q↔n<=q/\q<k) (hk:n<=k):n'=k:=zpj h.good.dm hM h.le hk
theorem WrD.start{w0:World}
  (h:WrD B w n nw bt mk f fr F W n' ga gl b M sv fv mk' f' fr' F' A L) (hb:Below w0.heap.size w0 w) (hB:B<=w0.heap.size):WrD B w0 n nw bt mk f fr F W n' ga gl b M sv fv mk' f' fr' F' A L:=
 have hs:=hb.size
 ⟨h.tk,h.fg,h.le,by have:=h.na;omega,by have:=h.nl;omega,h.ea,h.el,h.old,fun p h1 h2=>by have:=h.new p h1 h2;omega,h.good,(Kp.of_below hB hb).trans h.kp,hB⟩
theorem WrD.below
  (h:WrD B w n nw bt mk f fr F W n' ga gl b M sv fv mk' f' fr' F' A L) (hb:Below W.heap.size W W2):WrD B w n nw bt mk f fr F W2 n' ga gl b M sv fv mk' f' fr' F' A L:=
 ⟨h.tk.below hb,h.fg.below hb,h.le,h.na,h.nl,h.ea,h.el,h.old,h.new,h.good,h.kp.trans (Kp.of_below (zsb h.hB h.kp.size) hb),h.hB⟩
theorem Trk.putF{b:Nat}(h:Trk B w n nw bt sv fv mk f fr F)(hb:w.heap[b]?=some (.cells cs 174 (0,0)))(h0:b≠0):Trk B (w.setCell ⟨b,o,none⟩ v) n nw bt sv fv mk f fr F:=by
 have hk:∀(k:Nat) (a:Array Value) (u:TypeId),w.heap[k]?=some (.cells a u (0,0))->u≠174->(w.setCell ⟨b,o,none⟩ v).heap[k]?=some (.cells a u (0,0)):=fun k a u hk hne=>
  ((zaK w b o v).block k (zrc.1 hk).1 (fun e=>by cases e;rw[hb] at hk;exact hne (zad hk).symm)).trans hk
 exact⟨hk _ _ _ h.box (by decide),zar h.so fun k cs e=>hk k cs _ e (by decide),zar h.fo fun k cs e=>hk k cs _ e (by decide),⟨fun p hp=>⟨hk _ _ _ (h.fol.rows p hp).row (by decide),(h.fol.rows p hp).lt⟩,h.fol.inj⟩,fun p hp=>hk _ _ _ (h.mks p hp) (by decide),h.n64,h.nwl,h.bru.keep ((zaK w b o v).block 0 (zbm h.bru) (fun e=>h0 (by cases e;rfl))),h.bb,h.b0⟩
theorem zal.putF{b:Nat}(h:zal w nw g T)(hb:w.heap[b]?=some (.cells cs 174 (0,0))):zal (w.setCell ⟨b,o,none⟩ v) nw g T:=
 h.put (fun e=>by subst e;have:=h.row;rw[hb] at this;exact absurd (zad this) (by decide))
theorem WrD.putF
  (h:WrD B w n nw bt mk f fr F W n' ga gl b M sv fv mk' f' fr' F' A L) (hb:W.heap[k]?=some (.cells cs 174 (0,0))) (h0:w.heap.size<=k) (h1:0<w.heap.size):WrD B w n nw bt mk f fr F (W.setCell ⟨k,o,none⟩ v) n' ga gl b M sv fv mk' f' fr' F' A L:=
 ⟨h.tk.putF hb (by omega),⟨h.fg.fi.putF hb,h.fg.la.putF hb,h.fg.ne⟩,h.le,h.na,h.nl,h.ea,h.el,h.old,h.new,h.good,h.kp.touch h.hB ((zan.refl (fun j=>j=k) W).grown (zaK W k o v) (fun g e=>by cases e;exact .inl rfl)) (fun j hj e=>by omega),h.hB⟩
structure Pair(B:Nat)(w:World)(n nw bt:Nat)(mk:Nat->Nat)(f:Nat->Nat->Bool)(fr:Nat->Nat)(F:Nat->Nat->Nat)(W:World)(n' ga gl ha hl:Nat)(b c:Bool)(D E:Nat->Prop)(M N:PA)(sv fv:Value)(mk':Nat->Nat)(f':Nat->Nat->Bool)(fr':Nat->Nat)(F':Nat->Nat->Nat)(A L A' L':Nat->Nat):Prop where
 tk:Trk B W n' nw bt sv fv mk' f' fr' F'
 x:FrAt W nw ga gl A L
 y:FrAt W nw ha hl A' L'
 le:n<=n'
 na:w.heap.size<=ga
 nl:w.heap.size<=gl
 ma:w.heap.size<=ha
 ml:w.heap.size<=hl
 aa:ga≠ha
 al:ga≠hl
 la:gl≠ha
 ll:gl≠hl
 e1:∀p,p<n'->fr' p≠ga
 e2:∀p,p<n'->fr' p≠gl
 e3:∀p,p<n'->fr' p≠ha
 e4:∀p,p<n'->fr' p≠hl
 old:∀p,p<n->mk' p=mk p/\f' p=f p/\fr' p=fr p/\F' p=F p
 new:∀p,n<=p->p<n'->w.heap.size<=fr' p
 gx:zbv (tkOf f') (zfu F') D (b=true) (inT A) (inT L) M
 gy:zbv (tkOf f') (zfu F') E (c=true) (inT A') (inT L') N
 dj:∀p,D p->¬E p
 un:∀p,D p\/E p↔n<=p/\p<n'
 kp:Kp B w W
 hB:B<=w.heap.size
theorem Pair.swap
  (h:Pair B w n nw bt mk f fr F W n' ga gl ha hl b c D E M N sv fv mk' f' fr' F' A L A' L'):Pair B w n nw bt mk f fr F W n' ha hl ga gl c b E D N M sv fv mk' f' fr' F' A' L' A L:=
 ⟨h.tk,h.y,h.x,h.le,h.ma,h.ml,h.na,h.nl,h.aa.symm,h.la.symm,h.al.symm,h.ll.symm,h.e3,h.e4,h.e1,h.e2,h.old,h.new,h.gy,h.gx,fun p a b=>h.dj p b a,fun p=>(Or.comm).trans (h.un p),h.kp,h.hB⟩
theorem WrD.pair{W1':World}{n1 n2:Nat}{sv2 fv2:Value}{mk1 mk2:Nat->Nat}{f1 f2:Nat->Nat->Bool}{fr1 fr2:Nat->Nat}{F1 F2:Nat->Nat->Nat}
  (h:WrD B w n nw bt mk f fr F W1 n1 ga gl b M sv fv mk1 f1 fr1 F1 A L) (hb:Below W1.heap.size W1 W1') (k:WrD B W1' n1 nw bt mk1 f1 fr1 F1 W2 n2 ha hl c N sv2 fv2 mk2 f2 fr2 F2 A' L'):
  Pair B w n nw bt mk f fr F W2 n2 ga gl ha hl b c (fun p=>n<=p/\p<n1) (fun p=>n1<=p/\p<n2) M N sv2 fv2 mk2 f2 fr2 F2 A L A' L':=by
 have s1:=h.kp.size;have s2:=hb.size;have lga:=h.fg.fi.glt;have lgl:=h.fg.la.glt;have q1:=h.na;have q2:=h.nl;have q3:=k.na;have q4:=k.nl;have l1:=h.le;have l2:=k.le;have hfr:∀p,p<n2->∀g,g<W1.heap.size->(∀p,p<n1->fr1 p≠g)->fr2 p≠g:=fun p hp g hg h1 e=>by
  by_cases hpn:p<n1
  ·rw[(k.old p hpn).2.2.1] at e;exact h1 p hpn e
  ·have:=k.new p (by omega) hp;omega
 refine⟨k.tk,k.kp.frag (h.fg.below hb),k.fg,by omega,q1,q2,by omega,by omega,by omega,by omega,by omega,by omega,fun p hp=>hfr p hp ga lga h.ea,fun p hp=>hfr p hp gl lgl h.el,k.ea,k.el,fun p hp=>?_,fun p h1 h2=>?_,?_,k.good,fun p a b=>by omega,fun p=>by omega,h.kp.trans ((Kp.of_below (by have:=h.hB;omega) hb).trans k.kp),h.hB⟩
 ·obtain⟨a1,a2,a3,a4⟩:=h.old p hp;obtain⟨b1,b2,b3,b4⟩:=k.old p (by omega);exact⟨b1.trans a1,b2.trans a2,b3.trans a3,b4.trans a4⟩
 ·by_cases hpn:p<n1
  ·rw[(k.old p hpn).2.2.1];exact h.new p h1 hpn
  ·have:=k.new p (by omega) h2;omega
 ·refine(h.good.congr (fol':=zfu F2) fun p q hp=>?_).tk fun p c hp=>?_
  ·unfold zfu;rw[(k.old p hp.2).2.2.2]
  ·unfold tkOf;rw[(k.old p hp.2).2.1]
theorem zkK(T U:Nat->Nat)(p:Nat):inT (orT T U) p↔inT T p\/inT U p:=by unfold inT;rw[zeE,zrg]
theorem Pair.alt
  (h:Pair B w n nw bt mk f fr F W n' ga gl ha hl b c D E M N sv fv mk' f' fr' F' A L A' L') (hf:FrAt W2 nw ga gl (orT A A') (orT L L')) (t:zan (fun k=>k=ga\/k=gl) W W2):
  WrD B w n nw bt mk f fr F W2 n' ga gl (b || c) (PA.alt M N) sv fv mk' f' fr' F' (orT A A') (orT L L'):=by
 have q1:=h.na;have q2:=h.nl;refine⟨h.tk.turn t (fun k _ e=>?_) ⟨fun p hp=>(h.tk.fol.rows p hp).touch t (fun e=>?_),h.tk.fol.inj⟩,hf,h.le,h.na,h.nl,h.e1,h.e2,h.old,h.new,?_,h.kp.touch h.hB t (fun k hk e=>by omega),h.hB⟩
 ·rcases e with rfl|rfl
  ·exact⟨_,_,h.x.fi⟩
  ·exact⟨_,_,h.x.la⟩
 ·rcases e with e|e
  ·exact h.e1 p hp e
  ·exact h.e2 p hp e
 ·exact(zmM h.gx h.gy h.dj).dom h.un (by simp) (fun p=>(zkK _ _ _).symm) (fun p=>(zkK _ _ _).symm)
theorem znM(F:Nat->Nat->Nat)(L A:Nat->Nat)(p q:Nat):zfu (fun p=>if zae L p=true then orT (F p) A else F p) p q↔zfu F p q\/(inT L p/\inT A q):=by
 show zae (if zae L p=true then orT (F p) A else F p) q=true↔zae (F p) q=true\/(zae L p=true/\zae A q=true)
 by_cases e:zae L p=true
 ·rw[zst e,zeE,zrg];simp[e]
 ·rw[zss e];simp[e]
theorem Pair.seq{e:Ending}
  (h:Pair B w n nw bt mk f fr F W n' ga gl ha hl b c D E M N sv fv mk' f' fr' F' A L A' L')
  (hs:zpL W n' nw bt sv fv fr' (fun p=>if zae L p=true then orT (F' p) A' else F' p) ga hl (b&&c) (if b=true then orT A A' else A) (if c=true then orT L' L else L') e W2):
  WrD B w n nw bt mk f fr F W2 n' ga hl (b&&c) (PA.seq M N) sv fv mk' f' fr' (fun p=>if zae L p=true then orT (F' p) A' else F' p) (if b=true then orT A A' else A) (if c=true then orT L' L else L'):=by
 obtain⟨-,hf,htk,t⟩:=hs;have q1:=h.na;have q2:=h.ml;have hL:∀p,zae L p=true->n<=p/\p<n':=fun p hp=>(h.un p).1 (.inl (h.gx.la p hp))
 have hold:∀p,p<n->(if zae L p=true then orT (F' p) A' else F' p)=F' p:=fun p hp=>by
  rw[zss (fun e=>by have:=hL p e;omega)]
 refine⟨h.tk.turn t (fun k _ e=>?_) htk.fol,hf,h.le,h.na,h.ml,h.e1,h.e4,fun p hp=>?_,h.new,?_,h.kp.touch h.hB t (fun k hk e=>?_),h.hB⟩
 ·rcases e with rfl|rfl|⟨p,hp,rfl⟩
  ·exact⟨_,_,h.x.fi⟩
  ·exact⟨_,_,h.y.la⟩
  ·exact⟨_,_,h.tk.fol.rows p hp⟩
 ·obtain⟨a1,a2,a3,a4⟩:=h.old p hp;exact⟨a1,a2,a3,(hold p hp).trans a4⟩
 ·refine(zmO (fol':=zfu (fun p=>if zae L p=true then orT (F' p) A' else F' p)) (f:=inT (if b=true then orT A A' else A)) (l:=inT (if c=true then orT L' L else L')) h.gx h.gy h.dj (fun p q _=>?_) (fun p=>?_) (fun p=>?_)).dom h.un (by simp) (fun _=>Iff.rfl) (fun _=>Iff.rfl)
  ·exact znM F' L A' p q
  ·cases b
   ·simp
   ·rw[zst rfl,zkK];simp
  ·cases c
   ·simp
   ·rw[zst rfl,zkK];simp
 ·rcases e with e|e|⟨p,hp,e⟩
  ·omega
  ·omega
  ·have hpn:p<n:=by
    rcases zsd p n with h1|h1
    ·exact h1
    ·have:=h.new p h1 hp;omega
   have r1:=(h.tk.fol.rows p hp).row;have r2:=(htk.fol.rows p hp).row;rw[hold p hpn] at r2;rw[e,r1,r2]
theorem WrD.words
  (h:WrD B w n nw bt mk f fr F W n' ga gl b M sv fv mk' f' fr' F' A L) (hl:M=N):WrD B w n nw bt mk f fr F W n' ga gl b N sv fv mk' f' fr' F' A L:=
 ⟨h.tk,h.fg,h.le,h.na,h.nl,h.ea,h.el,h.old,h.new,h.good.words hl,h.kp,h.hB⟩
theorem WrD.opt
  (h:WrD B w n nw bt mk f fr F W n' ga gl b M sv fv mk' f' fr' F' A L):WrD B w n nw bt mk f fr F W n' ga gl true (PA.opt M) sv fv mk' f' fr' F' A L:=
 ⟨h.tk,h.fg,h.le,h.na,h.nl,h.ea,h.el,h.old,h.new,h.good.opt.dom (fun _=>Iff.rfl) (by simp) (fun _=>Iff.rfl) (fun _=>Iff.rfl),h.kp,h.hB⟩
theorem WrD.star
  (h:WrD B w n nw bt mk f fr F W n' ga gl b M sv fv mk' f' fr' F' A L) (htk:TrkL W2 n' nw bt sv fv fr' (fun p=>if zae L p=true then orT (F' p) A else F' p)) (t:zan (fun k=>∃p,p<n'/\k=fr' p) W W2):
  WrD B w n nw bt mk f fr F W2 n' ga gl true (PA.star M) sv fv mk' f' fr' (fun p=>if zae L p=true then orT (F' p) A else F' p) A L:=by
 have hL:∀p,zae L p=true->n<=p/\p<n':=fun p hp=>h.good.la p hp
 have hold:∀p,p<n->(if zae L p=true then orT (F' p) A else F' p)=F' p:=fun p hp=>by
  rw[zss (fun e=>by have:=hL p e;omega)]
 refine⟨h.tk.turn t (fun k _ ⟨p,hp,e⟩=>⟨_,_,e ▸ h.tk.fol.rows p hp⟩) htk.fol,⟨h.fg.fi.touch t (fun⟨p,hp,e⟩=>h.ea p hp e.symm),h.fg.la.touch t (fun⟨p,hp,e⟩=>h.el p hp e.symm),h.fg.ne⟩,h.le,h.na,h.nl,h.ea,h.el,fun p hp=>?_,h.new,?_,h.kp.touch h.hB t (fun k hk ⟨p,hp,e⟩=>?_),h.hB⟩
 ·obtain⟨a1,a2,a3,a4⟩:=h.old p hp;exact⟨a1,a2,a3,(hold p hp).trans a4⟩
 ·exact(zlq (fol':=zfu (fun p=>if zae L p=true then orT (F' p) A else F' p)) h.good (fun p q _=>znM F' L A p q)).dom (fun _=>Iff.rfl) (by simp) (fun _=>Iff.rfl) (fun _=>Iff.rfl)
 ·have hpn:p<n:=by
   rcases zsd p n with h1|h1
   ·exact h1
   ·have:=h.new p h1 hp;omega
  have r1:=(h.tk.fol.rows p hp).row;have r2:=(htk.fol.rows p hp).row;rw[hold p hpn] at r2;rw[e,r1,r2]
theorem zn9(p:Nat):inT zaQ p↔False:=by unfold inT;rw[zbL];simp
theorem WrD.bare(h:Trk B w n nw bt sv fv mk f fr F){ga gl:Nat}(b:Bool)(na:w.heap.size<=ga)(nl:w.heap.size<=gl)(hf:FrAt W nw ga gl zaQ zaQ)(hb:Below w.heap.size w W):
  WrD B w n nw bt mk f fr F W n ga gl b (PA.eps b) sv fv mk f fr F zaQ zaQ:=by
 have hbt:bt<w.heap.size:=(zrc.1 h.box).1;have hB:B<=w.heap.size:=by have:=h.bb;omega
 have hfl:∀p,p<n->fr p<w.heap.size:=fun p hp=>(h.fol.rows p hp).glt
 exact⟨h.below hb,hf,zsa _,na,nl,fun p hp=>by have:=hfl p hp;omega,fun p hp=>by have:=hfl p hp;omega,fun _ _=>⟨rfl,rfl,rfl,rfl⟩,fun p h1 h2=>by omega,(zlp (tkOf f) (zfu F) b).dom (fun p=>⟨False.elim,fun k=>by omega⟩) Iff.rfl (fun p=>(zn9 p).symm) (fun p=>(zn9 p).symm),Kp.of_below hB hb,hB⟩
def WrR(B:Nat)(w:World)(n nw bt:Nat)(mk:Nat->Nat)(f:Nat->Nat->Bool)(fr:Nat->Nat)(F:Nat->Nat->Nat)(k:Nat)(M:PA)(e:Ending)(W:World):Prop:=
 ∃(n' ga gl:Nat) (b:Bool) (sv fv:Value) (mk':Nat->Nat) (f':Nat->Nat->Bool) (fr':Nat->Nat) (F':Nat->Nat->Nat) (A L:Nat->Nat),e=.returned (.agg #[.bool b,.slice (some ⟨ga,0,none⟩) nw nw,.slice (some ⟨gl,0,none⟩) nw nw])/\n'<=n+k/\WrD B w n nw bt mk f fr F W n' ga gl b M sv fv mk' f' fr' F' A L
theorem WrD.ret{m:Nat}
  (h:WrD B w n nw bt mk f fr F W n' ga gl b M sv fv mk' f' fr' F' A L) (hb:W.heap[k]?=some (.cells cs 174 (0,0))) (h0:w.heap.size<=k) (h1:0<w.heap.size) (hm:n'<=n+m):
  WrR B w n nw bt mk f fr F m M (.returned (.agg #[.bool b,.slice (some ⟨ga,0,none⟩) nw nw,.slice (some ⟨gl,0,none⟩) nw nw])) (((W.setCell ⟨k,0,none⟩ (.bool b)).setCell ⟨k,1,none⟩ (.slice (some ⟨ga,0,none⟩) nw nw)).setCell ⟨k,2,none⟩ (.slice (some ⟨gl,0,none⟩) nw nw)):=by
 have r1:=zsr _ _ 0 _ _ (.bool b) hb;have r2:=zsr _ _ 1 _ _ (.slice (some ⟨ga,0,none⟩) nw nw) r1;exact⟨n',ga,gl,b,sv,fv,mk',f',fr',F',A,L,rfl,hm,((h.putF hb h0 h1).putF r1 h0 h1).putF r2 h0 h1⟩
end
open Go.RowKit
theorem zdi{P:Program}{ops:Array Oper}{o:Oper}{a:Act}{w:World}{K:Act->World->Prop}{Q:Exit->Act->World->Prop}{E:Prop}(hgd:o.guard=none)(f:FuncId)(xs:Array Operand)(ats:Array TypeId)
  (ho:o.op=.call {callee:=.value (.func f),args:=xs,argTypes:=ats}) (args:Array Value) (hargs:(#[]++xs.map a.eval++#[]:Array Value)=args) (v:Value) (R:World->Prop) (hen:(callFunc f args).run P w=.ok (.enter f args) w)
  (hc:Calls P f args w fun e w'=>e=.returned v/\R w') (h:∀w',R w'->K (a.put o.dst v) w'):
  if Region.wanted o (yielded ops a.tmps)=true then Oper.wp P o a w K Q else E:=by
 have hw:Region.wanted o (yielded ops a.tmps)=true:=by simp[Region.wanted,hgd]
 rw[zst hw];obtain⟨dst,op,type,pos,after,guard⟩:=o;simp only at ho;subst ho;unfold Oper.wp;rw[execOp_call_go,hargs];rw[hen,Oper.upon_enter];refine hc.mono ?_;rintro e w' ⟨rfl,hR⟩;exact h w' hR
end Go.Proofs.YthdljcdbfmhleaaGreatDoor
