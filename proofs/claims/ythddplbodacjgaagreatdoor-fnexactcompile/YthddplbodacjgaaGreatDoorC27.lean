import Derived.Test.YthddplbodacjgaaGreatDoorC26
namespace Go.Proofs.YthddplbodacjgaaGreatDoor
open Go.RowKit
section
variable {T U:Nat -> Nat}{d:DfaD}
def bitW(T:Nat->Nat)(c:Nat):Bool:=(T (c/64)).testBit (c%64)
def addW(T:Nat->Nat)(p:Nat):Nat->Nat:=fun j=>if j=p/64 then T (p/64) ||| 2 ^ (p%64) else T j
theorem zqf(T:Nat->Nat)(p s:Nat):bitW (addW T p) s=(bitW T s || decide (s=p)):=by
 unfold bitW addW
 by_cases e:s/64=p/64
 ·rw[zuV e,Nat.testBit_or,Nat.testBit_two_pow,e]
  congr 1
  by_cases h:s=p
  ·subst h;simp
  ·rw[decide_eq_false h,decide_eq_false (by omega)]
 ·rw[zuU e,decide_eq_false (fun h=>e (by rw[h])),ztx]
theorem zrU(hT:∀i,T i<18446744073709551616)(p:Nat):∀i,addW T p i<18446744073709551616:=fun i=>by
 unfold addW;split
 ·exact Nat.or_lt_two_pow (n:=64) (hT _) (Nat.pow_lt_pow_right (by omega) (Nat.mod_lt _ (by omega)))
 ·exact hT i
theorem zrs(hT:∀i,T i<18446744073709551616)(hU:∀i,U i<18446744073709551616)(h:∀c,c<256->bitW T c=bitW U c):∀i,i<4->T i=U i:=fun i hi=>by
 apply Nat.eq_of_testBit_eq
 intro j
 by_cases hj:j<64
 ·have:=h (i*64+j) (by omega);unfold bitW at this;rw[show (i*64+j)/64=i by omega,show (i*64+j)%64=j by omega] at this;exact this
 ·have h1:∀X:Nat,X<18446744073709551616->X.testBit j=false:=fun X hX=>Nat.testBit_lt_two_pow (zuB hX (Nat.pow_le_pow_right (n:=2) (by omega) (show 64<=j by omega)))
  rw[h1 _ (hT i),h1 _ (hU i)]
def trW(T:Nat->Nat):Tr:=(0,T 0,T 1,T 2,T 3)
theorem zrO(hT:∀i,T i<18446744073709551616)(hU:∀i,U i<18446744073709551616):(trW T).2=(trW U).2↔∀c,c<256->bitW T c=bitW U c:=by
 constructor
 ·intro h c hc;simp only[trW,Prod.mk.injEq] at h;unfold bitW;have:c/64=0\/c/64=1\/c/64=2\/c/64=3:=by omega
  rcases this with k|k|k|k<;>rw[k]
  ·rw[h.1]
  ·rw[h.2.1]
  ·rw[h.2.2.1]
  ·rw[h.2.2.2]
 ·intro h;have:=zrs hT hU h;simp only[trW,Prod.mk.injEq];exact⟨this 0 (by omega),this 1 (by omega),this 2 (by omega),this 3 (by omega)⟩
theorem zfO{o:List Nat}{tr:Nat->Tr}{xs:List Nat}{s t:Nat}:(∀g∈(List.range (zaL o tr xs).length).map (grpJ o tr xs),(s∈g↔t∈g))↔(s∈xs↔t∈xs)/\(s∈xs->zbL o tr s=zbL o tr t):=by
 have key:∀x,x∈xs->∃j,j<(zaL o tr xs).length/\(zaL o tr xs).getD j kz=zbL o tr x:=fun x hx=>by
  have hm:zbL o tr x∈zaL o tr xs:=zez.2 ⟨x,hx,rfl⟩;exact⟨_,zcr.2 hm,zej hm⟩
 constructor
 ·intro h;have f:∀a b:Nat,(∀g∈(List.range (zaL o tr xs).length).map (grpJ o tr xs),(a∈g↔b∈g))->a∈xs->b∈xs/\zbL o tr a=zbL o tr b:=fun a b hab ha=>by
   obtain⟨j,hj,ej⟩:=key a ha;have:=(hab _ (zug.2 ⟨j,by simpa using hj,rfl⟩)).1 (by unfold grpJ;rw[ej];exact zbI.2 ⟨ha,rfl⟩);unfold grpJ at this;rw[ej] at this;obtain⟨h1,h2⟩:=zbI.1 this;exact⟨h1,h2.symm⟩
  exact⟨⟨fun k=>(f s t h k).1,fun k=>(f t s (fun g hg=>(h g hg).symm) k).1⟩,fun k=>(f s t h k).2⟩
 ·rintro ⟨h1,h2⟩ g hg;obtain⟨j,_,rfl⟩:=zug.1 hg;unfold grpJ;rw[zbI,zbI];constructor
  ·rintro ⟨a,b⟩;exact⟨h1.1 a,(h2 a).symm.trans b⟩
  ·rintro ⟨a,b⟩;exact⟨h1.2 a,(h2 (h1.2 a)).trans b⟩
structure SplB(d:DfaD)(o:List Nat)(b:Nat)(xs:List Nat)(tr:Nat->Tr):Prop where
 nd:xs.Nodup
 lt:∀s∈xs,s<d.tag.length
 mem:∀s,s<d.tag.length->(s∈xs↔∃c∈zbu d (wdN d),o.getD (nxN d s c) 0=b)
 eq:∀s t,s<d.tag.length->t<d.tag.length->((tr s).2=(tr t).2↔∀c∈zbu d (wdN d),(o.getD (nxN d s c) 0=b↔o.getD (nxN d t c) 0=b))
theorem SplB.hop(hf:zaE d){o o' wk wk0 wk':List Nat}{b:Nat}{xs:List Nat}{tr:Nat->Tr}(h:SplB d o b xs tr)(hw:∀c∈wk,c≠b->c∈wk0)(hS:zgq d.tag.length (fun s=>o.getD s 0) (fun s=>o'.getD s 0) (·∈wk0) (·∈wk') ((List.range (zaL o tr xs).length).map (grpJ o tr xs)))
  (hH:Hop d.tag.length (·∈zbu d (wdN d)) (nxN d) (fun s=>o.getD s 0) (·∈wk)):Hop d.tag.length (·∈zbu d (wdN d)) (nxN d) (fun s=>o'.getD s 0) (·∈wk'):=by
 refine hH.cut (B:=b) (tr:=fun s=>(tr s).2) (fun s k hs hk=>(hf.nx hs (zbE.1 hk).1).2) (fun s t hs ht e=>?_) (fun s t hs ht e k hk=>(h.eq s t hs ht).1 e k hk) hS.num (fun c hc hne=>hS.up c (hw c hc hne));obtain⟨e1,e2⟩:=(hS.iff s t hs ht).1 e;refine⟨e1,?_⟩;obtain⟨g1,g2⟩:=zfO.1 e2
 by_cases hx:s∈xs
 ·have h2:(zbL o tr s).2=(zbL o tr t).2:=by rw[g2 hx]
  exact h2
 ·have hy:t∉xs:=fun k=>hx (g1.2 k)
  refine(h.eq s t hs ht).2 fun c hc=>⟨fun k=>absurd ((h.mem s hs).2 ⟨c,hc,k⟩) hx,fun k=>absurd ((h.mem t ht).2 ⟨c,hc,k⟩) hy⟩
theorem SplB.alike(hf:zaE d){o o' wk0 wk':List Nat}{b:Nat}{xs:List Nat}{tr:Nat->Tr}(h:SplB d o b xs tr)(hS:zgq d.tag.length (fun s=>o.getD s 0) (fun s=>o'.getD s 0) (·∈wk0) (·∈wk') ((List.range (zaL o tr xs).length).map (grpJ o tr xs)))
  (hA:∀s t,s<d.tag.length->t<d.tag.length->zbc (stN d) (anN d) s t->o.getD s 0=o.getD t 0):∀s t,s<d.tag.length->t<d.tag.length->zbc (stN d) (anN d) s t->o'.getD s 0=o'.getD t 0:=by
 intro s t hs ht al;have hc:∀c∈zbu d (wdN d),o.getD (nxN d s c) 0=o.getD (nxN d t c) 0:=fun c hc=>by
  obtain⟨ch,hch,e⟩:=zhi hf hc;have:=al.step hch;unfold stN at this;rw[e] at this;exact hA _ _ (hf.nx hs (zbE.1 hc).1).2 (hf.nx ht (zbE.1 hc).1).2 this
 have e1:=hA s t hs ht al;refine(hS.iff s t hs ht).2 ⟨e1,zfO.2 ⟨?_,fun _=>?_⟩⟩
 ·rw[h.mem s hs,h.mem t ht];constructor
  ·rintro ⟨c,k1,k2⟩;exact⟨c,k1,(hc c k1).symm.trans k2⟩
  ·rintro ⟨c,k1,k2⟩;exact⟨c,k1,(hc c k1).trans k2⟩
 ·have e2:=(h.eq s t hs ht).2 fun c k=>by rw[hc c k]
  unfold zbL;rw[e1,e2]
theorem zo7(hf:zaE d){o:List Nat}(hH:Hop d.tag.length (·∈zbu d (wdN d)) (nxN d) (fun s=>o.getD s 0) (·∈([]:List Nat)))(han:∀s t,s<d.tag.length->t<d.tag.length->o.getD s 0=o.getD t 0->anN d s=anN d t){s t:Nat}(hs:s<d.tag.length)(ht:t<d.tag.length)(e:o.getD s 0=o.getD t 0):zbc (stN d) (anN d) s t:=
 zqF (cls:=clN d) hH (fun b hb=>by cases hb) (fun _ _=>rfl) (fun c hc=>by
  refine zbE.2 ⟨(hf.clc hc).2,?_⟩;rw[<-(hf.clc hc).1,ztO,ztT (by have:=hf.cl;omega)];exact zt0 _) (fun s k hs hk=>(hf.nx hs (zbE.1 hk).1).2) han hs ht e
end
theorem zdO(n:Nat)(tr:Nat->Tr):(zcR n tr).size=n*5:=by
 unfold zcR;rw[zuo]
 induction n with
 |zero=>simp
 |succ n ih=>rw[zun,List.flatMap_append,zt1,ih];simp[trC,Nat.succ_mul]
theorem zeG(n:Nat)(tr:Nat->Tr){i:Nat}(h:i<n*5):(zcR n tr)[i]?=(trC (tr (i/5)))[i%5]?:=by
 have:=zkm n tr (s:=i/5) (i:=i%5) (by omega) (by omega);rw[show i/5*5+i%5=i by omega] at this;exact this
def updT(tr:Nat->Tr)(s:Nat)(t:Tr):Nat->Tr:=fun j=>if j=s then t else tr j
theorem zpO(n:Nat)(tr:Nat->Tr)(s:Nat)(t:Tr):
  (((((zcR n tr).setIfInBounds (s*5) (.int .u64 (t.1:Int))).setIfInBounds (s*5+1) (.int .u64 (t.2.1:Int))).setIfInBounds (s*5+2) (.int .u64 (t.2.2.1:Int))).setIfInBounds (s*5+3) (.int .u64 (t.2.2.2.1:Int))).setIfInBounds (s*5+4) (.int .u64 (t.2.2.2.2:Int))=zcR n (updT tr s t):=by
 apply ztn
 intro i;have hs:=zdO n tr
 by_cases hi:i<n*5
 ·rw[zeG n _ hi];simp only[ztq,Array.size_setIfInBounds,hs];unfold updT
  by_cases e:i/5=s
  ·rw[zuV e];have hr:i%5=0\/i%5=1\/i%5=2\/i%5=3\/i%5=4:=by omega
   rcases hr with k|k|k|k|k
   ·rw[zuU (by omega),zuU (by omega),zuU (by omega),zuU (by omega),zuV (by omega),zuV (by omega),k];rfl
   ·rw[zuU (by omega),zuU (by omega),zuU (by omega),zuV (by omega),zuV (by omega),k];rfl
   ·rw[zuU (by omega),zuU (by omega),zuV (by omega),zuV (by omega),k];rfl
   ·rw[zuU (by omega),zuV (by omega),zuV (by omega),k];rfl
   ·rw[zuV (by omega),zuV (by omega),k];rfl
  ·rw[zuU e,zuU (by omega),zuU (by omega),zuU (by omega),zuU (by omega),zuU (by omega),zeG n _ hi]
 ·rw[zto (by simp only[Array.size_setIfInBounds,hs];omega),zto (by rw[zdO];omega)]
theorem zj7{W:World}{g n:Nat}{tr:Nat->Tr}(h:W.heap[g]?=some (.cells (zcR n tr) 192 (0,0)))(s:Nat)(t:Tr):
  (((((W.setCell ⟨g,s*5,none⟩ (.int .u64 (t.1:Int))).setCell ⟨g,s*5+1,none⟩ (.int .u64 (t.2.1:Int))).setCell ⟨g,s*5+2,none⟩ (.int .u64 (t.2.2.1:Int))).setCell ⟨g,s*5+3,none⟩ (.int .u64 (t.2.2.2.1:Int))).setCell ⟨g,s*5+4,none⟩ (.int .u64 (t.2.2.2.2:Int))).heap[g]?=some (.cells (zcR n (updT tr s t)) 192 (0,0)):=by
 have h1:=zuT W g (s*5) _ _ (.int .u64 (t.1:Int)) h;have h2:=zuT _ g (s*5+1) _ _ (.int .u64 (t.2.1:Int)) h1;have h3:=zuT _ g (s*5+2) _ _ (.int .u64 (t.2.2.1:Int)) h2;have h4:=zuT _ g (s*5+3) _ _ (.int .u64 (t.2.2.2.1:Int)) h3;have h5:=zuT _ g (s*5+4) _ _ (.int .u64 (t.2.2.2.2:Int)) h4;rw[zpO] at h5;exact h5
theorem zgQ(n:Nat):(madeCells (Value.agg (trC kz)).cells (n*5)).toList.toArray=zcR n (fun _=>kz):=by
 apply ztn
 intro i
 by_cases hi:i<n*5
 ·rw[zeG n _ hi];have hm:i%5<5:=Nat.mod_lt _ (by omega);simp only[madeCells,Value.cells,trC,kz];have hr:i%5=0\/i%5=1\/i%5=2\/i%5=3\/i%5=4:=by omega
  rcases hr with k|k|k|k|k<;>simp[hi,k]
 ·rw[zto (by simp[madeCells];omega),zto (by rw[zdO];omega)]
theorem Tryz.infoTrait:(Tryz.prog.info? 192).map (fun i=>(i.zero,i.size,i.bytes))=some (some (.agg (trC kz)),5,40):=by kernel_rfl
section
variable {gt n:Nat}{W:World}{v:Nat -> Value}{l:Nat -> List Int}
theorem Fam.shrink(h:Fam gt n W v l){i:Nat}(hi:i<n){g m cap k:Nat}(hv:v i=.slice (some ⟨g,0,none⟩) m cap)(hm:(l i).length=m)(hk:k<=m):Fam gt n W (upd v i (.slice (some ⟨g,0,none⟩) k cap)) (updL l i ((l i).take k)):=by
 refine⟨fun j hj=>?_,fun a b ha hb hne c hc=>?_⟩
 ·by_cases e:j=i
  ·subst e;rw[zaH,zar];have ho:=h.own j hj;unfold Owns at ho ⊢;have hl:((l j).take k).length=k:=by rw[zt8];omega
   rw[hv,hm] at ho;rw[hl];refine⟨by rw[zt3,hl];omega,?_⟩;rcases ho.2 with ⟨h0,_⟩|⟨g',cap',cur,hv',hg,hh,hnc,hcap,hsz,ht⟩
   ·cases h0
   ·cases hv'
    refine .inr ⟨g,cap,cur,rfl,hg,hh,by omega,hcap,hsz,?_⟩;have:List.take (k*1) cur.toList=(List.take (m*1) cur.toList).take k:=by rw[List.take_take,Nat.mul_one,Nat.mul_one,zuE hk]
    rw[this,ht,List.map_take]
  ·rw[zaD _ _ e,zaf _ _ e];exact h.own j hj
 ·have key:∀a c,(upd v i (.slice (some ⟨g,0,none⟩) k cap) a).ownBlock=some c↔(v a).ownBlock=some c:=fun a c=>by
   by_cases e:a=i
   ·subst e;rw[zaH,hv];rfl
   ·rw[zaD _ _ e]
  rw[Ne,key];exact h.apart a b ha hb hne c ((key a c).1 hc)
theorem PtS.pop{p:Nat}{mv:Value}{m:Nat}{mi:Nat->Nat}{N:Nat}{o wk:List Nat}{mem:Nat->List Nat}(h:PtS gt W p mv m mi v l N o wk mem){g cap k:Nat}(hv:v 1=.slice (some ⟨g,0,none⟩) wk.length cap)(hk:k<=wk.length):
  PtS gt (W.setCell ⟨p,2,none⟩ (.slice (some ⟨g,0,none⟩) k cap)) p mv m mi (upd v 1 (.slice (some ⟨g,0,none⟩) k cap)) (updL l 1 (zav (wk.take k))) N o (wk.take k) mem:=by
 have h2:=h.two;have hF:=h.fam.shrink (i:=1) (by omega) hv (by rw[h.l1,zag]) hk;rw[h.l1,show (zav wk).take k=zav (wk.take k) by simp[zav,List.map_take]] at hF;have hgp:=zaX W p 2 (.slice (some ⟨g,0,none⟩) k cap);refine⟨hF.other h.box (by decide) hgp,h2,?_,h.pge,?_,h.idx,by rw[zaf _ _ (by omega)];exact h.l0,zar _ _ _,fun x hx=>by rw[zaf _ _ (by have:=(h.idx x hx).1;omega)];exact h.lm x hx⟩
 ·rw[zaD _ _ (by omega),zaH];exact zuT _ _ _ _ _ _ h.box
 ·rw[zdK (v':=v) (mi':=mi) (fun x hx=>zaD _ _ (by have:=(h.idx x hx).1;omega))];exact za6 h.out fun b cs hb=>(hgp.block b (zae hb) (fun e=>by
   have e2:b=p:=Option.some.inj e;rw[e2,h.box] at hb;exact absurd (zap hb) (by decide))).trans hb
theorem Tryz.eqlTr(a b c d e a' b' c' d' e':Nat)(w:World):(binOp .eql 192 (.agg #[.int .u64 (a:Int),.int .u64 (b:Int),.int .u64 (c:Int),.int .u64 (d:Int),.int .u64 (e:Int)]) (.agg #[.int .u64 (a':Int),.int .u64 (b':Int),.int .u64 (c':Int),.int .u64 (d':Int),.int .u64 (e':Int)])).run Tryz.prog w=.ok (.bool (decide ((a,b,c,d,e)=(a',b',c',d',e')))) w:=by
 have h:=Tryz.eqTr (a,b,c,d,e) (a',b',c',d',e') w;unfold trV trC at h;rw[run_eql_struct];dsimp only at h;rw[h]
 rfl
theorem zpz{g:Nat}{tr:Nat->Tr}(h:W.heap[g]?=some (.cells (zcR n tr) 192 (0,0))){s j:Nat}(hs:s<n)(hj:j<4)(T:Nat->Nat)(hT:tr s=trW T)(x:Nat):
  (W.setCell ⟨g,s*5+(j+1),none⟩ (.int .u64 (x:Int))).heap[g]?=some (.cells (zcR n (updT tr s (trW (fun i=>if i=j then x else T i)))) 192 (0,0)):=by
 have h1:=zuT W g (s*5+(j+1)) _ _ (.int .u64 (x:Int)) h;rw[h1]
 congr 2
 apply ztn
 intro i;have hsz:=zdO n tr
 by_cases hi:i<n*5
 ·rw[zeG n _ hi,ztq,hsz];unfold updT
  by_cases e:i/5=s
  ·rw[zuV e]
   by_cases e2:s*5+(j+1)=i
   ·rw[zuV e2,zuV (by omega)];have hm:i%5=j+1:=by omega
    rw[hm];have:j=0\/j=1\/j=2\/j=3:=by omega
    rcases this with k|k|k|k<;>subst k<;>rfl
   ·rw[zuU e2,zeG n _ hi,e,hT];have hr:i%5=0\/i%5=1\/i%5=2\/i%5=3\/i%5=4:=by omega
    rcases hr with k|k|k|k|k<;>rw[k]
    ·rfl
    ·have:¬0=j:=by omega
     simp[trC,trW,this]
    ·have:¬1=j:=by omega
     simp[trC,trW,this]
    ·have:¬2=j:=by omega
     simp[trC,trW,this]
    ·have:¬3=j:=by omega
     simp[trC,trW,this]
  ·rw[zuU e,zuU (by omega),zeG n _ hi]
 ·rw[zto (by simp only[Array.size_setIfInBounds,hsz];omega),zto (by rw[zdO];omega)]
end
section
variable {w W W':World}{B n sz gI:Nat}{v:Nat -> Value}{xs:List Value}{A:Nat -> List (Nat×Nat)}
def zf4(l:List (Nat×Nat)):List Value:=l.flatMap fun x=>[.int .i64 (x.1:Int),.int .i64 (x.2:Int)]
theorem znw(l:List (Nat×Nat))(x:Nat×Nat):zf4 (l++[x])=zf4 l++[.int .i64 (x.1:Int),.int .i64 (x.2:Int)]:=by simp[zf4]
theorem zjZ:∀(l:List (Nat×Nat)) (j:Nat),j<l.length->(zf4 l)[j*2]?=some (.int .i64 (((l.getD j (0,0)).1:Nat):Int))/\(zf4 l)[j*2+1]?=some (.int .i64 (((l.getD j (0,0)).2:Nat):Int))
 |[],j,h=>absurd h (zuI _)
 |x::l,0,_=>⟨rfl,rfl⟩
 |x::l,j+1,h=>by
  have ih:=zjZ l j (by simpa using h);have e:zf4 (x::l)=.int .i64 (x.1:Int) :: .int .i64 (x.2:Int)::zf4 l:=rfl;rw[e,show (j+1)*2=j*2+1+1 by omega];exact ih
def rowV(v:Nat->Value)(n:Nat):List Value:=(List.range n).map v
theorem zeE(v:Nat->Value){n s:Nat}(h:s<n):(rowV v n)[s]?=some (v s):=by simp[rowV,h]
theorem zri(v:Nat->Value)(n s:Nat)(u:Value):(rowV v n).set s u=rowV (upd v s u) n:=by
 apply ztL
 intro i;rw[ztX];have hl:∀f:Nat->Value,(rowV f n).length=n:=fun f=>by simp[rowV]
 by_cases hi:i<n
 ·rw[zeE v hi,zeE _ hi,hl]
  by_cases e:s=i
  ·subst e;rw[zuV rfl,zuV hi,zaH]
  ·rw[zuU e,zaD _ _ (fun k=>e k.symm)]
 ·rw[ztU (by rw[hl];omega),ztU (by rw[hl];omega),hl]
  by_cases e:s=i
  ·rw[zuV e,zuU (by omega)]
  ·rw[zuU e]
structure ArS(B:Nat)(W:World)(gI n:Nat)(v:Nat->Value)(A:Nat->List (Nat×Nat)):Prop where
 out:W.ownsRow B 188 1 (.slice (some ⟨gI,0,none⟩) n n) n (rowV v n)
 rows:∀s,s<n->W.ownsRow B 190 2 (v s) (A s).length (zf4 (A s))
 apart:∀s t,s<n->t<n->s≠t->∀b,(v s).ownBlock=some b->(v t).ownBlock≠some b
theorem zbK{k:Nat}{e:TypeId}{v:Value}(h:w.ownsRow B e sz v n xs)(hk:v.ownBlock=some k):B<=k/\∃cur,w.heap[k]?=some (.cells cur e (0,0)):=by
 rcases h.2 with ⟨rfl,_⟩|⟨g,cap,cur,rfl,hg,hh,_⟩
 ·simp[Value.ownBlock] at hk
 ·simp[Value.ownBlock] at hk;subst hk;exact⟨hg,cur,hh⟩
theorem zo3{base:Nat}{e:TypeId}{v:Value}(h:w.ownsRow base e sz v n xs)(hk:∀b,v.ownBlock=some b->W.heap[b]?=w.heap[b]?):W.ownsRow base e sz v n xs:=by
 refine⟨h.1,?_⟩;rcases h.2 with h0|⟨g,cap,cur,hv,hg,hh,r⟩
 ·exact .inl h0
 ·exact .inr ⟨g,cap,cur,hv,hg,(hk g (by rw[hv];rfl)).trans hh,r⟩
theorem ArS.below(h:ArS B W gI n v A)(hb:Below W.heap.size W W'):ArS B W' gI n v A:=
 ⟨zad h.out hb,fun s hs=>zad (h.rows s hs) hb,h.apart⟩
theorem Tryz.infoArrow:(Tryz.prog.info? 190).map (fun i=>(i.zero,i.size,i.bytes))=some (some (.agg #[.int .i64 0,.int .i64 0]),2,16):=by kernel_rfl
theorem zp3{ops:Array Oper}{rest:List Oper}{o:Oper}{a:Act}{Q:Exit->Act->World->Prop}(S:ArS B W gI n v A)(H:Nat)(hH:W.heap.size=H)(hgd:o.guard=none)(s x:Operand)
  (ho:o.op=.call {callee:=.builtin .append,args:=#[s,x],argTypes:=#[188,188]}) (i:Nat) (hi:i<n) (m:Nat) (hm:(A i).length=m) (hs:a.eval s=v i) (f c:Nat) (hx:a.eval x=.slice (some ⟨H,0,none⟩) 1 1) (hl:m<=2000000) (hB:B<=W.heap.size)
  (h:∀g cap W',W'.ownsRow B 190 2 (.slice (some ⟨g,0,none⟩) (m+1) cap) (m+1) (zf4 (A i++[(f,c)]))->W.grownBy W' (v i).ownBlock->((v i).ownBlock=some g\/W.heap.size<=g)->wpList Tryz.prog ops Q rest (a.put o.dst (.slice (some ⟨g,0,none⟩) (m+1) cap)) W'):
  wpList Tryz.prog ops Q (o::rest) a (W.alloc (.cells #[.int .i64 (f:Int),.int .i64 (c:Int)] 190)):=by
 subst hH;subst hm;obtain⟨i0,hi0,hz0,hz1,hz2⟩:=info_parts Tryz.infoArrow;have hb:Below W.heap.size W (W.alloc (.cells #[.int .i64 (f:Int),.int .i64 (c:Int)] 190)):=(Below.refl _ _).alloc (zuz _) _;refine wpList_append_lies _ hgd s x 188 ho B 190 i0 _ 2 16 Tryz.underlying188 hi0 hz0 hz1 hz2 rfl (by omega) (v i) (A i).length (zf4 (A i)) hs (zad (S.rows i hi) hb) ⟨W.heap.size,0,none⟩ 1 1 [.int .i64 (f:Int),.int .i64 (c:Int)] hx rfl (World.news_of_block (zuR _ _)) (by intro u hu;simp at hu;rcases hu with rfl|rfl<;>rfl) (by omega) (by unfold maxLen;omega) (by omega) (by simp;omega) (W.heap.size+1) (by simp) ?_;intro g cap W' own' grow' at' _;refine h g cap W' (by rw[znw];exact own') ?_ (at'.imp id (fun e=>by omega));exact⟨grow'.os.trans hb.os,grow'.tape.trans hb.tape,grow'.output.trans hb.output,zuA hb.size grow'.size,fun k hk hne=>(grow'.block k (by have:=hb.size;omega) hne).trans (hb.block k hk)⟩
theorem ArS.app(S:ArS B W gI n v A){i:Nat}(hi:i<n){g cap f c:Nat}(ho:W'.ownsRow B 190 2 (.slice (some ⟨g,0,none⟩) ((A i).length+1) cap) ((A i).length+1) (zf4 (A i++[(f,c)])))(hg:W.grownBy W' (v i).ownBlock)(hat:(v i).ownBlock=some g\/W.heap.size<=g):
  W'.cell? ⟨gI,i,none⟩=some (v i)/\W'.frozen? ⟨gI,i,none⟩=false/\ArS B (W'.setCell ⟨gI,i,none⟩ (.slice (some ⟨g,0,none⟩) ((A i).length+1) cap)) gI n (upd v i (.slice (some ⟨g,0,none⟩) ((A i).length+1) cap)) (fun j=>if j=i then A i++[(f,c)] else A j):=by
 obtain⟨_,cur,hc⟩:=zbK S.out (k:=gI) rfl;have hout:W'.ownsRow B 188 1 (.slice (some ⟨gI,0,none⟩) n n) n (rowV v n):=za6 S.out fun b cs hb=>(hg.block b (zae hb) (fun e=>by
  obtain⟨_,cur2,hc2⟩:=zbK (S.rows i hi) e.symm;rw[hb] at hc2;exact absurd (zap hc2) (by decide))).trans hb
 obtain⟨_,cur1,hc1⟩:=zbK hout (k:=gI) rfl;have hcell:=hout.cellAt i (by omega);rw[zeE v hi] at hcell;have hgs:=zaX W' gI i (.slice (some ⟨g,0,none⟩) ((A i).length+1) cap);have hkeep:∀(b:Nat) (cs:Array Value),W'.heap[b]?=some (.cells cs 190 (0,0))->(W'.setCell ⟨gI,i,none⟩ (.slice (some ⟨g,0,none⟩) ((A i).length+1) cap)).heap[b]?=some (.cells cs 190 (0,0)):=fun b cs hb=>(hgs.block b (zae hb) (fun e=>by
  cases e
  rw[hc1] at hb;exact absurd (zap hb) (by decide))).trans hb
 have hnew:∀j,j<n->j≠i->∀b,(v j).ownBlock=some b->b≠g:=fun j hj hji b hb e=>by
  rcases hat with k|k
  ·exact S.apart j i hj hi hji b hb (by rw[k,e])
  ·obtain⟨_,cur3,hc3⟩:=zbK (S.rows j hj) hb;have:=zae hc3;omega
 refine⟨hcell,zuQ _ _ i _ _ hc1,?_,fun j hj=>?_,fun s t hs ht hst b hb=>?_⟩
 ·have:=(hout.stored i (.slice (some ⟨g,0,none⟩) ((A i).length+1) cap)).1;rw[zri] at this;exact this
 ·by_cases e:j=i
  ·subst e;rw[zaH];simp only[zuV];rw[show (A j++[(f,c)]).length=(A j).length+1 by simp];exact za6 ho hkeep
  ·rw[zaD _ _ e];simp only[zuU e];refine za6 (zo3 (S.rows j hj) fun b hb=>?_) hkeep;obtain⟨_,cur3,hc3⟩:=zbK (S.rows j hj) hb;exact hg.block b (zae hc3) (fun e2=>S.apart j i hj hi e b hb e2.symm)
 ·by_cases e:s=i
  ·subst e;rw[zaH] at hb;simp[Value.ownBlock] at hb;subst hb;rw[zaD _ _ (Ne.symm hst)];exact fun hc'=>hnew t ht (Ne.symm hst) _ hc' rfl
  ·rw[zaD _ _ e] at hb
   by_cases e2:t=i
   ·subst e2;rw[zaH];intro hc';simp[Value.ownBlock] at hc';exact hnew s hs e b hb hc'.symm
   ·rw[zaD _ _ e2];exact S.apart s t hs ht hst b hb
end
variable {d:DfaD}{A:Nat -> List (Nat×Nat)}{k c:Nat}
structure ArI(d:DfaD)(A:Nat->List (Nat×Nat))(k c:Nat):Prop where
 mem:∀t x,x∈A t↔(x.1<k\/(x.1=k/\x.2<c))/\x.2∈zbu d (wdN d)/\nxN d x.1 x.2=t
 nd:∀t,(A t).Nodup
 len:∀t,(A t).length<=k*256+c
theorem ArI.start(d:DfaD):ArI d (fun _=>[]) 0 0:=⟨fun t x=>by simp,fun _=>List.nodup_nil,fun _=>zuL _⟩
theorem ArI.skip(h:ArI d A k c)(hc:c∉zbu d (wdN d)):ArI d A k (c+1):=by
 refine⟨fun t x=>?_,h.nd,fun t=>by have:=h.len t;omega⟩;rw[h.mem t x];constructor
 ·rintro ⟨a,b,e⟩;exact⟨by omega,b,e⟩
 ·rintro ⟨a,b,e⟩;refine⟨?_,b,e⟩;have:x.2≠c:=fun k=>hc (k ▸ b)
  omega
theorem ArI.add(h:ArI d A k c)(hc:c∈zbu d (wdN d)){t0:Nat}(ht:nxN d k c=t0):ArI d (fun j=>if j=t0 then A t0++[(k,c)] else A j) k (c+1):=by
 subst ht;refine⟨fun t x=>?_,fun t=>?_,fun t=>?_⟩
 ·obtain⟨x1,x2⟩:=x
  by_cases e:t=nxN d k c
  ·subst e;simp only[zuV,zuc,zui,Prod.mk.injEq];rw[h.mem];dsimp only;constructor
   ·rintro (⟨a,b,f⟩|⟨rfl,rfl⟩)
    ·exact⟨by omega,b,f⟩
    ·exact⟨by omega,hc,rfl⟩
   ·rintro ⟨a,b,f⟩
    by_cases g:x1=k/\x2=c
    ·exact .inr g
    ·exact .inl ⟨by omega,b,f⟩
  ·simp only[zuU e];rw[h.mem];dsimp only;constructor
   ·rintro ⟨a,b,f⟩;exact⟨by omega,b,f⟩
   ·rintro ⟨a,b,f⟩;refine⟨?_,b,f⟩;have:¬(x1=k/\x2=c):=fun⟨g1,g2⟩=>e (by rw[<-f,g1,g2])
    omega
 ·by_cases e:t=nxN d k c
  ·subst e;simp only[zuV];rw[zuk];refine⟨h.nd _,by simp,fun a ha b hb e=>?_⟩;simp at hb;subst hb;subst e;have:=(h.mem _ _).1 ha;dsimp only at this;omega
  ·simp only[zuU e];exact h.nd t
 ·have h1:=h.len t;have h2:=h.len (nxN d k c)
  by_cases e:t=nxN d k c
  ·simp only[zuV e,zt1,zt7];omega
  ·simp only[zuU e];omega
set_option maxRecDepth 10000 in
theorem ArI.row(hf:zaE d){A:Nat->List (Nat×Nat)}{k:Nat}(h:ArI d A k (wdN d)):ArI d A (k+1) 0:=by
 have hw:=hf.wd.2.2;refine⟨fun t x=>?_,h.nd,fun t=>by have:=h.len t;omega⟩;rw[h.mem t x];constructor
 ·rintro ⟨a,b,e⟩;exact⟨by omega,b,e⟩
 ·rintro ⟨a,b,e⟩;have:=(zbE.1 b).1;exact⟨by omega,b,e⟩
def useF(d:DfaD)(k:Nat)(i:Nat):Bool:=(List.range k).any fun j=>decide (clN d j=i)
theorem zpV(d:DfaD)(k:Nat):(fun i=>if i=clN d k then true else useF d k i)=useF d (k+1):=by
 funext i
 unfold useF;rw[zun,List.any_append]
 by_cases e:i=clN d k
 ·subst e;simp
 ·rw[zuU e];have:¬clN d k=i:=fun k=>e k.symm
  simp[this]
theorem zmD(hf:zaE d){i:Nat}(hi:i<wdN d):useF d 256 i=true↔i∈zbu d (wdN d):=by
 unfold useF;rw[List.any_eq_true];constructor
 ·rintro ⟨x,hx,h⟩;have e:=of_decide_eq_true h;have hx2:x<256:=by simpa using hx
  refine zbE.2 ⟨hi,?_⟩;rw[<-e,<-(hf.clc hx2).1,ztO,ztT (by have:=hf.cl;omega)];exact zt0 _
 ·intro h;obtain⟨ch,h1,h2⟩:=zhi hf h;exact⟨ch,by simpa using h1,by simpa using h2⟩
end Go.Proofs.YthddplbodacjgaaGreatDoor
