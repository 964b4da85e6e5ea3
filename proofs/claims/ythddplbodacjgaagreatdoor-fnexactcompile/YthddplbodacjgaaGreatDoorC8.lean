import Derived.Test.YthddplbodacjgaaGreatDoorC7
namespace Go.Proofs.YthddplbodacjgaaGreatDoor
section
open Go.RowKit
def wstk(ns:List zau):Nat->List Int
 |0=>[]
 |i+1=>zgc (wstk ns i) (ns.getD i .zero)
def wOf(ns:List zau)(i:Nat):Int:=zcf (ns.getD i .zero) ((wstk ns i).drop ((wstk ns i).length-zaI (zaQ ns i)))
theorem zi0(ns:List zau):∀i,(stk ns i).map (wOf ns)=wstk ns i
 |0=>rfl
 |i+1=>by
  have ih:=zi0 ns i;have hl:(stk ns i).length=(wstk ns i).length:=by rw[<-ih,zt3]
  rw[stk,wstk,zgc,zt9,List.map_take,ih,hl]
  rfl
theorem zfh(ns:List zau)(i:Nat):(wstk ns i).length=(stk ns i).length:=by rw[<-zi0,zt3]
theorem zgn(ns:List zau)(i j:Nat)(h:j<(stk ns i).length):(wstk ns i).getD j 0=wOf ns ((stk ns i).getD j 0):=by
 rw[<-zi0];simp[List.getD_eq_getElem?_getD,h]
theorem zfB:∀(ns:List zau) (st st':List Int),zdy ns st=some st'->zd1 ns st.length=some st'.length/\ns.all zaK=true
 |[],st,st',h=>by cases h;exact⟨rfl,rfl⟩
 |n::ns,st,st',h=>by
  unfold zdy at h
  by_cases hc:st.length<zaI n.kind\/zaK n=false
  ·rw[zuV hc] at h;cases h
  ·rw[zuU hc] at h;have hl:(zgc st n).length=st.length-zaI n.kind+1:=by simp[zgc]
   obtain⟨h1,h2⟩:=zfB ns (zgc st n) st' h;refine⟨?_,?_⟩
   ·unfold zd1;rw[zuU (fun q=>hc (.inl q)),<-hl];exact h1
   ·have:zaK n=true:=by
     cases hb:zaK n
     ·exact absurd (.inr hb) hc
     ·rfl
    simp only[List.all_cons,h2,this,Bool.and_true]
theorem zhX(ns:List zau)(ha:∀i,i<ns.length->zaI (zaQ ns i)<=(stk ns i).length)(hb:ns.all zaK=true):∀k,k<=ns.length->zdy ns []=zdy (ns.drop k) (wstk ns k)
 |0,_=>rfl
 |k+1,hk=>by
  rw[zhX ns ha hb k (by omega),zhW ns k (by omega) (wstk ns k) _ rfl,zuU]
  ·rfl
  ·have h1:=ha k (by omega);rintro (h|h)
   ·rw[zfh] at h;unfold zaQ at h1;omega
   ·have:zaK (ns.getD k .zero)=true:=by
     have:=ztC.1 hb (ns.getD k .zero) (by
      rw[ztO,ztT (show k<ns.length by omega)];exact zt0 _)
     exact this
    rw[h] at this;cases this
theorem ziE(ns:List zau)(hk:zcM ns=true)(ha:∀i,i<ns.length->zaI (zaQ ns i)<=(stk ns i).length)(hb:ns.all zaK=true):0<ns.length/\ze3 ns=some (wOf ns (ns.length-1)):=by
 have h1:=zhX ns ha hb ns.length (zuz _);rw[ztH (zuz _),zdy] at h1;have h2:=(zfB ns [] _ h1).1;have h3:(wstk ns ns.length).length=1:=by
  unfold zcM at hk;have:=eq_of_beq hk;simp only[zt4] at h2;rw[h2] at this;exact Option.some.inj this
 have hpos:0<ns.length:=by
  rcases zuy ns.length with h0|h0
  ·rw[h0] at h3;simp[wstk] at h3
  ·exact h0
 refine⟨hpos,?_⟩;obtain⟨m,hm⟩:∃m,ns.length=m+1:=⟨ns.length-1,by omega⟩;rw[hm] at h1 h3 ⊢;unfold ze3;rw[h1];have h4:=zi0 ns (m+1);have h5:stk ns (m+1)=[m]:=by
  have hl:=zfh ns (m+1);rw[h3] at hl;rw[stk] at hl ⊢
  match (stk ns m).take ((stk ns m).length-zaI (zaQ ns m)),hl with
  |[],_=>rfl
  |_::_,hl=>simp at hl
 rw[h5] at h4;rw[<-h4]
 rfl
theorem zqU(ns:List zau)(h:zcM ns=false\/ns.all zaK=false):ze3 ns=none:=by
 unfold ze3;cases hq:zdy ns [] with
 |none=>rfl
 |some st=>
  obtain⟨h1,h2⟩:=zfB ns [] st hq;rcases h with h|h
  ·unfold zcM at h;simp only[zt4] at h1;rw[h1] at h
   match st with
   |[]=>rfl
   |[a]=>simp at h
   |_::_::_=>rfl
  ·rw[h2] at h;cases h
theorem zfl(ns:List zau)(ha:∀i,i<ns.length->zaI (zaQ ns i)<=(stk ns i).length)(hb:ns.all zaK=true):∀n i,i<n->i<ns.length->1<=wOf ns i/\wOf ns i<=2001
 |0,_,h,_=>absurd h (zuI _)
 |n+1,i,_,hi=>by
  have hnode:zaK (ns.getD i .zero)=true:=ztC.1 hb (ns.getD i .zero) (by
   rw[ztO,ztT hi];exact zt0 _)
  have har:=ha i hi;have hget:∀j,j<(stk ns i).length->1<=(wstk ns i).getD j 0/\(wstk ns i).getD j 0<=2001:=by
   intro j hj;rw[zgn ns i j hj];have hmem:(stk ns i).getD j 0∈stk ns i:=by
    rw[ztO,ztT hj];exact zt0 _
   have hlt:=zkd ns i _ hmem;exact zfl ns ha hb n _ (by omega) (by omega)
  unfold wOf;generalize hnd:ns.getD i .zero=nd at *;obtain⟨k,rs,mn,mx,g⟩:=nd;have hkd:zaQ ns i=k:=by unfold zaQ;rw[hnd]
  rw[hkd] at har ⊢;have hdrop0:=zge (wstk ns i) ((wstk ns i).length-zaI k);have hl:=zfh ns i;rcases zg1 hnode with rfl|rfl|rfl|rfl|rfl
  ·simp[zcf]
  ·have e:=zey (wstk ns i) ((wstk ns i).length-zaI 2);have a2:zaI 2=2:=rfl;unfold zcf;rw[zuU (by simp),zuV (by simp),e.1,e.2];have p:=hget ((wstk ns i).length-zaI 2) (by omega);have q:=hget ((wstk ns i).length-zaI 2+1) (by omega);exact zdV (by omega)
  ·have e:=zey (wstk ns i) ((wstk ns i).length-zaI 3);have a2:zaI 3=2:=rfl;unfold zcf;rw[zuU (by simp),zuV (by simp),e.1,e.2];have p:=hget ((wstk ns i).length-zaI 3) (by omega);have q:=hget ((wstk ns i).length-zaI 3+1) (by omega);exact zdV (by omega)
  ·have a2:zaI 4=1:=rfl;unfold zcf;rw[zuU (by simp),zuU (by simp),zuV (by simp),hdrop0];have p:=hget ((wstk ns i).length-zaI 4) (by omega);have c:=zdC (zg0 hnode).2.1;have hm:1*1<=(wstk ns i).getD ((wstk ns i).length-zaI 4) 0*za2 mn mx:=ztA p.1 c.1 (by omega) (by omega);exact zdV (by simpa using hm)
  ·have a2:zaI 5=1:=rfl;unfold zcf;rw[zuU (by simp),zuU (by simp),zuU (by simp),hdrop0];exact hget ((wstk ns i).length-zaI 5) (by omega)
end
section
variable {ns:List zau}{k:Nat}
def hasF(rs:List (Int×Int))(c:Nat):Bool:=rs.any fun r=>decide (r.1<=c/\(c:Int)<=r.2)
def zbP:Pt:=.set fun _=>false
def zbH(n:zau)(ops:List Pt):Pt:=
 if n.kind=1 then .set (hasF n.set)
 else if n.kind=2 then .seq (ops.getD 0 zbP) (ops.getD 1 zbP)
 else if n.kind=3 then .alt (ops.getD 0 zbP) (ops.getD 1 zbP)
 else if n.kind=4 then .rep (ops.getD 0 zbP) n.min n.max
 else .grp (ops.getD 0 zbP) n.group
def zlM(st:List Pt)(n:zau):List Pt:=st.take (st.length-zaI n.kind)++[zbH n (st.drop (st.length-zaI n.kind))]
def tstk(ns:List zau):Nat->List Pt
 |0=>[]
 |i+1=>zlM (tstk ns i) (ns.getD i .zero)
def tOf(ns:List zau)(i:Nat):Pt:=zbH (ns.getD i .zero) ((tstk ns i).drop ((tstk ns i).length-zaI (zaQ ns i)))
theorem zgk(ns:List zau):∀i,(stk ns i).map (tOf ns)=tstk ns i
 |0=>rfl
 |i+1=>by
  have ih:=zgk ns i;have hl:(stk ns i).length=(tstk ns i).length:=by rw[<-ih,zt3]
  rw[stk,tstk,zlM,zt9,List.map_take,ih,hl]
  rfl
theorem zi1(ns:List zau)(i:Nat):(tstk ns i).length=(stk ns i).length:=by rw[<-zgk,zt3]
theorem zeS(ns:List zau)(k j:Nat)(hj:j<(stk ns k).length):(stk ns k).getD j 0<k:=zkd ns k _ (by
 rw[ztO,ztT hj];exact zt0 _)
theorem zkk(ha:zaI (zaQ ns k)=2)(hl:2<=(stk ns k).length):∃x y:Nat,zch ns k=x/\zcu ns k=y/\x<k/\y<k/\tOf ns k=zbH (ns.getD k .zero) [tOf ns x,tOf ns y]:=by
 refine⟨(stk ns k).getD ((stk ns k).length-2) 0,(stk ns k).getD ((stk ns k).length-1) 0,?_,?_,zeS _ _ _ (by omega),zeS _ _ _ (by omega),?_⟩
 ·rw[zch,ha,zuU (by omega)]
 ·rw[zcu,zuV ha]
 ·have hw:=zi1 ns k;unfold tOf;rw[ha]
  congr 1
  rw[<-zgk ns k,zt3];apply ztL;intro i;rw[ztS,ztW]
  match i with
  |0=>simp[List.getD_eq_getElem?_getD,List.getElem?_eq_getElem (show (stk ns k).length-2<(stk ns k).length by omega),tOf]
  |1=>rw[show (stk ns k).length-2+1=(stk ns k).length-1 by omega];simp[List.getD_eq_getElem?_getD,List.getElem?_eq_getElem (show (stk ns k).length-1<(stk ns k).length by omega),tOf]
  |i+2=>rw[ztU (by omega)];simp
theorem zkj(ha:zaI (zaQ ns k)=1)(hl:1<=(stk ns k).length):∃x:Nat,zch ns k=x/\x<k/\tOf ns k=zbH (ns.getD k .zero) [tOf ns x]:=by
 refine⟨(stk ns k).getD ((stk ns k).length-1) 0,?_,zeS _ _ _ (by omega),?_⟩
 ·rw[zch,ha,zuU (by omega)]
 ·unfold tOf;rw[ha]
  congr 1
  rw[<-zgk ns k,zt3];apply ztL;intro i;rw[ztS,ztW]
  match i with
  |0=>simp[List.getD_eq_getElem?_getD,List.getElem?_eq_getElem (show (stk ns k).length-1<(stk ns k).length by omega),tOf]
  |i+1=>rw[ztU (by omega)];simp
end
section
variable {w w':World}
open Go.RowKit
def zaT(w:World):Value->Pt->Prop
 |v,.set f=>∃mg:Nat,v=.iface 165 (.agg #[.pointer (some ⟨mg,0,none⟩)])/\w.heap[mg]?=some (.cells (zaz f) 213 (0,0))
 |v,.seq l r=>∃lv rv,v=.iface 168 (.agg #[lv,rv])/\zaT w lv l/\zaT w rv r
 |v,.alt l r=>∃lv rv,v=.iface 170 (.agg #[lv,rv])/\zaT w lv l/\zaT w rv r
 |v,.rep b mn mx=>∃lv,v=.iface 172 (.agg #[lv,.int .i64 mn,.int .i64 mx])/\zaT w lv b/\zaY mn mx=true
 |v,.grp b g=>∃lv,v=.iface 175 (.agg #[lv,.int .i64 g])/\zaT w lv b
def zdv(w w':World):Prop:=∀(mg:Nat) (f:Nat->Bool),w.heap[mg]?=some (.cells (zaz f) 213 (0,0))->w'.heap[mg]?=some (.cells (zaz f) 213 (0,0))
theorem zdv.trans{a b c:World}(h:zdv a b)(k:zdv b c):zdv a c:=fun mg f e=>k mg f (h mg f e)
theorem zdv.of(h:Below w.heap.size w w'):zdv w w':=fun mg _ e=>(h.block mg (ztp.1 e).1).trans e
theorem zdv.grown{g:Nat}{cs:Array Value}{t:TypeId}{fr:Nat×Nat}(h:w.grownBy w' (some g))(hg:w.heap[g]?=some (.cells cs t fr))(ht:t≠213):zdv w w':=fun mg f e=>by
 refine(h.block mg (ztp.1 e).1 (fun q=>?_)).trans e;cases q;rw[hg] at e;cases e;exact ht rfl
theorem zaT.keep(hk:zdv w w'):∀(p:Pt) (v:Value),zaT w v p->zaT w' v p
 |.set f,_,⟨mg,h1,h2⟩=>⟨mg,h1,hk mg f h2⟩
 |.seq l r,_,⟨lv,rv,h1,h2,h3⟩=>⟨lv,rv,h1,zaT.keep hk l lv h2,zaT.keep hk r rv h3⟩
 |.alt l r,_,⟨lv,rv,h1,h2,h3⟩=>⟨lv,rv,h1,zaT.keep hk l lv h2,zaT.keep hk r rv h3⟩
 |.rep b _ _,_,⟨lv,h1,h2,h3⟩=>⟨lv,h1,zaT.keep hk b lv h2,h3⟩
 |.grp b _,_,⟨lv,h1,h2⟩=>⟨lv,h1,zaT.keep hk b lv h2⟩
def wPt:Pt->Int
 |.set _=>1
 |.seq l r=>capW (wPt l+wPt r)
 |.alt l r=>capW (wPt l+wPt r)
 |.rep b mn mx=>capW (wPt b*za2 mn mx)
 |.grp b _=>wPt b
end
def zmF(x:GA)(j:Nat):GA:=itr (fun r=>(x.seq r).opt) j (.eps true)
def zhI(x y:GA)(k:Nat):GA:=itr x.seq k y
theorem zpj(p:Pt)(k:Nat):zhI (unf p) (unf p).star k=unf (.rep p k (-1)):=by
 show _=repG (unf p) k (-1);unfold repG;rw[zuV rfl,ztB]
 rfl
theorem zpk(p:Pt)(k j:Nat):zhI (unf p) (zmF (unf p) j) k=unf (.rep p k ((k+j:Nat):Int)):=by
 show _=repG (unf p) k ((k+j:Nat):Int);unfold repG;rw[zuU (by omega),ztB,show (((k+j:Nat):Int)-k).toNat=j from by omega]
 rfl
theorem znC{b:Pt}{imn imx mn mx:Int}(h1:zcU imn imx=true)(h2:zcU mn mx=true):unf (.rep b 0 (if imx<=mx then imx else mx))=unf (.rep (.rep b imn imx) mn mx):=by
 show repG (unf b) 0 (if imx<=mx then imx else mx)=repG (repG (unf b) imn imx) mn mx;unfold zcU at h1 h2;simp only[zuP] at h1 h2;obtain⟨rfl,h1⟩:=h1;obtain⟨rfl,h2⟩:=h2;rcases h1 with rfl|rfl<;>rcases h2 with rfl|rfl
 ·rw[zuV (by omega),ziP,ziP,zmY]
 ·rw[zuU (by omega),zeD,ziP,zeD,zkV]
 ·rw[zuV (by omega),zeD,ziP,zkU]
 ·rw[zuV (by omega),zeD,zeD,zjv]
variable {a b:List Nat}{i n:Nat}{u:Nat -> Bool}
inductive GT where
 |s (p:Nat) (f:Nat->Bool)
 |q (a b:GT)
 |o (a b:GT)
 |st (a:GT)
 |e
def GT.ga:GT->GA
 |.s _ f=>.one f
 |.q a b=>a.ga.seq b.ga
 |.o a b=>a.ga.alt b.ga
 |.st a=>a.ga.star
 |.e=>.eps true
def GT.lab:GT->List Nat
 |.s p _=>[p]
 |.q a b=>a.lab++b.lab
 |.o a b=>a.lab++b.lab
 |.st a=>a.lab
 |.e=>[]
theorem GT.len:∀T:GT,T.lab.length=T.ga.n
 |.s _ _=>rfl
 |.q a b=>by show (a.lab++b.lab).length=a.ga.n+b.ga.n;rw[zt1,a.len,b.len]
 |.o a b=>by show (a.lab++b.lab).length=a.ga.n+b.ga.n;rw[zt1,a.len,b.len]
 |.st a=>a.len
 |.e=>rfl
def GT.at(T:GT)(i:Nat):Nat:=T.lab.getD i 0
theorem zoM(h:i<a.length):(a++b).getD i 0=a.getD i 0:=by simp[List.getD,List.getElem?_append_left h]
theorem zoL(hn:a.length=n)(h:n<=i):(a++b).getD i 0=b.getD (i-n) 0:=by
 subst hn;simp[List.getD,List.getElem?_append_right h]
def finB(m:Nat->Bool):GT->Bool
 |.s p _=>m p
 |.q a b=>finB m b || (finB m a&&b.ga.emp)
 |.o a b=>finB m a || finB m b
 |.st a=>finB m a
 |.e=>false
def shB(m:Nat->Bool)(c:Nat):GT->Bool->Nat->Bool
 |.s p f,g,x=>(x==p)&&(g&&f c)
 |.q a b,g,x=>shB m c a g x || shB m c b ((g&&a.ga.emp) || finB m a) x
 |.o a b,g,x=>shB m c a g x || shB m c b g x
 |.st a,g,x=>shB m c a (g || finB m a) x
 |.e,_,_=>false
theorem zmz{a b:GT}{P:Nat->Prop}{v:Nat->Bool}(hu:∀i,u i=true->i<a.ga.n):(∃i,(u i || (decide (a.ga.n<=i)&&v (i-a.ga.n)))=true/\P ((a.lab++b.lab).getD i 0))↔(∃i,u i=true/\P (a.at i))\/∃i,v i=true/\P (b.at i):=by
 simp only[ztw,ztt,zuP];constructor
 ·rintro ⟨i,h|⟨h0,h⟩,k⟩
  ·rw[zoM (by rw[a.len];exact hu i h)] at k;exact .inl ⟨i,h,k⟩
  ·rw[zoL a.len h0] at k;exact .inr ⟨_,h,k⟩
 ·rintro (⟨i,h,k⟩|⟨i,h,k⟩)
  ·exact⟨i,.inl h,by rw[zoM (by rw[a.len];exact hu i h)];exact k⟩
  ·exact⟨a.ga.n+i,.inr ⟨by omega,by rw[zux];exact h⟩,by rw[zoL a.len (by omega),zux];exact k⟩
theorem zdw(m:Nat->Bool):∀T:GT,finB m T=true↔∃i,T.ga.lst i=true/\m (T.at i)=true
 |.s p f=>by
  show m p=true↔∃i,(i==0)=true/\m ([p].getD i 0)=true;exact⟨fun h=>⟨0,rfl,h⟩,fun⟨i,h,k⟩=>by obtain rfl:i=0:=(by simpa using h);exact k⟩
 |.q a b=>by
  show (finB m b || (finB m a&&b.ga.emp))=true↔∃i,((decide (a.ga.n<=i)&&b.ga.lst (i-a.ga.n)) || (b.ga.emp&&a.ga.lst i))=true/\m ((a.lab++b.lab).getD i 0)=true;have:=zmz (a:=a) (b:=b) (P:=fun x=>m x=true) (u:=fun i=>b.ga.emp&&a.ga.lst i) (v:=b.ga.lst) (fun i h=>a.ga.lstB i (by simp only[ztt] at h;exact h.2));simp only[Bool.or_comm (decide _&&_) _];rw[this,ztw,ztt,zdw m a,zdw m b];constructor
  ·rintro (h|⟨⟨i,h,k⟩,e⟩)
   ·exact .inr h
   ·exact .inl ⟨i,by rw[e,h];rfl,k⟩
  ·rintro (⟨i,h,k⟩|h)
   ·rw[ztt] at h;exact .inr ⟨⟨i,h.2,k⟩,h.1⟩
   ·exact .inl h
 |.o a b=>by
  show (finB m a || finB m b)=true↔∃i,(a.ga.lst i || (decide (a.ga.n<=i)&&b.ga.lst (i-a.ga.n)))=true/\m ((a.lab++b.lab).getD i 0)=true;rw[zmz (a:=a) (b:=b) (P:=fun x=>m x=true) (u:=a.ga.lst) (v:=b.ga.lst) a.ga.lstB,ztw,zdw m a,zdw m b]
 |.st a=>zdw m a
 |.e=>by
  show false=true↔∃i,false=true/\_;simp
def ShP(m:Nat->Bool)(c:Nat)(T:GT)(g:Bool)(x:Nat):Prop:=∃j,T.ga.st j c=true/\x=T.at j/\((g=true/\T.ga.fst j=true)\/∃i,m (T.at i)=true/\T.ga.fol i j=true)
theorem zfv{a b:GT}(h:i<a.ga.n):(a.lab++b.lab).getD i 0=a.at i:=zoM (by rw[a.len];exact h)
theorem zgr{a b:GT}(i:Nat):(a.lab++b.lab).getD (a.ga.n+i) 0=b.at i:=by rw[zoL a.len (by omega),zux];rfl
theorem zju(hu:∀i,u i=true->i<n):u (n+i)=false:=by
 cases h:u (n+i)
 ·rfl
 ·have:=hu _ h;omega
theorem zd4(n j:Nat):j<n\/∃k,j=n+k:=by
 rcases zuC j n with h|h
 ·exact .inl h
 ·exact .inr ⟨j-n,by omega⟩
theorem zhb(m:Nat->Bool)(c:Nat):∀(T:GT) (g:Bool) (x:Nat),shB m c T g x=true↔ShP m c T g x
 |.s p f,g,x=>by
  show ((x==p)&&(g&&f c))=true↔∃j,((j==0)&&f c)=true/\x=[p].getD j 0/\((g=true/\(j==0)=true)\/∃i,m ([p].getD i 0)=true/\false=true);simp only[ztt,beq_iff_eq,Bool.false_eq_true,and_false,exists_false,or_false];constructor
  ·rintro ⟨rfl,hg,hc⟩;exact⟨0,⟨rfl,hc⟩,rfl,hg,rfl⟩
  ·rintro ⟨j,⟨rfl,hc⟩,hx,hg,-⟩;exact⟨hx,hg,hc⟩
 |.q a b,g,x=>by
  show (shB m c a g x || shB m c b ((g&&a.ga.emp) || finB m a) x)=true↔_;rw[ztw,zhb m c a,zhb m c b];constructor
  ·rintro (⟨j,h1,h2,h3⟩|⟨j,h1,h2,h3⟩)
   ·have hj:=a.ga.stB j c h1;refine⟨j,?_,?_,?_⟩
    ·show (a.ga.st j c || _)=true;rw[h1,ztz]
    ·show x=(a.lab++b.lab).getD j 0;rw[zfv hj];exact h2
    ·rcases h3 with ⟨e1,e2⟩|⟨i,e1,e2⟩
     ·left;refine⟨e1,?_⟩;show (a.ga.fst j || _)=true;rw[e2,ztz]
     ·right;refine⟨i,?_,?_⟩
      ·show m ((a.lab++b.lab).getD i 0)=true;rw[zfv (a.ga.folB i j e2).1];exact e1
      ·show (a.ga.fol i j || _ || _)=true;rw[e2,ztz,ztz]
   ·have hj:=b.ga.stB j c h1;refine⟨a.ga.n+j,?_,?_,?_⟩
    ·show (a.ga.st (a.ga.n+j) c || (decide (a.ga.n<=a.ga.n+j)&&b.ga.st (a.ga.n+j-a.ga.n) c))=true;rw[zux,h1];simp
    ·show x=(a.lab++b.lab).getD (a.ga.n+j) 0;rw[zgr];exact h2
    ·rcases h3 with ⟨e1,e2⟩|⟨i,e1,e2⟩
     ·rw[ztw,ztt,zdw] at e1;rcases e1 with ⟨e1,e3⟩|⟨i,e1,e3⟩
      ·left;refine⟨e1,?_⟩
       show (a.ga.fst (a.ga.n+j) || (a.ga.emp&&(decide (a.ga.n<=a.ga.n+j)&&b.ga.fst (a.ga.n+j-a.ga.n))))=true;rw[zux,e2,e3];simp
      ·right;refine⟨i,?_,?_⟩
       ·show m ((a.lab++b.lab).getD i 0)=true;rw[zfv (a.ga.lstB i e1)];exact e3
       ·show (a.ga.fol i (a.ga.n+j) || (decide (a.ga.n<=i)&&(decide (a.ga.n<=a.ga.n+j)&&b.ga.fol (i-a.ga.n) (a.ga.n+j-a.ga.n))) || (a.ga.lst i&&(decide (a.ga.n<=a.ga.n+j)&&b.ga.fst (a.ga.n+j-a.ga.n))))=true;rw[e1,zux,e2];simp
     ·right;refine⟨a.ga.n+i,?_,?_⟩
      ·show m ((a.lab++b.lab).getD (a.ga.n+i) 0)=true;rw[zgr];exact e1
      ·show (a.ga.fol (a.ga.n+i) (a.ga.n+j) || (decide (a.ga.n<=a.ga.n+i)&&(decide (a.ga.n<=a.ga.n+j)&&b.ga.fol (a.ga.n+i-a.ga.n) (a.ga.n+j-a.ga.n))) || _)=true;rw[zux,zux,e2];simp
  ·rintro ⟨j,h1,h2,h3⟩;replace h1:(a.ga.st j c || (decide (a.ga.n<=j)&&b.ga.st (j-a.ga.n) c))=true:=h1;replace h2:x=(a.lab++b.lab).getD j 0:=h2;replace h3:(g=true/\(a.ga.fst j || (a.ga.emp&&(decide (a.ga.n<=j)&&b.ga.fst (j-a.ga.n))))=true)\/∃i,m ((a.lab++b.lab).getD i 0)=true/\(a.ga.fol i j || (decide (a.ga.n<=i)&&(decide (a.ga.n<=j)&&b.ga.fol (i-a.ga.n) (j-a.ga.n))) || (a.ga.lst i&&(decide (a.ga.n<=j)&&b.ga.fst (j-a.ga.n))))=true:=h3;rcases zd4 a.ga.n j with hj|⟨k,rfl⟩
   ·left
    simp only[show ¬a.ga.n<=j from by omega,decide_false,Bool.false_and,Bool.and_false,ztx] at h1 h3;rw[zfv hj] at h2;refine⟨j,h1,h2,h3.imp id ?_⟩;rintro ⟨i,e1,e2⟩;rw[zfv (a.ga.folB i j e2).1] at e1;exact⟨i,e1,e2⟩
   ·right
    have z1:a.ga.st (a.ga.n+k) c=false:=zju (u:=fun i=>a.ga.st i c) fun i h=>a.ga.stB i c h
    have z2:a.ga.fst (a.ga.n+k)=false:=zju a.ga.fstB;have z3:∀i,a.ga.fol i (a.ga.n+k)=false:=fun i=>zju (u:=a.ga.fol i) fun j h=>(a.ga.folB i j h).2
    simp only[zux,z1,z2,z3,Bool.false_or,show a.ga.n<=a.ga.n+k from by omega,decide_true,zty,ztt,ztw,zuP] at h1 h3;rw[zgr] at h2;refine⟨k,h1,h2,?_⟩;rcases h3 with ⟨e1,e2,e3⟩|⟨i,e1,⟨e2,e3⟩|⟨e2,e3⟩⟩
    ·exact .inl ⟨by rw[e1,e2];rfl,e3⟩
    ·obtain⟨t,rfl⟩:∃t,i=a.ga.n+t:=⟨i-a.ga.n,by omega⟩;rw[zgr] at e1;rw[zux] at e3;exact .inr ⟨t,e1,e3⟩
    ·refine .inl ⟨?_,e3⟩;rw[zfv (a.ga.lstB i e2)] at e1;rw[(zdw m a).2 ⟨i,e2,e1⟩,Bool.or_true]
 |.o a b,g,x=>by
  show (shB m c a g x || shB m c b g x)=true↔_;rw[ztw,zhb m c a,zhb m c b];constructor
  ·rintro (⟨j,h1,h2,h3⟩|⟨j,h1,h2,h3⟩)
   ·have hj:=a.ga.stB j c h1;refine⟨j,?_,?_,?_⟩
    ·show (a.ga.st j c || _)=true;rw[h1,ztz]
    ·show x=(a.lab++b.lab).getD j 0;rw[zfv hj];exact h2
    ·rcases h3 with ⟨e1,e2⟩|⟨i,e1,e2⟩
     ·left;refine⟨e1,?_⟩;show (a.ga.fst j || _)=true;rw[e2,ztz]
     ·right;refine⟨i,?_,?_⟩
      ·show m ((a.lab++b.lab).getD i 0)=true;rw[zfv (a.ga.folB i j e2).1];exact e1
      ·show (a.ga.fol i j || _)=true;rw[e2,ztz]
   ·have hj:=b.ga.stB j c h1;refine⟨a.ga.n+j,?_,?_,?_⟩
    ·show (a.ga.st (a.ga.n+j) c || (decide (a.ga.n<=a.ga.n+j)&&b.ga.st (a.ga.n+j-a.ga.n) c))=true;rw[zux,h1];simp
    ·show x=(a.lab++b.lab).getD (a.ga.n+j) 0;rw[zgr];exact h2
    ·rcases h3 with ⟨e1,e2⟩|⟨i,e1,e2⟩
     ·left;refine⟨e1,?_⟩
      show (a.ga.fst (a.ga.n+j) || (decide (a.ga.n<=a.ga.n+j)&&b.ga.fst (a.ga.n+j-a.ga.n)))=true;rw[zux,e2];simp
     ·right;refine⟨a.ga.n+i,?_,?_⟩
      ·show m ((a.lab++b.lab).getD (a.ga.n+i) 0)=true;rw[zgr];exact e1
      ·show (a.ga.fol (a.ga.n+i) (a.ga.n+j) || (decide (a.ga.n<=a.ga.n+i)&&(decide (a.ga.n<=a.ga.n+j)&&b.ga.fol (a.ga.n+i-a.ga.n) (a.ga.n+j-a.ga.n))))=true;rw[zux,zux,e2];simp
  ·rintro ⟨j,h1,h2,h3⟩;replace h1:(a.ga.st j c || (decide (a.ga.n<=j)&&b.ga.st (j-a.ga.n) c))=true:=h1;replace h2:x=(a.lab++b.lab).getD j 0:=h2;replace h3:(g=true/\(a.ga.fst j || (decide (a.ga.n<=j)&&b.ga.fst (j-a.ga.n)))=true)\/∃i,m ((a.lab++b.lab).getD i 0)=true/\(a.ga.fol i j || (decide (a.ga.n<=i)&&(decide (a.ga.n<=j)&&b.ga.fol (i-a.ga.n) (j-a.ga.n))))=true:=h3;rcases zd4 a.ga.n j with hj|⟨k,rfl⟩
   ·left
    simp only[show ¬a.ga.n<=j from by omega,decide_false,Bool.false_and,Bool.and_false,ztx] at h1 h3;rw[zfv hj] at h2;refine⟨j,h1,h2,h3.imp id ?_⟩;rintro ⟨i,e1,e2⟩;rw[zfv (a.ga.folB i j e2).1] at e1;exact⟨i,e1,e2⟩
   ·right
    have z1:a.ga.st (a.ga.n+k) c=false:=zju (u:=fun i=>a.ga.st i c) fun i h=>a.ga.stB i c h
    have z2:a.ga.fst (a.ga.n+k)=false:=zju a.ga.fstB;have z3:∀i,a.ga.fol i (a.ga.n+k)=false:=fun i=>zju (u:=a.ga.fol i) fun j h=>(a.ga.folB i j h).2
    simp only[zux,z1,z2,z3,Bool.false_or,show a.ga.n<=a.ga.n+k from by omega,decide_true,zty,ztt,zuP] at h1 h3;rw[zgr] at h2;refine⟨k,h1,h2,?_⟩;rcases h3 with e1|⟨i,e1,e2,e3⟩
    ·exact .inl e1
    ·obtain⟨t,rfl⟩:∃t,i=a.ga.n+t:=⟨i-a.ga.n,by omega⟩;rw[zgr] at e1;rw[zux] at e3;exact .inr ⟨t,e1,e3⟩
 |.st a,g,x=>by
  show shB m c a (g || finB m a) x=true↔_;rw[zhb m c a];constructor
  ·rintro ⟨j,h1,h2,h3⟩;refine⟨j,h1,h2,?_⟩;rcases h3 with ⟨e1,e2⟩|⟨i,e1,e2⟩
   ·rw[ztw,zdw] at e1;rcases e1 with e1|⟨i,e1,e3⟩
    ·exact .inl ⟨e1,e2⟩
    ·refine .inr ⟨i,e3,?_⟩;show (a.ga.fol i j || (a.ga.lst i&&a.ga.fst j))=true;rw[e1,e2];simp
   ·refine .inr ⟨i,e1,?_⟩;show (a.ga.fol i j || _)=true;rw[e2,ztz]
  ·rintro ⟨j,h1,h2,h3⟩;refine⟨j,h1,h2,?_⟩;rcases h3 with ⟨e1,e2⟩|⟨i,e1,e2⟩
   ·exact .inl ⟨by rw[e1,ztz],e2⟩
   ·replace e2:(a.ga.fol i j || (a.ga.lst i&&a.ga.fst j))=true:=e2;rw[ztw,ztt] at e2;rcases e2 with e2|⟨e2,e3⟩
    ·exact .inr ⟨i,e1,e2⟩
    ·exact .inl ⟨by rw[(zdw m a).2 ⟨i,e2,e1⟩,Bool.or_true],e3⟩
 |.e,g,x=>by
  show false=true↔∃j,false=true/\_;simp
end Go.Proofs.YthddplbodacjgaaGreatDoor
