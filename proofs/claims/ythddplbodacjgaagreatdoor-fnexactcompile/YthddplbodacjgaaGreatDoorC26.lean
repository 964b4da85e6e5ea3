import Derived.Test.YthddplbodacjgaaGreatDoorC25
namespace Go.Proofs.YthddplbodacjgaaGreatDoor
set_option maxHeartbeats 8000000
set_option maxRecDepth 100000
open Go.RowKit
section
def zcR(n:Nat)(tr:Nat->Tr):Array Value:=((List.range n).flatMap fun s=>(trC (tr s)).toList).toArray
theorem zjq{α:Type}(f:Nat->List α)(k:Nat)(hf:∀s,(f s).length=k):∀(n s i:Nat),s<n->i<k->((List.range n).flatMap f)[s*k+i]?=(f s)[i]?
 |0,s,_,h,_=>absurd h (zuI _)
 |n+1,s,i,h,hi=>by
  have hl:((List.range n).flatMap f).length=n*k:=by
   clear h
   induction n with
   |zero=>simp
   |succ n ih=>rw[zun,List.flatMap_append,zt1,ih];simp[hf,Nat.succ_mul]
  rw[zun,List.flatMap_append]
  by_cases e:s=n
  ·subst e;rw[ztR (by omega),hl,show s*k+i-s*k=i by omega];simp
  ·have h2:s*k+i<n*k:=by
    have:=zuH k (show s+1<=n by omega);rw[zuJ] at this;omega
   rw[ztQ (by omega)];exact zjq f k hf n s i (by omega) hi
theorem zkm(n:Nat)(tr:Nat->Tr){s i:Nat}(hs:s<n)(hi:i<5):(zcR n tr)[s*5+i]?=(trC (tr s))[i]?:=by
 unfold zcR;rw[ztZ,zjq _ 5 (fun _=>rfl) n s i hs hi,Array.getElem?_toList]
theorem zfk{W:World}{g n:Nat}{tr:Nat->Tr}(h:W.heap[g]?=some (.cells (zcR n tr) 192 (0,0))){s:Nat}(hs:s<n):W.cell? ⟨g,s*5,none⟩=some (.int .u64 ((tr s).1:Int))/\W.cell? ⟨g,s*5+1,none⟩=some (.int .u64 ((tr s).2.1:Int))/\W.cell? ⟨g,s*5+2,none⟩=some (.int .u64 ((tr s).2.2.1:Int))/\W.cell? ⟨g,s*5+3,none⟩=some (.int .u64 ((tr s).2.2.2.1:Int))/\W.cell? ⟨g,s*5+4,none⟩=some (.int .u64 ((tr s).2.2.2.2:Int)):=by
 have key:∀i,i<5->W.cell? ⟨g,s*5+i,none⟩=(trC (tr s))[i]?:=fun i hi=>by rw[zuO _ _ _ _ _ _ h,zkm n tr hs hi]
 exact⟨key 0 (by omega),key 1 (by omega),key 2 (by omega),key 3 (by omega),key 4 (by omega)⟩
theorem Fam.newNil{gt n:Nat}{W:World}{v:Nat->Value}{l:Nat->List Int}(h:Fam gt n W v l):Fam gt (n+1) W (upd v n (.slice none 0 0)) (updL l n []):=by
 refine⟨fun i hi=>?_,fun i j hi hj hne b hb=>?_⟩
 ·by_cases e:i=n
  ·subst e;rw[zaH,zar];exact⟨rfl,.inl ⟨rfl,rfl⟩⟩
  ·rw[zaD _ _ e,zaf _ _ e];exact h.own i (by omega)
 ·by_cases e:i=n
  ·subst e;rw[zaH] at hb;simp[Value.ownBlock] at hb
  ·rw[zaD _ _ e] at hb
   by_cases e2:j=n
   ·subst e2;rw[zaH];simp[Value.ownBlock]
   ·rw[zaD _ _ e2];exact h.apart i j (by omega) (by omega) hne b hb
section
variable {gt:Nat} {W W':World} {p:Nat} {mv:Value} {m:Nat} {mi:Nat->Nat} {v:Nat->Value} {l:Nat->List Int} {N:Nat} {o wk:List Nat} {mem:Nat->List Nat}
theorem PtS.newNil(h:PtS gt W p mv m mi v l N o wk mem):PtS gt W p mv m mi (upd v N (.slice none 0 0)) (updL l N []) (N+1) o wk mem:=by
 have h2:=h.two;refine⟨h.fam.newNil,by omega,by rw[zaD _ _ (by omega),zaD _ _ (by omega)];exact h.box,h.pge,?_,fun x hx=>⟨(h.idx x hx).1,by have:=(h.idx x hx).2;omega⟩,by rw[zaf _ _ (by omega)];exact h.l0,by rw[zaf _ _ (by omega)];exact h.l1,fun x hx=>by rw[zaf _ _ (by have:=(h.idx x hx).2;omega)];exact h.lm x hx⟩;rw[zdK (v':=v) (mi':=mi) (fun x hx=>zaD _ _ (by have:=(h.idx x hx).2;omega))];exact h.out
theorem PtS.far(h:PtS gt W p mv m mi v l N o wk mem){g:Nat}(hg:W.grownBy W' (some g))(hF:∀cs,W.heap[g]?≠some (.cells cs 3 (0,0)))(hB:∀cs,W.heap[g]?≠some (.cells cs 187 (0,0)))(hO:mv.ownBlock≠some g):PtS gt W' p mv m mi v l N o wk mem:=by
 refine⟨h.fam.keepO fun i hi b hb=>?_,h.two,(hg.block p (zae h.box) (fun e=>?_)).trans h.box,h.pge,⟨h.out.1,?_⟩,h.idx,h.l0,h.l1,h.lm⟩
 ·obtain⟨cs,hc⟩:=za9 (h.fam.own i hi) hb;exact hg.block b (zae hc) (fun e=>by cases e;exact hF _ hc)
 ·have e2:p=g:=Option.some.inj e;exact hB _ (e2 ▸ h.box)
 ·rcases h.out.2 with k|⟨g',cap,cur,hv,h1,hh,r⟩
  ·exact .inl k
  ·refine .inr ⟨g',cap,cur,hv,h1,(hg.block g' (zae hh) (fun e=>?_)).trans hh,r⟩;apply hO;rw[hv,<-e]
   rfl
end
def gvL(v:Nat->Value)(N q:Nat):List Value:=(List.range q).map fun j=>v (N+j)
theorem zgD(v:Nat->Value)(N q:Nat):(gvL v N q).length=q:=by simp[gvL]
theorem zgC(v:Nat->Value)(N:Nat){q j:Nat}(h:j<q):(gvL v N q)[j]?=some (v (N+j)):=by simp[gvL,h]
theorem zqD(v:Nat->Value)(N q:Nat):gvL v N (q+1)=gvL v N q++[v (N+q)]:=by simp[gvL,List.range_succ]
theorem zoz{v v':Nat->Value}{N q:Nat}(h:∀j,j<q->v (N+j)=v' (N+j)):gvL v N q=gvL v' N q:=zua fun j hj=>h j (by simpa using hj)
theorem zsi(v:Nat->Value)(N q j:Nat)(u:Value):(gvL v N q).set j u=gvL (upd v (N+j) u) N q:=by
 apply ztL
 intro i;rw[ztX]
 by_cases hi:i<q
 ·rw[zgC v N hi,zgC _ N hi,zgD]
  by_cases e:j=i
  ·subst e;rw[zuV rfl,zuV hi,zaH]
  ·rw[zuU e,zaD _ _ (by omega)]
 ·have h1:∀f:Nat->Value,(gvL f N q)[i]?=none:=fun f=>ztU (by rw[zgD];omega)
  rw[h1,h1,zgD]
  by_cases e:j=i
  ·rw[zuV e,zuU (by omega)]
  ·rw[zuU e]
def zbL(o:List Nat)(tr:Nat->Tr)(s:Nat):Tr:=(o.getD s 0,(tr s).2)
def zaL(o:List Nat)(tr:Nat->Tr)(xs:List Nat):List Tr:=xs.foldl (fun ks s=>addR ks (zbL o tr s)) []
theorem zgL(o:List Nat)(tr:Nat->Tr)(xs:List Nat)(s:Nat):zaL o tr (xs++[s])=addR (zaL o tr xs) (zbL o tr s):=by simp[zaL]
def grpF(o:List Nat)(tr:Nat->Tr)(xs:List Nat)(k:Tr):List Nat:=xs.filter fun s=>decide (zbL o tr s=k)
theorem zjx(o:List Nat)(tr:Nat->Tr)(xs:List Nat)(s:Nat)(k:Tr):grpF o tr (xs++[s]) k=if zbL o tr s=k then grpF o tr xs k++[s] else grpF o tr xs k:=by
 unfold grpF;rw[List.filter_append]
 by_cases h:zbL o tr s=k
 ·rw[zuV h];simp[h]
 ·rw[zuU h];simp[h]
theorem zbI{o:List Nat}{tr:Nat->Tr}{xs:List Nat}{k:Tr}{s:Nat}:s∈grpF o tr xs k↔s∈xs/\zbL o tr s=k:=by simp[grpF]
theorem zqe{κ:Type} [DecidableEq κ] {ks:List κ}{k x:κ}:x∈addR ks k↔x∈ks\/x=k:=by
 unfold addR;split
 ·rename_i h
  exact⟨.inl,fun e=>e.elim id (fun e=>e ▸ h)⟩
 ·simp
theorem zez{o:List Nat}{tr:Nat->Tr}{k:Tr}:∀{xs:List Nat},k∈zaL o tr xs↔∃s∈xs,zbL o tr s=k:=by
 have key:∀(xs:List Nat) (ks:List Tr),k∈xs.foldl (fun ks s=>addR ks (zbL o tr s)) ks↔k∈ks\/∃s∈xs,zbL o tr s=k:=by
  intro xs
  induction xs with
  |nil=>intro ks;simp
  |cons x xs ih=>
   intro ks;rw[List.foldl_cons,ih,zqe];constructor
   ·rintro ((h|h)|⟨s,h1,h2⟩)
    ·exact .inl h
    ·exact .inr ⟨x,by simp,h.symm⟩
    ·exact .inr ⟨s,by simp[h1],h2⟩
   ·rintro (h|⟨s,h1,h2⟩)
    ·exact .inl (.inl h)
    ·rcases zud.1 h1 with e|e
     ·subst e;exact .inl (.inr h2.symm)
     ·exact .inr ⟨s,e,h2⟩
 intro xs;unfold zaL;rw[key];simp
theorem zmG{κ:Type} [DecidableEq κ] {ks:List κ}{k:κ}(h:ks.Nodup):(addR ks k).Nodup:=by
 unfold addR;split
 ·exact h
 ·rename_i hk
  rw[zuk];exact⟨h,by simp,fun a ha b hb e=>by simp at hb;subst hb;exact hk (e ▸ ha)⟩
theorem zfQ(o:List Nat)(tr:Nat->Tr)(xs:List Nat):(zaL o tr xs).Nodup:=by
 have key:∀(xs:List Nat) (ks:List Tr),ks.Nodup->(xs.foldl (fun ks s=>addR ks (zbL o tr s)) ks).Nodup:=by
  intro xs
  induction xs with
  |nil=>intro ks h;exact h
  |cons x xs ih=>intro ks h;exact ih _ (zmG h)
 exact key xs [] List.nodup_nil
end
section
theorem zcp{cs:Array Value}{e:TypeId}{f:Nat×Nat}{es:Array MapEntry}{c:Nat}(h:some (Obj.cells cs e f)=some (Obj.map es c)):False:=by injection h with h;cases h
theorem PrK.fresh{gt g:Nat}{w W W':World}(h:PrK gt g w W)(hs:gt+1<=w.heap.size){q:Nat}(hg:W.grownBy W' (some q))(hq:w.heap.size<=q):PrK gt g w W':=
 ⟨h.below.grown hg (zuA hs h.below.size) (fun _ hb=>by cases hb;omega),fun b cs e h1 h2 h3 hb=>by
  have hl:=zae hb;have hb':=h.kp b cs e h1 h2 h3 hb;exact(hg.block b (zae hb') (fun e2=>by cases e2;omega)).trans hb'⟩
structure CuG(gt:Nat)(w:World)(p m gmv cm:Nat)(mi:Nat->Nat)(v0:Nat->Value)(l0:Nat->List Int)(N:Nat)(o wk:List Nat)(mem:Nat->List Nat)(rM:Nat)(K:List Tr)(G:Nat->List Nat)(g c:Nat)(v:Nat->Value)(l:Nat->List Int)(W:World):Prop where
 pt:PtS gt W p (.slice (some ⟨gmv,0,none⟩) m cm) m mi v l (N+K.length) o wk mem
 map:W.heap[rM]?=some (.map (regE trV K) K.length)
 out:W.ownsRow (gt+1) 24 1 (.slice (some ⟨g,0,none⟩) K.length c) K.length (gvL v N K.length)
 new:w.heap.size<=g
 newM:w.heap.size<=rM
 gl:gmv<w.heap.size
 ws:gt+1<=w.heap.size
 two:2<=N
 low:∀x,x<m->mi x<N
 old:∀i,i<N->v i=v0 i/\l i=l0 i
 grp:∀j,j<K.length->l (N+j)=zav (G j)
 kept:PrK gt gmv w W
section
variable {gt:Nat} {w:World} {p m gmv cm:Nat} {mi:Nat->Nat} {v0:Nat->Value} {l0:Nat->List Int} {N:Nat} {o wk:List Nat} {mem:Nat->List Nat} {rM:Nat} {K:List Tr} {G:Nat->List Nat} {g c:Nat} {v:Nat->Value} {l:Nat->List Int} {W W':World}
theorem CuG.on(h:CuG gt w p m gmv cm mi v0 l0 N o wk mem rM K G g c v l W)(hb:Below W.heap.size W W'):CuG gt w p m gmv cm mi v0 l0 N o wk mem rM K G g c v l W':=
 ⟨h.pt.on hb,zab h.map hb,zad h.out hb,h.new,h.newM,h.gl,h.ws,h.two,h.low,h.old,h.grp,h.kept.on h.pt.size hb⟩
theorem CuG.far(h:CuG gt w p m gmv cm mi v0 l0 N o wk mem rM K G g c v l W)(hg:W.grownBy W' (some rM)):PtS gt W' p (.slice (some ⟨gmv,0,none⟩) m cm) m mi v l (N+K.length) o wk mem/\W'.ownsRow (gt+1) 24 1 (.slice (some ⟨g,0,none⟩) K.length c) K.length (gvL v N K.length)/\PrK gt gmv w W':=by
 have hm:=h.map;refine⟨h.pt.far hg (fun cs e=>zcp (e.symm.trans hm)) (fun cs e=>zcp (e.symm.trans hm)) ?_,?_,h.kept.fresh h.ws hg h.newM⟩
 ·have:=h.gl;have:=h.newM;simp[Value.ownBlock];omega
 ·exact za6 h.out fun b cs hb=>(hg.block b (zae hb) (fun e=>by cases e;exact zcp (hb.symm.trans hm))).trans hb
theorem CuG.num(h:CuG gt w p m gmv cm mi v0 l0 N o wk mem rM K G g c v l W)(hg:W.grownBy W' (some rM))(hm:W'.heap[rM]?=some (.map (regE trV K) K.length)):CuG gt w p m gmv cm mi v0 l0 N o wk mem rM K G g c v l W':=by
 obtain⟨a,b,d⟩:=h.far hg;exact⟨a,hm,b,h.new,h.newM,h.gl,h.ws,h.two,h.low,h.old,h.grp,d⟩
theorem CuG.more(h:CuG gt w p m gmv cm mi v0 l0 N o wk mem rM K G g c v l W){W5:World}{kd:Tr}{g' c':Nat}(hg:W.grownBy W' (some rM))(hm:W'.heap[rM]?=some (.map (regE trV (K++[kd])) (K++[kd]).length))(ho:W5.ownsRow (gt+1) 24 1 (.slice (some ⟨g',0,none⟩) (K.length+1) c') (K.length+1) (gvL v N K.length++[.slice none 0 0]))(hg5:W'.grownBy W5 (some g))(hat:g'=g\/w.heap.size<=g'):
  CuG gt w p m gmv cm mi v0 l0 N o wk mem rM (K++[kd]) (fun j=>if j=K.length then [] else G j) g' c' (upd v (N+K.length) (.slice none 0 0)) (updL l (N+K.length) []) W5:=by
 obtain⟨a,b,d⟩:=h.far hg;obtain⟨cur,hc⟩:=zbo b;have hgl:=h.gl;have hnew:=h.new;have hP5:PtS gt W5 p (.slice (some ⟨gmv,0,none⟩) m cm) m mi v l (N+K.length) o wk mem:=a.far hg5 (fun cs e=>absurd (zap (hc.symm.trans e)) (by decide)) (fun cs e=>absurd (zap (hc.symm.trans e)) (by decide)) (by simp[Value.ownBlock];omega);have hl:(K++[kd]).length=K.length+1:=by simp
 refine⟨?_,?_,?_,by rcases hat with k|k<;>omega,h.newM,hgl,h.ws,h.two,h.low,fun i hi=>?_,fun j hj=>?_,d.fresh h.ws hg5 hnew⟩
 ·rw[hl];exact hP5.newNil
 ·refine(hg5.block rM (zae hm) (fun e=>?_)).trans hm;cases e;exact zcp (hc.symm.trans hm)
 ·rw[hl,zqD,zaH,zoz (v':=v) (fun j hj=>zaD _ _ (by omega))];exact ho
 ·rw[zaD _ _ (by omega),zaf _ _ (by omega)];exact h.old i hi
 ·rw[hl] at hj
  by_cases e:j=K.length
  ·subst e;rw[zar];simp[zav]
  ·rw[zaf _ _ (by omega)];simp only[zuU e];exact h.grp j (by omega)
theorem CuG.app(h:CuG gt w p m gmv cm mi v0 l0 N o wk mem rM K G g c v l W){j s:Nat}(hj:j<K.length){u:Value}(hF:Fam gt (N+K.length) W' (upd v (N+j) u) (updL l (N+j) (zav (G j)++[(s:Int)])))(hg:W.grownBy W' (v (N+j)).ownBlock):
  W'.cell? ⟨g,j,none⟩=some (v (N+j))/\W'.frozen? ⟨g,j,none⟩=false/\CuG gt w p m gmv cm mi v0 l0 N o wk mem rM K (fun i=>if i=j then G j++[s] else G i) g c (upd v (N+j) u) (updL l (N+j) (zav (G j)++[(s:Int)])) (W'.setCell ⟨g,j,none⟩ u):=by
 have h2:=h.two;have hgl:=h.gl;have hnew:=h.new;have hP1:=h.pt.row (i:=N+j) (by omega) (by omega) (fun x hx=>by have:=h.low x hx;omega) hF hg;have ho:=zdL h.pt.fam (i:=N+j) (by omega) hg h.out;obtain⟨cur,hc⟩:=zbo ho;have hcell:=ho.cellAt j (by omega);rw[zgC v N hj] at hcell;have hgs:=zaX W' g j u;have hP2:PtS gt (W'.setCell ⟨g,j,none⟩ u) p (.slice (some ⟨gmv,0,none⟩) m cm) m mi (upd v (N+j) u) (updL l (N+j) (zav (G j)++[(s:Int)])) (N+K.length) o wk mem:=hP1.far hgs (fun cs e=>absurd (zap (hc.symm.trans e)) (by decide)) (fun cs e=>absurd (zap (hc.symm.trans e)) (by decide)) (by simp[Value.ownBlock];omega);have hm1:W'.heap[rM]?=some (.map (regE trV K) K.length):=(hg.block rM (zae h.map) (fun e=>by
  obtain⟨cs,hcs⟩:=za9 (h.pt.fam.own (N+j) (by omega)) e.symm;exact zcp (hcs.symm.trans h.map))).trans h.map
 refine⟨hcell,zuQ _ _ j _ _ hc,hP2,?_,?_,hnew,h.newM,hgl,h.ws,h2,h.low,fun i hi=>?_,fun i hi=>?_,(h.kept.fam h.pt.size h.pt.fam (i:=N+j) (by omega) hg).fresh h.ws hgs hnew⟩
 ·refine(hgs.block rM (zae hm1) (fun e=>?_)).trans hm1;cases e;exact zcp (hc.symm.trans hm1)
 ·have:=(ho.stored j u).1;rw[zsi] at this;exact this
 ·rw[zaD _ _ (by omega),zaf _ _ (by omega)];exact h.old i hi
 ·by_cases e:i=j
  ·subst e;rw[zar];simp[zav]
  ·rw[zaf _ _ (by omega)];simp only[zuU e];exact h.grp i hi
end
end
variable {gt p m gmv cm N s:Nat}{mi:Nat -> Nat}{o wk ys:List Nat}{mem:Nat -> List Nat}{v:Nat -> Value}{l:Nat -> List Int}{ks:List Tr}{tr:Nat -> Tr}
attribute [local go_sem ↓] Go.wp_at_zero Go.wp_at_succ
theorem CuG.congr{w:World}{v0:Nat->Value}{l0:Nat->List Int}{rM:Nat}{K K':List Tr}{G G':Nat->List Nat}{g c:Nat}{W:World}(h:CuG gt w p m gmv cm mi v0 l0 N o wk mem rM K G g c v l W)(hK:K=K')(hG:∀j,j<K.length->G j=G' j):CuG gt w p m gmv cm mi v0 l0 N o wk mem rM K' G' g c v l W:=by
 subst hK;exact {h with grp:=fun j hj=>by rw[<-hG j hj];exact h.grp j hj}
def kz:Tr:=(0,0,0,0,0)
def grpJ(o:List Nat)(tr:Nat->Tr)(ys:List Nat)(j:Nat):List Nat:=grpF o tr ys ((zaL o tr ys).getD j kz)
theorem zsh(o:List Nat)(tr:Nat->Tr)(ys:List Nat)(k:Tr):(grpF o tr ys k).length<=ys.length:=List.length_filter_le _ _
theorem zej{k:Tr}(h:k∈ks):ks.getD (idxR ks k) kz=k:=by rw[ztO,zqH h];rfl
theorem zh3(h:ks.Nodup){i j:Nat}(hi:i<ks.length)(hj:j<ks.length)(e:ks.getD i kz=ks.getD j kz):i=j:=by
 rw[ztO,ztT hi,ztO,ztT hj] at e;have hp:=List.pairwise_iff_getElem.1 h;simp only[Option.getD_some] at e;rcases zuD i j with k|k|k
 ·exact absurd e (hp i j hi hj k)
 ·exact k
 ·exact absurd e.symm (hp j i hj hi k)
theorem zhV(o:List Nat)(tr:Nat->Tr)(xs:List Nat):(zaL o tr xs).length<=xs.length:=by
 have key:∀(xs:List Nat) (ks:List Tr),(xs.foldl (fun ks s=>addR ks (zbL o tr s)) ks).length<=ks.length+xs.length:=by
  intro xs
  induction xs with
  |nil=>intro ks;simp
  |cons x xs ih=>
   intro ks;have h1:=ih (addR ks (zbL o tr x));have h2:(addR ks (zbL o tr x)).length<=ks.length+1:=by unfold addR;split<;>simp
   simp only[List.foldl_cons,zt2];omega
 have:=key xs []
 simpa [zaL] using this
theorem zqA{o:List Nat}{tr:Nat->Tr}{ys:List Nat}{s:Nat}(hk:zbL o tr s∈zaL o tr ys):zaL o tr (ys++[s])=zaL o tr ys/\∀i,i<(zaL o tr ys).length->(if i=idxR (zaL o tr ys) (zbL o tr s) then grpJ o tr ys (idxR (zaL o tr ys) (zbL o tr s))++[s] else grpJ o tr ys i)=grpJ o tr (ys++[s]) i:=by
 have e:zaL o tr (ys++[s])=zaL o tr ys:=by rw[zgL];unfold addR;rw[zuV hk]
 refine⟨e,fun i hi=>?_⟩;unfold grpJ;rw[e,zjx]
 by_cases ei:i=idxR (zaL o tr ys) (zbL o tr s)
 ·subst ei;rw[zuV rfl,zuV (zej hk).symm]
 ·rw[zuU ei,zuU (fun h=>ei (zh3 (zfQ o tr ys) hi (zcr.2 hk) (by rw[zej hk];exact h.symm)))]
theorem zqz{o:List Nat}{tr:Nat->Tr}{ys:List Nat}{s:Nat}(hk:zbL o tr s∉zaL o tr ys):zaL o tr (ys++[s])=zaL o tr ys++[zbL o tr s]/\∀i,i<(zaL o tr ys).length+1->(if i=(zaL o tr ys).length then []++[s] else grpJ o tr ys i)=grpJ o tr (ys++[s]) i:=by
 have e:zaL o tr (ys++[s])=zaL o tr ys++[zbL o tr s]:=by rw[zgL];unfold addR;rw[zuU hk]
 refine⟨e,fun i hi=>?_⟩;unfold grpJ;rw[e,zjx]
 by_cases ei:i=(zaL o tr ys).length
 ·subst ei;have hg:(zaL o tr ys++[zbL o tr s]).getD (zaL o tr ys).length kz=zbL o tr s:=by simp
  rw[zuV rfl,hg,zuV rfl];have:grpF o tr ys (zbL o tr s)=[]:=by
   apply List.eq_nil_iff_forall_not_mem.2
   intro x hx;obtain⟨h1,h2⟩:=zbI.1 hx;exact hk (zez.2 ⟨x,h1,h2⟩)
  rw[this]
 ·have hi2:i<(zaL o tr ys).length:=by omega
  have hg:(zaL o tr ys++[zbL o tr s]).getD i kz=(zaL o tr ys).getD i kz:=by
   rw[ztO,ztQ hi2,<-ztO]
  rw[zuU ei,hg,zuU (fun h=>hk ?_)];rw[h,ztO,ztT hi2];exact zt0 _
def CuT(gt:Nat)(W:World)(p n m gmv N:Nat)(v:Nat->Value)(l:Nat->List Int)(o wk:List Nat)(gs:List (List Nat))(w':World):Prop:=
 ∃(g' c' m':Nat) (mi':Nat->Nat) (v':Nat->Value) (l':Nat->List Int) (N':Nat) (o' wk':List Nat) (mem':Nat->List Nat),PtS gt w' p (.slice (some ⟨g',0,none⟩) m' c') m' mi' v' l' N' o' wk' mem'/\PtM n m' o' wk' mem'/\zgq n (fun s=>o.getD s 0) (fun s=>o'.getD s 0) (·∈wk) (·∈wk') gs/\m<=m'/\wk'.length+m=wk.length+m'/\(∀i,2<=i->i<N->v' i=v i/\l' i=l i)/\N<=N'/\Below (gt+1) W w'/\KpP gmv W w'/\(g'=gmv\/W.heap.size<=g')
theorem zrA{n:Nat}(si:Nat)(xs:List Nat)(gT cT:Nat)(tr:Nat->Tr)(w:World)(hS:PtS gt w p (.slice (some ⟨gmv,0,none⟩) m cm) m mi v l N o wk mem)(hP:PtM n m o wk mem)(hsi:2<=si/\si<N)(hls:l si=zav xs)(hnd:xs.Nodup)(hxn:∀s∈xs,s<n)(hn4:n<=4000)(hn0:0<n)(hwk:wk.length<=900000)
  (hT:w.heap[gT]?=some (.cells (zcR n tr) 192 (0,0))):
  Calls Tryz.prog 92 #[.pointer (some ⟨p,0,none⟩),v si,.slice (some ⟨gT,0,none⟩) n cT] w fun e w'=>e=.returned (.tuple #[])/\CuT gt w p n m gmv N v l o wk ((List.range (zaL o tr xs).length).map (grpJ o tr xs)) w':=by
 obtain⟨iS,hjS,hyS0,hyS1,hyS2⟩:=info_parts Tryz.infoIntsD;have hN2:=hS.two;have hxl:=zb2 n xs hnd hxn;obtain⟨⟨asl,cs⟩,es⟩:=zaj (hS.fam.own si hsi.2);rw[hls,zag] at es;obtain⟨go,co,eo,hgo⟩:=hS.fam.nats (i:=0) (by omega) hS.l0 (by rw[hP.ln];omega);rw[hP.ln] at eo;have HS:Hid _:=hS;have HP:Hid _:=hP;have Hes:Hid _:=es;have Heo:Hid _:=eo;have hpl:=zae hS.box;have hgm:=zcj hS.out;obtain⟨W1,hW1⟩:∃W1,(w.alloc (.map #[] 0)).alloc (.cells #[] 24)=W1:=⟨_,rfl⟩;have hb1:Below w.heap.size w W1:=by rw[<-hW1];exact((Below.refl _ _).alloc (zuz _) _).alloc (by simp) _
 have HC1:Hid (CuG gt w p m gmv cm mi v l N o wk mem w.heap.size (zaL o tr []) (grpJ o tr []) (w.heap.size+1) 0 v l W1):=by
  refine⟨hS.on hb1,?_,?_,by omega,zuz _,hgm,hS.size,hN2,fun x hx=>(hS.idx x hx).2,fun _ _=>⟨rfl,rfl⟩,fun j h=>absurd h (zuI _),(PrK.refl gt gmv w).on hS.size hb1⟩
  ·rw[<-hW1];exact(Below.heap_alloc _ _ _ (by simp)).trans (zuR w _)
  ·have h2:=zcc (w.alloc (.map #[] 0)) 24;have e:(w.alloc (.map #[] 0)).heap.size=w.heap.size+1:=by simp
   rw[e,hW1] at h2;exact zcO h2 (by have:=hS.size;omega)
 have hgT:gT≠gmv:=fun e=>by
  obtain⟨cur,hc⟩:=zbo hS.out;rw[e,hc] at hT;exact absurd (zap hT) (by decide)
 have HT:Hid (∀W,PrK gt gmv w W->W.heap[gT]?=some (.cells (zcR n tr) 192 (0,0))):=fun W k=>k.kp gT _ _ (by decide) (by decide) hgT hT
 have hmm:=@run_makeMap Tryz.prog;rw[es];have Hls:Hid _:=hls;clear es eo hb1 hS hP hT hls hgo
 go_enter Tryz.func92,Tryz.ntmps92
 go_wp2;clear hW1
 go_loopw [7,19] (fun gv i wr=>∃(k g c:Nat) (v':Nat->Value) (l':Nat->List Int),k<=xs.length/\i=.int .i64 k/\gv=.slice (some ⟨g,0,none⟩) (zaL o tr (xs.take k)).length c/\Hid (CuG gt w p m gmv cm mi v l N o wk mem w.heap.size (zaL o tr (xs.take k)) (grpJ o tr (xs.take k)) g c v' l' wr))
  (fun _ i _=>xs.length-(intOf i).toNat)
 case atStart=>exact⟨0,_,_,v,l,zuL _,rfl,rfl,HC1.out⟩
 case round=>
  clear HC1;obtain⟨k,g,c,v',l',hk,rfl,rfl,HC⟩:=hrel
  by_cases hk2:k<xs.length
  ·obtain⟨gs,cs',e1,hcs⟩:=HC.out.pt.fam.nats (i:=si) (by omega) ((HC.out.old si hsi.2).2.trans Hls.out) (by omega);rw[(HC.out.old si hsi.2).1,Hes.out] at e1;cases e1;have c0:=hcs k hk2;have hsn:=hxn _ (za3 hk2);obtain⟨t0,t1,t2,t3,t4⟩:=zfk (HT.out wr HC.out.kept) hsn;have hom:=HP.out.lt _ hsn;have hmn:=HP.out.le;have Hold:Hid _:=@zqA o tr (xs.take k) (xs.getD k 0);have Hnew:Hid _:=@zqz o tr (xs.take k) (xs.getD k 0);have hgl:∀j,(grpJ o tr (xs.take k) j).length<=4000:=fun j=>by
    have:=zsh o tr (xs.take k) ((zaL o tr (xs.take k)).getD j kz);have h2:(xs.take k).length<=k:=by rw[zt8];omega
    unfold grpJ;omega
   have hkl:(zaL o tr (xs.take k)).length<=4000:=by
    have:∀ys:List Nat,(zaL o tr ys).length<=ys.length:=fun ys=>zhV o tr ys
    have h1:=this (xs.take k);rw[zt8] at h1;omega
   have Htk:Hid _:=zdN hk2;have hi1:(k:Int)<(xs.length:Int):=by omega
   have hi2:((xs.getD k 0:Nat):Int)<(n:Int):=by omega
   have Hkd:Hid (zbL o tr (xs.getD k 0)=(o.getD (xs.getD k 0) 0,(tr (xs.getD k 0)).2)):=rfl;obtain⟨W2,hW2⟩:∃W2,wr.alloc (.cells (trC (tr (xs.getD k 0))) 192)=W2:=⟨_,rfl⟩;have hb2:Below wr.heap.size wr W2:=by rw[<-hW2];exact(Below.refl _ _).alloc (zuz _) _
   have HP2:Hid _:=HC.out.pt.on hb2;have hb3:=HP2.out.box;rw[(HC.out.old 0 (by omega)).1,Heo.out] at hb3;obtain⟨r0,r1,r2⟩:=zbi hb3;have c1:=(HP2.out.ofCell ((HC.out.old 0 (by omega)).1.trans Heo.out) HP.out.ln hsn).1;have x2:W2.heap[wr.heap.size]?=some (.cells (trC (tr (xs.getD k 0))) 192 (0,0)):=by rw[<-hW2];exact zuR _ _
   have x3:=zuT W2 wr.heap.size 0 _ _ (.int .u64 ((o.getD (xs.getD k 0) 0:Nat):Int)) x2;have f2:=zuQ _ _ 0 _ _ x2;obtain⟨z0,z1,z2,z3,z4⟩:=zaq x2;obtain⟨W3,hW3⟩:∃W3,W2.setCell ⟨wr.heap.size,0,none⟩ (.int .u64 ((o.getD (xs.getD k 0) 0:Nat):Int))=W3:=⟨_,rfl⟩;rw[hW3] at x3;have hb13:Below wr.heap.size wr W3:=by rw[<-hW3];exact hb2.setCell (zuz _) _
   have HC3:Hid _:=HC.out.on hb13;have Hnum:Hid _:=znt w.heap.size (zaL o tr (xs.take k)) (zbL o tr (xs.getD k 0)) W3 HC3.out.map;unfold trC at hW2;generalize hkd:zbL o tr (xs.getD k 0)=kd at *;generalize hob:o.getD (xs.getD k 0) 0=ob at *;generalize htr:tr (xs.getD k 0)=tw at *;generalize xs.getD k 0=s0 at *;have hkv:trV kd=.agg #[.int .u64 (ob:Int),.int .u64 (tw.2.1:Int),.int .u64 (tw.2.2.1:Int),.int .u64 (tw.2.2.2.1:Int),.int .u64 (tw.2.2.2.2:Int)]:=by rw[Hkd.out];rfl
   have x3':W3.heap[wr.heap.size]?=some (.cells #[.int .u64 (ob:Int),.int .u64 (tw.2.1:Int),.int .u64 (tw.2.2.1:Int),.int .u64 (tw.2.2.2.1:Int),.int .u64 (tw.2.2.2.2:Int)] 192 (0,0)):=x3;obtain⟨y0,y1,y2,y3,y4⟩:=zaq x3';have hnum:=Hnum.out;rw[hkv] at hnum;clear hob htr hb3 hcs x2 x3 x3' hkv hkd Hnum;have hi3:IntKind.u64.wrap (ob:Int)=(ob:Int):=by
    have:(ob:Int)<18446744073709551616:=by omega
    unfold IntKind.wrap;simp[IntKind.signed,IntKind.bits];omega
   by_cases hkm:kd∈zaL o tr (xs.take k)
   ·have hj:=zcr.2 hkm;obtain⟨hE,hG⟩:=Hold.out hkm;have HE:Hid _:=hE;have HG:Hid _:=hG;have hnum2:Calls Tryz.prog 105 #[.map (some w.heap.size),.agg #[.int .u64 (ob:Int),.int .u64 (tw.2.1:Int),.int .u64 (tw.2.2.1:Int),.int .u64 (tw.2.2.2.1:Int),.int .u64 (tw.2.2.2.2:Int)]] W3 fun e w'=>e=.returned (.tuple #[.int .i64 (idxR (zaL o tr (xs.take k)) kd:Int),.bool false])/\w'.heap[w.heap.size]?=some (.map (regE trV (zaL o tr (xs.take k))) (zaL o tr (xs.take k)).length)/\W3.grownBy w' (some w.heap.size):=by
     refine Calls.mono hnum ?_;rintro e w' ⟨a,b,d⟩;unfold addR at b;rw[zuV hkm] at b;exact⟨by rw[a];simp[hkm],b,d⟩
    clear hE hG hnum Hold Hnew;generalize idxR (zaL o tr (xs.take k)) kd=j at *
    go_wp2_with fail
    refine hnum2.mono ?_;rintro e w4 ⟨rfl,hm4,hg4⟩;have HC4:Hid _:=HC3.out.num hg4 hm4;have o4:=HC4.out.out.cellAt j (by omega);rw[zgC _ _ hj] at o4;obtain⟨⟨aj,pj⟩,ej⟩:=zaj (HC4.out.pt.fam.own (N+j) (by omega));rw[HC4.out.grp j hj,zag] at ej;rw[ej] at o4;have Hej:Hid _:=ej;have hs4:=HC4.out.pt.size;have hgj:=hgl j;have hji:(j:Int)<((zaL o tr (xs.take k)).length:Int):=by omega
    clear ej hnum2 hm4 hg4 HC3 hgl r0 r1 r2 c1 z0 z1 z2 z3 z4 y0 y1 y2 y3 y4 f2 hW2 hW3 hb2 hb13 HP2 t0 t1 t2 t3 t4 c0;generalize hKl:zaL o tr (xs.take k)=KK at *;generalize hGl:grpJ o tr (xs.take k)=GG at *
    go_wp2_with (at_builtin;refine za4 HC4.out.pt.fam _ rfl rfl (.tmp 51) (.tmp 53) rfl (N+j) (by omega) (zav (GG j)) (HC4.out.grp j hj) (GG j).length (zag _) (by exact Hej.out.symm) (s0:Int) rfl (by omega) hs4 ?_;intro g5 c5 w5 hF5 hg5;obtain⟨b1,b2,HC5'⟩:=HC4.out.app hj hF5 hg5;rw[Hej.out] at b1;have HC5:Hid _:=HC5';clear HC5' hF5 hg5)
    go_roundw
    case rel=>
     have hfin:=HC5.out.congr HE.out.symm HG.out;rw[<-Htk.out] at hfin;exact⟨k+1,g,c,_,_,by omega,by go_num,by rw[Htk.out,HE.out],hfin⟩
    case measure=>simp[intOf];omega
   ·have hE:=(Hnew.out hkm).1;have HE:Hid _:=hE;have HG:Hid _:=(Hnew.out hkm).2;have hnum2:Calls Tryz.prog 105 #[.map (some w.heap.size),.agg #[.int .u64 (ob:Int),.int .u64 (tw.2.1:Int),.int .u64 (tw.2.2.1:Int),.int .u64 (tw.2.2.2.1:Int),.int .u64 (tw.2.2.2.2:Int)]] W3 fun e w'=>e=.returned (.tuple #[.int .i64 ((zaL o tr (xs.take k)).length:Int),.bool true])/\w'.heap[w.heap.size]?=some (.map (regE trV (zaL o tr (xs.take k)++[kd])) (zaL o tr (xs.take k)++[kd]).length)/\W3.grownBy w' (some w.heap.size):=by
     refine Calls.mono hnum ?_;rintro e w' ⟨a,b,d⟩;unfold addR at b;rw[zuU hkm] at b;exact⟨by rw[a,ziy hkm];simp[hkm],b,d⟩
    clear hE hnum Hold Hnew
    go_wp2_with fail
    refine hnum2.mono ?_;rintro e w4 ⟨rfl,hm4,hg4⟩;have Hfar:Hid _:=HC3.out.far hg4;have hs4:=Hfar.out.1.size;have hs34:w.heap.size<=w4.heap.size:=zuA HC3.out.kept.below.size hg4.size;clear hnum2 hgl r0 r1 r2 c1 z0 z1 z2 z3 z4 y0 y1 y2 y3 y4 f2 hW2 hW3 hb2 hb13 HP2 t0 t1 t2 t3 t4 c0;generalize hKl:zaL o tr (xs.take k)=KK at *;generalize hGl:grpJ o tr (xs.take k)=GG at *;clear hKl hGl;have HM4:Hid _:=hm4;have HG4:Hid _:=hg4;clear hm4 hg4
    go_wp2_with (first|(at_builtin;refine zaO w4 _ rfl rfl (.tmp 43) (.tmp 44) 93 rfl (gt+1) 24 iS (.slice none 0 0) 24 Tryz.underlying93 hjS hyS0 hyS1 hyS2 rfl g c KK.length (gvL v' N KK.length) (.slice none 0 0) rfl Hfar.out.2.1 rfl rfl (by omega) (by omega) hs4 ?_;intro g5 c5 w5 hown5 hg5 hat5;have HC5:Hid _:=HC3.out.more HG4.out HM4.out hown5 hg5 (hat5.imp id (fun e=>by omega));have o5:=hown5.cellAt KK.length (by omega);rw[ztR (by rw[zgD];exact zuz _),zgD,Nat.sub_self] at o5;have o6:w5.cell? ⟨g5,KK.length,none⟩=some (.slice none 0 0):=o5;have hs5:=HC5.out.pt.size;clear o5 hown5 hg5 hat5)|(at_builtin;refine za4 HC5.out.pt.fam _ rfl rfl (.tmp 51) (.tmp 53) rfl (N+KK.length) (by simp) [] (zar _ _ _) 0 rfl (by exact(zaH _ _ _).symm) (s0:Int) rfl (by omega) hs5 ?_;intro g6 c6 w6 hF6 hg6;have HC6:Hid _:=HC5.out.app (j:=KK.length) (s:=s0) (by simp) (by simpa [zav] using hF6) hg6;have b1:=HC6.out.1;have b2:=HC6.out.2.1;rw[zaH] at b1;clear hF6 hg6))
    go_roundw
    case rel=>
     have hfin:=HC6.out.2.2.congr (G':=grpJ o tr (xs.take k++[s0])) HE.out.symm (fun i hi=>by
      rw[<-HG.out i (by simpa using hi)]
      by_cases e:i=KK.length
      ·simp[e]
      ·simp[e])
     rw[<-Htk.out] at hfin;exact⟨k+1,g5,c5,_,_,by omega,by go_num,by rw[Htk.out,HE.out];simp,hfin⟩
    case measure=>simp[intOf];omega
  ·have hkk:k=xs.length:=by omega
   subst hkk;rw[zuq] at HC ⊢;obtain⟨W1,hW1⟩:∃W1,W1=wr:=⟨_,rfl⟩;subst hW1;have hkl:=zhV o tr xs;have Hpos:Hid (∀j,j<(zaL o tr xs).length->0<(grpJ o tr xs j).length):=fun j hj=>by
    obtain⟨s,h1,h2⟩:=zez.1 (show (zaL o tr xs).getD j kz∈zaL o tr xs by rw[ztO,ztT hj];exact zt0 _);exact List.length_pos_of_mem (zbI.2 ⟨h1,h2⟩)
   have Hgn:Hid (∀j,(grpJ o tr xs j).Nodup/\(∀s∈grpJ o tr xs j,s<n)/\∀s∈grpJ o tr xs j,zbL o tr s=(zaL o tr xs).getD j kz):=fun j=>⟨List.Pairwise.filter _ hnd,fun s hs=>hxn s (zbI.1 hs).1,fun s hs=>(zbI.1 hs).2⟩
   have Hdis:Hid (∀i j,i<(zaL o tr xs).length->j<(zaL o tr xs).length->i≠j->∀s,s∈grpJ o tr xs i->s∉grpJ o tr xs j):=fun i j hi hj hne s h1 h2=>hne (zh3 (zfQ o tr xs) hi hj ((zbI.1 h1).2.symm.trans (zbI.1 h2).2))
   have Hone:Hid (∀j s t,s∈grpJ o tr xs j->t∈grpJ o tr xs j->o.getD s 0=o.getD t 0):=fun j s t hs ht=>by
    have e:=(zbI.1 hs).2.trans (zbI.1 ht).2.symm;exact congrArg Prod.fst e
   generalize hK:zaL o tr xs=K at *;generalize hG:grpJ o tr xs=G at *;have HKe:Hid _:=hK;have HGe:Hid _:=hG;have Hout:Hid (∀W,KpP gmv W1 W->∀j,j<K.length->W.cell? ⟨g,j,none⟩=some (v' (N+j))):=fun W kp j hj=>by
    obtain⟨cur,hc⟩:=zbo HC.out.out;have hc2:=kp g cur _ (by decide) (by decide) (by have:=HC.out.new;have:=HC.out.gl;omega) hc;have:=HC.out.out.cellAt j (by omega);rw[zgC _ _ hj] at this;rw[<-this];exact World.cell?_of_block (hc2.trans hc.symm)
   clear hK hG;go_wp2
   go_loopw [59] (fun i wr=>∃(j:Nat),j<=K.length/\i=.int .i64 j/\Hid (CuT gt W1 p n m gmv (N+K.length) v' l' o wk ((List.range j).map G) wr))
    (fun i _=>K.length-(intOf i).toNat)
   case atStart=>exact⟨0,zuL _,rfl,gmv,cm,m,mi,v',l',_,o,wk,mem,HC.out.pt,HP.out,zgq.refl _ _ _,zuz _,rfl,fun _ _ _=>⟨rfl,rfl⟩,zuz _,Below.refl _ _,KpP.refl _ _,.inl rfl⟩
   case round=>
    obtain⟨j,hj,rfl,HX⟩:=hrel
    by_cases hj2:j<K.length
    ·obtain⟨g',c',m',mi',v2,l2,N2,o2,wk2,mem2,HX1,HX2,HX3,HX4,HX5,HX6,HX7,HX8,HX9,HX10⟩:=HX.out;have c0:=Hout.out wr HX9 j hj2;have hN1:=HC.out.pt.two;have hlj:l2 (N+j)=zav (G j):=by rw[(HX6 (N+j) (by omega) (by omega)).2];exact HC.out.grp j hj2
     have hvj:=(HX6 (N+j) (by omega) (by omega)).1;have hp0:=Hpos.out j hj2;obtain⟨hn1,hn2,hn3⟩:=Hgn.out j;have hsame:∀s∈G j,s∈mem2 (o2.getD ((G j).getD 0 0) 0):=fun s hs=>by
      have ht:=za3 hp0;have e:=HX3.same (hn2 s hs) (hn2 _ ht) (Hone.out j s _ hs ht) (fun gg hgg=>by
       obtain⟨i,hi,rfl⟩:=zug.1 hgg;have hij:i<j:=by simpa using hi
       exact⟨fun h=>absurd hs (Hdis.out i j (by omega) hj2 (by omega) s h),fun h=>absurd ht (Hdis.out i j (by omega) hj2 (by omega) _ h)⟩)
      exact(HX2.mm _ (HX2.lt _ (hn2 _ ht)) s).2 ⟨hn2 s hs,e⟩
     have hmn2:=HX2.le;have hsp:=zrn (N+j) (G j) wr HX1 HX2 ⟨by omega,by omega⟩ hlj hn1 hp0 hn4 (by omega) hsame hn2;obtain⟨⟨aj,pj⟩,ej⟩:=zaj (HX1.fam.own (N+j) (by omega));rw[hvj] at hsp ej;rw[ej] at hsp c0;have H3:Hid _:=HX3;have H45:Hid (m<=m'/\wk2.length+m=wk.length+m'):=⟨HX4,HX5⟩;have H6:Hid _:=HX6;have H789:Hid (N+K.length<=N2/\Below (gt+1) W1 wr/\KpP gmv W1 wr/\(g'=gmv\/W1.heap.size<=g')):=⟨HX7,HX8,HX9,HX10⟩;clear ej HX1 HX2 HX3 HX4 HX5 HX6 HX7 HX8 HX9 HX10 hsame hlj hvj hn1 hn2 hn3 HX;have hji:(j:Int)<(K.length:Int):=by omega
     generalize (l2 (N+j)).length=lj at *
     go_wp2_with fail
     refine hsp.mono ?_;rintro e w4 ⟨rfl,g3,c3,m3,mi3,v3,l3,N3,o3,wk3,mem3,Y1,Y2,Y3,Y4,Y5,Y6,Y7,Y8⟩;have HY:Hid (CuT gt W1 p n m gmv (N+K.length) v' l' o wk ((List.range (j+1)).map G) w4):=by
      obtain⟨a1,a2,a3,a4⟩:=H789.out;refine⟨g3,c3,m3,mi3,v3,l3,N3,o3,wk3,mem3,Y1,Y2,?_,zuA H45.out.1 Y3.le,by have:=H45.out.2;have:=Y3.wl;omega,fun i h2 hi=>?_,by omega,a2.trans Y6,a3.chain a4 Y7,?_⟩
      ·rw[zun,zt9];exact H3.out.next Y3.iff Y3.num Y3.up
      ·have b1:=Y5 i h2 (by omega);have b2:=H6.out i h2 hi;exact⟨b1.1.trans b2.1,b1.2.trans b2.2⟩
      ·have:=a2.size;rcases Y8 with k1|k1
       ·rw[k1];exact a4
       ·exact .inr (by omega)
     clear Y1 Y2 Y3 Y4 Y5 Y6 Y7 Y8 hsp;go_wp2
     go_roundw
     case rel=>exact⟨j+1,by omega,by go_num,HY.out⟩
     case measure=>simp[intOf];omega
    ·have hjj:j=K.length:=by omega
     subst hjj;go_wp2
     go_end0
     obtain⟨g',c',m',mi',v2,l2,N2,o2,wk2,mem2,HX1,HX2,HX3,HX4,HX5,HX6,HX7,HX8,HX9,HX10⟩:=HX.out;have hsz:=HC.out.kept.below.size;exact⟨rfl,g',c',m',mi',v2,l2,N2,o2,wk2,mem2,HX1,HX2,by rw[HKe.out,HGe.out];exact HX3,HX4,HX5,fun i h2 hi=>⟨(HX6 i h2 (by omega)).1.trans (HC.out.old i hi).1,(HX6 i h2 (by omega)).2.trans (HC.out.old i hi).2⟩,by omega,HC.out.kept.below.trans HX8,HC.out.kept.kp.trans HX9,HX10.imp id (fun h=>by omega)⟩
end Go.Proofs.YthddplbodacjgaaGreatDoor
