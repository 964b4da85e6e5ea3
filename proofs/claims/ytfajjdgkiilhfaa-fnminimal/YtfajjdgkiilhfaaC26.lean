import Derived.Test.YtfajjdgkiilhfaaC25
namespace Go.Proofs.Ytfajjdgkiilhfaa
open Proofs.Try
open Option renaming some->za,none->zi
open RowKit renaming Hid->zh,Below->zy
open Value renaming slice->zn,agg->zB
open Go renaming World->zp,Value->zw
open Obj renaming cells->zx
set_option maxHeartbeats 8000000
set_option maxRecDepth 100000
open Go.RowKit
attribute [local go_sem ↓] wp_at_zero wp_at_succ
theorem D6{cs:Array zw}{e:TypeId}{f:Nat×Nat}{es:Array MapEntry}{c:Nat}(h:za (Obj.cells cs e f)=za (Obj.map es c)):False:=by injection h with h;cases h
theorem ia.fresh{gt g:Nat}{w W W':zp}(h:ia gt g w W)(hs:gt+1<=w.heap.size){q:Nat}(hg:W.grownBy W' (za q))(hq:w.heap.size<=q):ia gt g w W':=
 ⟨h.below.grown hg (cM hs h.below.size) (λ_ hb=>by cases hb;omega),λb cs e h1 h2 h3 hb=>by
  have hl:=az hb;have iQ:=h.kp b cs e h1 h2 h3 hb;exact(hg.block b (az iQ) (λe2=>by cases e2;omega)).trans iQ⟩
structure pI(gt:Nat)(w:zp)(p m bu cm:Nat)(mi:Nat->Nat)(v0:Nat->zw)(l0:Nat->List Int)(N:Nat)(o wk:List Nat)(mem:Nat->List Nat)(rM:Nat)(K:List Tr)(G:Nat->List Nat)(g c:Nat)(v:Nat->zw)(l:Nat->List Int)(W:zp):Prop where
 pt:dE gt W p (zn (za ⟨bu,0,zi⟩) m cm) m mi v l (N+K.length) o wk mem
 map:W.heap[rM]?=za (.map (ju jv K) K.length)
 out:W.ownsRow (gt+1) 23 1 (zn (za ⟨g,0,zi⟩) K.length c) K.length (sg v N K.length)
 new:w.heap.size<=g
 LH:w.heap.size<=rM
 gl:bu<w.heap.size
 ws:gt+1<=w.heap.size
 two:2<=N
 low:∀x,x<m->mi x<N
 old:∀i,i<N->v i=v0 i/\l i=l0 i
 aH:∀j,j<K.length->l (N+j)=aO (G j)
 kept:ia gt bu w W
section
variable {gt:Nat} {w:zp} {p m bu cm:Nat} {mi:Nat->Nat} {v0:Nat->zw} {l0:Nat->List Int} {N:Nat} {o wk:List Nat} {mem:Nat->List Nat} {rM:Nat} {K:List Tr} {G:Nat->List Nat} {g c:Nat} {v:Nat->zw} {l:Nat->List Int} {W W':zp}
theorem pI.on(h:pI gt w p m bu cm mi v0 l0 N o wk mem rM K G g c v l W)(hb:zy W.heap.size W W'):pI gt w p m bu cm mi v0 l0 N o wk mem rM K G g c v l W':=
 ⟨h.pt.on hb,aY h.map hb,jy h.out hb,h.new,h.LH,h.gl,h.ws,h.two,h.low,h.old,h.aH,h.kept.on h.pt.size hb⟩
theorem pI.far(h:pI gt w p m bu cm mi v0 l0 N o wk mem rM K G g c v l W)(hg:W.grownBy W' (za rM)):dE gt W' p (zn (za ⟨bu,0,zi⟩) m cm) m mi v l (N+K.length) o wk mem/\W'.ownsRow (gt+1) 23 1 (zn (za ⟨g,0,zi⟩) K.length c) K.length (sg v N K.length)/\ia gt bu w W':=by
 have hm:=h.map;refine⟨h.pt.far hg (λcs e=>D6 (e.symm.trans hm)) (λcs e=>D6 (e.symm.trans hm)) ?_,?_,h.kept.fresh h.ws hg h.LH⟩
 ·have:=h.gl;have:=h.LH;simp[Value.ownBlock];omega
 ·exact oI h.out λb cs hb=>(hg.block b (az hb) (λe=>by cases e;exact D6 (hb.symm.trans hm))).trans hb
theorem pI.num(h:pI gt w p m bu cm mi v0 l0 N o wk mem rM K G g c v l W)(hg:W.grownBy W' (za rM))(hm:W'.heap[rM]?=za (.map (ju jv K) K.length)):pI gt w p m bu cm mi v0 l0 N o wk mem rM K G g c v l W':=by
 obtain⟨a,b,d⟩:=h.far hg;exact⟨a,hm,b,h.new,h.LH,h.gl,h.ws,h.two,h.low,h.old,h.aH,d⟩
theorem pI.more(h:pI gt w p m bu cm mi v0 l0 N o wk mem rM K G g c v l W){W5:zp}{kd:Tr}{g' c':Nat}(hg:W.grownBy W' (za rM))(hm:W'.heap[rM]?=za (.map (ju jv (K++[kd])) (K++[kd]).length))(ho:W5.ownsRow (gt+1) 23 1 (zn (za ⟨g',0,zi⟩) (K.length+1) c') (K.length+1) (sg v N K.length++[zn zi 0 0]))(dF:W'.grownBy W5 (za g))(eY:g'=g\/w.heap.size<=g'):
  pI gt w p m bu cm mi v0 l0 N o wk mem rM (K++[kd]) (λj=>if j=K.length then [] else G j) g' c' (upd v (N+K.length) (zn zi 0 0)) (bq l (N+K.length) []) W5:=by
 obtain⟨a,b,d⟩:=h.far hg;obtain⟨a9,hc⟩:=vw b;have jU:=h.gl;have qz:=h.new;have Fc:dE gt W5 p (zn (za ⟨bu,0,zi⟩) m cm) m mi v l (N+K.length) o wk mem:=a.far dF (λcs e=>absurd (er (hc.symm.trans e)) (by decide)) (λcs e=>absurd (er (hc.symm.trans e)) (by decide)) (by simp[Value.ownBlock];omega);have hl:(K++[kd]).length=K.length+1:=by simp
 refine⟨?_,?_,?_,by rcases eY with k|k<;>omega,h.LH,jU,h.ws,h.two,h.low,λi hi=>?_,λj hj=>?_,d.fresh h.ws dF qz⟩
 ·rw[hl];exact Fc.ZX
 ·refine(dF.block rM (az hm) (λe=>?_)).trans hm;cases e;exact D6 (hc.symm.trans hm)
 ·rw[hl,zqK,fN,zoP (v':=v) (λj hj=>bW _ _ (by omega))];exact ho
 ·rw[bW _ _ (by omega),a8 _ _ (by omega)];exact h.old i hi
 ·rw[hl]at hj
  by_cases e:j=K.length
  ·subst e;rw[ez];simp[aO]
  ·rw[a8 _ _ (by omega)];simp only[ab e];exact h.aH j (by omega)
theorem pI.app(h:pI gt w p m bu cm mi v0 l0 N o wk mem rM K G g c v l W){j s:Nat}(hj:j<K.length){u:zw}(hF:aS gt (N+K.length) W' (upd v (N+j) u) (bq l (N+j) (aO (G j)++[(s:Int)])))(hg:W.grownBy W' (v (N+j)).ownBlock):
  W'.cell? ⟨g,j,zi⟩=za (v (N+j))/\W'.frozen? ⟨g,j,zi⟩=false/\pI gt w p m bu cm mi v0 l0 N o wk mem rM K (λi=>if i=j then G j++[s] else G i) g c (upd v (N+j) u) (bq l (N+j) (aO (G j)++[(s:Int)])) (W'.setCell ⟨g,j,zi⟩ u):=by
 have h2:=h.two;have jU:=h.gl;have qz:=h.new;have wA:=h.pt.row (i:=N+j) (by omega) (by omega) (λx hx=>by have:=h.low x hx;omega) hF hg;have ho:=PO h.pt.aq (i:=N+j) (by omega) hg h.out;obtain⟨a9,hc⟩:=vw ho;have hcell:=ho.cellAt j (by omega);rw[Qg v N hj]at hcell;have yD:=oK W' g j u;have eJ:dE gt (W'.setCell ⟨g,j,zi⟩ u) p (zn (za ⟨bu,0,zi⟩) m cm) m mi (upd v (N+j) u) (bq l (N+j) (aO (G j)++[(s:Int)])) (N+K.length) o wk mem:=wA.far yD (λcs e=>absurd (er (hc.symm.trans e)) (by decide)) (λcs e=>absurd (er (hc.symm.trans e)) (by decide)) (by simp[Value.ownBlock];omega);have jV:W'.heap[rM]?=za (.map (ju jv K) K.length):=(hg.block rM (az h.map) (λe=>by
  obtain⟨cs,hcs⟩:=jx (h.pt.aq.own (N+j) (by omega)) e.symm;exact D6 (hcs.symm.trans h.map))).trans h.map
 refine⟨hcell,aR _ _ j _ _ hc,eJ,?_,?_,qz,h.LH,jU,h.ws,h2,h.low,λi hi=>?_,λi hi=>?_,(h.kept.aq h.pt.size h.pt.aq (i:=N+j) (by omega) hg).fresh h.ws yD qz⟩
 ·refine(yD.block rM (az jV) (λe=>?_)).trans jV;cases e;exact D6 (hc.symm.trans jV)
 ·have:=(ho.stored j u).1;rw[zsu]at this;exact this
 ·rw[bW _ _ (by omega),a8 _ _ (by omega)];exact h.old i hi
 ·by_cases e:i=j
  ·subst e;rw[ez];simp[aO]
  ·rw[a8 _ _ (by omega)];simp only[ab e];exact h.aH i hi
end
section
variable {gt p m bu cm N s:Nat}{mi:Nat -> Nat}{o wk ys:List Nat}{mem:Nat -> List Nat}{v:Nat -> zw}{l:Nat -> List Int}{ks:List Tr}{tr:Nat -> Tr}
theorem pI.congr{w:zp}{v0:Nat->zw}{l0:Nat->List Int}{rM:Nat}{K K':List Tr}{G G':Nat->List Nat}{g c:Nat}{W:zp}(h:pI gt w p m bu cm mi v0 l0 N o wk mem rM K G g c v l W)(hK:K=K')(hG:∀j,j<K.length->G j=G' j):pI gt w p m bu cm mi v0 l0 N o wk mem rM K' G' g c v l W:=by
 subst hK;exact {h with aH:=λj hj=>by rw[<-hG j hj];exact h.aH j hj}
def kz:Tr:=(0,0,0,0,0)
def ik(o:List Nat)(tr:Nat->Tr)(ys:List Nat)(j:Nat):List Nat:=C7 o tr ys ((de o tr ys).getD j kz)
theorem zst(o:List Nat)(tr:Nat->Tr)(ys:List Nat)(k:Tr):(C7 o tr ys k).length<=ys.length:=List.length_filter_le _ _
theorem PI{k:Tr}(h:k∈ks):ks.getD (eT ks k) kz=k:=by rw[bI,zqP h];rfl
theorem ziA(h:ks.Nodup){i j:Nat}(hi:i<ks.length)(hj:j<ks.length)(e:ks.getD i kz=ks.getD j kz):i=j:=by
 rw[bI,bE hi,bI,bE hj]at e;have hp:=List.pairwise_iff_getElem.1 h;simp only[Option.getD_some]at e;rcases Nat.lt_trichotomy i j with k|k|k
 ·exact absurd e (hp i j hi hj k)
 ·exact k
 ·exact absurd e.symm (hp j i hj hi k)
theorem zih(o:List Nat)(tr:Nat->Tr)(xs:List Nat):(de o tr xs).length<=xs.length:=by
 have key:∀(xs:List Nat) (ks:List Tr),(xs.foldl (λks s=>l5 ks (fP o tr s)) ks).length<=ks.length+xs.length:=by
  intro xs
  induction xs with
  |nil=>intro ks;simp
  |cons x xs ih=>
   intro ks;have h1:=ih (l5 ks (fP o tr x));have h2:(l5 ks (fP o tr x)).length<=ks.length+1:=by unfold l5;split<;>simp
   simp only[List.foldl_cons,iG];omega
 have:=key xs []
 simpa [de]using this
theorem zqI{o:List Nat}{tr:Nat->Tr}{ys:List Nat}{s:Nat}(hk:fP o tr s∈de o tr ys):de o tr (ys++[s])=de o tr ys/\∀i,i<(de o tr ys).length->(if i=eT (de o tr ys) (fP o tr s) then ik o tr ys (eT (de o tr ys) (fP o tr s))++[s] else ik o tr ys i)=ik o tr (ys++[s]) i:=by
 have e:de o tr (ys++[s])=de o tr ys:=by rw[zg6];unfold l5;rw[ae hk]
 refine⟨e,λi hi=>?_⟩;unfold ik;rw[e,zj5]
 by_cases ei:i=eT (de o tr ys) (fP o tr s)
 ·subst ei;rw[ae rfl,ae (PI hk).symm]
 ·rw[ab ei,ab (λh=>ei (ziA (zfV o tr ys) hi (zc.2 hk) (by rw[PI hk];exact h.symm)))]
theorem zqH{o:List Nat}{tr:Nat->Tr}{ys:List Nat}{s:Nat}(hk:fP o tr s∉de o tr ys):de o tr (ys++[s])=de o tr ys++[fP o tr s]/\∀i,i<(de o tr ys).length+1->(if i=(de o tr ys).length then []++[s] else ik o tr ys i)=ik o tr (ys++[s]) i:=by
 have e:de o tr (ys++[s])=de o tr ys++[fP o tr s]:=by rw[zg6];unfold l5;rw[ab hk]
 refine⟨e,λi hi=>?_⟩;unfold ik;rw[e,zj5]
 by_cases ei:i=(de o tr ys).length
 ·subst ei;have hg:(de o tr ys++[fP o tr s]).getD (de o tr ys).length kz=fP o tr s:=by simp
  rw[ae rfl,hg,ae rfl];have:C7 o tr ys (fP o tr s)=[]:=by
   apply List.eq_nil_iff_forall_not_mem.2
   intro x hx;obtain⟨h1,h2⟩:=sS.1 hx;exact hk (TU.2 ⟨x,h1,h2⟩)
  rw[this]
 ·have fA:i<(de o tr ys).length:=by omega
  have hg:(de o tr ys++[fP o tr s]).getD i kz=(de o tr ys).getD i kz:=by
   rw[bI,rU fA,<-bI]
  rw[ab ei,hg,ab (λh=>hk ?_)];rw[h,bI,bE fA];exact gy _
def UN(gt:Nat)(W:zp)(p n m bu N:Nat)(v:Nat->zw)(l:Nat->List Int)(o wk:List Nat)(gs:List (List Nat))(w':zp):Prop:=
 ∃(g' c' m':Nat) (mi':Nat->Nat) (v':Nat->zw) (l':Nat->List Int) (N':Nat) (o' wk':List Nat) (B5:Nat->List Nat),dE gt w' p (zn (za ⟨g',0,zi⟩) m' c') m' mi' v' l' N' o' wk' B5/\oU n m' o' wk' B5/\A9 n (λs=>o.getD s 0) (λs=>o'.getD s 0) (·∈wk) (·∈wk') gs/\m<=m'/\wk'.length+m=wk.length+m'/\(∀i,2<=i->i<N->v' i=v i/\l' i=l i)/\N<=N'/\zy (gt+1) W w'/\jj bu W w'/\(g'=bu\/W.heap.size<=g')
theorem zrH{n:Nat}(si:Nat)(xs:List Nat)(gT cT:Nat)(tr:Nat->Tr)(w:zp)(hS:dE gt w p (zn (za ⟨bu,0,zi⟩) m cm) m mi v l N o wk mem)(hP:oU n m o wk mem)(FJ:2<=si/\si<N)(Ln:l si=aO xs)(oD:xs.Nodup)(mg:∀s∈xs,s<n)(hn4:n<=4000)(Dv:0<n)(hwk:wk.length<=900000)
  (hT:w.heap[gT]?=za (zx (lC n tr) 72 (0,0))):
  Calls prog 35 #[.pointer (za ⟨p,0,zi⟩),v si,zn (za ⟨gT,0,zi⟩) n cT] w λe w'=>e=.returned (.tuple #[])/\UN gt w p n m bu N v l o wk ((List.range (de o tr xs).length).map (ik o tr xs)) w':=by
 obtain⟨iS,Aw,AM,AO,AP⟩:=info_parts Try.ZO;have Fb:=hS.two;have FR:=sT n xs oD mg;obtain⟨⟨asl,cs⟩,es⟩:=cJ (hS.aq.own si FJ.2);rw[Ln,cW]at es;obtain⟨go,co,eo,hgo⟩:=hS.aq.wR (i:=0) (by omega) hS.l0 (by rw[hP.ln];omega);rw[hP.ln]at eo;have HS:zh _:=hS;have HP:zh _:=hP;have VJ:zh _:=es;have Nm:zh _:=eo;have dz:=az hS.box;have BU:=uw hS.out;obtain⟨W1,bk⟩:∃W1,(w.alloc (.map #[] 0)).alloc (zx #[] 23)=W1:=⟨_,rfl⟩;have aP:zy w.heap.size w W1:=by rw[<-bk];exact(aC).alloc (by simp) _
 have xL:zh (pI gt w p m bu cm mi v l N o wk mem w.heap.size (de o tr []) (ik o tr []) (w.heap.size+1) 0 v l W1):=by
  refine⟨hS.on aP,?_,?_,by omega,ax _,BU,hS.size,Fb,λx hx=>(hS.idx x hx).2,λ_ _=>⟨rfl,rfl⟩,λj h=>absurd h (dP _),(ia.refl gt bu w).on hS.size aP⟩
  ·rw[<-bk];exact(Below.heap_alloc _ _ _ (by simp)).trans (aU w _)
  ·have h2:=Js (w.alloc (.map #[] 0)) 23;have e:(w.alloc (.map #[] 0)).heap.size=w.heap.size+1:=by simp
   rw[e,bk]at h2;exact Ge h2 (by have:=hS.size;omega)
 have SD:gT≠bu:=λe=>by
  obtain⟨a9,hc⟩:=vw hS.out;rw[e,hc]at hT;exact absurd (er hT) (by decide)
 have HT:zh (∀W,ia gt bu w W->W.heap[gT]?=za (zx (lC n tr) 72 (0,0))):=λW k=>k.kp gT _ _ (by decide) (by decide) SD hT
 have IQ:=@run_makeMap prog;rw[es];have jR:zh _:=Ln;clear es eo aP hS hP hT Ln hgo
 go_enter func35,ntmps35
 go_wp2;clear bk
 go_loopw [7,19] (λgv i wr=>∃(k g c:Nat) (v':Nat->zw) (l':Nat->List Int),k<=xs.length/\i=.int .i64 k/\gv=zn (za ⟨g,0,zi⟩) (de o tr (xs.take k)).length c/\zh (pI gt w p m bu cm mi v l N o wk mem w.heap.size (de o tr (xs.take k)) (ik o tr (xs.take k)) g c v' l' wr))
  (λ_ i _=>xs.length-(intOf i).toNat)
 case atStart=>exact⟨0,_,_,v,l,bH _,rfl,rfl,xL.out⟩
 case round=>
  clear xL;obtain⟨k,g,c,v',l',hk,rfl,rfl,HC⟩:=hrel
  by_cases bJ:k<xs.length
  ·obtain⟨gs,uT,e1,hcs⟩:=HC.out.pt.aq.wR (i:=si) (by omega) ((HC.out.old si FJ.2).2.trans jR.out) (by omega);rw[(HC.out.old si FJ.2).1,VJ.out]at e1;cases e1;have c0:=hcs k bJ;have ue:=mg _ (kO bJ);obtain⟨t0,t1,t2,t3,t4⟩:=Qc (HT.out wr HC.out.kept) ue;have hom:=HP.out.lt _ ue;have k8:=HP.out.le;have Bv:zh _:=@zqI o tr (xs.take k) (xs.getD k 0);have uK:zh _:=@zqH o tr (xs.take k) (xs.getD k 0);have jU:∀j,(ik o tr (xs.take k) j).length<=4000:=λj=>by
    have:=zst o tr (xs.take k) ((de o tr (xs.take k)).getD j kz);have h2:(xs.take k).length<=k:=by rw[nr];omega
    unfold ik;omega
   have cY:(de o tr (xs.take k)).length<=4000:=by
    have:∀ys:List Nat,(de o tr ys).length<=ys.length:=λys=>zih o tr ys
    have h1:=this (xs.take k);rw[nr]at h1;omega
   have oT:zh _:=PR bJ;have cG:(k:Int)<(xs.length:Int):=by omega
   have fA:((xs.getD k 0:Nat):Int)<(n:Int):=by omega
   have Hkd:zh (fP o tr (xs.getD k 0)=(o.getD (xs.getD k 0) 0,(tr (xs.getD k 0)).2)):=rfl;obtain⟨W2,dY⟩:∃W2,wr.alloc (zx (kq (tr (xs.getD k 0))) 72)=W2:=⟨_,rfl⟩;have aL:zy wr.heap.size wr W2:=by rw[<-dY];exact aC
   have nA:zh _:=HC.out.pt.on aL;have cN:=nA.out.box;rw[(HC.out.old 0 (by omega)).1,Nm.out]at cN;obtain⟨r0,r1,r2⟩:=ur cN;have c1:=(nA.out.zyn ((HC.out.old 0 (by omega)).1.trans Nm.out) HP.out.ln ue).1;have x2:W2.heap[wr.heap.size]?=za (zx (kq (tr (xs.getD k 0))) 72 (0,0)):=by rw[<-dY];exact aU _ _
   have x3:=dx W2 wr.heap.size 0 _ _ (.int .u64 ((o.getD (xs.getD k 0) 0:Nat):Int)) x2;have f2:=aR _ _ 0 _ _ x2;obtain⟨z0,z1,z2,z3,z4⟩:=bL x2;obtain⟨W3,sA⟩:∃W3,W2.setCell ⟨wr.heap.size,0,zi⟩ (.int .u64 ((o.getD (xs.getD k 0) 0:Nat):Int))=W3:=⟨_,rfl⟩;rw[sA]at x3;have Yf:zy wr.heap.size wr W3:=by rw[<-sA];exact aL.setCell (ax _) _
   have uE:zh _:=HC.out.on Yf;have zvX:zh _:=znP w.heap.size (de o tr (xs.take k)) (fP o tr (xs.getD k 0)) W3 uE.out.map;unfold kq at dY;generalize kj:fP o tr (xs.getD k 0)=kd at *;generalize hob:o.getD (xs.getD k 0) 0=ob at *;generalize Zx:tr (xs.getD k 0)=tw at *;generalize xs.getD k 0=s0 at *;have hkv:jv kd=zB #[.int .u64 (ob:Int),.int .u64 (tw.2.1:Int),.int .u64 (tw.2.2.1:Int),.int .u64 (tw.2.2.2.1:Int),.int .u64 (tw.2.2.2.2:Int)]:=by rw[Hkd.out];rfl
   have x3':W3.heap[wr.heap.size]?=za (zx #[.int .u64 (ob:Int),.int .u64 (tw.2.1:Int),.int .u64 (tw.2.2.1:Int),.int .u64 (tw.2.2.2.1:Int),.int .u64 (tw.2.2.2.2:Int)] 72 (0,0)):=x3;obtain⟨y0,y1,y2,y3,y4⟩:=bL x3';have pV:=zvX.out;rw[hkv]at pV;clear hob Zx cN hcs x2 x3 x3' hkv kj zvX;have oy:IntKind.u64.wrap (ob:Int)=(ob:Int):=by
    have:(ob:Int)<18446744073709551616:=by omega
    unfold IntKind.wrap;simp[IntKind.signed,IntKind.bits];omega
   by_cases yF:kd∈de o tr (xs.take k)
   ·have hj:=zc.2 yF;obtain⟨hE,hG⟩:=Bv.out yF;have HE:zh _:=hE;have HG:zh _:=hG;have AE:Calls prog 49 #[.map (za w.heap.size),zB #[.int .u64 (ob:Int),.int .u64 (tw.2.1:Int),.int .u64 (tw.2.2.1:Int),.int .u64 (tw.2.2.2.1:Int),.int .u64 (tw.2.2.2.2:Int)]] W3 λe w'=>e=.returned (.tuple #[.int .i64 (eT (de o tr (xs.take k)) kd:Int),.bool false])/\w'.heap[w.heap.size]?=za (.map (ju jv (de o tr (xs.take k))) (de o tr (xs.take k)).length)/\W3.grownBy w' (za w.heap.size):=by
     refine Calls.mono pV ?_;rintro e w' ⟨a,b,d⟩;unfold l5 at b;rw[ae yF]at b;exact⟨by rw[a];simp[yF],b,d⟩
    clear hE hG pV Bv uK;generalize eT (de o tr (xs.take k)) kd=j at *
    go_wp2_with fail
    refine AE.mono ?_;rintro e w4 ⟨rfl,Lq,BS⟩;have GP:zh _:=uE.out.num BS Lq;have o4:=GP.out.out.cellAt j (by omega);rw[Qg _ _ hj]at o4;obtain⟨⟨aj,pj⟩,ej⟩:=cJ (GP.out.pt.aq.own (N+j) (by omega));rw[GP.out.aH j hj,cW]at ej;rw[ej]at o4;have Hej:zh _:=ej;have vg:=GP.out.pt.size;have YD:=jU j;have fG:(j:Int)<((de o tr (xs.take k)).length:Int):=by omega
    clear ej AE Lq BS uE jU r0 r1 r2 c1 z0 z1 z2 z3 z4 y0 y1 y2 y3 y4 f2 dY sA aL Yf nA t0 t1 t2 t3 t4 c0;generalize E9:de o tr (xs.take k)=KK at *;generalize KI:ik o tr (xs.take k)=GG at *
    go_wp2_with (at_builtin;refine jw GP.out.pt.aq _ rfl rfl (.tmp 51) (.tmp 53) rfl (N+j) (by omega) (aO (GG j)) (GP.out.aH j hj) (GG j).length (cW _) (by exact Hej.out.symm) (s0:Int) rfl (by omega) vg ?_;intro g5 c5 w5 nJ dF;obtain⟨b1,b2,zvG⟩:=GP.out.app hj nJ dF;rw[Hej.out]at b1;have ML:zh _:=zvG;clear zvG nJ dF)
    go_roundw
    case rel=>
     have lK:=ML.out.congr HE.out.symm HG.out;rw[<-oT.out]at lK;exact⟨k+1,g,c,_,_,by omega,by go_num,by rw[oT.out,HE.out],lK⟩
    case measure=>simp[intOf];omega
   ·have hE:=(uK.out yF).1;have HE:zh _:=hE;have HG:zh _:=(uK.out yF).2;have AE:Calls prog 49 #[.map (za w.heap.size),zB #[.int .u64 (ob:Int),.int .u64 (tw.2.1:Int),.int .u64 (tw.2.2.1:Int),.int .u64 (tw.2.2.2.1:Int),.int .u64 (tw.2.2.2.2:Int)]] W3 λe w'=>e=.returned (.tuple #[.int .i64 ((de o tr (xs.take k)).length:Int),.bool true])/\w'.heap[w.heap.size]?=za (.map (ju jv (de o tr (xs.take k)++[kd])) (de o tr (xs.take k)++[kd]).length)/\W3.grownBy w' (za w.heap.size):=by
     refine Calls.mono pV ?_;rintro e w' ⟨a,b,d⟩;unfold l5 at b;rw[ab yF]at b;exact⟨by rw[a,zi4 yF];simp[yF],b,d⟩
    clear hE pV Bv uK
    go_wp2_with fail
    refine AE.mono ?_;rintro e w4 ⟨rfl,Lq,BS⟩;have zvU:zh _:=uE.out.far BS;have vg:=zvU.out.1.size;have zC3:w.heap.size<=w4.heap.size:=cM uE.out.kept.below.size BS.size;clear AE jU r0 r1 r2 c1 z0 z1 z2 z3 z4 y0 y1 y2 y3 y4 f2 dY sA aL Yf nA t0 t1 t2 t3 t4 c0;generalize E9:de o tr (xs.take k)=KK at *;generalize KI:ik o tr (xs.take k)=GG at *;clear E9 KI;have HM4:zh _:=Lq;have HG4:zh _:=BS;clear Lq BS
    go_wp2_with (first|(at_builtin;refine AZ w4 _ rfl rfl (.tmp 43) (.tmp 44) 64 rfl (gt+1) 23 iS (zn zi 0 0) 24 underlying64 Aw AM AO AP rfl g c KK.length (sg v' N KK.length) (zn zi 0 0) rfl zvU.out.2.1 rfl rfl (by omega) (by omega) vg ?_;intro g5 c5 w5 pW dF Ah;have ML:zh _:=uE.out.more HG4.out HM4.out pW dF (Ah.imp id (λe=>by omega));have o5:=pW.cellAt KK.length (by omega);rw[vH (by rw[Qh];exact ax _),Qh,Nat.sub_self]at o5;have o6:w5.cell? ⟨g5,KK.length,zi⟩=za (zn zi 0 0):=o5;have S6:=ML.out.pt.size;clear o5 pW dF Ah)|(at_builtin;refine jw ML.out.pt.aq _ rfl rfl (.tmp 51) (.tmp 53) rfl (N+KK.length) (by simp) [] (ez _ _ _) 0 rfl (by exact(fN _ _ _).symm) (s0:Int) rfl (by omega) S6 ?_;intro g6 c6 w6 uV ow;have MN:zh _:=ML.out.app (j:=KK.length) (s:=s0) (by simp) (by simpa [aO]using uV) ow;have b1:=MN.out.1;have b2:=MN.out.2.1;rw[fN]at b1;clear uV ow))
    go_roundw
    case rel=>
     have lK:=MN.out.2.2.congr (G':=ik o tr (xs.take k++[s0])) HE.out.symm (λi hi=>by
      rw[<-HG.out i (by simpa using hi)]
      by_cases e:i=KK.length
      ·simp[e]
      ·simp[e])
     rw[<-oT.out]at lK;exact⟨k+1,g5,c5,_,_,by omega,by go_num,by rw[oT.out,HE.out];simp,lK⟩
    case measure=>simp[intOf];omega
  ·have cI:k=xs.length:=by omega
   subst cI;rw[th]at HC ⊢;obtain⟨W1,bk⟩:∃W1,W1=wr:=⟨_,rfl⟩;subst bk;have cY:=zih o tr xs;have zy8:zh (∀j,j<(de o tr xs).length->0<(ik o tr xs j).length):=λj hj=>by
    obtain⟨s,h1,h2⟩:=TU.1 (show (de o tr xs).getD j kz∈de o tr xs by rw[bI,bE hj];exact gy _);exact List.length_pos_of_mem (sS.2 ⟨h1,h2⟩)
   have VM:zh (∀j,(ik o tr xs j).Nodup/\(∀s∈ik o tr xs j,s<n)/\∀s∈ik o tr xs j,fP o tr s=(de o tr xs).getD j kz):=λj=>⟨List.Pairwise.filter _ oD,λs hs=>mg s (sS.1 hs).1,λs hs=>(sS.1 hs).2⟩
   have zvT:zh (∀i j,i<(de o tr xs).length->j<(de o tr xs).length->i≠j->∀s,s∈ik o tr xs i->s∉ik o tr xs j):=λi j hi hj hne s h1 h2=>hne (ziA (zfV o tr xs) hi hj ((sS.1 h1).2.symm.trans (sS.1 h2).2))
   have zy7:zh (∀j s t,s∈ik o tr xs j->t∈ik o tr xs j->o.getD s 0=o.getD t 0):=λj s t hs ht=>by
    have e:=(sS.1 hs).2.trans (sS.1 ht).2.symm;exact congrArg Prod.fst e
   generalize hK:de o tr xs=K at *;generalize hG:ik o tr xs=G at *;have HKe:zh _:=hK;have HGe:zh _:=hG;have CR:zh (∀W,jj bu W1 W->∀j,j<K.length->W.cell? ⟨g,j,zi⟩=za (v' (N+j))):=λW kp j hj=>by
    obtain⟨a9,hc⟩:=vw HC.out.out;have dN:=kp g a9 _ (by decide) (by decide) (by have:=HC.out.new;have:=HC.out.gl;omega) hc;have:=HC.out.out.cellAt j (by omega);rw[Qg _ _ hj]at this;rw[<-this];exact World.cell?_of_block (dN.trans hc.symm)
   clear hK hG;go_wp2
   go_loopw [59] (λi wr=>∃(j:Nat),j<=K.length/\i=.int .i64 j/\zh (UN gt W1 p n m bu (N+K.length) v' l' o wk ((List.range j).map G) wr))
    (λi _=>K.length-(intOf i).toNat)
   case atStart=>exact⟨0,bH _,rfl,bu,cm,m,mi,v',l',_,o,wk,mem,HC.out.pt,HP.out,A9.refl _ _ _,ax _,rfl,λ_ _ _=>⟨rfl,rfl⟩,ax _,Below.refl _ _,jj.refl _ _,.inl rfl⟩
   case round=>
    obtain⟨j,hj,rfl,HX⟩:=hrel
    by_cases e8:j<K.length
    ·obtain⟨g',c',m',mi',v2,l2,N2,o2,Cb,LG,zP,od,Nb,xQ,r7,CK,Vx,CL,Nc,QT⟩:=HX.out;have c0:=CR.out wr Nc j e8;have Da:=HC.out.pt.two;have lM:l2 (N+j)=aO (G j):=by rw[(CK (N+j) (by omega) (by omega)).2];exact HC.out.aH j e8
     have hvj:=(CK (N+j) (by omega) (by omega)).1;have S0:=zy8.out j e8;obtain⟨jG,fc,FF⟩:=VM.out j;have BX:∀s∈G j,s∈LG (o2.getD ((G j).getD 0 0) 0):=λs hs=>by
      have ht:=kO S0;have e:=Nb.same (fc s hs) (fc _ ht) (zy7.out j s _ hs ht) (λgg hgg=>by
       obtain⟨i,hi,rfl⟩:=rS.1 hgg;have OG:i<j:=by simpa using hi
       exact⟨λh=>absurd hs (zvT.out i j (by omega) e8 (by omega) s h),λh=>absurd ht (zvT.out i j (by omega) e8 (by omega) _ h)⟩)
      exact(od.mm _ (od.lt _ (fc _ ht)) s).2 ⟨fc s hs,e⟩
     have zCP:=od.le;have hsp:=zrq (N+j) (G j) wr zP od ⟨by omega,by omega⟩ lM jG S0 hn4 (by omega) BX fc;obtain⟨⟨aj,pj⟩,ej⟩:=cJ (zP.aq.own (N+j) (by omega));rw[hvj]at hsp ej;rw[ej]at hsp c0;have H3:zh _:=Nb;have Bg:zh (m<=m'/\Cb.length+m=wk.length+m'):=⟨xQ,r7⟩;have H6:zh _:=CK;have zyu:zh (N+K.length<=N2/\zy (gt+1) W1 wr/\jj bu W1 wr/\(g'=bu\/W1.heap.size<=g')):=⟨Vx,CL,Nc,QT⟩;clear ej zP od Nb xQ r7 CK Vx CL Nc QT BX lM hvj jG fc FF HX;have fG:(j:Int)<(K.length:Int):=by omega
     generalize (l2 (N+j)).length=lj at *
     go_wp2_with fail
     refine hsp.mono ?_;rintro e w4 ⟨rfl,g3,c3,m3,mi3,v3,l3,N3,o3,wk3,zBe,Y1,Y2,Y3,Y4,Y5,Y6,Y7,Y8⟩;have HY:zh (UN gt W1 p n m bu (N+K.length) v' l' o wk ((List.range (j+1)).map G) w4):=by
      obtain⟨a1,a2,a3,a4⟩:=zyu.out;refine⟨g3,c3,m3,mi3,v3,l3,N3,o3,wk3,zBe,Y1,Y2,?_,cM Bg.out.1 Y3.le,by have:=Bg.out.2;have:=Y3.wl;omega,λi h2 hi=>?_,by omega,a2.trans Y6,a3.chain a4 Y7,?_⟩
      ·rw[oN,rR];exact H3.out.next Y3.iff Y3.num Y3.up
      ·have b1:=Y5 i h2 (by omega);have b2:=H6.out i h2 hi;exact⟨b1.1.trans b2.1,b1.2.trans b2.2⟩
      ·have:=a2.size;rcases Y8 with k1|k1
       ·rw[k1];exact a4
       ·exact .inr (by omega)
     clear Y1 Y2 Y3 Y4 Y5 Y6 Y7 Y8 hsp;go_wp2
     go_roundw
     case rel=>exact⟨j+1,by omega,by go_num,HY.out⟩
     case measure=>simp[intOf];omega
    ·have me:j=K.length:=by omega
     subst me;go_wp2
     go_end0
     obtain⟨g',c',m',mi',v2,l2,N2,o2,Cb,LG,zP,od,Nb,xQ,r7,CK,Vx,CL,Nc,QT⟩:=HX.out;have hsz:=HC.out.kept.below.size;exact⟨rfl,g',c',m',mi',v2,l2,N2,o2,Cb,LG,zP,od,by rw[HKe.out,HGe.out];exact Nb,xQ,r7,λi h2 hi=>⟨(CK i h2 (by omega)).1.trans (HC.out.old i hi).1,(CK i h2 (by omega)).2.trans (HC.out.old i hi).2⟩,by omega,HC.out.kept.below.trans CL,HC.out.kept.kp.trans Nc,QT.imp id (λh=>by omega)⟩
end
section
variable {T U:Nat -> Nat}{d:aE}
def vY(T:Nat->Nat)(c:Nat):Bool:=(T (c/64)).testBit (c%64)
def Kr(T:Nat->Nat)(p:Nat):Nat->Nat:=λj=>if j=p/64 then T (p/64) ||| 2 ^ (p%64) else T j
theorem zqh(T:Nat->Nat)(p s:Nat):vY (Kr T p) s=(vY T s || decide (s=p)):=by
 unfold vY Kr
 by_cases e:s/64=p/64
 ·rw[ae e,Nat.testBit_or,Nat.testBit_two_pow,e]
  congr 1
  by_cases h:s=p
  ·subst h;simp
  ·rw[decide_eq_false h,decide_eq_false (by omega)]
 ·rw[ab e,decide_eq_false (λh=>e (by rw[h])),Bool.or_false]
theorem zr4(hT:∀i,T i<18446744073709551616)(p:Nat):∀i,Kr T p i<18446744073709551616:=λi=>by
 unfold Kr;split
 ·exact Nat.or_lt_two_pow (n:=64) (hT _) (Nat.pow_lt_pow_right (by omega) (Nat.mod_lt _ (by omega)))
 ·exact hT i
theorem zrB(hT:∀i,T i<18446744073709551616)(hU:∀i,U i<18446744073709551616)(h:∀c,c<256->vY T c=vY U c):∀i,i<4->T i=U i:=λi hi=>by
 apply Nat.eq_of_testBit_eq
 intro j
 by_cases hj:j<64
 ·have:=h (i*64+j) (by omega);unfold vY at this;rw[show (i*64+j)/64=i by omega,show (i*64+j)%64=j by omega]at this;exact this
 ·have h1:∀X:Nat,X<18446744073709551616->X.testBit j=false:=λX hX=>Nat.testBit_lt_two_pow (fR hX (Nat.pow_le_pow_right (n:=2) (by omega) (show 64<=j by omega)))
  rw[h1 _ (hT i),h1 _ (hU i)]
def mZ(T:Nat->Nat):Tr:=(0,T 0,T 1,T 2,T 3)
theorem zr0(hT:∀i,T i<18446744073709551616)(hU:∀i,U i<18446744073709551616):(mZ T).2=(mZ U).2↔∀c,c<256->vY T c=vY U c:=by
 constructor
 ·intro h c hc;simp only[mZ,Prod.mk.injEq]at h;unfold vY;have:c/64=0\/c/64=1\/c/64=2\/c/64=3:=by omega
  rcases this with k|k|k|k<;>rw[k]
  ·rw[h.1]
  ·rw[h.2.1]
  ·rw[h.2.2.1]
  ·rw[h.2.2.2]
 ·intro h;have:=zrB hT hU h;simp only[mZ,Prod.mk.injEq];exact⟨this 0 (by omega),this 1 (by omega),this 2 (by omega),this 3 (by omega)⟩
theorem zfR{o:List Nat}{tr:Nat->Tr}{xs:List Nat}{s t:Nat}:(∀g∈(List.range (de o tr xs).length).map (ik o tr xs),(s∈g↔t∈g))↔(s∈xs↔t∈xs)/\(s∈xs->fP o tr s=fP o tr t):=by
 have key:∀x,x∈xs->∃j,j<(de o tr xs).length/\(de o tr xs).getD j kz=fP o tr x:=λx hx=>by
  have hm:fP o tr x∈de o tr xs:=TU.2 ⟨x,hx,rfl⟩;exact⟨_,zc.2 hm,PI hm⟩
 constructor
 ·intro h;have f:∀a b:Nat,(∀g∈(List.range (de o tr xs).length).map (ik o tr xs),(a∈g↔b∈g))->a∈xs->b∈xs/\fP o tr a=fP o tr b:=λa b Fl ha=>by
   obtain⟨j,hj,ej⟩:=key a ha;have:=(Fl _ (rS.2 ⟨j,by simpa using hj,rfl⟩)).1 (by unfold ik;rw[ej];exact sS.2 ⟨ha,rfl⟩);unfold ik at this;rw[ej]at this;obtain⟨h1,h2⟩:=sS.1 this;exact⟨h1,h2.symm⟩
  exact⟨⟨λk=>(f s t h k).1,λk=>(f t s (λg hg=>(h g hg).symm) k).1⟩,λk=>(f s t h k).2⟩
 ·rintro ⟨h1,h2⟩ g hg;obtain⟨j,_,rfl⟩:=rS.1 hg;unfold ik;rw[sS,sS];constructor
  ·rintro ⟨a,b⟩;exact⟨h1.1 a,(h2 a).symm.trans b⟩
  ·rintro ⟨a,b⟩;exact⟨h1.2 a,(h2 (h1.2 a)).trans b⟩
structure Nw(d:aE)(o:List Nat)(b:Nat)(xs:List Nat)(tr:Nat->Tr):Prop where
 nd:xs.Nodup
 lt:∀s∈xs,s<d.tag.length
 mem:∀s,s<d.tag.length->(s∈xs↔∃c∈eC d (aW d),o.getD (bU d s c) 0=b)
 eq:∀s t,s<d.tag.length->t<d.tag.length->((tr s).2=(tr t).2↔∀c∈eC d (aW d),(o.getD (bU d s c) 0=b↔o.getD (bU d t c) 0=b))
theorem Nw.hop(hf:cL d){o o' wk Ts wk':List Nat}{b:Nat}{xs:List Nat}{tr:Nat->Tr}(h:Nw d o b xs tr)(hw:∀c∈wk,c≠b->c∈Ts)(hS:A9 d.tag.length (λs=>o.getD s 0) (λs=>o'.getD s 0) (·∈Ts) (·∈wk') ((List.range (de o tr xs).length).map (ik o tr xs)))
  (hH:Hop d.tag.length (·∈eC d (aW d)) (bU d) (λs=>o.getD s 0) (·∈wk)):Hop d.tag.length (·∈eC d (aW d)) (bU d) (λs=>o'.getD s 0) (·∈wk'):=by
 refine hH.cut (B:=b) (tr:=λs=>(tr s).2) (λs k hs hk=>(hf.nx hs (vx.1 hk).1).2) (λs t hs ht e=>?_) (λs t hs ht e k hk=>(h.eq s t hs ht).1 e k hk) hS.num (λc hc hne=>hS.up c (hw c hc hne));obtain⟨e1,e2⟩:=(hS.iff s t hs ht).1 e;refine⟨e1,?_⟩;obtain⟨g1,g2⟩:=zfR.1 e2
 by_cases hx:s∈xs
 ·have h2:(fP o tr s).2=(fP o tr t).2:=by rw[g2 hx]
  exact h2
 ·have hy:t∉xs:=λk=>hx (g1.2 k)
  refine(h.eq s t hs ht).2 λc hc=>⟨λk=>absurd ((h.mem s hs).2 ⟨c,hc,k⟩) hx,λk=>absurd ((h.mem t ht).2 ⟨c,hc,k⟩) hy⟩
theorem Nw.alike(hf:cL d){o o' Ts wk':List Nat}{b:Nat}{xs:List Nat}{tr:Nat->Tr}(h:Nw d o b xs tr)(hS:A9 d.tag.length (λs=>o.getD s 0) (λs=>o'.getD s 0) (·∈Ts) (·∈wk') ((List.range (de o tr xs).length).map (ik o tr xs)))
  (hA:∀s t,s<d.tag.length->t<d.tag.length->cD (ai d) (au d) s t->o.getD s 0=o.getD t 0):∀s t,s<d.tag.length->t<d.tag.length->cD (ai d) (au d) s t->o'.getD s 0=o'.getD t 0:=by
 intro s t hs ht al;have hc:∀c∈eC d (aW d),o.getD (bU d s c) 0=o.getD (bU d t c) 0:=λc hc=>by
  obtain⟨ch,hch,e⟩:=zhB hf hc;have:=al.step hch;unfold ai at this;rw[e]at this;exact hA _ _ (hf.nx hs (vx.1 hc).1).2 (hf.nx ht (vx.1 hc).1).2 this
 have e1:=hA s t hs ht al;refine(hS.iff s t hs ht).2 ⟨e1,zfR.2 ⟨?_,λ_=>?_⟩⟩
 ·rw[h.mem s hs,h.mem t ht];constructor
  ·rintro ⟨c,k1,k2⟩;exact⟨c,k1,(hc c k1).symm.trans k2⟩
  ·rintro ⟨c,k1,k2⟩;exact⟨c,k1,(hc c k1).trans k2⟩
 ·have e2:=(h.eq s t hs ht).2 λc k=>by rw[hc c k]
  unfold fP;rw[e1,e2]
theorem zpl(hf:cL d){o:List Nat}(hH:Hop d.tag.length (·∈eC d (aW d)) (bU d) (λs=>o.getD s 0) (·∈([]:List Nat)))(Lb:∀s t,s<d.tag.length->t<d.tag.length->o.getD s 0=o.getD t 0->au d s=au d t){s t:Nat}(hs:s<d.tag.length)(ht:t<d.tag.length)(e:o.getD s 0=o.getD t 0):cD (ai d) (au d) s t:=
 zqM (cls:=eH d) hH (λb hb=>by cases hb) (λ_ _=>rfl) (λc hc=>by
  refine vx.2 ⟨(hf.sf hc).2,?_⟩;rw[<-(hf.sf hc).1,bI,bE (by have:=hf.cl;omega)];exact gy _) (λs k hs hk=>(hf.nx hs (vx.1 hk).1).2) Lb hs ht e
end
theorem PS(n:Nat)(tr:Nat->Tr):(lC n tr).size=n*5:=by
 unfold lC;rw[List.size_toArray]
 induction n with
 |zero=>simp
 |succ n ih=>rw[oN,Cy,a6,ih];simp[kq,Nat.succ_mul]
theorem Ml(n:Nat)(tr:Nat->Tr){i:Nat}(h:i<n*5):(lC n tr)[i]?=(kq (tr (i/5)))[i%5]?:=by
 have:=zk0 n tr (s:=i/5) (i:=i%5) (by omega) (by omega);rw[show i/5*5+i%5=i by omega]at this;exact this
def B8(tr:Nat->Tr)(s:Nat)(t:Tr):Nat->Tr:=λj=>if j=s then t else tr j
theorem zpY(n:Nat)(tr:Nat->Tr)(s:Nat)(t:Tr):
  (((((lC n tr).setIfInBounds (s*5) (.int .u64 (t.1:Int))).setIfInBounds (s*5+1) (.int .u64 (t.2.1:Int))).setIfInBounds (s*5+2) (.int .u64 (t.2.2.1:Int))).setIfInBounds (s*5+3) (.int .u64 (t.2.2.2.1:Int))).setIfInBounds (s*5+4) (.int .u64 (t.2.2.2.2:Int))=lC n (B8 tr s t):=by
 apply Gu
 intro i;have hs:=PS n tr
 by_cases hi:i<n*5
 ·rw[Ml n _ hi];simp only[Qw,Array.size_setIfInBounds,hs];unfold B8
  by_cases e:i/5=s
  ·rw[ae e];have hr:i%5=0\/i%5=1\/i%5=2\/i%5=3\/i%5=4:=by omega
   rcases hr with k|k|k|k|k
   ·rw[ab (by omega),ab (by omega),ab (by omega),ab (by omega),ae (by omega),ae (by omega),k];rfl
   ·rw[ab (by omega),ab (by omega),ab (by omega),ae (by omega),ae (by omega),k];rfl
   ·rw[ab (by omega),ab (by omega),ae (by omega),ae (by omega),k];rfl
   ·rw[ab (by omega),ae (by omega),ae (by omega),k];rfl
   ·rw[ae (by omega),ae (by omega),k];rfl
  ·rw[ab e,ab (by omega),ab (by omega),ab (by omega),ab (by omega),ab (by omega),Ml n _ hi]
 ·rw[zr (by simp only[Array.size_setIfInBounds,hs];omega),zr (by rw[PS];omega)]
theorem zkN{W:zp}{g n:Nat}{tr:Nat->Tr}(h:W.heap[g]?=za (zx (lC n tr) 72 (0,0)))(s:Nat)(t:Tr):
  (((((W.setCell ⟨g,s*5,zi⟩ (.int .u64 (t.1:Int))).setCell ⟨g,s*5+1,zi⟩ (.int .u64 (t.2.1:Int))).setCell ⟨g,s*5+2,zi⟩ (.int .u64 (t.2.2.1:Int))).setCell ⟨g,s*5+3,zi⟩ (.int .u64 (t.2.2.2.1:Int))).setCell ⟨g,s*5+4,zi⟩ (.int .u64 (t.2.2.2.2:Int))).heap[g]?=za (zx (lC n (B8 tr s t)) 72 (0,0)):=by
 have h1:=dx W g (s*5) _ _ (.int .u64 (t.1:Int)) h;have h2:=dx _ g (s*5+1) _ _ (.int .u64 (t.2.1:Int)) h1;have h3:=dx _ g (s*5+2) _ _ (.int .u64 (t.2.2.1:Int)) h2;have h4:=dx _ g (s*5+3) _ _ (.int .u64 (t.2.2.2.1:Int)) h3;have h5:=dx _ g (s*5+4) _ _ (.int .u64 (t.2.2.2.2:Int)) h4;rw[zpY]at h5;exact h5
theorem zhd(n:Nat):(madeCells (Value.agg (kq kz)).cells (n*5)).toList.toArray=lC n (λ_=>kz):=by
 apply Gu
 intro i
 by_cases hi:i<n*5
 ·rw[Ml n _ hi];have hm:i%5<5:=Nat.mod_lt _ (by omega);simp only[madeCells,Value.cells,kq,kz];have hr:i%5=0\/i%5=1\/i%5=2\/i%5=3\/i%5=4:=by omega
  rcases hr with k|k|k|k|k<;>simp[hi,k]
 ·rw[zr (by simp[madeCells];omega),zr (by rw[PS];omega)]
theorem Try.zyf:(prog.info? 72).map (λi=>(i.zero,i.size,i.bytes))=za (za (zB (kq kz)),5,40):=by kernel_rfl
variable {gt n:Nat}{W:zp}{v:Nat -> zw}{l:Nat -> List Int}
theorem aS.shrink(h:aS gt n W v l){i:Nat}(hi:i<n){g m cap k:Nat}(hv:v i=zn (za ⟨g,0,zi⟩) m cap)(hm:(l i).length=m)(hk:k<=m):aS gt n W (upd v i (zn (za ⟨g,0,zi⟩) k cap)) (bq l i ((l i).take k)):=by
 refine⟨λj hj=>?_,λa b ha hb hne c hc=>?_⟩
 ·by_cases e:j=i
  ·subst e;rw[fN,ez];have ho:=h.own j hj;unfold dQ at ho ⊢;have hl:((l j).take k).length=k:=by rw[nr];omega
   rw[hv,hm]at ho;rw[hl];refine⟨by rw[jK,hl];omega,?_⟩;rcases ho.2 with ⟨h0,_⟩|⟨g',cap',a9,hv',hg,hh,ry,kf,hsz,ht⟩
   ·cases h0
   ·cases hv'
    refine .inr ⟨g,cap,a9,rfl,hg,hh,by omega,kf,hsz,?_⟩;have:List.take (k*1) a9.toList=(List.take (m*1) a9.toList).take k:=by rw[List.take_take,Nat.mul_one,Nat.mul_one,Nat.min_eq_left hk]
    rw[this,ht,List.map_take]
  ·rw[bW _ _ e,a8 _ _ e];exact h.own j hj
 ·have key:∀a c,(upd v i (zn (za ⟨g,0,zi⟩) k cap) a).ownBlock=za c↔(v a).ownBlock=za c:=λa c=>by
   by_cases e:a=i
   ·subst e;rw[fN,hv];rfl
   ·rw[bW _ _ e]
  rw[Ne,key];exact h.apart a b ha hb hne c ((key a c).1 hc)
theorem dE.pop{p:Nat}{mv:zw}{m:Nat}{mi:Nat->Nat}{N:Nat}{o wk:List Nat}{mem:Nat->List Nat}(h:dE gt W p mv m mi v l N o wk mem){g cap k:Nat}(hv:v 1=zn (za ⟨g,0,zi⟩) wk.length cap)(hk:k<=wk.length):
  dE gt (W.setCell ⟨p,2,zi⟩ (zn (za ⟨g,0,zi⟩) k cap)) p mv m mi (upd v 1 (zn (za ⟨g,0,zi⟩) k cap)) (bq l 1 (aO (wk.take k))) N o (wk.take k) mem:=by
 have h2:=h.two;have hF:=h.aq.shrink (i:=1) (by omega) hv (by rw[h.l1,cW]) hk;rw[h.l1,show (aO wk).take k=aO (wk.take k) by simp[aO,List.map_take]]at hF;have Fw:=oK W p 2 (zn (za ⟨g,0,zi⟩) k cap);refine⟨hF.other h.box (by decide) Fw,h2,?_,h.sM,?_,h.idx,by rw[a8 _ _ (by omega)];exact h.l0,ez _ _ _,λx hx=>by rw[a8 _ _ (by have:=(h.idx x hx).1;omega)];exact h.lm x hx⟩
 ·rw[bW _ _ (by omega),fN];exact dx _ _ _ _ _ _ h.box
 ·rw[LZ (v':=v) (mi':=mi) (λx hx=>bW _ _ (by have:=(h.idx x hx).1;omega))];exact oI h.out λb cs hb=>(Fw.block b (az hb) (λe=>by
   have e2:b=p:=Option.some.inj e;rw[e2,h.box]at hb;exact absurd (er hb) (by decide))).trans hb
theorem Try.zzF(a b c d e a' b' c' d' e':Nat)(w:zp):(binOp .eql 72 (zB #[.int .u64 (a:Int),.int .u64 (b:Int),.int .u64 (c:Int),.int .u64 (d:Int),.int .u64 (e:Int)]) (zB #[.int .u64 (a':Int),.int .u64 (b':Int),.int .u64 (c':Int),.int .u64 (d':Int),.int .u64 (e':Int)])).run prog w=.ok (.bool (decide ((a,b,c,d,e)=(a',b',c',d',e')))) w:=by
 have h:=Try.zwr (a,b,c,d,e) (a',b',c',d',e') w;unfold jv kq at h;rw[run_eql_struct];dsimp only at h;rw[h]
 rfl
theorem zpL{g:Nat}{tr:Nat->Tr}(h:W.heap[g]?=za (zx (lC n tr) 72 (0,0))){s j:Nat}(hs:s<n)(hj:j<4)(T:Nat->Nat)(hT:tr s=mZ T)(x:Nat):
  (W.setCell ⟨g,s*5+(j+1),zi⟩ (.int .u64 (x:Int))).heap[g]?=za (zx (lC n (B8 tr s (mZ (λi=>if i=j then x else T i)))) 72 (0,0)):=by
 have h1:=dx W g (s*5+(j+1)) _ _ (.int .u64 (x:Int)) h;rw[h1]
 congr 2
 apply Gu
 intro i;have hsz:=PS n tr
 by_cases hi:i<n*5
 ·rw[Ml n _ hi,Qw,hsz];unfold B8
  by_cases e:i/5=s
  ·rw[ae e]
   by_cases e2:s*5+(j+1)=i
   ·rw[ae e2,ae (by omega)];have hm:i%5=j+1:=by omega
    rw[hm];have:j=0\/j=1\/j=2\/j=3:=by omega
    rcases this with k|k|k|k<;>subst k<;>rfl
   ·rw[ab e2,Ml n _ hi,e,hT];have hr:i%5=0\/i%5=1\/i%5=2\/i%5=3\/i%5=4:=by omega
    rcases hr with k|k|k|k|k<;>rw[k]
    ·rfl
    ·have:¬0=j:=by omega
     simp[kq,mZ,this]
    ·have:¬1=j:=by omega
     simp[kq,mZ,this]
    ·have:¬2=j:=by omega
     simp[kq,mZ,this]
    ·have:¬3=j:=by omega
     simp[kq,mZ,this]
  ·rw[ab e,ab (by omega),Ml n _ hi]
 ·rw[zr (by simp only[Array.size_setIfInBounds,hsz];omega),zr (by rw[PS];omega)]
end Go.Proofs.Ytfajjdgkiilhfaa
