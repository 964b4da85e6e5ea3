import Derived.Test.YtdimhpfiieepiaaGreatDoorC19
import Derived.Lib.ConvBytes
namespace Go.Proofs.YtdimhpfiieepiaaGreatDoor
open Proofs.Tryz
open Option renaming some->za,none->zb
open Value renaming int->zc,slice->ze
open Go renaming World->zd,Value->zf,TypeId->zh
open Obj renaming cells->zg
set_option maxHeartbeats 1000000
set_option maxRecDepth 100000
open Go.RowKit
attribute [local go_sem ↓] wp_at_zero wp_at_succ
section
variable {P:Program}{es:List (Int×Int)}{k:Int}
def I3(es:List (Int×Int)):List MapEntry:=es.zipIdx.map λx=>{key:=zc .i64 x.1.1,val:=zc .i64 x.1.2,born:=x.2}
def qQ(es:List (Int×Int)):Array MapEntry:=(I3 es).toArray
def eA(es:List (Int×Int)):List Int:=es.map Prod.fst
def qR(es:List (Int×Int))(k:Int):Int:=(es.map Prod.snd).getD (dW (eA es) k) 0
theorem zrB(es:List (Int×Int))(k v:Int):(qQ es).push {key:=zc .i64 k,val:=zc .i64 v,born:=es.length}=qQ (es++[(k,v)]):=by
 simp[qQ,I3,List.zipIdx_append]
theorem zsC(k:Int):∀(es:List (Int×Int)) (i:Nat),Instr.findNow (.int .i64) (zc .i64 k) ((es.zipIdx i).map λx=>{key:=zc .i64 x.1.1,val:=zc .i64 x.1.2,born:=x.2}) i=za (if dW (eA es) k<es.length then za (i+dW (eA es) k,zc .i64 (qR es k)) else zb)
 |[],i=>by simp[Instr.findNow,dW,eA]
 |x::es,i=>by
  rw[List.zipIdx_cons,wU];unfold Instr.findNow
  by_cases e:k=x.1
  ·have h0:dW (eA (x::es)) k=0:=by simp[dW,eA,List.findIdx_cons,e]
   have h1:qR (x::es) k=x.2:=by unfold qR;rw[h0];rfl
   rw[h0,h1];simp[Instr.sameNow,e]
  ·have h0:dW (eA (x::es)) k=dW (eA es) k+1:=by simp[dW,eA,List.findIdx_cons,e]
   have h1:qR (x::es) k=qR es k:=by unfold qR;rw[h0];rfl
   have ih:=zsC k es (i+1);rw[h0,h1];have hb:(k==x.1)=false:=eB.2 e;simp only[Instr.sameNow,hb];rw[ih];simp only[qu,Nat.add_lt_add_iff_right];rw[show i+1+dW (eA es) k=i+(dW (eA es) k+1) by omega]
   rfl
theorem Rp(es:List (Int×Int))(k:Int):dW (eA es) k<es.length↔k∈eA es:=by
 have:=DK (ks:=eA es) (k:=k);unfold eA at this ⊢;rw[rf]at this;exact this
theorem zpy{kt:zh}(w:zd)(hu:P.underlying kt=za (.int .i64))(es:List (Int×Int))(k:Int):(Instr.findKey kt (zc .i64 k) (I3 es)).run P w=.ok (if k∈eA es then za (dW (eA es) k,zc .i64 (qR es k)) else zb) w:=by
 refine MapKept.run_findKey hu ?_;have:=zsC k es 0;simp only[jw]at this;unfold I3;rw[this]
 by_cases h:k∈eA es
 ·rw[aC h,aC ((Rp es k).2 h)]
 ·rw[ak h,ak (λe=>h ((Rp es k).1 e))]
theorem zpA(h:k∉eA es):qR es k=0:=by
 unfold qR;rw[bP,qw]
 ·rfl
 ·rw[rf];exact Nat.le_of_not_lt λe=>h ((Rp es k).1 e)
theorem zpz{mt kt et:zh}(w:zd)(hm:P.underlying mt=za (.map kt et))(hu:P.underlying kt=za (.int .i64))(hz:(zeroValue et).run P w=.ok (zc .i64 0) w)(r:Nat)(es:List (Int×Int))(k:Int)(hg:w.heap[r]?=za (.map (qQ es) es.length)):
  (Instr.lookup mt (.map (za r)) (zc .i64 k) true).run P w=.ok (.tuple #[zc .i64 (qR es k),.bool (decide (k∈eA es))]) w:=by
 have hc:∀e:Bool,(Instr.checkKey e 10000 kt (zc .i64 k)).run P w=.ok () w:=λe=>MapKept.run_checkKey hu (by simp[MapKept.IsKey]) e 9999
 unfold Instr.lookup;simp only[Sem.run_bind,run_underlying hm,Result.andThen_ok,MapKept.run_getObj_map hg,Sem.run_pure,hc];rw[show (qQ es).toList=I3 es by simp[qQ],zpy w hu]
 by_cases h:k∈eA es
 ·rw[aC h];simp[h]
 ·rw[ak h];simp[h,hz,zpA h]
theorem ztY{mt kt et:zh}(w:zd)(hm:P.underlying mt=za (.map kt et))(hu:P.underlying kt=za (.int .i64))(r:Nat)(es:List (Int×Int))(k v:Int)(hk:k∉eA es)(hg:w.heap[r]?=za (.map (qQ es) es.length)):
  (Instr.mapUpdate mt (.map (za r)) (zc .i64 k) (zc .i64 v)).run P w=.ok () {w with heap:=w.heap.setIfInBounds r (.map (qQ (es++[(k,v)])) (es++[(k,v)]).length)}:=by
 have hc:∀e:Bool,(Instr.checkKey e 10000 kt (zc .i64 k)).run P w=.ok () w:=λe=>MapKept.run_checkKey hu (by simp[MapKept.IsKey]) e 9999
 unfold Instr.mapUpdate;simp only[Sem.run_bind,run_underlying hm,Result.andThen_ok,MapKept.run_getObj_map hg,hc];rw[show (qQ es).toList=I3 es by simp[qQ],zpy w hu,ak hk];simp only[Result.andThen_ok,MapKept.run_setObj_map _ hg,zrB];simp
theorem zj3{v:Int}(h:k∉eA es):qR (es++[(k,v)]) k=v:=by
 have e:dW (eA (es++[(k,v)])) k=es.length:=by
  have h1:eA (es++[(k,v)])=eA es++[k]:=by simp[eA]
  rw[h1];unfold dW;rw[List.findIdx_append,ak (by rw[List.findIdx_lt_length];rintro ⟨x,hx,e⟩;exact h (by rw[of_decide_eq_true e];exact hx))];simp[eA]
 unfold qR;rw[e];simp
end
structure GA where
 n:Nat
 emp:Bool
 fst:Nat->Bool
 lst:Nat->Bool
 fol:Nat->Nat->Bool
 st:Nat->Nat->Bool
 zAZ:∀i,fst i=true->i<n
 zBO:∀i,lst i=true->i<n
 zAY:∀i j,fol i j=true->i<n/\j<n
 stB:∀i c,st i c=true->i<n
section
variable {tk:Nat->UInt8->Prop} {fol:Nat->Nat->Prop} {D:Nat->Prop} {e:Prop} {first last:Nat->Prop} {M:GA}
end
def two(n:Nat)(φ ψ:Nat->Nat)(i:Nat):Nat:=if i<n then φ i else ψ (i-n)
section
variable {tk:Nat->UInt8->Prop} {fol fol':Nat->Nat->Prop} {D E:Nat->Prop} {e1 e2:Prop} {f1 l1 f2 l2:Nat->Prop} {M N:GA} {φ ψ:Nat->Nat}
end


section
variable {T U:Nat -> Nat}
def vk(x m:Nat):List UInt8:=(List.range m).map λs=>UInt8.ofNat (x/2 ^ (8*s))
theorem Yi(x m:Nat):vk x (m+1)=vk x m++[UInt8.ofNat (x/2 ^ (8*m))]:=by simp[vk,List.range_succ]
theorem Yr(x m:Nat):(vk x m).length=m:=by simp[vk]
theorem zqu{x y:Nat}:∀{m:Nat},vk x m=vk y m->x%2 ^ (8*m)=y%2 ^ (8*m)
 |0,_=>by simp[Nat.mod_one]
 |m+1,h=>by
  rw[Yi,Yi]at h;obtain⟨h1,h2⟩:=List.append_inj h (by rw[Yr,Yr]);have ih:=zqu h1;have h3:UInt8.ofNat (x/2 ^ (8*m))=UInt8.ofNat (y/2 ^ (8*m)):=by simpa using h2
  have h4:=congrArg UInt8.toNat h3;rw[UInt8.toNat_ofNat',UInt8.toNat_ofNat']at h4;have e:2 ^ (8*(m+1))=2 ^ (8*m)*2 ^ 8:=by rw[<-Nat.pow_add];rfl
  rw[e,Nat.mod_mul,Nat.mod_mul,ih,h4]
def rZ(T:Nat->Nat)(k:Nat):List UInt8:=(List.range k).flatMap λi=>vk (T i) 8
theorem Qy(T:Nat->Nat)(k:Nat):rZ T (k+1)=rZ T k++vk (T k) 8:=by simp[rZ,List.range_succ]
theorem QQ(T:Nat->Nat)(k:Nat):(rZ T k).length=8*k:=by
 induction k with
 |zero=>rfl
 |succ k ih=>rw[Qy,nG,ih,Yr];omega
theorem zpi(hT:∀i,T i<18446744073709551616)(hU:∀i,U i<18446744073709551616):∀k,rZ T k=rZ U k↔∀i,i<k->T i=U i
 |0=>by simp[rZ]
 |k+1=>by
  rw[Qy,Qy];have ih:=zpi hT hU k;constructor
  ·intro e;obtain⟨e1,e2⟩:=List.append_inj e (by rw[QQ,QQ]);intro i hi
   by_cases IC:i=k
   ·subst IC;have:=zqu e2;rw[show (2:Nat) ^ (8*8)=18446744073709551616 by decide,yF (hT _),yF (hU _)]at this;exact this
   ·exact ih.1 e1 i (by omega)
  ·intro e;rw[ih.2 (λi hi=>e i (by omega)),e k (by omega)]
def lJ(nw:Nat)(T:Nat->Nat):ByteArray:=⟨(rZ T nw).toArray⟩
theorem zph{nw:Nat}(hT:∀i,T i<18446744073709551616)(hU:∀i,U i<18446744073709551616):lJ nw T=lJ nw U↔∀i,i<nw->T i=U i:=by
 rw[<-zpi hT hU nw];unfold lJ;constructor
 ·intro e;have:=congrArg (λb:ByteArray=>b.data.toList) e
  simpa using this
 ·intro e;rw[e]
end
theorem Tryz.zAm:(prog.info? 5).map (λi=>(i.zero,i.size,i.bytes))=za (za (.int .u8 0),1,1):=by kernel_rfl
def Fy(l:List UInt8):List zf:=l.map λb=>Value.int .u8 b.toNat
theorem zrl(l:List UInt8)(b:UInt8):Fy (l++[b])=Fy l++[.int .u8 b.toNat]:=by simp[Fy]
theorem zsB(nw g cap:Nat)(T:Nat->Nat)(w:zd)(hT:aH w nw g T)(bY:nw<=1000):
  Calls prog 194 #[ze (za ⟨g,0,zb⟩) nw cap] w λe w'=>e=.returned (.string (lJ nw T))/\Below w.heap.size w w':=by
 obtain⟨iB,hjB,zxL,zxM,zxN⟩:=info_parts Tryz.zAm;have hi8:(nw:Int)<=1000:=by omega
 go_enter func194,ntmps194
 go_wp2_with (refine wpList_make_own _ rfl _ _ 140 rfl w.heap.size 5 iB _ 1 underlying140 hjB zxL zxM _ _ _ (8*nw) rfl rfl (by omega) (by rw[zxN];omega) (by unfold maxLen;omega) (aj _) ?_;intro w1 Di Db)
 have ag:Below w.heap.size w w1:=(Below.refl _ _).grown Db (aj _) (by intro k h;cases h);clear Db
 go_loopw [3,13] (λs i wr=>∃(k g9 c9 nl:Nat),k<=nw/\i=zc .i64 k/\s=ze (za ⟨g9,0,zb⟩) nl c9/\Hid (nl=8*k)/\Below w.heap.size w wr/\wr.ownsRow w.heap.size 5 1 (ze (za ⟨g9,0,zb⟩) nl c9) nl (Fy (rZ T k)))
  (λ_ i _=>nw-(intOf i).toNat)
 case atStart=>exact⟨0,_,_,0,aR _,rfl,rfl,rfl,ag,Di⟩
 case round=>
  clear ag Di;obtain⟨k,g9,c9,nl,hk,rfl,rfl,Kl,hb,aB⟩:=hrel
  by_cases hlt:k<nw
  ·have c0:=(hT.below hb).cell hlt;have hx:=hT.lt k;have Hks:Hid (rZ T (k+1)=rZ T k++vk (T k) 8):=Qy T k;have da:(0:Int)<=(k:Int):=by omega
   have cO:(k:Int)<(nw:Int):=by omega
   generalize T k=a at *;go_wp2;clear c0
   go_loopw [3,6] (λs sh wr=>∃(m g9 c9 nl:Nat),m<=8/\sh=zc .i64 ((8*m:Nat):Int)/\s=ze (za ⟨g9,0,zb⟩) nl c9/\Hid (nl=8*k+m)/\Below w.heap.size w wr/\wr.ownsRow w.heap.size 5 1 (ze (za ⟨g9,0,zb⟩) nl c9) nl (Fy (rZ T k++vk a m)))
    (λ_ sh _=>64-(intOf sh).toNat)
   case atStart=>exact⟨0,_,_,nl,by omega,rfl,rfl,by have:=Kl.out;show _=_;omega,hb,by simpa [vk]using aB⟩
   case round=>
    clear hb aB;obtain⟨m,g8,c8,Qa,hm,rfl,rfl,fJ,hb,aB⟩:=hrel
    by_cases hm8:m<8
    ·have uM:((8*m:Nat):Int)<64:=by omega
     have uQ:Qa<=8000:=by have:=fJ.out;omega
     obtain⟨s8,Sz⟩:∃s8,Hid (8*m=s8):=⟨_,rfl⟩;rw[Sz.out]at uM ⊢;have HV:Hid ((a:Int)/2 ^ s8%256=((UInt8.ofNat (a/2 ^ (8*m))).toNat:Int)):=by
      show _=_;rw[UInt8.toNat_ofNat',Sz.out,Int.natCast_emod,Int.natCast_ediv,Int.natCast_pow]
      rfl
     go_wp2_with (at_builtin;refine wL wr rfl (.tmp 21) (.tmp 26) 140 rfl w.heap.size 5 iB _ 1 underlying140 hjB zxL zxM zxN rfl g8 c8 Qa (Fy (rZ T k++vk a m)) (.int .u8 ((a:Int)/2 ^ s8%256)) rfl aB rfl rfl (by omega) (by omega) hb.size ?_;intro g' cap' w5 qb vX dF)
     go_roundw
     case rel=>
      refine⟨m+1,g',cap',Qa+1,by omega,?_,rfl,by have:=fJ.out;show _=_;omega,hb.grown vX hb.size (by intro q hq;cases hq;exact(qn aB).1),?_⟩
      ·rw[show ((8*(m+1):Nat):Int)=(s8:Int)+8 by have:=Sz.out;omega]
      ·rw[HV.out]at qb;rw[Yi,<-pG,zrl];exact qb
     case measure=>simp[intOf];omega
    ·have kx:m=8:=by omega
     subst kx;go_wp2
     go_roundw
     case rel=>exact⟨k+1,g8,c8,Qa,by omega,by go_num,rfl,by have:=fJ.out;show _=_;omega,hb,by rw[Hks.out];exact aB⟩
     case measure=>simp[intOf];omega
  ·have bK:k=nw:=by omega
   subst bK;have hcv:=run_convert_bytes_back (P:=prog) wr 140 9 5 ⟨g9,0,zb⟩ c9 (rZ T k) underlying140 underlying5 underlying9 (λj hj=>by
    have e:(⟨g9,0,zb⟩:Addr).add j=⟨g9,j,zb⟩:=by unfold Addr.add;split<;>simp_all
    rw[e,aB.cellAt j (by have:=Kl.out;rw[QQ]at hj;omega)];simp[Fy,hj])
   rw[QQ,<-Kl.out]at hcv;have hck:lJ k T=⟨(rZ T k).toArray⟩:=rfl;rw[<-hck]at hcv;clear hck;go_wp2;go_ret;exact⟨rfl,hb⟩
section
variable {tk:Nat -> UInt8 -> Prop}{fol:Nat -> Nat -> Prop}{first last:Nat -> Prop}{c:UInt8}{u:aJ}{e:Prop}
theorem ztw{p:Nat}:cU tk fol first [c] p↔first p/\tk p c:=by
 constructor
 ·intro h;generalize hu:[c]=u at h;cases h with
  |one d _ a b=>cases hu;exact⟨a,b⟩
  |snoc v d q _ hr a b=>
   have hl:=congrArg List.length hu;simp at hl;subst hl;exact absurd rfl hr.ne
 ·rintro ⟨a,b⟩;exact .one c p a b
theorem zsc{q:Nat}(hu:u≠[]):cU tk fol first (u++[c]) q↔∃p,cU tk fol first u p/\fol p q/\tk q c:=by
 constructor
 ·intro h;generalize hw:u++[c]=w at h;cases h with
  |one d _ a b=>
   have hl:=congrArg List.length hw;simp at hl;exact absurd hl hu
  |snoc v d p _ hr a b=>
   obtain⟨e1,e2⟩:=List.append_inj' hw rfl;cases e2;subst e1;exact⟨p,hr,a,b⟩
 ·rintro ⟨p,hr,a,b⟩;exact .snoc u c p q hr a b
theorem zqG(hu:u≠[]):Acc tk fol e first last u↔∃p,cU tk fol first u p/\last p:=
 ⟨λh=>h.elim (λk=>absurd k.1 hu) id,.inr⟩
theorem zsL:Acc tk fol e first last []↔e:=
 ⟨λh=>h.elim (λk=>k.2) (λ⟨_,hr,_⟩=>absurd rfl hr.ne),λh=>.inl ⟨rfl,h⟩⟩
end
structure PA where
 D:Nat->Prop
 e:Prop
 first:Nat->Prop
 last:Nat->Prop
 fol:Nat->Nat->Prop
 tk:Nat->UInt8->Prop
def PA.Tr(b:Bool):PA:=⟨λ_=>False,b=true,λ_=>False,λ_=>False,λ_ _=>False,λ_ _=>False⟩
def PA.one(f:Nat->Bool)(n:Nat):PA:=⟨(· = n),False,(· = n),(· = n),λ_ _=>False,λp c=>p=n/\f c.toNat=true⟩
def PA.aN(x y:PA):PA:=⟨λp=>x.D p\/y.D p,x.e\/y.e,λp=>x.first p\/y.first p,λp=>x.last p\/y.last p,λp q=>(x.D p/\x.fol p q)\/(y.D p/\y.fol p q),λp c=>(x.D p/\x.tk p c)\/(y.D p/\y.tk p c)⟩
def PA.seq(x y:PA):PA:=⟨λp=>x.D p\/y.D p,x.e/\y.e,λp=>x.first p\/(x.e/\y.first p),λp=>y.last p\/(y.e/\x.last p),λp q=>((x.D p/\x.fol p q)\/(y.D p/\y.fol p q))\/(x.last p/\y.first q),λp c=>(x.D p/\x.tk p c)\/(y.D p/\y.tk p c)⟩
def PA.star(x:PA):PA:=⟨x.D,True,x.first,x.last,λp q=>x.fol p q\/(x.last p/\x.first q),x.tk⟩
def PA.uZ(x:PA):PA:={x with e:=True}
structure ie(tk:Nat->UInt8->Prop)(fol:Nat->Nat->Prop)(D:Nat->Prop)(e:Prop)(first last:Nat->Prop)(M:PA):Prop where
 fi:∀p,first p->D p
 la:∀p,last p->D p
 fo:∀p q,D p->fol p q->D q
 dm:∀p,D p↔M.D p
 em:e↔M.e
 fs:∀p,first p↔M.first p
 ls:∀p,last p↔M.last p
 fl:∀p q,D p->(fol p q↔M.fol p q)
 FK:∀p c,D p->(tk p c↔M.tk p c)
section
variable {tk:Nat->UInt8->Prop} {fol:Nat->Nat->Prop} {D:Nat->Prop} {e:Prop} {first last:Nat->Prop} {M:PA}
theorem ie.congr{fol':Nat->Nat->Prop}(h:ie tk fol D e first last M)(he:∀p q,D p->(fol' p q↔fol p q)):ie tk fol' D e first last M:=
 ⟨h.fi,h.la,λp q hp hq=>h.fo p q hp ((he p q hp).1 hq),h.dm,h.em,h.fs,h.ls,λp q hp=>(he p q hp).trans (h.fl p q hp),h.FK⟩
theorem ie.words{N:PA}(h:ie tk fol D e first last M)(hl:M=N):ie tk fol D e first last N:=hl ▸ h
theorem ie.uZ(h:ie tk fol D e first last M):ie tk fol D True first last M.uZ:=⟨h.fi,h.la,h.fo,h.dm,Iff.rfl,h.fs,h.ls,h.fl,h.FK⟩
theorem ie.dom{D':Nat->Prop}{e':Prop}{first' VR:Nat->Prop}(h:ie tk fol D e first last M)(hd:∀p,D p↔D' p)(he:e↔e')(h1:∀p,first p↔first' p)(h2:∀p,last p↔VR p):ie tk fol D' e' first' VR M:=by
 obtain rfl:D=D':=funext λp=>propext (hd p)
 obtain rfl:e=e':=propext he;obtain rfl:first=first':=funext λp=>propext (h1 p)
 obtain rfl:last=VR:=funext λp=>propext (h2 p)
 exact h
theorem znr(tk:Nat->UInt8->Prop)(fol:Nat->Nat->Prop)(b:Bool):ie tk fol (λ_=>False) (b=true) (λ_=>False) (λ_=>False) (.Tr b):=
 ⟨λ_ h=>h,λ_ h=>h,λ_ _ h=>h.elim,λ_=>Iff.rfl,Iff.rfl,λ_=>Iff.rfl,λ_=>Iff.rfl,λ_ _ h=>h.elim,λ_ _ h=>h.elim⟩
theorem zo4{f:Nat->Bool}{n:Nat}(ht:∀c,tk n c↔f c.toNat=true)(hf:∀q,¬fol n q):ie tk fol (· = n) False (· = n) (· = n) (.one f n):=
 ⟨λ_ h=>h,λ_ h=>h,λp q hp hq=>absurd hq (hp ▸ hf q),λ_=>Iff.rfl,Iff.rfl,λ_=>Iff.rfl,λ_=>Iff.rfl,λp q hp=>⟨λh=>absurd h (hp ▸ hf q),False.elim⟩,λp c hp=>by
  subst hp;exact(ht c).trans ⟨λh=>⟨rfl,h⟩,λh=>h.2⟩⟩
end
theorem ie.tk{tk Je:Nat->UInt8->Prop}{fol:Nat->Nat->Prop}{D:Nat->Prop}{e:Prop}{first last:Nat->Prop}{M:PA}(h:ie tk fol D e first last M)(he:∀p c,D p->(Je p c↔tk p c)):ie Je fol D e first last M:=
 ⟨h.fi,h.la,h.fo,h.dm,h.em,h.fs,h.ls,h.fl,λp c hp=>(he p c hp).trans (h.FK p c hp)⟩
section
variable {tk:Nat->UInt8->Prop} {fol fol':Nat->Nat->Prop} {D E:Nat->Prop} {e1 e2:Prop} {f1 l1 f2 l2:Nat->Prop} {M N:PA}
theorem zsI(hx:ie tk fol D e1 f1 l1 M)(hy:ie tk fol E e2 f2 l2 N)(dj:∀p,D p->¬E p)(p q:Nat)(hp:D p\/E p):fol p q↔(M.D p/\M.fol p q)\/(N.D p/\N.fol p q):=by
 rcases hp with hp|hp
 ·rw[hx.fl p q hp];exact⟨λh=>.inl ⟨(hx.dm p).1 hp,h⟩,λh=>h.elim (λk=>k.2) (λk=>absurd ((hy.dm p).2 k.1) (dj p hp))⟩
 ·rw[hy.fl p q hp];exact⟨λh=>.inr ⟨(hy.dm p).1 hp,h⟩,λh=>h.elim (λk=>absurd hp (dj p ((hx.dm p).2 k.1))) (λk=>k.2)⟩
theorem zqr(hx:ie tk fol D e1 f1 l1 M)(hy:ie tk fol E e2 f2 l2 N)(dj:∀p,D p->¬E p)(p:Nat)(c:UInt8)(hp:D p\/E p):tk p c↔(M.D p/\M.tk p c)\/(N.D p/\N.tk p c):=by
 rcases hp with hp|hp
 ·rw[hx.FK p c hp];exact⟨λh=>.inl ⟨(hx.dm p).1 hp,h⟩,λh=>h.elim (λk=>k.2) (λk=>absurd ((hy.dm p).2 k.1) (dj p hp))⟩
 ·rw[hy.FK p c hp];exact⟨λh=>.inr ⟨(hy.dm p).1 hp,h⟩,λh=>h.elim (λk=>absurd hp (dj p ((hx.dm p).2 k.1))) (λk=>k.2)⟩
theorem zo3(hx:ie tk fol D e1 f1 l1 M)(hy:ie tk fol E e2 f2 l2 N)(dj:∀p,D p->¬E p):ie tk fol (λp=>D p\/E p) (e1\/e2) (λp=>f1 p\/f2 p) (λp=>l1 p\/l2 p) (M.aN N):=
 ⟨λp h=>h.imp (hx.fi p) (hy.fi p),λp h=>h.imp (hx.la p) (hy.la p),λp q hp hq=>hp.imp (λh=>hx.fo p q h hq) (λh=>hy.fo p q h hq),λp=>or_congr (hx.dm p) (hy.dm p),or_congr hx.em hy.em,λp=>or_congr (hx.fs p) (hy.fs p),λp=>or_congr (hx.ls p) (hy.ls p),zsI hx hy dj,zqr hx hy dj⟩
theorem zo5{f l:Nat->Prop}(hx:ie tk fol D e1 f1 l1 M)(hy:ie tk fol E e2 f2 l2 N)(dj:∀p,D p->¬E p)
  (rP:∀p q,D p\/E p->(fol' p q↔fol p q\/(l1 p/\f2 q))) (hf:∀p,f p↔f1 p\/(e1/\f2 p)) (hl:∀p,l p↔l2 p\/(e2/\l1 p)):ie tk fol' (λp=>D p\/E p) (e1/\e2) f l (M.seq N):=by
 refine⟨λp h=>?_,λp h=>?_,λp q hp hq=>?_,λp=>or_congr (hx.dm p) (hy.dm p),and_congr hx.em hy.em,λp=>(hf p).trans (or_congr (hx.fs p) (and_congr hx.em (hy.fs p))),λp=>(hl p).trans (or_congr (hy.ls p) (and_congr hy.em (hx.ls p))),λp q hp=>(rP p q hp).trans (or_congr (zsI hx hy dj p q hp) (and_congr (hx.ls p) (hy.fs q))),zqr hx hy dj⟩
 ·rcases(hf p).1 h with h|h
  ·exact .inl (hx.fi p h)
  ·exact .inr (hy.fi p h.2)
 ·rcases(hl p).1 h with h|h
  ·exact .inr (hy.la p h)
  ·exact .inl (hx.la p h.2)
 ·rcases(rP p q hp).1 hq with h|h
  ·exact hp.imp (λk=>hx.fo p q k h) (λk=>hy.fo p q k h)
  ·exact .inr (hy.fi q h.2)
theorem zns(h:ie tk fol D e1 f1 l1 M)(rP:∀p q,D p->(fol' p q↔fol p q\/(l1 p/\f1 q))):ie tk fol' D True f1 l1 M.star:=
 ⟨h.fi,h.la,λp q hp hq=>((rP p q hp).1 hq).elim (h.fo p q hp) (λk=>h.fi q k.2),h.dm,Iff.rfl,h.fs,h.ls,λp q hp=>(rP p q hp).trans (or_congr (h.fl p q hp) (and_congr (h.ls p) (h.fs q))),h.FK⟩
end
def yi(f:Nat->PA)(c n:Nat):Nat->PA
 |0=>.Tr true
 |j+1=>((f (n+j*c)).seq (yi f c n j)).uZ
def vK(f:Nat->PA)(c:Nat)(y:PA)(s:Nat):Nat->PA
 |0=>y
 |k+1=>(f (s+k*c)).seq (vK f c y s k)
def eF:Pt->Nat
 |.set _=>1
 |.seq l r=>eF l+eF r
 |.aN l r=>eF l+eF r
 |.az b mn mx=>if mx=-1 then (1+mn.toNat)*eF b else ((mx-mn).toNat+mn.toNat)*eF b
 |.aT b _=>eF b
def cj:Pt->Nat->PA
 |.set f,n=>.one f n
 |.seq l r,n=>(cj l n).seq (cj r (n+eF l))
 |.aN l r,n=>(cj l n).aN (cj r (n+eF l))
 |.az b mn mx,n=>if mx=-1 then vK (cj b) (eF b) (cj b n).star (n+1*eF b) mn.toNat else vK (cj b) (eF b) (yi (cj b) (eF b) n (mx-mn).toNat) (n+(mx-mn).toNat*eF b) mn.toNat
 |.aT b _,n=>cj b n
theorem JU{f:Nat->PA}{c:Nat}(hf:∀s p,(f s).D p↔s<=p/\p<s+c)(n:Nat):∀j p,(yi f c n j).D p↔n<=p/\p<n+j*c
 |0,p=>⟨False.elim,λh=>by simp at h;omega⟩
 |j+1,p=>by
  show (f (n+j*c)).D p\/(yi f c n j).D p↔_;rw[hf,JU hf n j p,Nat.succ_mul];omega
theorem JT{f:Nat->PA}{c:Nat}{y:PA}{n s:Nat}(hf:∀s p,(f s).D p↔s<=p/\p<s+c)(hy:∀p,y.D p↔n<=p/\p<s)(hs:n<=s):∀k p,(vK f c y s k).D p↔n<=p/\p<s+k*c
 |0,p=>by rw[Nat.zero_mul,uf];exact hy p
 |k+1,p=>by
  show (f (s+k*c)).D p\/(vK f c y s k).D p↔_;rw[hf,JT hf hy hs k p,Nat.succ_mul];omega
theorem lQ:∀(p:Pt) (n q:Nat),(cj p n).D q↔n<=q/\q<n+eF p
 |.set f,n,q=>by show q=n↔n<=q/\q<n+1;omega
 |.seq l r,n,q=>by
  show (cj l n).D q\/(cj r (n+eF l)).D q↔n<=q/\q<n+(eF l+eF r);rw[lQ l,lQ r];omega
 |.aN l r,n,q=>by
  show (cj l n).D q\/(cj r (n+eF l)).D q↔n<=q/\q<n+(eF l+eF r);rw[lQ l,lQ r];omega
 |.az b mn mx,n,q=>by
  by_cases h:mx=-1
  ·rw[cj,aC h,eF,aC h,JT (n:=n) (lQ b) (λp=>?_) (by omega),Nat.add_mul]
   ·omega
   ·show (cj b n).D p↔_;rw[lQ b,Nat.one_mul]
  ·rw[cj,ak h,eF,ak h,JT (n:=n) (lQ b) (λp=>JU (lQ b) n _ p) (by omega),Nat.add_mul];omega
 |.aT b _,n,q=>lQ b n q
theorem zsG(p:Pt)(n q:Nat):(PA.star (cj p n)).D q↔n<=q/\q<n+1*eF p:=by
 rw[Nat.one_mul];exact lQ p n q
theorem zke(n:Nat)(p:Pt)(k:Nat):vK (cj p) (eF p) (PA.star (cj p n)) (n+1*eF p) k=cj (.az p (k:Int) (-1)) n:=by
 rw[cj,aC rfl,sM]
theorem zkf(n:Nat)(p:Pt)(k j:Nat):vK (cj p) (eF p) (yi (cj p) (eF p) n j) (n+j*eF p) k=cj (.az p (k:Int) ((k+j:Nat):Int)) n:=by
 rw[cj,ak (by omega),sM,show (((k+j:Nat):Int)-k).toNat=j from by omega]
theorem zsd{n a b:Nat}{D:Nat->Prop}(h1:∀p,(n<=p/\p<a)↔D p)(h2:∀p,D p↔n<=p/\p<b)(ha:n<=a)(hb:n<=b):a=b:=by
 rcases Ca a b with h|h|h
 ·have:=((h1 a).trans (h2 a)).2 ⟨ha,h⟩;omega
 ·exact h
 ·have:=((h1 b).trans (h2 b)).1 ⟨hb,h⟩;omega
variable {B nw g ga gl n bt n' k o ha hl:Nat}{b c:Bool}{w W W1 W2:zd}{S D E:Nat -> Prop}{T A L mk fr mk' fr' A' L':Nat -> Nat}{f f':Nat -> Nat -> Bool}{F F':Nat -> Nat -> Nat}{M N:PA}{sv fv v:zf}{cs:Array zf}
structure Kp(B:Nat)(w W:zd):Prop where
 os:W.os=w.os
 tape:W.tape=w.tape
 output:W.output=w.output
 size:w.heap.size<=W.heap.size
 low:∀k,k<B->W.heap[k]?=w.heap[k]?
 dO:∀(k:Nat) (cs:Array zf) (t:zh),w.heap[k]?=za (zg cs t (0,0))->t≠268->t≠295->t≠193->W.heap[k]?=za (zg cs t (0,0))
theorem Kp.trans{a b c:zd}(h:Kp B a b)(k:Kp B b c):Kp B a c:=
 ⟨k.os.trans h.os,k.tape.trans h.tape,k.output.trans h.output,aW h.size k.size,λi hi=>(k.low i hi).trans (h.low i hi),λi cs t e h1 h2 h3=>k.dO i cs t (h.dO i cs t e h1 h2 h3) h1 h2 h3⟩
theorem Kp.bR(hB:B<=w.heap.size)(h:Below w.heap.size w W):Kp B w W:=
 ⟨h.os,h.tape,h.output,h.size,λk hk=>h.block k (by omega),λk cs t e _ _ _=>(h.block k (ah.1 e).1).trans e⟩
theorem Kp.zAw(t:ap S w W)(hB:B<=w.heap.size)(hS:∀k,k<w.heap.size->S k->B<=k/\∃cs t,w.heap[k]?=za (zg cs t (0,0))/\(t=268\/t=295\/t=193)):Kp B w W:=
 ⟨t.os,t.tape,t.output,t.size,λk hk=>t.same k (by omega) (λhs=>by have:=(hS k (by omega) hs).1;omega),λk cs u e h1 h2 h3=>by
  have hlt:=(ah.1 e).1;refine(t.same k hlt (λhs=>?_)).trans e;obtain⟨-,fN,u',e',hu⟩:=hS k hlt hs;rw[e]at e';have:=bL e';subst this;rcases hu with hu|hu|hu
  ·exact h1 hu
  ·exact h2 hu
  ·exact h3 hu⟩
theorem Kp.kJ(h:Kp B w W1)(hB:B<=w.heap.size)(t:ap S W1 W2)(hS:∀k,k<w.heap.size->S k->W2.heap[k]?=W1.heap[k]?):Kp B w W2:=by
 have same:∀k,k<w.heap.size->W2.heap[k]?=W1.heap[k]?:=λk hk=>by
  by_cases hs:S k
  ·exact hS k hk hs
  ·exact t.same k (bA hk h.size) hs
 exact⟨t.os.trans h.os,t.tape.trans h.tape,t.output.trans h.output,aW h.size t.size,λk hk=>(same k (by omega)).trans (h.low k hk),λk cs t e h1 h2 h3=>(same k (ah.1 e).1).trans (h.dO k cs t e h1 h2 h3)⟩
theorem Kp.pos(h:Kp B w W)(hp:aH w nw g T):aH W nw g T:=⟨h.dO _ _ _ hp.row (by decide) (by decide) (by decide),hp.lt⟩
theorem Kp.zwi(h:Kp B w W)(hp:mH w nw ga gl A L):mH W nw ga gl A L:=⟨h.pos hp.fi,h.pos hp.la,hp.ne⟩
theorem Kp.Mx(h:Kp B w W):bJ w W:=λ_ _ e=>h.dO _ _ _ e (by decide) (by decide) (by decide)
def Jf(f:Nat->Nat->Bool)(p:Nat)(c:UInt8):Prop:=f p c.toNat=true
def yw(F:Nat->Nat->Nat)(p q:Nat):Prop:=au (F p) q=true
def px(T:Nat->Nat)(p:Nat):Prop:=au T p=true
structure fM(B:Nat)(w:zd)(n nw bt:Nat)(mk:Nat->Nat)(f:Nat->Nat->Bool)(fr:Nat->Nat)(F:Nat->Nat->Nat)(W:zd)(n' ga gl:Nat)(b:Bool)(M:PA)(sv fv:zf)(mk':Nat->Nat)(f':Nat->Nat->Bool)(fr':Nat->Nat)(F':Nat->Nat->Nat)(A L:Nat->Nat):Prop where
 tk:ji B W n' nw bt sv fv mk' f' fr' F'
 fg:mH W nw ga gl A L
 le:n<=n'
 na:w.heap.size<=ga
 nl:w.heap.size<=gl
 ea:∀p,p<n'->fr' p≠ga
 el:∀p,p<n'->fr' p≠gl
 old:∀p,p<n->mk' p=mk p/\f' p=f p/\fr' p=fr p/\F' p=F p
 new:∀p,n<=p->p<n'->w.heap.size<=fr' p
 iS:ie (Jf f') (yw F') (λp=>n<=p/\p<n') (b=true) (px A) (px L) M
 kp:Kp B w W
 hB:B<=w.heap.size
theorem fM.ED
  (h:fM B w n nw bt mk f fr F W n' ga gl b M sv fv mk' f' fr' F' A L) (hM:∀q,M.D q↔n<=q/\q<k) (hk:n<=k):n'=k:=zsd h.iS.dm hM h.le hk
theorem fM.start{w0:zd}
  (h:fM B w n nw bt mk f fr F W n' ga gl b M sv fv mk' f' fr' F' A L) (hb:Below w0.heap.size w0 w) (hB:B<=w0.heap.size):fM B w0 n nw bt mk f fr F W n' ga gl b M sv fv mk' f' fr' F' A L:=
 have hs:=hb.size
 ⟨h.tk,h.fg,h.le,by have:=h.na;omega,by have:=h.nl;omega,h.ea,h.el,h.old,λp h1 h2=>by have:=h.new p h1 h2;omega,h.iS,(Kp.bR hB hb).trans h.kp,hB⟩
theorem fM.below
  (h:fM B w n nw bt mk f fr F W n' ga gl b M sv fv mk' f' fr' F' A L) (hb:Below W.heap.size W W2):fM B w n nw bt mk f fr F W2 n' ga gl b M sv fv mk' f' fr' F' A L:=
 ⟨h.tk.below hb,h.fg.below hb,h.le,h.na,h.nl,h.ea,h.el,h.old,h.new,h.iS,h.kp.trans (Kp.bR (aW h.hB h.kp.size) hb),h.hB⟩
theorem ji.se{b:Nat}(h:ji B w n nw bt sv fv mk f fr F)(hb:w.heap[b]?=za (zg cs 226 (0,0)))(h0:b≠0):ji B (w.setCell ⟨b,o,zb⟩ v) n nw bt sv fv mk f fr F:=by
 have hk:∀(k:Nat) (a:Array zf) (u:zh),w.heap[k]?=za (zg a u (0,0))->u≠226->(w.setCell ⟨b,o,zb⟩ v).heap[k]?=za (zg a u (0,0)):=λk a u hk hne=>
  ((iZ w b o v).block k (ah.1 hk).1 (λe=>by cases e;rw[hb]at hk;exact hne (bL hk).symm)).trans hk
 exact⟨hk _ _ _ h.box (by decide),li h.so λk cs e=>hk k cs _ e (by decide),li h.fo λk cs e=>hk k cs _ e (by decide),⟨λp hp=>⟨hk _ _ _ (h.fol.rows p hp).row (by decide),(h.fol.rows p hp).lt⟩,h.fol.inj⟩,λp hp=>hk _ _ _ (h.qf p hp) (by decide),h.kE,h.ic,h.dv.keep ((iZ w b o v).block 0 (ql h.dv) (λe=>h0 (by cases e;rfl))),h.bb,h.b0⟩
theorem aH.se{b:Nat}(h:aH w nw g T)(hb:w.heap[b]?=za (zg cs 226 (0,0))):aH (w.setCell ⟨b,o,zb⟩ v) nw g T:=
 h.put (λe=>by subst e;have:=h.row;rw[hb]at this;exact absurd (bL this) (by decide))
theorem fM.se
  (h:fM B w n nw bt mk f fr F W n' ga gl b M sv fv mk' f' fr' F' A L) (hb:W.heap[k]?=za (zg cs 226 (0,0))) (h0:w.heap.size<=k) (h1:0<w.heap.size):fM B w n nw bt mk f fr F (W.setCell ⟨k,o,zb⟩ v) n' ga gl b M sv fv mk' f' fr' F' A L:=
 ⟨h.tk.se hb (by omega),⟨h.fg.fi.se hb,h.fg.la.se hb,h.fg.ne⟩,h.le,h.na,h.nl,h.ea,h.el,h.old,h.new,h.iS,h.kp.kJ h.hB ((ap.refl (λj=>j=k) W).grown (iZ W k o v) (λg e=>by cases e;exact .inl rfl)) (λj hj e=>by omega),h.hB⟩
structure yT(B:Nat)(w:zd)(n nw bt:Nat)(mk:Nat->Nat)(f:Nat->Nat->Bool)(fr:Nat->Nat)(F:Nat->Nat->Nat)(W:zd)(n' ga gl ha hl:Nat)(b c:Bool)(D E:Nat->Prop)(M N:PA)(sv fv:zf)(mk':Nat->Nat)(f':Nat->Nat->Bool)(fr':Nat->Nat)(F':Nat->Nat->Nat)(A L A' L':Nat->Nat):Prop where
 tk:ji B W n' nw bt sv fv mk' f' fr' F'
 x:mH W nw ga gl A L
 y:mH W nw ha hl A' L'
 le:n<=n'
 na:w.heap.size<=ga
 nl:w.heap.size<=gl
 ma:w.heap.size<=ha
 ml:w.heap.size<=hl
 aa:ga≠ha
 al:ga≠hl
 la:gl≠ha
 ll:gl≠hl
 e1:∀p,p<n'->fr' p≠ga
 e2:∀p,p<n'->fr' p≠gl
 e3:∀p,p<n'->fr' p≠ha
 e4:∀p,p<n'->fr' p≠hl
 old:∀p,p<n->mk' p=mk p/\f' p=f p/\fr' p=fr p/\F' p=F p
 new:∀p,n<=p->p<n'->w.heap.size<=fr' p
 gx:ie (Jf f') (yw F') D (b=true) (px A) (px L) M
 gy:ie (Jf f') (yw F') E (c=true) (px A') (px L') N
 dj:∀p,D p->¬E p
 un:∀p,D p\/E p↔n<=p/\p<n'
 kp:Kp B w W
 hB:B<=w.heap.size
theorem yT.swap
  (h:yT B w n nw bt mk f fr F W n' ga gl ha hl b c D E M N sv fv mk' f' fr' F' A L A' L'):yT B w n nw bt mk f fr F W n' ha hl ga gl c b E D N M sv fv mk' f' fr' F' A' L' A L:=
 ⟨h.tk,h.y,h.x,h.le,h.ma,h.ml,h.na,h.nl,h.aa.symm,h.la.symm,h.al.symm,h.ll.symm,h.e3,h.e4,h.e1,h.e2,h.old,h.new,h.gy,h.gx,λp a b=>h.dj p b a,λp=>(Or.comm).trans (h.un p),h.kp,h.hB⟩
theorem fM.pair{W1':zd}{n1 n2:Nat}{Dw oY:zf}{xS MH:Nat->Nat}{f1 f2:Nat->Nat->Bool}{Tu H9:Nat->Nat}{F1 F2:Nat->Nat->Nat}
  (h:fM B w n nw bt mk f fr F W1 n1 ga gl b M sv fv xS f1 Tu F1 A L) (hb:Below W1.heap.size W1 W1') (k:fM B W1' n1 nw bt xS f1 Tu F1 W2 n2 ha hl c N Dw oY MH f2 H9 F2 A' L'):
  yT B w n nw bt mk f fr F W2 n2 ga gl ha hl b c (λp=>n<=p/\p<n1) (λp=>n1<=p/\p<n2) M N Dw oY MH f2 H9 F2 A L A' L':=by
 have s1:=h.kp.size;have s2:=hb.size;have P7:=h.fg.fi.cB;have P8:=h.fg.la.cB;have q1:=h.na;have q2:=h.nl;have q3:=k.na;have q4:=k.nl;have l1:=h.le;have l2:=k.le;have fC:∀p,p<n2->∀g,g<W1.heap.size->(∀p,p<n1->Tu p≠g)->H9 p≠g:=λp hp g hg h1 e=>by
  by_cases jn:p<n1
  ·rw[(k.old p jn).2.2.1]at e;exact h1 p jn e
  ·have:=k.new p (by omega) hp;omega
 refine⟨k.tk,k.kp.zwi (h.fg.below hb),k.fg,by omega,q1,q2,by omega,by omega,by omega,by omega,by omega,by omega,λp hp=>fC p hp ga P7 h.ea,λp hp=>fC p hp gl P8 h.el,k.ea,k.el,λp hp=>?_,λp h1 h2=>?_,?_,k.iS,λp a b=>by omega,λp=>by omega,h.kp.trans ((Kp.bR (by have:=h.hB;omega) hb).trans k.kp),h.hB⟩
 ·obtain⟨a1,a2,a3,a4⟩:=h.old p hp;obtain⟨b1,b2,b3,b4⟩:=k.old p (by omega);exact⟨b1.trans a1,b2.trans a2,b3.trans a3,b4.trans a4⟩
 ·by_cases jn:p<n1
  ·rw[(k.old p jn).2.2.1];exact h.new p h1 jn
  ·have:=k.new p (by omega) h2;omega
 ·refine(h.iS.congr (fol':=yw F2) λp q hp=>?_).tk λp c hp=>?_
  ·unfold yw;rw[(k.old p hp.2).2.2.2]
  ·unfold Jf;rw[(k.old p hp.2).2.1]
theorem Rq(T U:Nat->Nat)(p:Nat):px (eU T U) p↔px T p\/px U p:=by unfold px;rw[JG,sK]
theorem yT.aN
  (h:yT B w n nw bt mk f fr F W n' ga gl ha hl b c D E M N sv fv mk' f' fr' F' A L A' L') (hf:mH W2 nw ga gl (eU A A') (eU L L')) (t:ap (λk=>k=ga\/k=gl) W W2):
  fM B w n nw bt mk f fr F W2 n' ga gl (b || c) (PA.aN M N) sv fv mk' f' fr' F' (eU A A') (eU L L'):=by
 have q1:=h.na;have q2:=h.nl;refine⟨h.tk.turn t (λk _ e=>?_) ⟨λp hp=>(h.tk.fol.rows p hp).kJ t (λe=>?_),h.tk.fol.inj⟩,hf,h.le,h.na,h.nl,h.e1,h.e2,h.old,h.new,?_,h.kp.kJ h.hB t (λk hk e=>by omega),h.hB⟩
 ·rcases e with rfl|rfl
  ·exact⟨_,_,h.x.fi⟩
  ·exact⟨_,_,h.x.la⟩
 ·rcases e with e|e
  ·exact h.e1 p hp e
  ·exact h.e2 p hp e
 ·exact(zo3 h.gx h.gy h.dj).dom h.un (by simp) (λp=>(Rq _ _ _).symm) (λp=>(Rq _ _ _).symm)
theorem zqf(F:Nat->Nat->Nat)(L A:Nat->Nat)(p q:Nat):yw (λp=>if au L p=true then eU (F p) A else F p) p q↔yw F p q\/(px L p/\px A q):=by
 show au (if au L p=true then eU (F p) A else F p) q=true↔au (F p) q=true\/(au L p=true/\au A q=true)
 by_cases e:au L p=true
 ·rw[aC e,JG,sK];simp[e]
 ·rw[ak e];simp[e]
theorem yT.seq{e:Ending}
  (h:yT B w n nw bt mk f fr F W n' ga gl ha hl b c D E M N sv fv mk' f' fr' F' A L A' L')
  (hs:YU W n' nw bt sv fv fr' (λp=>if au L p=true then eU (F' p) A' else F' p) ga hl (b&&c) (if b=true then eU A A' else A) (if c=true then eU L' L else L') e W2):
  fM B w n nw bt mk f fr F W2 n' ga hl (b&&c) (PA.seq M N) sv fv mk' f' fr' (λp=>if au L p=true then eU (F' p) A' else F' p) (if b=true then eU A A' else A) (if c=true then eU L' L else L'):=by
 obtain⟨-,hf,fQ,t⟩:=hs;have q1:=h.na;have q2:=h.ml;have hL:∀p,au L p=true->n<=p/\p<n':=λp hp=>(h.un p).1 (.inl (h.gx.la p hp))
 have hold:∀p,p<n->(if au L p=true then eU (F' p) A' else F' p)=F' p:=λp hp=>by
  rw[ak (λe=>by have:=hL p e;omega)]
 refine⟨h.tk.turn t (λk _ e=>?_) fQ.fol,hf,h.le,h.na,h.ml,h.e1,h.e4,λp hp=>?_,h.new,?_,h.kp.kJ h.hB t (λk hk e=>?_),h.hB⟩
 ·rcases e with rfl|rfl|⟨p,hp,rfl⟩
  ·exact⟨_,_,h.x.fi⟩
  ·exact⟨_,_,h.y.la⟩
  ·exact⟨_,_,h.tk.fol.rows p hp⟩
 ·obtain⟨a1,a2,a3,a4⟩:=h.old p hp;exact⟨a1,a2,a3,(hold p hp).trans a4⟩
 ·refine(zo5 (fol':=yw (λp=>if au L p=true then eU (F' p) A' else F' p)) (f:=px (if b=true then eU A A' else A)) (l:=px (if c=true then eU L' L else L')) h.gx h.gy h.dj (λp q _=>?_) (λp=>?_) (λp=>?_)).dom h.un (by simp) (λ_=>Iff.rfl) (λ_=>Iff.rfl)
  ·exact zqf F' L A' p q
  ·cases b
   ·simp
   ·rw[aC rfl,Rq];simp
  ·cases c
   ·simp
   ·rw[aC rfl,Rq];simp
 ·rcases e with e|e|⟨p,hp,e⟩
  ·omega
  ·omega
  ·have jn:p<n:=by
    rcases ig p n with h1|h1
    ·exact h1
    ·have:=h.new p h1 hp;omega
   have r1:=(h.tk.fol.rows p hp).row;have r2:=(fQ.fol.rows p hp).row;rw[hold p jn]at r2;rw[e,r1,r2]
theorem fM.words
  (h:fM B w n nw bt mk f fr F W n' ga gl b M sv fv mk' f' fr' F' A L) (hl:M=N):fM B w n nw bt mk f fr F W n' ga gl b N sv fv mk' f' fr' F' A L:=
 ⟨h.tk,h.fg,h.le,h.na,h.nl,h.ea,h.el,h.old,h.new,h.iS.words hl,h.kp,h.hB⟩
theorem fM.uZ
  (h:fM B w n nw bt mk f fr F W n' ga gl b M sv fv mk' f' fr' F' A L):fM B w n nw bt mk f fr F W n' ga gl true (PA.uZ M) sv fv mk' f' fr' F' A L:=
 ⟨h.tk,h.fg,h.le,h.na,h.nl,h.ea,h.el,h.old,h.new,h.iS.uZ.dom (λ_=>Iff.rfl) (by simp) (λ_=>Iff.rfl) (λ_=>Iff.rfl),h.kp,h.hB⟩
theorem fM.star
  (h:fM B w n nw bt mk f fr F W n' ga gl b M sv fv mk' f' fr' F' A L) (fQ:nP W2 n' nw bt sv fv fr' (λp=>if au L p=true then eU (F' p) A else F' p)) (t:ap (λk=>∃p,p<n'/\k=fr' p) W W2):
  fM B w n nw bt mk f fr F W2 n' ga gl true (PA.star M) sv fv mk' f' fr' (λp=>if au L p=true then eU (F' p) A else F' p) A L:=by
 have hL:∀p,au L p=true->n<=p/\p<n':=λp hp=>h.iS.la p hp
 have hold:∀p,p<n->(if au L p=true then eU (F' p) A else F' p)=F' p:=λp hp=>by
  rw[ak (λe=>by have:=hL p e;omega)]
 refine⟨h.tk.turn t (λk _ ⟨p,hp,e⟩=>⟨_,_,e ▸ h.tk.fol.rows p hp⟩) fQ.fol,⟨h.fg.fi.kJ t (λ⟨p,hp,e⟩=>h.ea p hp e.symm),h.fg.la.kJ t (λ⟨p,hp,e⟩=>h.el p hp e.symm),h.fg.ne⟩,h.le,h.na,h.nl,h.ea,h.el,λp hp=>?_,h.new,?_,h.kp.kJ h.hB t (λk hk ⟨p,hp,e⟩=>?_),h.hB⟩
 ·obtain⟨a1,a2,a3,a4⟩:=h.old p hp;exact⟨a1,a2,a3,(hold p hp).trans a4⟩
 ·exact(zns (fol':=yw (λp=>if au L p=true then eU (F' p) A else F' p)) h.iS (λp q _=>zqf F' L A p q)).dom (λ_=>Iff.rfl) (by simp) (λ_=>Iff.rfl) (λ_=>Iff.rfl)
 ·have jn:p<n:=by
   rcases ig p n with h1|h1
   ·exact h1
   ·have:=h.new p h1 hp;omega
  have r1:=(h.tk.fol.rows p hp).row;have r2:=(fQ.fol.rows p hp).row;rw[hold p jn]at r2;rw[e,r1,r2]
theorem zqD(p:Nat):px cQ p↔False:=by unfold px;rw[BL];simp
theorem fM.bare(h:ji B w n nw bt sv fv mk f fr F){ga gl:Nat}(b:Bool)(na:w.heap.size<=ga)(nl:w.heap.size<=gl)(hf:mH W nw ga gl cQ cQ)(hb:Below w.heap.size w W):
  fM B w n nw bt mk f fr F W n ga gl b (PA.Tr b) sv fv mk f fr F cQ cQ:=by
 have eV:bt<w.heap.size:=(ah.1 h.box).1;have hB:B<=w.heap.size:=by have:=h.bb;omega
 have mO:∀p,p<n->fr p<w.heap.size:=λp hp=>(h.fol.rows p hp).cB
 exact⟨h.below hb,hf,aj _,na,nl,λp hp=>by have:=mO p hp;omega,λp hp=>by have:=mO p hp;omega,λ_ _=>⟨rfl,rfl,rfl,rfl⟩,λp h1 h2=>by omega,(znr (Jf f) (yw F) b).dom (λp=>⟨False.elim,λk=>by omega⟩) Iff.rfl (λp=>(zqD p).symm) (λp=>(zqD p).symm),Kp.bR hB hb,hB⟩
def AD(B:Nat)(w:zd)(n nw bt:Nat)(mk:Nat->Nat)(f:Nat->Nat->Bool)(fr:Nat->Nat)(F:Nat->Nat->Nat)(k:Nat)(M:PA)(e:Ending)(W:zd):Prop:=
 ∃(n' ga gl:Nat) (b:Bool) (sv fv:zf) (mk':Nat->Nat) (f':Nat->Nat->Bool) (fr':Nat->Nat) (F':Nat->Nat->Nat) (A L:Nat->Nat),e=.returned (.agg #[.bool b,ze (za ⟨ga,0,zb⟩) nw nw,ze (za ⟨gl,0,zb⟩) nw nw])/\n'<=n+k/\fM B w n nw bt mk f fr F W n' ga gl b M sv fv mk' f' fr' F' A L
theorem fM.ret{m:Nat}
  (h:fM B w n nw bt mk f fr F W n' ga gl b M sv fv mk' f' fr' F' A L) (hb:W.heap[k]?=za (zg cs 226 (0,0))) (h0:w.heap.size<=k) (h1:0<w.heap.size) (hm:n'<=n+m):
  AD B w n nw bt mk f fr F m M (.returned (.agg #[.bool b,ze (za ⟨ga,0,zb⟩) nw nw,ze (za ⟨gl,0,zb⟩) nw nw])) (((W.setCell ⟨k,0,zb⟩ (.bool b)).setCell ⟨k,1,zb⟩ (ze (za ⟨ga,0,zb⟩) nw nw)).setCell ⟨k,2,zb⟩ (ze (za ⟨gl,0,zb⟩) nw nw)):=by
 have r1:=dE _ _ 0 _ _ (.bool b) hb;have r2:=dE _ _ 1 _ _ (ze (za ⟨ga,0,zb⟩) nw nw) r1;exact⟨n',ga,gl,b,sv,fv,mk',f',fr',F',A,L,rfl,hm,((h.se hb h0 h1).se r1 h0 h1).se r2 h0 h1⟩
end Go.Proofs.YtdimhpfiieepiaaGreatDoor
