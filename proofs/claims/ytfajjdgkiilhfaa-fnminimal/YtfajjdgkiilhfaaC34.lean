import Derived.Test.YtfajjdgkiilhfaaC8
import Derived.Test.YtfajjdgkiilhfaaC33
namespace Go.Proofs.Ytfajjdgkiilhfaa
open Proofs.Try
open RowKit renaming Hid->zh
open Option renaming some->zi,none->zn
open Value renaming int->zw,pointer->zx
open Go renaming World->zy,Calls->zB
open Obj renaming cells->zD
set_option maxHeartbeats 4000000
set_option maxRecDepth 100000
open Go.RowKit
attribute [local go_sem ↓] wp_at_zero wp_at_succ
section
variable {l:List Int}{y:Int}{c:List UInt8}{d:aE}{cp:Nat}
theorem zoC{cl nx tg fn:List Int}{wd n:Nat}(h1:cl.length=256)(h2:1<=wd/\wd<=256)(h3:1<=n/\n<=4000)(h4:tg.length=n)(h5:fn.length=n)(h6:nx.length=n*wd)(h7:∀x∈cl,0<=x/\x<(wd:Int))(h8:∀x∈nx,0<=x/\x<(n:Int))(h9:∀x∈tg,-1<=x/\x<=99)(Ig:∀x∈fn,-1<=x/\x<=99):cL ⟨cl,(wd:Int),nx,tg,fn⟩:=by
 refine⟨h1,by show (1:Int)<=(wd:Int);omega,by show (wd:Int)<=256;omega,by show (1:Int)<=(tg.length:Int);omega,by show (tg.length:Int)<=4000;omega,by show fn.length=tg.length;omega,?_,Gf λx hx=>?_,Gf λx hx=>?_,Gf h9,Gf Ig⟩
 ·show ((nx.length:Nat):Int)=(tg.length:Int)*(wd:Int);rw[h6,h4];simp
 ·have:=h7 x hx;show 0<=x/\x<=(wd:Int)-1;omega
 ·have:=h8 x hx;show 0<=x/\x<=(tg.length:Int)-1;omega
theorem zmB{i:Nat}{x:Int}(h:x∈l.set i y):x=y\/x∈l:=by
 rcases List.mem_or_eq_of_mem_set h with h|h
 ·exact .inr h
 ·exact .inl h
theorem D0{a:Nat}{n:Int}(hn:1<=n):0<=(af c n a).1/\(af c n a).1<n:=by
 unfold af;split
 ·exact⟨Int.le_refl _,by show (0:Int)<n;omega⟩
 ·split
  ·exact⟨Int.emod_nonneg _ (by omega),Int.emod_lt_of_pos _ (by omega)⟩
  ·exact⟨Int.emod_nonneg _ (by omega),Int.emod_lt_of_pos _ (by omega)⟩
theorem zlo(c:List UInt8)(wd:Nat)(hw:1<=wd)(a:Nat):∀k,∀x∈(fE c wd a k).1,0<=x/\x<(wd:Int)
 |0,x,hx=>by
  have:x=0:=List.eq_of_mem_replicate hx;omega
 |k+1,x,hx=>by
  rw[fE]at hx;rcases zmB hx with rfl|h
  ·exact D0 (by omega)
  ·exact zlo c wd hw a k x h
theorem zse(c:List UInt8)(wd:Nat)(hw:1<=wd)(a:Nat):∀x∈(nF c wd a).1,0<=x/\x<(wd:Int):=by
 intro x hx;unfold nF at hx;split at hx
 ·rcases zmB hx with rfl|h
  ·exact D0 (by omega)
  ·exact zlo c wd hw a 6 x h
 ·exact zlo c wd hw a 6 x hx
theorem zpc(c:List UInt8)(n:Nat)(hn:1<=n)(l:List Int)(a:Nat)(hl:∀x∈l,0<=x/\x<(n:Int)):∀k,(∀x∈(ld c n l a k).1,0<=x/\x<(n:Int))/\(ld c n l a k).1.length=l.length+k
 |0=>⟨hl,rfl⟩
 |k+1=>by
  obtain⟨h1,h2⟩:=zpc c n hn l a hl k;rw[ld];refine⟨λx hx=>?_,by simp only[a6,iG,n4];omega⟩;rcases gH.1 hx with hx|hx
  ·exact h1 x hx
  ·simp at hx;subst hx;exact D0 (by omega)
structure ztm(n wd k:Nat)(s:vV):Prop where
 nx:(∀x∈s.nx,0<=x/\x<(n:Int))/\s.nx.length=k*wd
 tg:(∀x∈s.tg,-1<=x/\x<=99)/\s.tg.length=k
 fn:(∀x∈s.fn,-1<=x/\x<=99)/\s.fn.length=k
theorem Mo{lo hi:Int}(h:∀x∈l,lo<=x/\x<=hi)(hy:lo<=y/\y<=hi):∀x∈l++[y],lo<=x/\x<=hi:=λx hx=>by
 rcases gH.1 hx with hx|hx
 ·exact h x hx
 ·simp at hx;subst hx;exact hy
theorem zpn(c:List UInt8)(n wd:Nat)(hn:1<=n)(a:Nat):∀k,ztm n wd k (fC c n wd a k)
 |0=>⟨⟨λx hx=>(by cases hx),(by show 0=0*wd;simp)⟩,⟨λx hx=>(by cases hx),rfl⟩,⟨λx hx=>(by cases hx),rfl⟩⟩
 |k+1=>by
  have h:=zpn c n wd hn a k;obtain⟨h1,h2⟩:=zpc c n hn (fC c n wd a k).nx (fC c n wd a k).a h.nx.1 wd;have ht:-1<=AY (af c 6 (ld c n (fC c n wd a k).nx (fC c n wd a k).a wd).2).1/\AY (af c 6 (ld c n (fC c n wd a k).nx (fC c n wd a k).a wd).2).1<=99:=by
   have:=D0 (c:=c) (a:=(ld c n (fC c n wd a k).nx (fC c n wd a k).a wd).2) (n:=6) (by omega);unfold AY;split<;>omega
  have hl:(ld c n (fC c n wd a k).nx (fC c n wd a k).a wd).1.length=(k+1)*wd:=by rw[h2,h.nx.2,zu,Nat.one_mul]
  have t2:=h.tg.2;have f2:=h.fn.2;show ztm n wd (k+1) (To c n wd (fC c n wd a k));unfold To Tn;split
  ·have hy:=D0 (c:=c) (a:=(af c 4 (af c 6 (ld c n (fC c n wd a k).nx (fC c n wd a k).a wd).2).2).2) (n:=3) (by omega);exact⟨⟨h1,hl⟩,⟨Mo h.tg.1 ht,by simp;omega⟩,⟨Mo h.fn.1 (by omega),by simp;omega⟩⟩
  ·exact⟨⟨h1,hl⟩,⟨Mo h.tg.1 ht,by simp;omega⟩,⟨Mo h.fn.1 ht,by simp;omega⟩⟩
structure Co(d:aE):Prop where
 pL:cL d
 n:d.tag.length<=90
 w:aW d<=100
theorem Co.nx(h:Co d):d.next.length<=65536:=by
 rw[h.pL.FY];have:=nt h.n h.w;omega
theorem Qk(c:List UInt8)(a:Nat):Co (nR c a).1:=by
 have b1:=D0 (c:=c) (a:=a) (n:=13) (by omega);have b2:=D0 (c:=c) (a:=(af c 13 a).2) (n:=4) (by omega);have hN:2<=(2+(af c 13 a).1).toNat/\(2+(af c 13 a).1).toNat<=14:=by omega
 have hD:2<=(2+(af c 4 (af c 13 a).2).1).toNat/\(2+(af c 4 (af c 13 a).2).1).toNat<=5:=by omega
 unfold nR;generalize (2+(af c 13 a).1).toNat=n at *;generalize (2+(af c 4 (af c 13 a).2).1).toNat=wd at *;generalize (af c 4 (af c 13 a).2).2=y at *;have h:=zpn c n wd (by omega) (nF c wd y).2 n;refine⟨zoC (n:=n) (zmi _ _ _) (by omega) (by omega) h.tg.2 h.fn.2 h.nx.2 (zse c wd (by omega) y) h.nx.1 h.tg.1 h.fn.1,?_,?_⟩
 ·show (fC c n wd (nF c wd y).2 n).tg.length<=90;rw[h.tg.2];omega
 ·show (wd:Int).toNat<=100;omega
theorem zrJ(hf:cL d)(l8:1<=cp){s:Nat}(hs:s<d.tag.length){l:List Int}{a:Nat}(hl:∀x∈l,0<=x/\x<((cp*d.tag.length:Nat):Int)):∀j,j<=aW d->∀x∈(mJ c cp d s l a j).1,0<=x/\x<((cp*d.tag.length:Nat):Int)
 |0,_,x,hx=>hl x hx
 |j+1,hj,x,hx=>by
  have ih:∀x∈(mJ c cp d s l a j).1,0<=x/\x<((cp*d.tag.length:Nat):Int):=zrJ hf l8 hs hl j (by omega);have hn:=(hf.nx hs (show j<aW d by omega)).2;have key:∀b,0<=(bU d s j:Int)+(af c cp b).1*(d.tag.length:Int)/\(bU d s j:Int)+(af c cp b).1*(d.tag.length:Int)<((cp*d.tag.length:Nat):Int):=λb=>by
   have hb:=D0 (c:=c) (a:=b) (n:=(cp:Int)) (by omega);obtain⟨m,hm⟩:∃m:Nat,(af c cp b).1=(m:Int):=⟨(af c cp b).1.toNat,by omega⟩;rw[hm]at hb ⊢;have h1:(m+1)*d.tag.length<=cp*d.tag.length:=Nat.mul_le_mul_right _ (by omega);rw[zu,Nat.one_mul]at h1;have h2:(m:Int)*(d.tag.length:Int)=((m*d.tag.length:Nat):Int):=by simp
   rw[h2];generalize m*d.tag.length=q at *;generalize cp*d.tag.length=q2 at *;omega
  rw[mJ]at hx;rcases gH.1 hx with hx|hx
  ·rcases gH.1 hx with hx|hx
   ·exact ih x hx
   ·simp only[vF]at hx;subst hx;exact key _
  ·simp only[vF]at hx;subst hx;exact key _
structure Qy(N:Nat)(s:vV):Prop where
 nx:∀x∈s.nx,0<=x/\x<(N:Int)
 tg:∀x∈s.tg,-1<=x/\x<=99
 fn:∀x∈s.fn,-1<=x/\x<=99
theorem zrK(hf:cL d)(l8:1<=cp){st:vV}(h:Qy (cp*d.tag.length) st):∀s,s<=d.tag.length->Qy (cp*d.tag.length) (kV c cp d st s)
 |0,_=>h
 |s+1,hs=>by
  have ih:Qy (cp*d.tag.length) (kV c cp d st s):=zrK hf l8 h s (by omega);exact⟨zrJ hf l8 (by omega) ih.nx _ (ax _),Mo ih.tg (xf hf.ts (by omega)),Mo ih.fn (xf hf.es (by rw[hf.fl];omega))⟩
theorem zrI(hf:cL d)(l8:1<=cp)(a:Nat):∀k,Qy (cp*d.tag.length) (fx c cp d a k)
 |0=>⟨λx hx=>(by cases hx),λx hx=>(by cases hx),λx hx=>(by cases hx)⟩
 |k+1=>zrK hf l8 (zrI hf l8 a k) _ (ax _)
theorem zos(h:Co d)(a:Nat):cL (uU c d a).1/\(uU c d a).1.next.length<=65536:=by
 have b1:=D0 (c:=c) (a:=a) (n:=2) (by omega);have hC:2<=(2+(af c 2 a).1).toNat/\(2+(af c 2 a).1).toNat<=3:=by omega
 unfold uU;generalize (2+(af c 2 a).1).toNat=cp at *;generalize (af c 2 a).2=y at *;have hf:=h.pL;have hI:=zrI (c:=c) hf (show 1<=cp by omega) y cp;obtain⟨l1,l2,l3⟩:=Uu c cp d y cp;have hw:=hf.wd;have hn:=h.n;have jG:=hf.n1;have kJ:=h.w;have m1:cp*d.tag.length<=3*90:=nt hC.2 hn;have m0:1*1<=cp*d.tag.length:=nt (by omega) (by omega);have e:d.width*2=((aW d*2:Nat):Int):=by rw[hw.1];simp
 have hle:=(zrL (c:=c) (cp:=cp) (d:=d) (a:=y) (k:=cp) hn kJ hC.2).2.2;refine⟨?_,by show (fx c cp d y cp).nx.length<=_;omega⟩;unfold RA;simp only;rw[e];refine zoC (n:=cp*d.tag.length) (Ub d 256) (by omega) (by omega) l1 l2 (by rw[l3,Nat.mul_assoc,Nat.mul_comm 2]) (λx hx=>?_) hI.nx hI.tg hI.fn;simp only[qv,rS,mB]at hx;obtain⟨ch,hch,rfl⟩:=hx;have bn:=hf.sf hch;rw[bn.1];have:ch%2<2:=Nat.mod_lt _ (by omega);omega
theorem zjJ:∀(rs:List dC) (i k:Nat) (b:dm),(fw i rs)[k]?=zi b->b.rule<i+rs.length
 |[],i,k,b,h=>by simp[fw]at h
 |r::rs,i,k,b,h=>by
  rw[fw,zur]at h;split at h
  ·have hb:=List.mem_of_getElem? h;unfold xF at hb;obtain⟨x,_,rfl⟩:=rS.1 hb;simp
  ·have:=zjJ rs (i+1) _ b h;simp only[iG];omega
theorem zrO(h:cL d):dX d=true:=by
 simp only[dX,fQ,pF,vz];exact⟨⟨⟨⟨⟨⟨⟨⟨h.cl,h.w1,h.w2⟩,h.n1,h.n2⟩,h.fl⟩,h.nl⟩,h.cs⟩,h.ns⟩,h.ts⟩,h.es⟩
theorem ztz(hf:cL d):∃K,dy d K:=by
 have hn:0<d.tag.length:=by have:=hf.n1;omega
 apply Classical.byContradiction
 intro hno;have cj:∀k,qd (ai d) (au d) k:=by
  intro k
  induction k with
  |zero=>exact λj hj=>absurd hj (dP _)
  |succ k ih=>
   have h1:=zi1 ih;refine ih.next (Nat.lt_of_le_of_ne h1 λe=>hno ⟨k,hf,ih,e.symm⟩)
 have h1:=zi1 (cj (d.tag.length+1));have h2:=sT _ _ (DO hf hn (d.tag.length+1)).1 (DO hf hn (d.tag.length+1)).2;omega
theorem zo6(hf:cL d):dy d (rG d)/\minD d (rG d)=⟨dA d 0,km d,dA d 1,dA d 2,dA d 3⟩:=by
 obtain⟨K,hK⟩:=ztz hf;have e:=Uy hK.go hK.len;rw[e];refine⟨hK,?_⟩;unfold minD dA km;rw[ae (zrO hf),ae (zrO hf),e]
theorem zno{rs:List dC}{width:Int}{l:Nat->List Int}(h:GJ rs 90 0 width l)(hw:width<=100):Co ⟨l 0,width,l 1,l 2,l 3⟩:=by
 unfold GJ at h;rcases h with h|h|h|h
 ·have:=h.2.1;omega
 ·have:=h.2.2.1;omega
 ·have:=h.2.2.2.1;omega
 ·obtain⟨-,hl,K,hK,-,e2,e3⟩:=h;have hlen:rs.length<=100:=by
   unfold qf at hl;simp only[fQ,pF]at hl;exact hl.1.1
  have Oz:=zou hK (by decide) λk b hb=>by have:=zjJ rs 0 k b hb;omega
  obtain⟨hE,hD⟩:=zo6 Oz;have zBU:K<=90:=by
   have Ip:0<K:=by rw[<-hK.len];exact zlZ _ K
   have:=(hK.go (K-1) (by omega)).2;rw[show K-1+1=K by omega,hK.len]at this;exact this
  have yO:(ie (fw 0 rs) K).tag.length=K:=by show ((List.range K).map _).length=K;simp
  have eD:(⟨l 0,width,l 1,l 2,l 3⟩:aE)=minD (ie (fw 0 rs) K) (rG (ie (fw 0 rs) K)):=by rw[hD,e3,e2]
  rw[eD];have hle:=hE.le;have hw':aW (minD (ie (fw 0 rs) K) (rG (ie (fw 0 rs) K)))<=100:=by
   have:(minD (ie (fw 0 rs) K) (rG (ie (fw 0 rs) K))).width=km (ie (fw 0 rs) K):=by rw[hD]
   unfold aW;rw[this,<-e2];omega
  exact⟨hE.wq,by rw[hE.zvA];omega,hw'⟩
end
def tf:List ByteArray:=[⟨#[97]⟩,⟨#[98]⟩,⟨#[99]⟩,⟨#[97]⟩,⟨#[98]⟩,⟨#[97,98]⟩,⟨#[91,97,98,93]⟩,⟨#[46]⟩,⟨#[91,94,97,93]⟩,⟨#[91,97,45,99,93]⟩,⟨#[91,98,45,93]⟩,⟨#[91,91,58,100,105,103,105,116,58,93,93]⟩,⟨#[49]⟩,⟨#[92,46]⟩,⟨#[91,93,97,93]⟩,⟨#[91,94,91,58,97,108,112,104,97,58,93,98,93]⟩,⟨#[91,91,58,120,100,105,103,105,116,58,93,45,93]⟩,⟨#[91,97,45,99,98,45,102,93]⟩,⟨#[45]⟩,⟨#[125]⟩,⟨#[91,94,93,45,97,93]⟩,⟨#[92,92]⟩,⟨#[91,91,58,117,112,112,101,114,58,93,91,58,115,112,97,99,101,58,93,120,93]⟩,⟨#[91,92,93]⟩]
def pE:List ByteArray:=[⟨#[]⟩,⟨#[]⟩,⟨#[]⟩,⟨#[42]⟩,⟨#[43]⟩,⟨#[63]⟩,⟨#[123,50,125]⟩,⟨#[123,49,44,50,125]⟩,⟨#[123,48,44,50,125]⟩,⟨#[123,50,44,125]⟩,⟨#[123,48,125]⟩,⟨#[42]⟩,⟨#[63]⟩,⟨#[123,49,44,51,125]⟩,⟨#[123,48,44,125]⟩,⟨#[123,48,51,125]⟩]
def lT(L:List ByteArray)(c:List UInt8)(a:Nat):ByteArray×Nat:=(L.getD (af c L.length a).1.toNat ⟨#[]⟩,(af c L.length a).2)
theorem zmW{w:zy}{g:Nat}{L:List ByteArray}{t:TypeId}(h:w.heap[g]?=zi (zD (L.map Value.string).toArray t (0,0))){x:Nat}(hx:x<L.length):w.cell? ⟨g,x,zn⟩=zi (.string (L.getD x ⟨#[]⟩)):=by
 rw[dt _ _ _ _ _ _ h];simp[List.getD,hx]
theorem zi8(w:zy)(p:Nat)(c:List UInt8)(a:Nat)(room:Int)(h:a7 w p c a room):
  zB prog 90 #[zx (zi ⟨p,0,zn⟩)] w λe w'=>e=.returned (.string (lT tf c a).1)/\a7 w' p c (lT tf c a).2 room/\aJ p w w':=by
 have dz:=h.lt;have aG:Below w.heap.size w (w.alloc (zD (tf.map Value.string).toArray 9)):=aC;have r0:(w.alloc (zD (tf.map Value.string).toArray 9)).heap[w.heap.size]?=zi (zD (tf.map Value.string).toArray 9 (0,0)):=aU _ _;have hb:=uq (w.alloc (zD (tf.map Value.string).toArray 9)) p c a room (h.keep λk hk=>aG.block k (by omega)) 24 (by omega);have Ho:zh (lT tf c a=(tf.getD (af c 24 a).1.toNat ⟨#[]⟩,(af c 24 a).2)):=rfl;have hl:=ku h.le 24;obtain⟨x,y,hx⟩:∃x y,af c 24 a=(x,y):=⟨_,_,rfl⟩;rw[hx]at hb Ho hl;have x0:0<=x:=hl.2.1;have x1:x<24:=by have:=hl.2.2;simp only at this;omega
 obtain⟨x,rfl⟩:∃n:Nat,x=n:=⟨x.toNat,by omega⟩;clear hl hx;have hlen:tf.length=24:=rfl;have Hr:zh _:=r0
 go_enter func90,ntmps90
 go_wp2_with (go_at_call 27;refine hb.mono ?_;rintro e w' ⟨rfl,hd,hk⟩;have k0:=zmW ((hk.block _ (gF.1 Hr.out).1 (by omega)).trans Hr.out) (x:=x) (by omega))
 go_ret
 exact⟨by rw[Ho.out];simp,by rw[Ho.out];exact hd,(aJ.of aG).trans hk⟩
theorem zi9(w:zy)(p:Nat)(c:List UInt8)(a:Nat)(room:Int)(h:a7 w p c a room):
  zB prog 91 #[zx (zi ⟨p,0,zn⟩)] w λe w'=>e=.returned (.string (lT pE c a).1)/\a7 w' p c (lT pE c a).2 room/\aJ p w w':=by
 have dz:=h.lt;have aG:Below w.heap.size w (w.alloc (zD (pE.map Value.string).toArray 9)):=aC;have r0:(w.alloc (zD (pE.map Value.string).toArray 9)).heap[w.heap.size]?=zi (zD (pE.map Value.string).toArray 9 (0,0)):=aU _ _;have hb:=uq (w.alloc (zD (pE.map Value.string).toArray 9)) p c a room (h.keep λk hk=>aG.block k (by omega)) 16 (by omega);have Ho:zh (lT pE c a=(pE.getD (af c 16 a).1.toNat ⟨#[]⟩,(af c 16 a).2)):=rfl;have hl:=ku h.le 16;obtain⟨x,y,hx⟩:∃x y,af c 16 a=(x,y):=⟨_,_,rfl⟩;rw[hx]at hb Ho hl;have x0:0<=x:=hl.2.1;have x1:x<16:=by have:=hl.2.2;simp only at this;omega
 obtain⟨x,rfl⟩:∃n:Nat,x=n:=⟨x.toNat,by omega⟩;clear hl hx;have hlen:pE.length=16:=rfl;have Hr:zh _:=r0
 go_enter func91,ntmps91
 go_wp2_with (go_at_call 27;refine hb.mono ?_;rintro e w' ⟨rfl,hd,hk⟩;have k0:=zmW ((hk.block _ (gF.1 Hr.out).1 (by omega)).trans Hr.out) (x:=x) (by omega))
 go_ret
 exact⟨by rw[Ho.out];simp,by rw[Ho.out];exact hd,(aJ.of aG).trans hk⟩
section
variable {c:List UInt8}{k:Nat}{first:Bool}{x:ByteArray}
abbrev fi:=Nat×Int
def JK(c:List UInt8)(a:Nat)(r:Int):ByteArray×fi:=((lT tf c a).1,((lT tf c a).2,r))
def xE(c:List UInt8)(alts:Option (fi->ByteArray×fi))(a:Nat)(r:Int):ByteArray×fi:=
 match alts with
 |none=>JK c a r
 |some f=>if 0<r then (if (af c 3 a).1=1 then (⟨#[40]⟩++(f ((af c 3 a).2,r)).1 ++ ⟨#[41]⟩,(f ((af c 3 a).2,r)).2) else JK c (af c 3 a).2 r) else JK c a r
def JL(c:List UInt8)(alts:Option (fi->ByteArray×fi))(s:fi):ByteArray×fi:=
 ((xE c alts s.1 (s.2-1)).1++(lT pE c (xE c alts s.1 (s.2-1)).2.1).1,((lT pE c (xE c alts s.1 (s.2-1)).2.1).2,(xE c alts s.1 (s.2-1)).2.2))
def Eb(c:List UInt8)(alts:Option (fi->ByteArray×fi)):Nat->Bool->ByteArray×fi->ByteArray×fi
 |0,_,x=>x
 |k+1,first,x=>if first=true\/0<x.2.2 then Eb c alts k false (x.1++(JL c alts x.2).1,(JL c alts x.2).2) else x
def uQ(c:List UInt8)(alts:Option (fi->ByteArray×fi))(s:fi):ByteArray×fi:=Eb c alts (1+(af c 4 s.1).1).toNat true (⟨#[]⟩,((af c 4 s.1).2,s.2))
def sU(c:List UInt8)(eA:fi->ByteArray×fi):Nat->ByteArray×fi->ByteArray×fi
 |0,x=>x
 |k+1,x=>if 0<x.2.2 then (if (af c 3 x.2.1).1=1 then sU c eA k (x.1++(⟨#[124]⟩++(eA ((af c 3 x.2.1).2,x.2.2)).1),(eA ((af c 3 x.2.1).2,x.2.2)).2) else (x.1,((af c 3 x.2.1).2,x.2.2))) else x
def CX(c:List UInt8):Nat->fi->ByteArray×fi
 |0=>uQ c zn
 |d+1=>uQ c (zi λs=>sU c (CX c d) s.2.toNat (CX c d s))
theorem a7.room{w:zy}{p:Nat}{a:Nat}{room:Int}(h:a7 w p c a room)(r:Int):a7 (w.setCell ⟨p,2,zn⟩ (zw .i64 r)) p c a r:=by
 obtain⟨ao,cap,hp,hc⟩:=h.box;refine⟨⟨ao,cap,by simpa using dx w p 2 _ _ (zw .i64 r) hp,λh0=>?_⟩,h.len,h.le⟩;obtain⟨b,o,e,hb,hk⟩:=hc h0;exact⟨b,o,e,hb,λk hl=>(World.cell?_of_block (cS _ _ _ _ (Nat.ne_of_lt hb))).trans (hk k hl)⟩
def MI(fn:Nat)(p:Nat)(c:List UInt8)(f:fi->ByteArray×fi)(D:Int):Prop:=∀(W:zy) (a:Nat) (r:Int),a7 W p c a r->1<=r->r<=1000->
 zB prog fn #[zx (zi ⟨p,0,zn⟩),zw .i64 D] W λe w'=>e=.returned (.string (f (a,r)).1)/\a7 w' p c (f (a,r)).2.1 (f (a,r)).2.2/\aJ p W w'/\0<=(f (a,r)).2.2/\(f (a,r)).2.2<r/\((f (a,r)).1.size:Int)+5<=40*(r-(f (a,r)).2.2)
theorem zkx{L:List ByteArray}{n:Nat}(h:∀x∈L,x.size<=n)(c:List UInt8)(a:Nat):(lT L c a).1.size<=n:=by
 show (L.getD _ _).size<=n;rw[bI];cases hq:L[(af c L.length a).1.toNat]? with
 |none=>exact bH _
 |some x=>exact h x (List.mem_of_getElem? hq)
theorem zgD(c:List UInt8)(a:Nat):(lT tf c a).1.size<=23:=zkx (by decide) c a
theorem TJ(c:List UInt8)(a:Nat):(lT pE c a).1.size<=5:=zkx (by decide) c a
theorem LP(b:UInt8):(⟨#[b]⟩:ByteArray).size=1:=rfl
theorem zm4{A:Option (fi->ByteArray×fi)}{s:fi}(h:first=true\/0<s.2):Eb c A (k+1) first (x,s)=Eb c A k false (x++(JL c A s).1,(JL c A s).2):=ae h
theorem zlc{A:Option (fi->ByteArray×fi)}{s:fi}(h:¬(first=true\/0<s.2)):Eb c A k first (x,s)=(x,s):=by
 cases k with
 |zero=>rfl
 |succ k=>exact ab h
theorem zgM(p:Nat)(c:List UInt8)(A:Option (fi->ByteArray×fi))(D:Int)(hA:(A=zn/\D=3)\/∃f,A=zi f/\0<=D/\D<3/\MI 89 p c f (D+1)):MI 80 p c (uQ c A) D:=by
 intro w a room h iX sF;have hb:=uq w p c a room h 4 (by omega);have hl:=ku h.le 4;have Hg:zh (uQ c A (a,room)=Eb c A (1+(af c 4 a).1).toNat true (⟨#[]⟩,((af c 4 a).2,room))):=rfl;obtain⟨x,y,hx⟩:∃x y,af c 4 a=(x,y):=⟨_,_,rfl⟩;rw[hx]at hb hl Hg;have x0:0<=x:=hl.2.1;have x1:x<4:=by have:=hl.2.2;simp only at this;omega
 obtain⟨x,rfl⟩:∃n:Nat,x=n:=⟨x.toNat,by omega⟩;rw[show (1+(x:Int)).toNat=x+1 by omega]at Hg;clear hl hx h
 go_enter func80,ntmps80
 go_wp2_with (go_at_call 27;refine hb.mono ?_;rintro e w0 ⟨rfl,hd,hk⟩)
 clear hb
 go_loopw [5,7] (λo i wr=>∃(k:Nat) (out:ByteArray) (a':Nat) (r':Int),k<=x+1/\o=.string out/\i=zw .i64 k/\a7 wr p c a' r'/\aJ p w wr/\0<=r'/\r'<=room/\(0<k->r'<room)/\(k=0->1<=r')/\(out.size:Int)<=40*(room-r')/\(0<k->(out.size:Int)+5<=40*(room-r'))/\zh (uQ c A (a,room)=Eb c A (x+1-k) (decide (k=0)) (out,(a',r'))))
  (λ_ i _=>x+1-(intOf i).toNat)
 case atStart=>exact⟨0,_,y,room,by omega,rfl,rfl,hd,hk,by omega,by omega,by omega,λ_=>iX,(by show ((0:Nat):Int)<=_;omega),by omega,Hg⟩
 case round=>
  obtain⟨k,out,a',r',II,rfl,rfl,wD,bP,r0,r1,r2,r3,r4,r5,HS⟩:=hrel;obtain⟨ao,cap,hp,_⟩:=wD.box;have c2:wr.cell? ⟨p,2,zn⟩=zi (zw .i64 r'):=kr hp 2;have f2:wr.frozen? ⟨p,2,zn⟩=false:=aR _ _ _ _ _ hp
  by_cases IY:k=x+1\/(0<k/\r'=0)
  ·have HE:zh (uQ c A (a,room)=(out,(a',r'))):=by
    refine HS.out.trans ?_;rcases IY with rfl|⟨h1,rfl⟩
    ·rw[Nat.sub_self];rfl
    ·exact zlc (by simp;omega)
   have hrr:r'<room:=r2 (by omega);have Zi:zh (a7 wr p c (uQ c A (a,room)).2.1 (uQ c A (a,room)).2.2/\aJ p w wr/\0<=(uQ c A (a,room)).2.2/\(uQ c A (a,room)).2.2<room/\((uQ c A (a,room)).1.size:Int)+5<=40*(room-(uQ c A (a,room)).2.2)):=by
    show _;rw[HE.out];exact⟨wD,bP,r0,hrr,r5 (by omega)⟩
   clear hA hd hk HS Hg;rcases IY with rfl|⟨h1,rfl⟩
   ·go_wp2;go_ret;exact⟨by rw[HE.out];rfl,Zi.out⟩
   ·by_cases wF:k=x+1
    ·subst wF;go_wp2;go_ret;exact⟨by rw[HE.out];rfl,Zi.out⟩
    ·have h2:((k:Int)==0)=false:=by simp;omega
     have h3:(k:Int)<1+(x:Int):=by omega
     go_wp2;go_ret;exact⟨by rw[HE.out];rfl,Zi.out⟩
  ·have nK:(k:Int)<1+(x:Int):=by omega
   have dN:k=0\/0<r':=by omega
   have fS:zh (uQ c A (a,room)=Eb c A (x+1-(k+1)) false (out++(JL c A (a',r')).1,(JL c A (a',r')).2)):=by
    refine HS.out.trans ?_;rw[show x+1-k=(x+1-(k+1))+1 by omega];exact zm4 (dN.imp (λh=>by simp[h]) id)
   have di:1<=r':=dN.elim r3 (by omega);have eZ:=wD.room (r'-1);have cK:=bP.trans (aJ.set wr 2 (zw .i64 (r'-1)));obtain⟨ao1,Rv,FH,_⟩:=eZ.box;have c21:(wr.setCell ⟨p,2,zn⟩ (zw .i64 (r'-1))).cell? ⟨p,2,zn⟩=zi (zw .i64 (r'-1)):=kr FH 2;have HF:zh (JL c A (a',r')=((xE c A a' (r'-1)).1++(lT pE c (xE c A a' (r'-1)).2.1).1,((lT pE c (xE c A a' (r'-1)).2.1).2,(xE c A a' (r'-1)).2.2))):=rfl;have Fe:=λ(W:zy) (a2:Nat) (r2:Int) hW=>zi9 W p c a2 r2 hW
   have tN:=λ(W:zy) (a2:Nat) hW=>zi8 W p c a2 (r'-1) hW
   have fin:∀(b:ByteArray) (a3:Nat) (r3:Int),xE c A a' (r'-1)=(b,(a3,r3))->zh (uQ c A (a,room)=Eb c A (x+1-(k+1)) (decide (k+1=0)) ((out++b)++(lT pE c a3).1,((lT pE c a3).2,r3))):=λb a3 r3 hb=>by
    refine fS.out.trans ?_;rw[HF.out,hb,ByteArray.append_assoc,show decide (k+1=0)=false by simp]
   have hq:((k:Int)==0)=true\/(((k:Int)==0)=false/\0<r'):=by
    rcases JS k with rfl|h
    ·exact .inl rfl
    ·exact .inr ⟨by simp;omega,by omega⟩
   have aP:=λW hW=>uq W p c a' (r'-1) hW 3 (by omega)
   obtain⟨x3,y3,vk⟩:∃x y,af c 3 a'=(x,y):=⟨_,_,rfl⟩;rw[vk]at aP;obtain⟨ba,ya,wM⟩:∃x y,lT tf c a'=(x,y):=⟨_,_,rfl⟩;clear HS HF fS IY hp FH Hg hd hk;rcases hA with ⟨rfl,rfl⟩|⟨f,rfl,hD0,nH,hf⟩
   ·have hB:xE c zn a' (r'-1)=(ba,(ya,r'-1)):=by show JK c a' (r'-1)=_;unfold JK;rw[wM]
    have BN:=tN _ a' eZ;have HX:=fin _ _ _ hB;rw[wM]at BN;have Af:=λW=>Fe W ya (r'-1)
    have za:=zgD c a';rw[wM]at za;have zp:=TJ c ya;obtain⟨bp,yp,Jb⟩:∃x y,lT pE c ya=(x,y):=⟨_,_,rfl⟩;rw[Jb]at Af HX zp;have za:ba.size<=23:=za;have zp:bp.size<=5:=zp;have z1:¬9223372036854775807<out.size+ba.size:=by omega
    have z2:¬9223372036854775807<out.size+ba.size+bp.size:=by omega
    clear fin Fe tN aP;rcases hq with hq|⟨hq,im⟩
    all_goals
     go_wp2_with (first|(go_at_call 90;refine BN.mono ?_;rintro e w2 ⟨rfl,fF,bJ⟩)|(go_at_call 91;refine(Af _ fF).mono ?_;rintro e w3 ⟨rfl,eM,cP⟩))
     go_roundw
     case rel=>exact⟨k+1,_,_,_,by omega,rfl,by go_num,eM,(cK.trans bJ).trans cP,by omega,by omega,by omega,by omega,by simp only[ByteArray.size_append];omega,by simp only[ByteArray.size_append];omega,HX⟩
     case measure=>simp[intOf];omega
   ·have hD:decide (D<3)=true:=by simp[nH]
    by_cases vf:0<r'-1
    ·by_cases I7:x3=1
     ·subst I7;have hB:xE c (zi f) a' (r'-1)=(⟨#[40]⟩++(f (y3,r'-1)).1 ++ ⟨#[41]⟩,(f (y3,r'-1)).2):=by
       show (if 0<r'-1 then _ else _)=_;rw[ae vf,vk,ae rfl]
      obtain⟨bf,yf,rf,LD⟩:∃b y r,f (y3,r'-1)=(b,(y,r)):=⟨_,_,_,rfl⟩;rw[LD]at hB;have IA:∀W,a7 W p c y3 (r'-1)->zB prog 89 #[zx (zi ⟨p,0,zn⟩),zw .i64 (D+1)] W λe w'=>e=.returned (.string bf)/\a7 w' p c yf rf/\aJ p W w'/\0<=rf/\rf<r'-1/\(bf.size:Int)+5<=40*(r'-1-rf):=λW hW=>by
       have h1:=hf W y3 (r'-1) hW (by omega) (by omega);rw[LD]at h1;exact h1
      have HX:=fin _ _ _ hB;have Af:=λW=>Fe W yf rf
      have zp:=TJ c yf;obtain⟨bp,yp,Jb⟩:∃x y,lT pE c yf=(x,y):=⟨_,_,rfl⟩;rw[Jb]at Af HX zp;have zp:bp.size<=5:=zp;clear fin Fe tN hf;rcases hq with hq|⟨hq,im⟩
      all_goals
       go_wp2_with (first|(go_at_call 27;refine(aP _ eZ).mono ?_;rintro e w2 ⟨rfl,fF,bJ⟩)|(go_at_call 89;refine(IA _ fF).mono ?_;rintro e w4 ⟨rfl,pk,mf,g0,g1,g2⟩;have z0:¬9223372036854775807<1+bf.size:=(by omega);have z1:¬9223372036854775807<1+bf.size+1:=(by omega);have z2:¬9223372036854775807<out.size+(1+bf.size+1):=(by omega);have z3:¬9223372036854775807<out.size+(1+bf.size+1)+bp.size:=(by omega))|(go_at_call 91;refine(Af _ pk).mono ?_;rintro e w3 ⟨rfl,eM,cP⟩))
       go_roundw
       case rel=>exact⟨k+1,_,_,_,by omega,rfl,by go_num,eM,((cK.trans bJ).trans mf).trans cP,by omega,by omega,by omega,by omega,by simp only[ByteArray.size_append,LP];omega,by simp only[ByteArray.size_append,LP];omega,HX⟩
       case measure=>simp[intOf];omega
     ·have zA2:(x3==1)=false:=by simp[I7]
      have hB:xE c (zi f) a' (r'-1)=((lT tf c y3).1,((lT tf c y3).2,r'-1)):=by
       show (if 0<r'-1 then _ else _)=_;rw[ae vf,vk,ab I7]
       rfl
      have BN:=λW=>tN W y3
      have za:=zgD c y3;obtain⟨bb,yb,FQ⟩:∃x y,lT tf c y3=(x,y):=⟨_,_,rfl⟩;rw[FQ]at BN hB za;have HX:=fin _ _ _ hB;have Af:=λW=>Fe W yb (r'-1)
      have zp:=TJ c yb;obtain⟨bp,yp,Jb⟩:∃x y,lT pE c yb=(x,y):=⟨_,_,rfl⟩;rw[Jb]at Af HX zp;have za:bb.size<=23:=za;have zp:bp.size<=5:=zp;have z1:¬9223372036854775807<out.size+bb.size:=by omega
      have z2:¬9223372036854775807<out.size+bb.size+bp.size:=by omega
      clear fin Fe tN hf;rcases hq with hq|⟨hq,im⟩
      all_goals
       go_wp2_with (first|(go_at_call 27;refine(aP _ eZ).mono ?_;rintro e w4 ⟨rfl,pk,mf⟩)|(go_at_call 90;refine(BN _ pk).mono ?_;rintro e w2 ⟨rfl,fF,bJ⟩)|(go_at_call 91;refine(Af _ fF).mono ?_;rintro e w3 ⟨rfl,eM,cP⟩))
       go_roundw
       case rel=>exact⟨k+1,_,_,_,by omega,rfl,by go_num,eM,((cK.trans mf).trans bJ).trans cP,by omega,by omega,by omega,by omega,by simp only[ByteArray.size_append];omega,by simp only[ByteArray.size_append];omega,HX⟩
       case measure=>simp[intOf];omega
    ·have hB:xE c (zi f) a' (r'-1)=(ba,(ya,r'-1)):=by
      show (if 0<r'-1 then _ else _)=_;rw[ab vf];show JK c a' (r'-1)=_;unfold JK;rw[wM]
     have BN:=tN _ a' eZ;have HX:=fin _ _ _ hB;rw[wM]at BN;have Af:=λW=>Fe W ya (r'-1)
     have za:=zgD c a';rw[wM]at za;have zp:=TJ c ya;obtain⟨bp,yp,Jb⟩:∃x y,lT pE c ya=(x,y):=⟨_,_,rfl⟩;rw[Jb]at Af HX zp;have za:ba.size<=23:=za;have zp:bp.size<=5:=zp;have z1:¬9223372036854775807<out.size+ba.size:=by omega
     have z2:¬9223372036854775807<out.size+ba.size+bp.size:=by omega
     clear fin Fe tN hf aP;rcases hq with hq|⟨hq,im⟩
     all_goals
      go_wp2_with (first|(go_at_call 90;refine BN.mono ?_;rintro e w2 ⟨rfl,fF,bJ⟩)|(go_at_call 91;refine(Af _ fF).mono ?_;rintro e w3 ⟨rfl,eM,cP⟩))
      go_roundw
      case rel=>exact⟨k+1,_,_,_,by omega,rfl,by go_num,eM,(cK.trans bJ).trans cP,by omega,by omega,by omega,by omega,by simp only[ByteArray.size_append];omega,by simp only[ByteArray.size_append];omega,HX⟩
      case measure=>simp[intOf];omega
end
theorem zjI{c:List UInt8}{g:fi->ByteArray×fi}{k:Nat}{x:ByteArray}{s:fi}(h:¬0<s.2):sU c g k (x,s)=(x,s):=by
 cases k with
 |zero=>rfl
 |succ k=>exact ab h
theorem zjW(p:Nat)(c:List UInt8)(g:fi->ByteArray×fi)(D:Int)(hg:MI 80 p c g D):MI 89 p c (λs=>sU c g s.2.toNat (g s)) D:=by
 intro w a room h iX sF;have h0:=hg w a room h iX sF;obtain⟨b0,y0,Pj,gz⟩:∃b y r,g (a,room)=(b,(y,r)):=⟨_,_,_,rfl⟩;rw[gz]at h0;have h0:zB prog 80 #[zx (zi ⟨p,0,zn⟩),zw .i64 D] w λe w'=>e=.returned (.string b0)/\a7 w' p c y0 Pj/\aJ p w w'/\0<=Pj/\Pj<room/\(b0.size:Int)+5<=40*(room-Pj):=h0
 obtain⟨F,hF⟩:∃F,sU c g room.toNat (g (a,room))=F:=⟨_,rfl⟩;have HF:zh (F=sU c g room.toNat (b0,(y0,Pj))):=by rw[<-hF,gz];rfl
 show zB prog 89 #[zx (zi ⟨p,0,zn⟩),zw .i64 D] w λe w'=>e=.returned (.string (sU c g room.toNat (g (a,room))).1)/\a7 w' p c (sU c g room.toNat (g (a,room))).2.1 (sU c g room.toNat (g (a,room))).2.2/\aJ p w w'/\0<=(sU c g room.toNat (g (a,room))).2.2/\(sU c g room.toNat (g (a,room))).2.2<room/\((sU c g room.toNat (g (a,room))).1.size:Int)+5<=40*(room-(sU c g room.toNat (g (a,room))).2.2)
 rw[hF];clear hF gz h;have yy:=λW a r hW=>uq W p c a r hW 3 (by omega)
 go_enter func89,ntmps89
 go_wp2_with (go_at_call 80;refine h0.mono ?_;rintro e w0 ⟨rfl,hd,hk,g0,g1,g2⟩)
 clear h0
 go_loopw [5] (λo wr=>∃(n:Nat) (out:ByteArray) (a':Nat) (r':Int),o=.string out/\a7 wr p c a' r'/\aJ p w wr/\0<=r'/\r'<room/\(out.size:Int)+5<=40*(room-r')/\r'<=n/\zh (F=sU c g n (out,(a',r'))))
  (λ_ wr=>(intOf ((wr.cell? ⟨p,2,zn⟩).getD undef)).toNat)
 case atStart=>exact⟨room.toNat,_,_,_,rfl,hd,hk,g0,g1,g2,by omega,HF⟩
 case round=>
  obtain⟨n,out,a',r',rfl,wD,bP,r0,r1,r2,r3,HS⟩:=hrel;obtain⟨ao,cap,hp,_⟩:=wD.box;have c2:wr.cell? ⟨p,2,zn⟩=zi (zw .i64 r'):=kr hp 2;clear hp
  by_cases di:0<r'
  ·obtain⟨n,rfl⟩:∃m,n=m+1:=⟨n-1,by omega⟩;have hb:=yy wr a' r' wD;have fS:zh (F=if (af c 3 a').1=1 then sU c g n (out++(⟨#[124]⟩++(g ((af c 3 a').2,r')).1),(g ((af c 3 a').2,r')).2) else (out,((af c 3 a').2,r'))):=HS.out.trans (ae di);obtain⟨x3,y3,vk⟩:∃x y,af c 3 a'=(x,y):=⟨_,_,rfl⟩;rw[vk]at hb fS;clear HS yy vk
   by_cases I7:x3=1
   ·subst I7;obtain⟨bf,yf,rf,LD⟩:∃b y r,g (y3,r')=(b,(y,r)):=⟨_,_,_,rfl⟩;have IA:∀W,a7 W p c y3 r'->zB prog 80 #[zx (zi ⟨p,0,zn⟩),zw .i64 D] W λe w'=>e=.returned (.string bf)/\a7 w' p c yf rf/\aJ p W w'/\0<=rf/\rf<r'/\(bf.size:Int)+5<=40*(r'-rf):=λW hW=>by
     have h1:=hg W y3 r' hW (by omega) (by omega);rw[LD]at h1;exact h1
    have tF:zh (F=sU c g n (out++(⟨#[124]⟩++bf),(yf,rf))):=by
     refine fS.out.trans ?_;rw[ae rfl,LD]
    clear fS hg HF LD
    go_wp2_with (first|(go_at_call 27;refine hb.mono ?_;rintro e w2 ⟨rfl,fF,bJ⟩)|(go_at_call 80;refine(IA _ fF).mono ?_;rintro e w4 ⟨rfl,pk,mf,q0,q1,q2⟩;have z0:¬9223372036854775807<1+bf.size:=(by omega);have z1:¬9223372036854775807<out.size+(1+bf.size):=(by omega)))
    go_roundw
    case rel=>exact⟨n,_,_,_,rfl,pk,(bP.trans bJ).trans mf,by omega,by omega,by simp only[ByteArray.size_append,LP];omega,by omega,tF⟩
    case measure=>
     obtain⟨Ro,oW,OT,_⟩:=pk.box;rw[c2,show w4.cell? ⟨p,2,zn⟩=zi (zw .i64 rf) from kr OT 2];simp[intOf];omega
   ·have zA2:(x3==1)=false:=by simp[I7]
    have HE:zh (F=(out,(y3,r'))):=fS.out.trans (ab I7);clear fS hg HF
    go_wp2_with (go_at_call 27;refine hb.mono ?_;rintro e w2 ⟨rfl,fF,bJ⟩)
    go_ret
    exact⟨by rw[HE.out];rfl,by rw[HE.out];exact⟨fF,bP.trans bJ,r0,r1,r2⟩⟩
  ·have HE:zh (F=(out,(a',r'))):=HS.out.trans (zjI di);clear HS hg HF yy;go_wp2;go_ret;exact⟨by rw[HE.out];rfl,by rw[HE.out];exact⟨wD,bP,r0,r1,r2⟩⟩
theorem zh9(p:Nat)(c:List UInt8):∀d:Nat,d<=3->MI 80 p c (CX c d) (3-d)
 |0,_=>zgM p c zn _ (.inl ⟨rfl,rfl⟩)
 |d+1,h=>zgM p c (zi _) _ (.inr ⟨_,rfl,by omega,by omega,by
   have:=zjW p c _ _ (zh9 p c d (by omega));rw[show (3-((d+1:Nat):Int)+1)=3-(d:Int) by omega];exact this⟩)
def Qj(c:List UInt8)(h:Int)(a:Nat)(o:ByteArray):ByteArray×Nat:=
 if h=7 then (o ++ ⟨#[36]⟩,a) else if h=6 then (if (af c 2 a).1=1 then o ++ ⟨#[36]⟩ else o,(af c 2 a).2) else (o,a)
def Qi(first:Bool)(h:Int)(o:ByteArray):ByteArray:=if h=6 then (if first=true then o else o ++ ⟨#[124]⟩) ++ ⟨#[94]⟩ else if first=true then o else o ++ ⟨#[124]⟩
def zg(c:List UInt8)(first:Bool)(o:ByteArray)(s:fi):ByteArray×fi:=
 ((Qj c (af c 8 s.1).1 (CX c 3 ((af c 8 s.1).2,s.2)).2.1 (Qi first (af c 8 s.1).1 o++(CX c 3 ((af c 8 s.1).2,s.2)).1)).1,
  ((Qj c (af c 8 s.1).1 (CX c 3 ((af c 8 s.1).2,s.2)).2.1 (Qi first (af c 8 s.1).1 o++(CX c 3 ((af c 8 s.1).2,s.2)).1)).2,(CX c 3 ((af c 8 s.1).2,s.2)).2.2))
def JC(c:List UInt8):Nat->Bool->ByteArray×fi->ByteArray×fi
 |0,_,x=>x
 |k+1,first,x=>if (zg c first x.1 x.2).2.2<=0 then zg c first x.1 x.2 else
   if (af c 3 (zg c first x.1 x.2).2.1).1=1 then JC c k false ((zg c first x.1 x.2).1,((af c 3 (zg c first x.1 x.2).2.1).2,(zg c first x.1 x.2).2.2))
   else ((zg c first x.1 x.2).1,((af c 3 (zg c first x.1 x.2).2.1).2,(zg c first x.1 x.2).2.2))
def jW(c:List UInt8)(room:Int)(a:Nat):ByteArray×fi:=JC c 4 true (⟨#[]⟩,(a,room))
theorem a7.c2{w:zy}{p:Nat}{c:List UInt8}{a:Nat}{r:Int}(h:a7 w p c a r):w.cell? ⟨p,2,zn⟩=zi (zw .i64 r):=by
 obtain⟨ao,cap,hp,_⟩:=h.box;exact kr hp 2
theorem zhQ(w:zy)(p:Nat)(c:List UInt8)(a:Nat)(r:Int)(h:a7 w p c a r)(room:Int)(iX:1<=room)(sF:room<=1000):
  zB prog 64 #[zx (zi ⟨p,0,zn⟩),zw .i64 room] w λe w'=>e=.returned (.string (jW c room a).1)/\a7 w' p c (jW c room a).2.1 (jW c room a).2.2/\aJ p w w'/\((jW c room a).1.size:Int)<=40*room:=by
 obtain⟨ao,cap,hp,_⟩:=h.box;have f2:w.frozen? ⟨p,2,zn⟩=false:=aR _ _ _ _ _ hp;have c2:w.cell? ⟨p,2,zn⟩=zi (zw .i64 r):=kr hp 2;have hd:=h.room room;have hk:=aJ.set (p:=p) w 2 (zw .i64 room);have Hp:zh (jW c room a=JC c 4 true (⟨#[]⟩,(a,room))):=rfl;clear hp h
 go_enter func64,ntmps64
 go_wp2;have wC:=zh9 p c 3 (by omega);rw[show (3-((3:Nat):Int))=0 from rfl]at wC;have yy:=λW a r hW (n:Int) (hn:n<=65536)=>uq W p c a r hW n hn
 go_loopw [5,6] (λo i wr=>∃(k:Nat) (out:ByteArray) (a':Nat) (r':Int),k<=4/\o=.string out/\i=zw .i64 k/\a7 wr p c a' r'/\aJ p w wr/\0<=r'/\r'<=room/\(k<4->1<=r')/\(out.size:Int)<=40*(room-r')/\zh (jW c room a=JC c (4-k) (decide (k=0)) (out,(a',r'))))
  (λ_ i _=>4-(intOf i).toNat)
 case atStart=>exact⟨0,_,a,room,by omega,rfl,rfl,hd,hk,by omega,by omega,λ_=>iX,(by show ((0:Nat):Int)<=_;omega),Hp⟩
 case round=>
  obtain⟨k,out,a',r',mf,rfl,rfl,wD,bP,r0,r1,r3,r4,HS⟩:=hrel;clear hd hk Hp f2 c2
  by_cases OI:k=4
  ·subst OI;have HE:zh (jW c room a=(out,(a',r'))):=HS.out;clear HS wC yy;go_wp2;go_ret;exact⟨by rw[HE.out];rfl,by rw[HE.out];exact⟨wD,bP,by show (out.size:Int)<=_;omega⟩⟩
  have r3:=r3 (by omega);have hlt:(k:Int)<4:=by omega
  have fS:zh (jW c room a=JC c (4-(k+1)+1) (decide (k=0)) (out,(a',r'))):=by
   have:=HS.out;rw[show 4-k=4-(k+1)+1 by omega]at this;exact this
  have fU:=yy wr a' r' wD 8 (by omega);obtain⟨xh,yh,ZH⟩:∃x y,af c 8 a'=(x,y):=⟨_,_,rfl⟩;rw[ZH]at fU;obtain⟨bx,yx,rx,uf⟩:∃b y r,CX c 3 (yh,r')=(b,(y,r)):=⟨_,_,_,rfl⟩;have IA:∀W,a7 W p c yh r'->zB prog 80 #[zx (zi ⟨p,0,zn⟩),zw .i64 0] W λe w'=>e=.returned (.string bx)/\a7 w' p c yx rx/\aJ p W w'/\0<=rx/\rx<r'/\(bx.size:Int)+5<=40*(r'-rx):=λW hW=>by
   have h1:=wC W yh r' hW (by omega) (by omega);rw[uf]at h1;exact h1
  have aL:=λW hW=>yy W yx rx hW 2 (by omega)
  obtain⟨x2,y2,mR⟩:∃x y,af c 2 yx=(x,y):=⟨_,_,rfl⟩;rw[mR]at aL;have VI:∀(o4:ByteArray) (a4:Nat),zg c (decide (k=0)) out (a',r')=(o4,(a4,rx))->zh (jW c room a=if rx<=0 then (o4,(a4,rx)) else if (af c 3 a4).1=1 then JC c (4-(k+1)) (decide (k+1=0)) (o4,((af c 3 a4).2,rx)) else (o4,((af c 3 a4).2,rx))):=λo4 a4 ho=>by
   refine fS.out.trans ?_;rw[JC,ho,show decide (k+1=0)=false by simp]
  have ud:zg c (decide (k=0)) out (a',r')=((Qj c xh yx (Qi (decide (k=0)) xh out++bx)).1,((Qj c xh yx (Qi (decide (k=0)) xh out++bx)).2,rx)):=by
   unfold zg;rw[ZH,uf]
  obtain⟨fb,Sx⟩:∃fb,decide (k=0)=fb:=⟨_,rfl⟩;rw[Sx]at VI ud;have Yx:(¬(0:Int)<(k:Int)/\fb=true)\/((0:Int)<(k:Int)/\fb=false):=by
   rcases JS k with h|h
   ·exact .inl ⟨by omega,by rw[<-Sx];simp[h]⟩
   ·exact .inr ⟨by omega,by rw[<-Sx];simp;omega⟩
  have hh:(xh=7\/(xh≠6/\xh≠7))\/((xh=6/\x2=1)\/(xh=6/\x2≠1)):=by omega
  have y1:¬9223372036854775807<out.size+1:=by omega
  have Tv:¬9223372036854775807<out.size+1+1:=by omega
  have y3':¬9223372036854775807<out.size+2:=by omega
  clear Sx HS fS wC uf ZH;rcases Yx with ⟨pn,rfl⟩|⟨pn,rfl⟩
  all_goals
   rcases hh with hA|hB
   case' inl=>
    have bZ:=λW hW=>yy W yx rx hW 3 (by omega)
    obtain⟨x4,y4,FP⟩:∃x y,af c 3 yx=(x,y):=⟨_,_,rfl⟩;rw[FP]at bZ;clear aL
   case' inr=>
    have bZ:=λW hW=>yy W y2 rx hW 3 (by omega)
    obtain⟨x4,y4,FP⟩:∃x y,af c 3 y2=(x,y):=⟨_,_,rfl⟩;rw[FP]at bZ
   all_goals first|(rcases hA with rfl|⟨h6,h7⟩)|(rcases hB with ⟨rfl,rfl⟩|⟨rfl,h21⟩)
   all_goals
    try have m6:(xh==6)=false:=by simp[h6]
    try have m7:(xh==7)=false:=by simp[h7]
    try have m2:(x2==1)=false:=by simp[h21]
    try simp[Qj,Qi,mR]at ud
    try simp[h6,h7]at ud
    try simp[h21]at ud
    have HX:=VI _ _ ud;rw[FP]at HX;clear VI ud mR FP yy
    by_cases AG:rx<=0
    ·have HE:zh (jW c room a=_):=HX.out.trans (ae AG);clear bZ HX
     go_wp2_with (first|(go_at_call 27;refine fU.mono ?_;rintro e w1 ⟨rfl,eZ,cK⟩;clear fU)|(go_at_call 80;refine(IA _ eZ).mono ?_;rintro e w2 ⟨rfl,fF,bJ,g0,g1,g2⟩;have tB:zh _:=(bP.trans cK).trans bJ;have Ey:zh (a7 w2 p c yx rx):=fF;have vK:zh _:=g2;have k2:=fF.c2;have Rb:zh _:=g0;have z0:¬9223372036854775807<out.size+bx.size:=(by omega);have z1:¬9223372036854775807<out.size+1+bx.size:=(by omega);have z2:¬9223372036854775807<out.size+1+1+bx.size:=(by omega);have z3:¬9223372036854775807<out.size+2+bx.size:=(by omega);have z4:¬9223372036854775807<out.size+bx.size+1:=(by omega);have z5:¬9223372036854775807<out.size+1+bx.size+1:=(by omega);have z6:¬9223372036854775807<out.size+1+1+bx.size+1:=(by omega);have z7:¬9223372036854775807<out.size+2+bx.size+1:=(by omega))|(go_at_call 27;refine(aL _ Ey.out).mono ?_;rintro e w3 ⟨rfl,eM,cP⟩;clear aL;have Bk:zh _:=tB.out.trans cP;have Bh:zh _:=eM;have k3:=eM.c2))
     go_ret
     exact⟨by rw[HE.out];rfl,by rw[HE.out];exact⟨by first|exact Bh.out|exact Ey.out,by first|exact Bk.out|exact tB.out,by have:=vK.out;have:=Rb.out;simp only[ByteArray.size_append,LP];omega⟩⟩
    by_cases ZE:x4=1
    ·subst ZE;have HE:zh (jW c room a=_):=(HX.out.trans (ab AG)).trans (ae rfl);clear HX
     go_wp2_with (first|(go_at_call 27;refine fU.mono ?_;rintro e w1 ⟨rfl,eZ,cK⟩;clear fU)|(go_at_call 80;refine(IA _ eZ).mono ?_;rintro e w2 ⟨rfl,fF,bJ,g0,g1,g2⟩;have tB:zh _:=(bP.trans cK).trans bJ;have Ey:zh (a7 w2 p c yx rx):=fF;have vK:zh _:=g2;have k2:=fF.c2;have Rb:zh _:=g0;have z0:¬9223372036854775807<out.size+bx.size:=(by omega);have z1:¬9223372036854775807<out.size+1+bx.size:=(by omega);have z2:¬9223372036854775807<out.size+1+1+bx.size:=(by omega);have z3:¬9223372036854775807<out.size+2+bx.size:=(by omega);have z4:¬9223372036854775807<out.size+bx.size+1:=(by omega);have z5:¬9223372036854775807<out.size+1+bx.size+1:=(by omega);have z6:¬9223372036854775807<out.size+1+1+bx.size+1:=(by omega);have z7:¬9223372036854775807<out.size+2+bx.size+1:=(by omega))|(go_at_call 27;refine(aL _ Ey.out).mono ?_;rintro e w3 ⟨rfl,eM,cP⟩;clear aL;have Bk:zh _:=tB.out.trans cP;have Bh:zh _:=eM;have k3:=eM.c2)|(go_at_call 27;refine(bZ _ (by first|exact Bh.out|exact Ey.out)).mono ?_;rintro e w5 ⟨rfl,Yp,pS⟩))
     go_roundw
     case rel=>exact⟨k+1,_,_,_,by omega,rfl,by go_num,Yp,by first|exact Bk.out.trans pS|exact tB.out.trans pS,by omega,by omega,by omega,by simp only[ByteArray.size_append,LP];omega,HE⟩
     case measure=>simp[intOf];omega
    ·have HE:zh (jW c room a=_):=(HX.out.trans (ab AG)).trans (ab ZE);have m4:(x4 != 1)=true:=by simp[ZE]
     clear HX
     go_wp2_with (first|(go_at_call 27;refine fU.mono ?_;rintro e w1 ⟨rfl,eZ,cK⟩;clear fU)|(go_at_call 80;refine(IA _ eZ).mono ?_;rintro e w2 ⟨rfl,fF,bJ,g0,g1,g2⟩;have tB:zh _:=(bP.trans cK).trans bJ;have Ey:zh (a7 w2 p c yx rx):=fF;have vK:zh _:=g2;have k2:=fF.c2;have Rb:zh _:=g0;have z0:¬9223372036854775807<out.size+bx.size:=(by omega);have z1:¬9223372036854775807<out.size+1+bx.size:=(by omega);have z2:¬9223372036854775807<out.size+1+1+bx.size:=(by omega);have z3:¬9223372036854775807<out.size+2+bx.size:=(by omega);have z4:¬9223372036854775807<out.size+bx.size+1:=(by omega);have z5:¬9223372036854775807<out.size+1+bx.size+1:=(by omega);have z6:¬9223372036854775807<out.size+1+1+bx.size+1:=(by omega);have z7:¬9223372036854775807<out.size+2+bx.size+1:=(by omega))|(go_at_call 27;refine(aL _ Ey.out).mono ?_;rintro e w3 ⟨rfl,eM,cP⟩;clear aL;have Bk:zh _:=tB.out.trans cP;have Bh:zh _:=eM;have k3:=eM.c2)|(go_at_call 27;refine(bZ _ (by first|exact Bh.out|exact Ey.out)).mono ?_;rintro e w5 ⟨rfl,Yp,pS⟩))
     go_ret
     exact⟨by rw[HE.out];rfl,by rw[HE.out];exact⟨Yp,by first|exact Bk.out.trans pS|exact tB.out.trans pS,by have:=vK.out;have:=Rb.out;simp only[ByteArray.size_append,LP];omega⟩⟩
end Go.Proofs.Ytfajjdgkiilhfaa
