import Derived.Test.YtfajjdgkiilhfaaC42
import Derived.Deep.RegionLaw
namespace Go.Proofs.Ytfajjdgkiilhfaa
open Proofs.Try
open Option renaming some->za,none->zh
open RowKit renaming Hid->zi,Below->zy
open Value renaming slice->zn,int->zw
open Go renaming Value->zp,World->zx
set_option maxHeartbeats 2000000
set_option maxRecDepth 100000
open Go.RowKit
attribute [local go_sem ↓] wp_at_zero wp_at_succ
section
variable {f:Nat -> Bool}{c:Nat}
def sP(rs:List (Int×Int)):List zp:=rs.flatMap λr=>[zw .i64 r.1,zw .i64 r.2]
theorem zlV(rs:List (Int×Int)):(sP rs).length=rs.length*2:=by
 induction rs with
 |nil=>rfl
 |cons a b ih=>simp[sP]at ih ⊢;omega
theorem UB(a b:List (Int×Int)):sP (a++b)=sP a++sP b:=by simp[sP]
theorem zpy(rs:List (Int×Int))(i:Nat)(h:i<rs.length):(sP rs)[i*2]?=za (zw .i64 (rs.getD i (0,0)).1)/\(sP rs)[i*2+1]?=za (zw .i64 (rs.getD i (0,0)).2):=by
 induction rs generalizing i with
 |nil=>simp at h
 |cons a b ih=>
  cases i with
  |zero=>exact⟨rfl,rfl⟩
  |succ i=>
   have:=ih i (by simpa using h);rw[show (i+1)*2=i*2+2 by omega];exact this
theorem ztE(l:List (Int×Int))(a b c:Int):sP (l++[(a,c)])=(sP (l++[(a,b)])).set (l.length*2+1) (zw .i64 c):=by
 rw[UB,UB,List.set_append_right _ _ (by rw[zlV];omega),zlV,lW]
 rfl
theorem zjr(f:Nat->Bool):∀c,(iF f c).length<=c
 |0=>ax _
 |c+1=>by
  have:=zjr f c;show (A8 f (iF f c) c).length<=c+1;unfold A8;split
  ·split
   ·simp;omega
   ·simp;omega
  ·omega
theorem zkJ(f:Nat->Bool)(c:Nat)(h:f c=true):∃l a,iF f (c+1)=l++[(a,(c:Int))]:=by
 show ∃l a,A8 f (iF f c) c=_;unfold A8;rw[ae h];split
 ·exact⟨_,_,rfl⟩
 ·exact⟨_,_,rfl⟩
theorem zpz(h:f c=false):iF f (c+1)=iF f c:=by
 show A8 f (iF f c) c=_;unfold A8;rw[ab (by rw[h];decide)]
theorem zjs(h:f c=true)(h2:¬(0<c/\f (c-1)=true)):iF f (c+1)=iF f c++[((c:Int),(c:Int))]:=by
 show A8 f (iF f c) c=_;unfold A8;rw[ae h,ab h2]
theorem zpB{l:List (Int×Int)}{a b:Int}(h:f c=true)(h2:0<c/\f (c-1)=true)(hl:iF f c=l++[(a,b)]):iF f (c+1)=l++[(a,(c:Int))]:=by
 show A8 f (iF f c) c=_;unfold A8;rw[ae h,ae h2,hl];simp
theorem zqR:(prog.info? 127).map (λi=>(i.zero,i.size,i.bytes))=za (za (.agg #[zw .i64 0,zw .i64 0]),2,16):=by kernel_rfl
def uN(B:Nat)(W:zx)(v:zp)(rs:List (Int×Int)):Prop:=W.ownsRow B 127 2 v rs.length (sP rs)
theorem zpj{W:zx}{base:Nat}{e:TypeId}{size:Nat}{v:zp}{k:Nat}{xs:List zp}(h:W.ownsRow base e size v (k+1) xs):∃g cap,v=zn (za ⟨g,0,zh⟩) (k+1) cap:=by
 rcases h.2 with ⟨_,h0⟩|⟨g,cap,_,hv,_⟩
 ·omega
 ·exact⟨g,cap,hv⟩
theorem zlJ{G:Nat}(w:zx)(hG:bC w G f):
  Calls prog 87 #[zn (za ⟨G,0,zh⟩) 256 256] w λe w'=>∃v,e=.returned v/\uN w.heap.size w' v (iF f 256)/\zy w.heap.size w w':=by
 obtain⟨iR,hjR,zx9,zya,zyb⟩:=info_parts zqR;have KI:=az hG
 go_enter func87,ntmps87
 go_wp2
 go_loopw [3,4] (λv i wr=>∃c:Nat,c<=256/\i=zw .i64 (c:Int)/\zy w.heap.size w wr/\zi (uN w.heap.size wr v (iF f c))) (λ_ i _=>256-(intOf i).toNat)
 case atStart=>exact⟨0,by omega,rfl,aC,LX w _ 2 _ _ (ax _) rfl⟩
 case round=>
  obtain⟨c,hc,rfl,hb,HO⟩:=hrel
  by_cases hlt:c<256
  case neg=>
   have hce:c=256:=by omega
   subst hce;go_wp2;go_ret;exact⟨_,rfl,HO.out,hb⟩
  have Xy:bC wr G f:=(hb.block G KI).trans hG;have c0:=Xy.get hlt;have hs:=hb.size;cases hf:f c with
  |false=>
   rw[hf]at c0;have HN:zi _:=zpz hf;go_wp2
   go_roundw
   case rel=>exact⟨c+1,by omega,by go_num,hb,by rw[HN.out];exact HO⟩
   case measure=>simp[intOf];omega
  |true=>
   rw[hf]at c0;have hlen:=zjr f c
   by_cases h2:0<c/\f (c-1)=true
   ·obtain⟨h3,h4⟩:=h2;have c1:=Xy.get (i:=c-1) (by omega);rw[h4]at c1;obtain⟨l,a,hl⟩:=zkJ f (c-1) h4;rw[show c-1+1=c by omega]at hl;have HN:zi _:=zpB hf ⟨h3,h4⟩ hl;have rY:=HO.out;rw[hl]at rY;have IK:(l++[(a,((c-1:Nat):Int))]).length=l.length+1:=by simp
    unfold uN at rY;rw[IK]at rY;obtain⟨g,cap,hv⟩:=zpj rY;subst hv;have ve:l.length+1<=256:=by rw[hl,IK]at hlen;omega
    have hj:l.length*2+1<(l.length+1)*2:=by omega
    obtain⟨u,cu⟩:=PW rY hj;have fu:=rY.frozenAt (l.length*2+1);have HP:zi (uN w.heap.size (wr.setCell ⟨g,l.length*2+1,zh⟩ (zw .i64 (c:Int))) (zn (za ⟨g,0,zh⟩) (l.length+1) cap) (iF f (c+1))):=by
     show uN _ _ _ _;unfold uN;rw[HN.out,show (l++[(a,(c:Int))]).length=l.length+1 by simp,ztE l a ((c-1:Nat):Int) (c:Int)];exact(rY.stored (l.length*2+1) (zw .i64 (c:Int))).1
    have YC:w.heap.size<=g:=(rY.lt g rfl).1;have i1:(0:Int)<(c:Int):=by omega
    have i2:((c:Int)-1).toNat=c-1:=by omega
    have i3:(0:Int)<=(c:Int)-1:=by omega
    have i4:(c:Int)-1<256:=by omega
    have i5:(0:Int)<=((l.length+1:Nat):Int)-1:=by omega
    have i6:(((l.length+1:Nat):Int)-1).toNat=l.length:=by omega
    have i7:((l.length+1:Nat):Int)-1<((l.length+1:Nat):Int):=by omega
    generalize hL:l.length=L at *;clear rY hl IK HN hlen HO;go_wp2
    go_roundw
    case rel=>exact⟨c+1,by omega,by go_num,hb.setCell (by exact YC) _,HP⟩
    case measure=>simp[intOf];omega
   ·by_cases h3:0<c
    case neg=>
     have i1:¬(0:Int)<(c:Int):=by omega
     have HN:zi _:=zjs hf h2;clear h2;obtain⟨N,hN⟩:∃N,N=(iF f c).length:=⟨_,rfl⟩;have Fb:N<=256:=by omega
     have xO:zi (wr.ownsRow w.heap.size 127 2 u3 N (sP (iF f c))):=by rw[hN];exact HO.out
     have mF:zi _:=hN;clear hN hlen
     go_wp2_with (at_builtin;refine wZ rfl (.tmp 31) (.tmp 35) 114 rfl wr #[zw .i64 (c:Int),zw .i64 (c:Int)] 127 rfl wr.heap.size rfl w.heap.size iR _ 2 16 underlying114 hjR zx9 zya zyb rfl (by omega) _ N _ rfl xO.out rfl rfl (by simp[Value.oneCell']) (by omega) (by omega) hs ?_;intro g' cap' w4 iZ cU kc)
     have HP:zi (uN w.heap.size w4 (zn (za ⟨g',0,zh⟩) (N+1) cap') (iF f (c+1))):=by
      show uN _ _ _ _;unfold uN;rw[HN.out,UB,a6,<-mF.out];exact iZ
     have bZ:zy w.heap.size w w4:=hb.grown cU hs (λk hk=>(dL xO.out hk).1);clear iZ cU kc;go_wp2
     go_roundw
     case rel=>exact⟨c+1,by omega,by go_num,bZ,HP⟩
     case measure=>simp[intOf];omega
    have h4:f (c-1)=false:=by cases h:f (c-1);rfl;exact absurd ⟨h3,h⟩ h2
    have i1:(0:Int)<(c:Int):=by omega
    have i2:((c:Int)-1).toNat=c-1:=by omega
    have i3:(0:Int)<=(c:Int)-1:=by omega
    have i4:(c:Int)-1<256:=by omega
    have c1:=Xy.get (i:=c-1) (by omega);rw[h4]at c1;have HN:zi _:=zjs hf h2;clear h2;obtain⟨N,hN⟩:∃N,N=(iF f c).length:=⟨_,rfl⟩;have Fb:N<=256:=by omega
    have xO:zi (wr.ownsRow w.heap.size 127 2 u3 N (sP (iF f c))):=by rw[hN];exact HO.out
    have mF:zi _:=hN;clear hN hlen
    go_wp2_with (at_builtin;refine wZ rfl (.tmp 31) (.tmp 35) 114 rfl wr #[zw .i64 (c:Int),zw .i64 (c:Int)] 127 rfl wr.heap.size rfl w.heap.size iR _ 2 16 underlying114 hjR zx9 zya zyb rfl (by omega) _ N _ rfl xO.out rfl rfl (by simp[Value.oneCell']) (by omega) (by omega) hs ?_;intro g' cap' w4 iZ cU kc)
    have HP:zi (uN w.heap.size w4 (zn (za ⟨g',0,zh⟩) (N+1) cap') (iF f (c+1))):=by
     show uN _ _ _ _;unfold uN;rw[HN.out,UB,a6,<-mF.out];exact iZ
    have bZ:zy w.heap.size w w4:=hb.grown cU hs (λk hk=>(dL xO.out hk).1);clear iZ cU kc;go_wp2
    go_roundw
    case rel=>exact⟨c+1,by omega,by go_num,bZ,HP⟩
    case measure=>simp[intOf];omega
end
section
variable {U U':Nat -> Prop}{W W':zx}{v:zp}{rs:List (Int×Int)}{B:Nat}{ns:List aI}{sv:Nat -> zp}
def fX(U:Nat->Prop)(W:zx)(v:zp)(rs:List (Int×Int)):Prop:=∃ao cap,v=.slice ao rs.length cap/\rs.length<=cap/\cap<=maxLen/\
 (0<rs.length->∃b,ao=za ⟨b,0,zh⟩/\U b/\b<W.heap.size/\∀j u,(sP rs)[j]?=za u->W.cell? ⟨b,j,zh⟩=za u)
def pw(n:aI)(s:zp):List zp:=[zw .i64 n.kind,s,zw .i64 n.min,zw .i64 n.max,zw .i64 n.group]
def mh(ns:List aI)(sv:Nat->zp):List zp:=(List.range ns.length).flatMap λk=>pw (ns.getD k .zero) (sv k)
theorem zo7(ns:List aI)(sv:Nat->zp):(mh ns sv).length=ns.length*5:=Ue (f:=λk=>pw (ns.getD k .zero) (sv k)) (λ_=>rfl) _
theorem zsG(ns:List aI)(sv:Nat->zp){k j:Nat}(hk:k<ns.length)(hj:j<5):(mh ns sv)[k*5+j]?=(pw (ns.getD k .zero) (sv k))[j]?:=Ud (f:=λk=>pw (ns.getD k .zero) (sv k)) (sz:=5) (λ_=>rfl) _ _ _ hk hj
theorem zmF{l:List aI}(m:List aI){k:Nat}(h:k<l.length):(l++m).getD k .zero=l.getD k .zero:=by simp[List.getD,List.getElem?_append_left h]
theorem zkr(l m:List aI)(k:Nat):(l++m).getD (l.length+k) .zero=m.getD k .zero:=by
 simp only[List.getD];rw[vH (by omega),lW]
def F1(n:Nat)(s1 s2:Nat->zp):Nat->zp:=λk=>if k<n then s1 k else s2 (k-n)
theorem zq3:∀(b a:List aI) (s1 s2:Nat->zp),mh (a++b) (F1 a.length s1 s2)=mh a s1++mh b s2:=by
 intro b a s1 s2;have h1:∀k,k<a.length->pw ((a++b).getD k .zero) (F1 a.length s1 s2 k)=pw (a.getD k .zero) (s1 k):=λk hk=>by
  rw[zmF _ hk];unfold F1;rw[ae hk]
 have h2:∀k,pw ((a++b).getD (a.length+k) .zero) (F1 a.length s1 s2 (a.length+k))=pw (b.getD k .zero) (s2 k):=λk=>by
  rw[zkr];unfold F1;rw[ab (by omega),lW]
 have h3:∀m,(List.range (a.length+m)).flatMap (λk=>pw ((a++b).getD k .zero) (F1 a.length s1 s2 k))=(List.range a.length).flatMap (λk=>pw (a.getD k .zero) (s1 k))++(List.range m).flatMap (λk=>pw (b.getD k .zero) (s2 k)):=by
  intro m
  induction m with
  |zero=>rw[xJ,PM _ h1];simp
  |succ m ih=>rw[<-Cv,LY,ih,LY,h2,jA]
 unfold mh;rw[a6];exact h3 b.length
def fT(U:Nat->Prop)(W:zx)(v:zp)(ns:List aI):Prop:=∃b cap sv,v=zn (za ⟨b,0,zh⟩) ns.length cap/\ns.length<=cap/\cap<=maxLen/\U b/\b<W.heap.size/\
 (∀j u,(mh ns sv)[j]?=za u->W.cell? ⟨b,j,zh⟩=za u)/\∀k,k<ns.length->fX U W (sv k) (ns.getD k .zero).set
def eX(B:Nat)(U:Nat->Prop)(W:zx)(v:zp)(ns:List aI):Prop:=∃sv,W.ownsRow B 125 5 v ns.length (mh ns sv)/\∀k,k<ns.length->fX (λb=>U b/\v.ownBlock≠za b) W (sv k) (ns.getD k .zero).set
theorem fX.keep(h:fX U W v rs)(hs:W.heap.size<=W'.heap.size)(hk:∀b,U b->b<W.heap.size->W'.heap[b]?=W.heap[b]?):fX U W' v rs:=by
 obtain⟨ao,cap,rfl,h1,h2,h3⟩:=h;refine⟨ao,cap,rfl,h1,h2,λh0=>?_⟩;obtain⟨b,rfl,hU,hb,hc⟩:=h3 h0;exact⟨b,rfl,hU,by omega,λj u hu=>by rw[World.cell?_of_block (w:=W) (hk b hU hb)];exact hc j u hu⟩
theorem fX.mono(h:fX U W v rs)(hU:∀b,U b->b<W.heap.size->U' b):fX U' W v rs:=by
 obtain⟨ao,cap,rfl,h1,h2,h3⟩:=h;refine⟨ao,cap,rfl,h1,h2,λh0=>?_⟩;obtain⟨b,rfl,hu,hb,hc⟩:=h3 h0;exact⟨b,rfl,hU b hu hb,hb,hc⟩
theorem fX.nil(U:Nat->Prop)(W:zx):fX U W (zn zh 0 0) []:=⟨zh,0,rfl,ax _,bH _,λh=>absurd h (by simp)⟩
theorem uN.to(h:uN B W v rs){U:Nat->Prop}(hU:∀b,v.ownBlock=za b->U b):fX U W v rs:=by
 rcases h.2 with ⟨rfl,h0⟩|⟨g,cap,a9,rfl,hg,hh,h1,h2,h3,h4⟩
 ·have:rs=[]:=qj h0;subst this;exact fX.nil _ _
 ·refine⟨_,cap,rfl,h1,h2,λ_=>⟨g,rfl,hU g rfl,az hh,λj u hu=>?_⟩⟩;have hj:j<rs.length*2:=by
   have:=(n5.1 hu).1;rw[zlV]at this;exact this
  have:=World.ownsRow.cellAt (show W.ownsRow B 127 2 (zn (za ⟨g,0,zh⟩) rs.length cap) rs.length (sP rs) from h) j hj;rw[this,hu]
theorem fT.keep(h:fT U W v ns)(hs:W.heap.size<=W'.heap.size)(hk:∀b,U b->b<W.heap.size->W'.heap[b]?=W.heap[b]?):fT U W' v ns:=by
 obtain⟨b,cap,sv,rfl,h1,h2,hU,hb,hc,hr⟩:=h;exact⟨b,cap,sv,rfl,h1,h2,hU,by omega,λj u hu=>by rw[World.cell?_of_block (w:=W) (hk b hU hb)];exact hc j u hu,λk bJ=>(hr k bJ).keep hs hk⟩
theorem fT.mono(h:fT U W v ns)(hU:∀b,U b->b<W.heap.size->U' b):fT U' W v ns:=by
 obtain⟨b,cap,sv,rfl,h1,h2,hu,hb,hc,hr⟩:=h;exact⟨b,cap,sv,rfl,h1,h2,hU b hu hb,hb,hc,λk bJ=>(hr k bJ).mono hU⟩
theorem fT.below(h:fT U W v ns)(hb:zy W.heap.size W W'):fT U W' v ns:=h.keep hb.size λb _ hl=>hb.block b hl
theorem eX.to(h:eX B U W v ns)(h0:0<ns.length)(hU:∀b,v.ownBlock=za b\/U b->b<W.heap.size->U' b):fT U' W v ns:=by
 obtain⟨sv,ho,hr⟩:=h;rcases ho.2 with ⟨_,h1⟩|⟨g,cap,a9,rfl,hg,hh,h1,h2,h3,h4⟩
 ·omega
 ·refine⟨g,cap,sv,rfl,h1,h2,hU g (.inl rfl) (az hh),az hh,λj u hu=>?_,λk hk=>(hr k hk).mono λb hb hl=>hU b (.inr hb.1) hl⟩;have hj:j<ns.length*5:=by
   have:=(n5.1 hu).1;rw[zo7]at this;exact this
  rw[ho.cellAt j hj,hu]
theorem eX.keep(h:eX B U W v ns)(hs:W.heap.size<=W'.heap.size)(hk:∀b,(v.ownBlock=za b\/U b)->b<W.heap.size->W'.heap[b]?=W.heap[b]?):eX B U W' v ns:=by
 obtain⟨sv,ho,hr⟩:=h;exact⟨sv,uo ho λb hb=>hk b (.inl hb) (dL ho hb).2,λk bJ=>(hr k bJ).keep hs λb hb hl=>hk b (.inr hb.1) hl⟩
theorem eX.below(h:eX B U W v ns)(hb:zy W.heap.size W W'):eX B U W' v ns:=h.keep hb.size λb _ hl=>hb.block b hl
theorem eX.new(w:zx)(B H:Nat)(U:Nat->Prop)(hB:B<=H)(hH:w.heap.size=H):eX B U (w.alloc (.cells #[] 125)) (zn (za ⟨H,0,zh⟩) 0 0) []:=
 ⟨λ_=>zn zh 0 0,LX w _ 5 B H hB hH,λk h=>absurd h (by simp)⟩
theorem eX.more{w':zx}{ms:List aI}{s2:Nat->zp}{g' cap':Nat}(hr:∀k,k<ns.length->fX (λb=>U b/\v.ownBlock≠za b) W (sv k) (ns.getD k .zero).set)
  (h2:∀k,k<ms.length->fX (λb=>U b/\v.ownBlock≠za b) W (s2 k) (ms.getD k .zero).set)
  (ho:w'.ownsRow B 125 5 (zn (za ⟨g',0,zh⟩) (ns.length+ms.length) cap') (ns.length+ms.length) (mh ns sv++mh ms s2))
  (hg:W.grownBy w' v.ownBlock) (eY:v.ownBlock=za g'\/W.heap.size<=g'):eX B U w' (zn (za ⟨g',0,zh⟩) (ns.length+ms.length) cap') (ns++ms):=by
 have key:∀s rs,fX (λb=>U b/\v.ownBlock≠za b) W s rs->fX (λb=>U b/\(Value.slice (za ⟨g',0,zh⟩) (ns.length+ms.length) cap').ownBlock≠za b) w' s rs:=by
  intro s rs h;have h3:=h.keep hg.size (λb hb hl=>hg.block b hl (λe=>hb.2 e.symm));have h4:fX (λb=>(U b/\v.ownBlock≠za b)/\b<W.heap.size) W s rs:=h.mono λb hb hl=>⟨hb,hl⟩
  have h5:=h4.keep hg.size (λb hb hl=>hg.block b hl (λe=>hb.1.2 e.symm));refine h5.mono λb hb _=>⟨hb.1.1,λe=>?_⟩
  have e2:g'=b:=by simpa [Value.ownBlock]using e
  subst e2;rcases eY with h|h
  ·exact hb.1.2 h
  ·have:=hb.2;omega
 refine⟨F1 ns.length sv s2,by rw[zq3,a6];exact ho,λk hk=>?_⟩;unfold F1
 by_cases e:k<ns.length
 ·rw[ae e,zmF _ e];exact key _ _ (hr k e)
 ·rw[ab e];have bJ:k-ns.length<ms.length:=by simp at hk;omega
  have:(ns++ms).getD k .zero=ms.getD (k-ns.length) .zero:=by
   have:=zkr ns ms (k-ns.length);rw[show ns.length+(k-ns.length)=k by omega]at this;exact this
  rw[this];exact key _ _ (h2 _ bJ)
theorem zg1:(prog.info? 125).map (λi=>(i.zero,i.size,i.bytes))=za (za (.agg #[zw .i64 0,zn zh 0 0,zw .i64 0,zw .i64 0,zw .i64 0]),5,56):=by kernel_rfl
theorem zlM(n:aI)(s:zp)(h:s.oneCell'=true):∀u∈pw n s,u.oneCell'=true:=by
 intro u hu;simp[pw]at hu;rcases hu with rfl|rfl|rfl|rfl|rfl<;>first|rfl|exact h
theorem fX.one(h:fX U W v rs):v.oneCell'=true:=by obtain⟨ao,cap,rfl,_⟩:=h;rfl
theorem zsH(h:∀k,k<ns.length->(sv k).oneCell'=true):∀u∈mh ns sv,u.oneCell'=true:=by
 intro u hu;unfold mh at hu;rw[List.mem_flatMap]at hu;obtain⟨k,hk,hu⟩:=hu;exact zlM _ _ (h k (mB.1 hk)) u hu
end
section
variable {parts:List (List aI)}
structure Wq(U:Nat->Prop)(W:zx)(G O:Nat)(parts:List (List aI))(pv:Nat->zp):Prop where
 lt:G<W.heap.size
 BI:∀k,k<parts.length->W.cell? ⟨G,O+k,zh⟩=za (pv k)
 nds:∀k,k<parts.length->fT U W (pv k) (parts.getD k [])
 pos:∀k,k<parts.length->0<(parts.getD k []).length
def Cr(k:Int):aI:=⟨k,[],0,0,0⟩
theorem zfN{k:Nat}(h:k<parts.length):(parts.take (k+1)).flatten=(parts.take k).flatten++parts.getD k []:=by
 rw[vD h,List.flatten_append,bI,bE h];simp
theorem zdg(parts:List (List aI))(k:Nat):(parts.take k).flatten.length<=parts.flatten.length:=by
 have:parts.flatten=(parts.take k).flatten++(parts.drop k).flatten:=by rw[<-List.flatten_append,List.take_append_drop]
 rw[this,a6];omega
theorem zkh{U:Nat->Prop}{G O c:Nat}{pv:Nat->zp}(kind:Int)(w:zx)(h:Wq U w G O parts pv)(hn:parts.length<=100000)(hl:parts.flatten.length<=100000):
  Calls prog 86 #[zn (za ⟨G,O,zh⟩) parts.length c,zw .i64 kind] w λe w'=>∃v,e=.returned v/\eX w.heap.size (λb=>U b/\b<w.heap.size) w' v (parts.flatten++List.replicate (parts.length-1) (Cr kind))/\zy w.heap.size w w':=by
 obtain⟨iN,rn,rD,rE,rF⟩:=info_parts zg1;obtain⟨n,AD⟩:∃n,n=parts.length:=⟨_,rfl⟩;have fc:n<=100000:=by omega
 have mF:zi _:=AD;rw[<-AD];clear AD hn
 go_enter func86,ntmps86
 go_wp2
 go_loopw [5,12] (λav i wr=>∃k:Nat,k<=n/\i=zw .i64 (k:Int)/\zy w.heap.size w wr/\zi (eX w.heap.size (λb=>U b/\b<w.heap.size) wr av (parts.take k).flatten)) (λ_ i _=>n-(intOf i).toNat)
 case atStart=>exact⟨0,by omega,rfl,aC,eX.new w _ _ _ (ax _) rfl⟩
 case round=>
  obtain⟨k,hk,rfl,hb,HO⟩:=hrel;have hs:=hb.size
  by_cases hlt:k<n
  ·have SL:k<parts.length:=by have:=mF.out;omega
   have h1:(k:Int)<(n:Int):=by omega
   have cB:=(hb.block G h.lt);have c0:wr.cell? ⟨G,O+k,zh⟩=za (pv k):=by rw[World.cell?_of_block (w:=w) cB];exact h.BI k SL
   obtain⟨b,cap,sv,hv,nK,dN,Sh,cQ,zAc,Zj⟩:=(h.nds k SL);have pX:=h.pos k SL;have Yy:=zfN SL;have YP:=zdg parts (k+1);have hle:=zdg parts k;rw[Yy,a6]at YP;rw[hv]at c0;obtain⟨s1,ho,hr⟩:=HO.out;obtain⟨M,hM⟩:∃M,M=(parts.getD k []).length:=⟨_,rfl⟩;obtain⟨N,hN⟩:∃N,N=(parts.take k).flatten.length:=⟨_,rfl⟩;rw[<-hM]at c0 pX YP;rw[<-hN]at YP;have zz8:(N+M)*56<=140737488355328:=by omega
   have hmx:N+M<=maxLen:=by unfold maxLen;omega
   have Bw:zi (wr.ownsRow w.heap.size 125 5 u5 N (mh (parts.take k).flatten s1)):=by rw[hN];exact ho
   have il:(mh (parts.getD k []) sv).length=M*5:=by rw[zo7,hM]
   have CQ:zi _:=il;have ry:∀j u,(mh (parts.getD k []) sv)[j]?=za u->wr.cell? ((⟨b,0,zh⟩:Addr).add j)=za u:=by
    intro j u hu;have e1:(⟨b,0,zh⟩:Addr).add j=⟨b,j,zh⟩:=by unfold Addr.add;split<;>simp_all
    rw[e1,World.cell?_of_block (w:=w) (hb.block b cQ)];exact zAc j u hu
   have Hnc:zi _:=ry;have HM:zi _:=hM;have HN:zi _:=hN;have Hft:zi _:=Yy;have Hr:zi _:=hr;have zvZ:zi _:=Zj;have H1:zi (∀u∈mh (parts.getD k []) sv,u.oneCell'=true):=zsH λj hj=>(Zj j hj).one
   clear il ry hM hN Yy hr Zj ho hle hv
   go_wp2_with (at_builtin;refine wpList_append_lies _ rfl (.tmp 16) (.tmp 17) 105 rfl w.heap.size 125 iN _ 5 56 underlying105 rn rD rE rF rfl (by omega) _ N _ rfl Bw.out ⟨b,0,zh⟩ M cap _ rfl CQ.out Hnc.out H1.out pX hmx zz8 hs _ rfl ?_;intro g' cap' w4 iZ cU kc lt4)
   have HP:zi (eX w.heap.size (λb=>U b/\b<w.heap.size) w4 (zn (za ⟨g',0,zh⟩) (N+M) cap') (parts.take (k+1)).flatten):=by
    show eX _ _ _ _ _;rw[Hft.out,HN.out,HM.out];rw[HN.out,HM.out]at iZ;refine eX.more Hr.out (λj hj=>?_) iZ cU (kc.imp id λe=>by omega);have h3:=(zvZ.out j hj).keep hs λb _ hl=>hb.block b hl
    have h4:fX (λb=>U b/\b<w.heap.size) w (sv j) ((parts.getD k []).getD j .zero).set:=(zvZ.out j hj).mono λb hb hl=>⟨hb,hl⟩
    refine(h4.keep hs λb _ hl=>hb.block b hl).mono λb hb _=>⟨hb,λe=>?_⟩
    have:=(dL Bw.out e).1;have:=hb.2;omega
   have bZ:zy w.heap.size w w4:=hb.grown cU hs (λk hk=>(dL Bw.out hk).1);clear iZ cU kc;go_wp2
   go_roundw
   case rel=>exact⟨k+1,by omega,by go_num,bZ,HP⟩
   case measure=>simp[intOf];omega
  ·have k7:k=n:=by omega
   subst k7;have EC:zi (eX w.heap.size (λb=>U b/\b<w.heap.size) wr u5 (parts.flatten++List.replicate 0 (Cr kind))):=by
    have:=HO.out;rw[mF.out,th]at this;show eX _ _ _ _ _
    simpa using this
   clear HO;go_wp2
   go_loopw [5,8] (λav i wr=>∃j:Nat,i=zw .i64 ((j+1:Nat):Int)/\(j+1<=k\/j=0)/\zy w.heap.size w wr/\zi (eX w.heap.size (λb=>U b/\b<w.heap.size) wr av (parts.flatten++List.replicate j (Cr kind)))) (λ_ i _=>k-(intOf i).toNat)
   case atStart=>exact⟨0,rfl,.inr rfl,hb,EC⟩
   case round=>
    obtain⟨j,rfl,hj,aL,rY⟩:=hrel;have rB:=aL.size
    by_cases yG:j+1<k
    ·have h1:((j+1:Nat):Int)<(k:Int):=by omega
     obtain⟨s1,ho,hr⟩:=rY.out;obtain⟨N,hN⟩:∃N,N=(parts.flatten++List.replicate j (Cr kind)).length:=⟨_,rfl⟩;have Fb:N<=200000:=by rw[hN,a6,xI];omega
     have Bw:zi (wr.ownsRow w.heap.size 125 5 u5 N (mh (parts.flatten++List.replicate j (Cr kind)) s1)):=by rw[hN];exact ho
     have HN:zi _:=hN;have Hr:zi _:=hr;clear hN hr ho
     go_wp2_with (at_builtin;refine wZ rfl (.tmp 26) (.tmp 29) 105 rfl wr #[zw .i64 kind,zn zh 0 0,zw .i64 0,zw .i64 0,zw .i64 0] 125 rfl wr.heap.size rfl w.heap.size iN _ 5 56 underlying105 rn rD rE rF rfl (by omega) _ N _ rfl Bw.out rfl rfl (by simp[Value.oneCell']) (by omega) (by omega) rB ?_;intro g' cap' w4 iZ cU kc)
     have HP:zi (eX w.heap.size (λb=>U b/\b<w.heap.size) w4 (zn (za ⟨g',0,zh⟩) (N+1) cap') (parts.flatten++List.replicate (j+1) (Cr kind))):=by
      show eX _ _ _ _ _;rw[List.replicate_succ',<-jA,HN.out];rw[HN.out]at iZ;exact eX.more (ms:=[Cr kind]) (s2:=λ_=>zn zh 0 0) Hr.out (λi hi=>by
       have:i=0:=by simpa using hi
       subst this;exact fX.nil _ _) iZ cU kc
     have bZ:zy w.heap.size w w4:=aL.grown cU rB (λk hk=>(dL Bw.out hk).1);clear iZ cU kc;go_wp2
     go_roundw
     case rel=>exact⟨j+1,by go_num,.inl (by omega),bZ,HP⟩
     case measure=>simp[intOf];omega
    ·have h1:¬((j+1:Nat):Int)<(k:Int):=by omega
     have po:j=k-1:=by omega
     have HF:zi (eX w.heap.size (λb=>U b/\b<w.heap.size) wr u5 (parts.flatten++List.replicate (k-1) (Cr kind))):=by rw[<-po];exact rY
     clear rY po;go_wp2;go_ret;exact⟨_,rfl,HF.out,aL⟩
end
section
variable {l:List Tok}{k:Nat}
def iK(l:List Tok):Nat->List (Nat×Nat)×Nat
 |0=>([],0)
 |k+1=>if aZ l k=3/\bA l k=0 then ((iK l k).1++[((iK l k).2,k)],k+1) else iK l k
def Gj(l:List Tok):List (Nat×Nat):=(iK l l.length).1++[((iK l l.length).2,l.length)]
theorem zrX(l:List Tok):∀k,(iK l k).2<=k/\(iK l k).1.length<=k
 |0=>⟨ax _,ax _⟩
 |k+1=>by
  have:=zrX l k;show ((if _ then _ else _:List (Nat×Nat)×Nat)).2<=_/\((if _ then _ else _:List (Nat×Nat)×Nat)).1.length<=_;split
  ·simp;omega
  ·omega
theorem Uv(h:aZ l k=3/\bA l k=0):iK l (k+1)=((iK l k).1++[((iK l k).2,k)],k+1):=by
 show (if _ then _ else _)=_;rw[ae h]
theorem Qq(h:¬(aZ l k=3/\bA l k=0)):iK l (k+1)=iK l k:=by
 show (if _ then _ else _)=_;rw[ab h]
def AV(G O c:Nat)(p:Nat×Nat):zp:=zn (za ⟨G,O+p.1*5,zh⟩) (p.2-p.1) (c-p.1)
theorem zqS:(prog.info? 130).map (λi=>(i.zero,i.size,i.bytes))=za (za (zn zh 0 0),1,24):=by kernel_rfl
def zzd(w:zx)(G O c:Nat)(l:List Tok)(e:Ending)(w':zx):Prop:=∃v,e=.returned v/\w'.ownsRow w.heap.size 130 1 v (Gj l).length ((Gj l).map (AV G O c))/\zy w.heap.size w w'
theorem zii{G O g c:Nat}{q:Nat->Nat}(w:zx)(h:gK w G O g l q)(hl:l.length<=2000)(kf:l.length<=c)(dN:c<=9223372036854775807)(lL:(iK l l.length).2<l.length):
  Calls prog 70 #[zn (za ⟨G,O,zh⟩) l.length c] w (zzd w G O c l):=by
 obtain⟨iT,FB,FT,FU,FV⟩:=info_parts zqS;obtain⟨n,AD⟩:∃n,n=l.length:=⟨_,rfl⟩;have fc:n<=2000:=by omega
 have nL:n<=c:=by omega
 have zAd:(n:Int)<=(c:Int):=by omega
 have Am:(c:Int)<=9223372036854775807:=by omega
 have mF:zi _:=AD;have HL:zi _:=hl;rw[<-AD];have zyE:zi _:=lL;clear AD kf dN hl lL
 go_enter func70,ntmps70
 go_wp2
 go_loopw [3,4,5] (λpv fv kv wr=>∃k f:Nat,k<=n/\f<=k/\zi ((iK l k).2=f)/\kv=zw .i64 (k:Int)/\fv=zw .i64 (f:Int)/\zy w.heap.size w wr/\zi (wr.ownsRow w.heap.size 130 1 pv (iK l k).1.length ((iK l k).1.map (AV G O c)))) (λ_ _ kv _=>n-(intOf kv).toNat)
 case atStart=>exact⟨0,0,by omega,by omega,rfl,rfl,rfl,aC,LX w _ 1 _ _ (ax _) rfl⟩
 case round=>
  obtain⟨k,f,hk,hf,HF,rfl,rfl,hb,HO⟩:=hrel;have hs:=hb.size;have hp:=(zrX l k).2;obtain⟨N,hN⟩:∃N,N=(iK l k).1.length:=⟨_,rfl⟩;have xO:zi (wr.ownsRow w.heap.size 130 1 u3 N ((iK l k).1.map (AV G O c))):=by rw[hN];exact HO.out
  have Fb:N<=2000:=by omega
  have HN:zi _:=hN;clear hN hp HO;have kg:(f:Int)<=(k:Int):=by omega
  have Fu:(f:Int)<=(n:Int):=by omega
  have IC:(f:Int)<=(c:Int):=by omega
  have Az:(k:Int)<=(c:Int):=by omega
  have j1:((k:Int)-(f:Int)).toNat=k-f:=by omega
  have j2:((c:Int)-(f:Int)).toNat=c-f:=by omega
  have j3:((n:Int)-(f:Int)).toNat=n-f:=by omega
  by_cases hlt:k<n
  ·have h1:(k:Int)<(n:Int):=by omega
   have cY:k<l.length:=by have:=mF.out;omega
   have hV:=h.below (hb.mono (ax _));have c0:=hV.DG cY;have e3:=Ef (h.qE k cY) 3 (by omega);have e3:(kB (aZ l k)==124)=decide (aZ l k=3):=e3;have hD:=L9 (c:=c) wr hV (k:=k) (ck:=(k:Int)) (by omega) rfl (by have:=HL.out;omega);have Dl:=zlv l k;rw[<-mF.out]at hD;generalize KN:kB (aZ l k)=KB at c0 e3;have HV:zi _:=hV;clear hV
   by_cases cP:aZ l k=3
   ·have wo:(KB==124)=true:=by rw[e3];simpa using cP
    by_cases Ot:bA l k=0
    ·rw[Ot]at hD;have HS:zi _:=Uv ⟨cP,Ot⟩;clear e3 cP Ot KN Dl
     go_wp2_with fail
     refine hD.mono ?_;rintro e w2 ⟨rfl,rfl⟩
     go_wp2_with (at_builtin;refine wZ rfl (.tmp 25) (.tmp 30) 138 rfl w2 #[zn (za ⟨G,O+f*5,zh⟩) (k-f) (c-f)] 130 rfl w2.heap.size rfl w.heap.size iT _ 1 24 underlying138 FB FT FU FV rfl (by omega) _ N _ rfl xO.out rfl rfl (by simp[Value.oneCell']) (by omega) (by omega) hs ?_;intro g' cap' w4 iZ cU kc)
     have HP:zi (w4.ownsRow w.heap.size 130 1 (zn (za ⟨g',0,zh⟩) (N+1) cap') (iK l (k+1)).1.length ((iK l (k+1)).1.map (AV G O c))):=by
      show World.ownsRow _ _ _ _ _ _ _;rw[HS.out,HF.out,a6,rR,<-HN.out];exact iZ
     have bZ:zy w.heap.size w w4:=hb.grown cU hs (λk hk=>(dL xO.out hk).1);clear iZ cU kc;go_wp2
     go_roundw
     case rel=>exact⟨k+1,k+1,by omega,by omega,by show _=_;rw[HS.out],by go_num,by go_num,bZ,HP⟩
     case measure=>simp[intOf];omega
    ·have zCe:(bA l k==0)=false:=by simpa using Ot
     have HS:zi _:=Qq (l:=l) (k:=k) (λh=>Ot h.2);have Vm:zi (wr.ownsRow w.heap.size 130 1 u3 (iK l (k+1)).1.length ((iK l (k+1)).1.map (AV G O c))):=by
      show World.ownsRow _ _ _ _ _ _ _;rw[HS.out,<-HN.out];exact xO.out
     generalize bA l k=D at *;clear e3 cP KN
     go_wp2_with fail
     refine hD.mono ?_;rintro e w2 ⟨rfl,rfl⟩;go_wp2
     go_roundw
     case rel=>exact⟨k+1,f,by omega,by omega,by show _=_;rw[HS.out];exact HF.out,by go_num,rfl,hb,Vm⟩
     case measure=>simp[intOf];omega
   ·have wo:(KB==124)=false:=by rw[e3];simpa using cP
    have HS:zi _:=Qq (l:=l) (k:=k) (λh=>cP h.1);have Vm:zi (wr.ownsRow w.heap.size 130 1 u3 (iK l (k+1)).1.length ((iK l (k+1)).1.map (AV G O c))):=by
     show World.ownsRow _ _ _ _ _ _ _;rw[HS.out,<-HN.out];exact xO.out
    clear e3 KN hD Dl;go_wp2
    go_roundw
    case rel=>exact⟨k+1,f,by omega,by omega,by show _=_;rw[HS.out];exact HF.out,by go_num,rfl,hb,Vm⟩
    case measure=>simp[intOf];omega
  ·have k7:k=n:=by omega
   subst k7;have zCi:f<k:=by have:=zyE.out;rw[<-mF.out,HF.out]at this;exact this
   have zCf:(f:Int)<(c:Int):=by omega
   have zCg:¬(c:Int)-(f:Int)=0:=by omega
   have zCh:¬c-f=0:=by omega
   go_wp2_with (at_builtin;refine wZ rfl (.tmp 34) (.tmp 38) 138 rfl wr #[zn (za ⟨G,O+f*5,zh⟩) (k-f) (c-f)] 130 rfl wr.heap.size rfl w.heap.size iT _ 1 24 underlying138 FB FT FU FV rfl (by omega) _ N _ rfl xO.out rfl rfl (by simp[Value.oneCell']) (by omega) (by omega) hs ?_;intro g' cap' w4 iZ cU kc)
   have HP:zi (w4.ownsRow w.heap.size 130 1 (zn (za ⟨g',0,zh⟩) (N+1) cap') (Gj l).length ((Gj l).map (AV G O c))):=by
    show World.ownsRow _ _ _ _ _ _ _;unfold Gj;rw[<-mF.out,HF.out,a6,rR,<-HN.out];exact iZ
   have bZ:zy w.heap.size w w4:=hb.grown cU hs (λk hk=>(dL xO.out hk).1);clear iZ cU kc;go_wp2;go_ret;exact⟨_,rfl,HP.out,bZ⟩
end
section
variable {s g n g':Nat}{l m t:List Tok}{ns:List aI}{x o c:Tok}{ts:List (List Tok)}{P:List (List aI)}
theorem rN(l m:List Tok):cZ (l++m) (l++m).length=cZ l l.length+cZ m m.length:=by rw[a6,zhe]
theorem zgL(l m:List Tok):bA (l++m) (l++m).length=bA l l.length+bA m m.length:=by rw[a6,Gc]
theorem zi5(x:Tok)(l:List Tok):aZ (x::l) 0=x.kind:=rfl
theorem A5(x:Tok):cZ [x] 1=if x.kind=1 then 1 else 0:=by show 0+_=_;rw[zi5];omega
theorem Mf(x:Tok):bA [x] 1=if x.kind=1 then 1 else if x.kind=2 then -1 else 0:=by show 0+_=_;rw[zi5];omega
theorem zoO(h:Gr s g l n ns g'):g'=g+cZ l l.length:=by
 induction h with
 |atom hk=>rw[show [_].length=1 from rfl,A5,ab (by omega)];omega
 | @aH g g' n o c l ns ho _ hc ih=>
  rw[show o::(l++[c])=[o]++(l++[c]) from rfl,rN,rN,show [o].length=1 from rfl,show [c].length=1 from rfl,A5,A5,ae ho,ab (by omega)];omega
 |bare _ ih=>exact ih
 |jX _ hr ih=>rw[rN,show [_].length=1 from rfl,A5,ab (by omega)];omega
 |one _ ih=>exact ih
 |more _ _ kK jt=>rw[rN];omega
 |eA _ ih=>exact ih
 | @alts g g1 g2 n k l m b ns ms _ hb _ kK jt=>
  rw[show l++b::m=l++([b]++m) from rfl,rN,rN,show [b].length=1 from rfl,A5,ab (by omega)];omega
structure mD(l:List Tok):Prop where
 F3:bA l l.length=0
 pre:∀k,k<=l.length->0<=bA l k
theorem mD.app(h1:mD l)(h2:mD m):mD (l++m):=by
 refine⟨by rw[zgL,h1.F3,h2.F3];rfl,λk hk=>?_⟩
 by_cases e:k<=l.length
 ·rw[Cf _ e];exact h1.pre k e
 ·have:=Gc l m (k-l.length);rw[show l.length+(k-l.length)=k by omega,h1.F3]at this;rw[this];have:=h2.pre (k-l.length) (by simp at hk;omega);omega
theorem mD.one(h1:x.kind≠1)(h2:x.kind≠2):mD [x]:=by
 refine⟨by rw[show [x].length=1 from rfl,Mf,ab h1,ab h2],λk hk=>?_⟩
 match k,hk with
 |0,_=>exact Int.le_refl _
 |1,_=>rw[Mf,ab h1,ab h2];exact Int.le_refl _
theorem zlA(ho:o.kind=1)(k:Nat)(hk:k<=l.length):bA (o::(l++[c])) (k+1)=1+bA l k:=by
 have:=Gc [o] (l++[c]) k;rw[show [o].length=1 from rfl,Mf,ae ho,Cf _ hk,Nat.add_comm 1 k]at this;exact this
theorem mD.aH(ho:o.kind=1)(hc:c.kind=2)(h:mD l):mD (o::(l++[c])):=by
 have ht:bA (o::(l++[c])) (o::(l++[c])).length=0:=by
  rw[show o::(l++[c])=[o]++(l++[c]) from rfl,zgL,zgL,show [o].length=1 from rfl,show [c].length=1 from rfl,Mf,Mf,ae ho,ab (by omega),ae hc,h.F3]
  rfl
 refine⟨ht,λk hk=>?_⟩
 match k,hk with
 |0,_=>exact Int.le_refl _
 |k+1,hk=>
  by_cases e:k<=l.length
  ·rw[zlA ho k e];have:=h.pre k e;omega
  ·have:k+1=(o::(l++[c])).length:=by simp at hk ⊢;omega
   rw[this,ht];exact Int.le_refl _
theorem JB(h:Gr s g l n ns g'):mD l:=by
 induction h with
 |atom hk=>exact .one (by omega) (by omega)
 |aH ho _ hc ih=>exact .aH ho hc ih
 |bare _ ih=>exact ih
 |jX _ hr ih=>exact ih.app (.one (by omega) (by omega))
 |one _ ih=>exact ih
 |more _ _ kK jt=>exact kK.app jt
 |eA _ ih=>exact ih
 |alts _ hb _ kK jt=>exact kK.app (mD.app (l:=[_]) (.one (by omega) (by omega)) jt)
theorem xG(h:Gr s g l n ns g'):l≠[]:=by
 induction h<;>simp_all
theorem Ug(h:Gr s g l n ns g'):0<ns.length:=by
 induction h<;>(try simp_all)<;>omega
theorem UH(h:Gr s g l n ns g'):(s<2->ns.length+1<=2*l.length)/\(2<=s->ns.length+n<=2*l.length):=by
 induction h with
 |atom hk=>simp
 |aH ho _ hc ih=>have:=ih.2 (by omega);simp;omega
 |bare _ ih=>exact⟨λ_=>ih.1 (by omega),λh=>by omega⟩
 |jX _ hr ih=>have:=ih.1 (by omega);simp;omega
 |one _ ih=>have:=ih.1 (by omega);simp;omega
 |more _ _ kK jt=>have:=kK.1 (by omega);have:=jt.2 (by omega);simp;omega
 |eA _ ih=>have:=ih.2 (by omega);simp;omega
 |alts _ hb _ kK jt=>have:=kK.2 (by omega);have:=jt.2 (by omega);simp;omega
def rO(l:List Tok):Prop:=∀k,k<l.length->aZ l k=3->bA l k≠0
theorem rO.app(h1:rO l)(he:mD l)(h2:rO m):rO (l++m):=by
 intro k hk h3
 by_cases e:k<l.length
 ·rw[xt _ e]at h3;rw[Cf _ (by omega)];exact h1 k e h3
 ·have h4:=Gg l m (k-l.length);have h5:=Gc l m (k-l.length);rw[show l.length+(k-l.length)=k by omega]at h4 h5;rw[h4]at h3;rw[h5,he.F3,Int.zero_add];exact h2 _ (by simp at hk;omega) h3
theorem rO.one(h:x.kind≠3):rO [x]:=by
 intro k hk h3;have:k=0:=by simpa using hk
 subst this;exact absurd h3 h
theorem rO.aH(ho:o.kind=1)(he:mD l):rO (o::(l++[c])):=by
 intro k hk h3
 match k,hk,h3 with
 |0,_,h3=>rw[zi5]at h3;omega
 |k+1,hk,h3=>
  by_cases e:k<=l.length
  ·rw[zlA ho k e];have:=he.pre k e;omega
  ·simp at hk;omega
theorem zoN(h:Gr s g l n ns g')(hs:s<3):rO l:=by
 induction h with
 |atom hk=>exact .one (by omega)
 |aH ho h _ _=>exact .aH ho (JB h)
 |bare _ ih=>exact ih (by omega)
 |jX h hr ih=>exact(ih (by omega)).app (JB h) (.one (by omega))
 |one _ ih=>exact ih (by omega)
 |more h1 _ kK jt=>exact(kK (by omega)).app (JB h1) (jt (by omega))
 |eA=>omega
 |alts=>omega
inductive Bj:List Tok->List (List Tok)->Prop
 |one (t:List Tok):Bj t [t]
 |more {t m:List Tok} {b:Tok} {ts:List (List Tok)}:b.kind=3->Bj m ts->Bj (t++b::m) (t::ts)
def ja:Nat->List (List Tok)->List (Nat×Nat)
 |_,[]=>[]
 |s,t::ts=>(s,s+t.length)::ja (s+t.length+1) ts
def Jk(d:Nat)(p:Nat×Nat):Nat×Nat:=(d+p.1,d+p.2)
theorem TX(d:Nat):∀(s:Nat) (ts:List (List Tok)),ja (d+s) ts=(ja s ts).map (Jk d)
 |_,[]=>rfl
 |s,t::ts=>by
  show (d+s,d+s+t.length)::ja (d+s+t.length+1) ts=(d+s,d+(s+t.length))::_;rw[show d+s+t.length+1=d+(s+t.length+1) by omega,TX d (s+t.length+1) ts,Cv]
theorem Uj:∀(s:Nat) (ts:List (List Tok)),(ja s ts).length=ts.length
 |_,[]=>rfl
 |s,t::ts=>by show (ja _ ts).length+1=_;rw[Uj];rfl
theorem UG(m:List Tok)(hb:rO t):∀k,k<=t.length->iK (t++m) k=([],0)
 |0,_=>rfl
 |k+1,h=>by
  rw[Qq,UG m hb k (by omega)];rw[xt _ (by omega),Cf _ (by omega)];exact λh2=>hb k (by omega) h2.1 h2.2
theorem zhy{t m:List Tok}{b:Tok}(hb:rO t)(he:mD t)(hk:b.kind=3):∀j,j<=m.length->iK (t++b::m) (t.length+1+j)=((0,t.length)::(iK m j).1.map (Jk (t.length+1)),t.length+1+(iK m j).2)
 |0,_=>by
  have h1:aZ (t++b::m) t.length=3:=by
   have:=Gg t (b::m) 0;rw[xJ]at this;rw[this];exact hk
  have h2:bA (t++b::m) t.length=0:=by rw[Cf _ (ax _)];exact he.F3
  rw[xJ,Uv ⟨h1,h2⟩,UG _ hb _ (ax _)]
  rfl
 |j+1,hj=>by
  have ih:=zhy (m:=m) hb he hk j (by omega);have h1:aZ (t++b::m) (t.length+1+j)=aZ m j:=by
   have:=Gg t (b::m) (1+j);rw[<-Cv]at this;rw[this,Nat.add_comm 1 j];rfl
  have h2:bA (t++b::m) (t.length+1+j)=bA m j:=by
   have h3:=Gc t ([b]++m) (1+j);have h4:=Gc [b] m j;rw[show [b].length=1 from rfl,Mf,ab (by omega),ab (by omega)]at h4;rw[h4,he.F3,<-Cv]at h3;rw[show t++b::m=t++([b]++m) from rfl,h3];omega
  by_cases hc:aZ m j=3/\bA m j=0
  ·rw[<-Cv,Uv (by rw[h1,h2];exact hc),ih,Uv hc];simp[Jk];omega
  ·rw[<-Cv,Qq (by rw[h1,h2];exact hc),ih,Qq hc]
theorem zkF(h:Bj l ts)(hc:∀t∈ts,rO t/\mD t):Gj l=ja 0 ts:=by
 induction h with
 |one t=>
  unfold Gj;have:=UG [] (hc t (by simp)).1 t.length (ax _);rw[Gx]at this;rw[this];simp[ja]
 | @more t m b ts hb _ ih=>
  have ih:=ih λt ht=>hc t (by simp[ht])
  obtain⟨h1,h2⟩:=hc t (by simp);unfold Gj at ih ⊢;have hlen:(t++b::m).length=t.length+1+m.length:=by simp;omega
  rw[hlen,zhy h1 h2 hb m.length (ax _)];show (0,t.length)::((iK m m.length).1.map (Jk (t.length+1))++[(t.length+1+(iK m m.length).2,t.length+1+m.length)])=(0,0+t.length)::ja (0+t.length+1) ts;rw[jB,show ja (t.length+1) ts=ja (t.length+1+0) ts from rfl,TX,<-ih];simp[Jk]
theorem zoY(h:Bj l ts)(hc:∀t∈ts,rO t/\mD t/\t≠[]):(iK l l.length).2<l.length:=by
 induction h with
 |one t=>
  have:=UG [] (hc t (by simp)).1 t.length (ax _);rw[Gx]at this;rw[this];exact qh.2 (hc t (by simp)).2.2
 | @more t m b ts hb _ ih=>
  have ih:=ih λt ht=>hc t (by simp[ht])
  obtain⟨h1,h2,_⟩:=hc t (by simp);have hlen:(t++b::m).length=t.length+1+m.length:=by simp;omega
  rw[hlen,zhy h1 h2 hb m.length (ax _)];show t.length+1+_<_;omega
inductive Fs:Nat->List Tok->List (List aI)->Nat->Prop
 |nil {g:Nat}:Fs g [] [] g
 |cons {g g1 g2:Nat} {f r:List Tok} {N:List aI} {P:List (List aI)}:Gr 1 g f 0 N g1->Fs g1 r P g2->Fs g (f++r) (N::P) g2
theorem ztO(h:Gr s g l n ns g')(hs:s=2):∃P,Fs g l P g'/\P.length=n/\P.flatten=ns:=by
 induction h with
 |atom|aH|bare|jX|eA|alts=>omega
 | @one g g' l ns h _=>exact⟨[ns],by have:=Fs.cons h .nil;rwa[Gx]at this,rfl,by simp⟩
 |more h1 _ _ jt=>
  obtain⟨P,hP,hl,hf⟩:=jt rfl;exact⟨_::P,.cons h1 hP,by simp[hl],by simp[hf]⟩
structure CA(g:Nat)(l:List Tok)(N:List aI)(g':Nat):Prop where
 gr:∃n ns,Gr 2 g l (n+1) ns g'/\N=ns++List.replicate n uk
inductive As:Nat->List Tok->List (List Tok)->List (List aI)->Nat->Prop
 |one {g g':Nat} {l:List Tok} {N:List aI}:CA g l N g'->As g l [l] [N] g'
 |more {g g1 g2:Nat} {l m:List Tok} {b:Tok} {N:List aI} {ts:List (List Tok)} {P:List (List aI)}:CA g l N g1->b.kind=3->As g1 m ts P g2->As g (l++b::m) (l::ts) (N::P) g2
theorem ztM(h:Gr s g l n ns g')(hs:s=3):∃ts P,As g l ts P g'/\P.length=n/\P.flatten=ns:=by
 induction h with
 |atom|aH|bare|jX|one|more=>omega
 |eA h _=>exact⟨_,_,.one ⟨_,_,h,rfl⟩,rfl,by simp⟩
 |alts h1 hb _ _ jt=>
  obtain⟨ts,P,hP,hl,hf⟩:=jt rfl;exact⟨_,_::P,.more ⟨_,_,h1,rfl⟩ hb hP,by simp[hl],by simp[hf]⟩
theorem As.bj(h:As g l ts P g'):Bj l ts/\ts.length=P.length/\∀t∈ts,rO t/\mD t/\t≠[]:=by
 induction h with
 |one h=>
  obtain⟨n,ns,h,_⟩:=h;exact⟨.one _,rfl,λt ht=>by simp at ht;subst ht;exact⟨zoN h (by omega),JB h,xG h⟩⟩
 |more h hb _ ih=>
  obtain⟨n,ns,h,_⟩:=h;refine⟨.more hb ih.1,by simp[ih.2.1],λt ht=>?_⟩;simp at ht;rcases ht with rfl|ht
  ·exact⟨zoN h (by omega),JB h,xG h⟩
  ·exact ih.2.2 t ht
theorem As.at(h:As g l ts P g'):∀k,k<P.length->∃a t c,l=a++(t++c)/\(ja 0 ts).getD k (0,0)=(a.length,a.length+t.length)/\∃g2,CA (g+cZ a a.length) t (P.getD k []) g2:=by
 induction h with
 | @one g g' l N h=>
  intro k hk;have:k=0:=by simpa using hk
  subst this;exact⟨[],l,[],by simp,by simp[ja],g',by simpa [cZ]using h⟩
 | @more g g1 g2 l m b N ts P h hb _ ih=>
  intro k hk;cases k with
  |zero=>exact⟨[],l,b::m,by simp,by simp[ja],g1,by simpa [cZ]using h⟩
  |succ k=>
   obtain⟨a,t,c,e1,e2,g3,h3⟩:=ih k (by simpa using hk);refine⟨l++b::a,t,c,by rw[e1];simp,?_,g3,?_⟩
   ·show (ja (0+l.length+1) ts).getD k (0,0)=_;rw[jB,show ja (l.length+1) ts=ja (l.length+1+0) ts from rfl,TX,bI,vE];rw[bI]at e2;cases hq:(ja 0 ts)[k]? with
    |none=>
     rw[hq]at e2;have hlt:ts.length=P.length:=by
      have:=As.bj (by assumption:As g1 m ts P g2);exact this.2.1
     have dz:∀s (ts:List (List Tok)),(ja s ts).length=ts.length:=by
      intro s ts
      induction ts generalizing s with
      |nil=>rfl
      |cons a b ih=>simp[ja,ih]
     have:=List.getElem?_eq_none_iff.1 hq;rw[dz]at this;simp at hk;omega
    |some p=>
     rw[hq]at e2;have e3:p=(a.length,a.length+t.length):=e2;subst e3;simp[Jk];omega
   ·obtain⟨n,ns,hG,_⟩:=h;have ot:=zoO hG;have:g+cZ (l++b::a) (l++b::a).length=g1+cZ a a.length:=by
     rw[show l++b::a=l++([b]++a) from rfl,rN,rN,show [b].length=1 from rfl,A5,ab (by omega)];omega
    rw[this];exact h3
end
variable {B:Nat}{W Wc:zx}{fv:zp}{P:List (List aI)}{ops:Array Oper}{o:Oper}{a:Act}{Q:Exit -> Act -> zx -> Prop}{rest:List Oper}
def kR(B:Nat)(W:zx)(fv:zp)(P:List (List aI)):Prop:=∃pv:Nat->zp,W.ownsRow B 105 1 fv P.length ((List.range P.length).map pv)/\∀k,k<P.length->fT (λb=>B<=b/\fv.ownBlock≠za b) W (pv k) (P.getD k [])/\0<(P.getD k []).length
theorem kR.new(w:zx)(B H:Nat)(hB:B<=H)(hH:w.heap.size=H):kR B (w.alloc (.cells #[] 105)) (zn (za ⟨H,0,zh⟩) 0 0) []:=
 ⟨λ_=>zn zh 0 0,LX w _ 1 B H hB hH,λk h=>absurd h (by simp)⟩
theorem kR.below{W':zx}(h:kR B W fv P)(hb:zy W.heap.size W W'):kR B W' fv P:=by
 obtain⟨pv,ho,hp⟩:=h;exact⟨pv,jy ho hb,λk hk=>⟨(hp k hk).1.below hb,(hp k hk).2⟩⟩
theorem kR.push{w':zx}{v:zp}{N:List aI}{pv:Nat->zp}{g' cap':Nat}
  (hp:∀k,k<P.length->fT (λb=>B<=b/\fv.ownBlock≠za b) W (pv k) (P.getD k [])/\0<(P.getD k []).length) (hv:fT (λb=>B<=b/\fv.ownBlock≠za b) W v N) (hN:0<N.length)
  (ho:w'.ownsRow B 105 1 (zn (za ⟨g',0,zh⟩) (P.length+1) cap') (P.length+1) ((List.range P.length).map pv++[v])) (hg:W.grownBy w' fv.ownBlock) (eY:fv.ownBlock=za g'\/W.heap.size<=g'):
  kR B w' (zn (za ⟨g',0,zh⟩) (P.length+1) cap') (P++[N]):=by
 have key:∀s ns,fT (λb=>B<=b/\fv.ownBlock≠za b) W s ns->fT (λb=>B<=b/\(Value.slice (za ⟨g',0,zh⟩) (P.length+1) cap').ownBlock≠za b) w' s ns:=by
  intro s ns h;have h4:fT (λb=>(B<=b/\fv.ownBlock≠za b)/\b<W.heap.size) W s ns:=h.mono λb hb hl=>⟨hb,hl⟩
  have h5:=h4.keep hg.size (λb hb hl=>hg.block b hl (λe=>hb.1.2 e.symm));refine h5.mono λb hb _=>⟨hb.1.1,λe=>?_⟩
  have e2:g'=b:=by simpa [Value.ownBlock]using e
  subst e2;rcases eY with h|h
  ·exact hb.1.2 h
  ·have:=hb.2;omega
 have hm:(List.range (P.length+1)).map (λk=>if k<P.length then pv k else v)=(List.range P.length).map pv++[v]:=by
  rw[oN,rR]
  congr 1
  ·apply uB
   intro k hk;rw[ae (mB.1 hk)]
  ·simp
 refine⟨λk=>if k<P.length then pv k else v,by rw[a6,show [N].length=1 from rfl,hm];exact ho,λk hk=>?_⟩
 by_cases e:k<P.length
 ·have:(P++[N]).getD k []=P.getD k []:=by simp[List.getD,List.getElem?_append_left e]
  rw[this];simp only[ae e];exact⟨key _ _ (hp k e).1,(hp k e).2⟩
 ·have e2:k=P.length:=by simp at hk;omega
  subst e2;have:(P++[N]).getD P.length []=N:=by simp[List.getD]
  rw[this];simp only[ab e];exact⟨key _ _ hv,hN⟩
theorem kR.to(h:kR B W fv P)(h0:0<P.length):∃G c pv,fv=zn (za ⟨G,0,zh⟩) P.length c/\Wq (λb=>B<=b) W G 0 P pv:=by
 obtain⟨pv,ho,hp⟩:=h;rcases ho.2 with ⟨_,h1⟩|⟨g,cap,a9,rfl,hg,hh,h1,h2,h3,h4⟩
 ·omega
 ·refine⟨g,cap,pv,rfl,az hh,λk hk=>?_,λk hk=>(hp k hk).1.mono λb hb _=>hb.1,λk hk=>(hp k hk).2⟩;rw[jB,ho.cellAt k (by omega)];simp[hk]
theorem zhz{K:Act->zx->Prop}{E:Prop}(mb:o.guard=zh)(s x:Operand)
  (ho:o.op=.call {callee:=.builtin .append,args:=#[s,x],argTypes:=#[105,105]}) (B:Nat) (U:Nat->Prop) (v:zp) (ns:List aI) (hs:a.eval s=v) (hN:eX B U Wc v ns)
  (H:Nat) (n:aI) (sx:zp) (hx:a.eval x=zn (za ⟨H,0,zh⟩) 1 1) (ff:Wc.heap[H]?=za (.cells (pw n sx).toArray 125 (0,0))) (yN:fX (λb=>U b/\v.ownBlock≠za b) Wc sx n.set) (hlen:ns.length<=100000) (hB:B<=Wc.heap.size)
  (h:∀g' cap' w',eX B U w' (zn (za ⟨g',0,zh⟩) (ns.length+1) cap') (ns++[n])->Wc.grownBy w' v.ownBlock->K (a.put o.dst (zn (za ⟨g',0,zh⟩) (ns.length+1) cap')) w'):
  if Region.wanted o (yielded ops a.tmps)=true then Oper.wp prog o a Wc K Q else E:=by
 obtain⟨iN,rn,rD,rE,rF⟩:=info_parts zg1;obtain⟨sv,bV,hr⟩:=hN;refine step_append_lies _ mb s x 105 ho B 125 iN _ 5 56 underlying105 rn rD rE rF rfl (by omega) v ns.length (mh ns sv) hs bV ⟨H,0,zh⟩ 1 1 (pw n sx) hx rfl ?_ (zlM n sx yN.one) (by omega) (by unfold maxLen;omega) (by omega) hB _ rfl ?_
 ·intro j u hu;have e1:(⟨H,0,zh⟩:Addr).add j=⟨H,j,zh⟩:=by unfold Addr.add;split<;>simp_all
  rw[e1,dt _ _ _ _ _ _ ff,JN];exact hu
 ·intro g' cap' w' iZ cU kc _;refine h g' cap' w' (eX.more (ms:=[n]) (s2:=λ_=>sx) hr (λk hk=>?_) ?_ cU (kc.imp id λe=>by omega)) cU
  ·have:k=0:=by simpa using hk
   subst this;exact yN
  ·have:mh [n] (λ_=>sx)=pw n sx:=by simp[mh,List.range_succ]
   rw[this];exact iZ
theorem DU(mb:o.guard=zh)(s x:Operand)
  (ho:o.op=.call {callee:=.builtin .append,args:=#[s,x],argTypes:=#[105,105]}) (B:Nat) (U:Nat->Prop) (v:zp) (ns:List aI) (hs:a.eval s=v) (hN:eX B U Wc v ns)
  (H:Nat) (n:aI) (sx:zp) (hx:a.eval x=zn (za ⟨H,0,zh⟩) 1 1) (ff:Wc.heap[H]?=za (.cells (pw n sx).toArray 125 (0,0))) (yN:fX (λb=>U b/\v.ownBlock≠za b) Wc sx n.set) (hlen:ns.length<=100000) (hB:B<=Wc.heap.size)
  (h:∀g' cap' w',eX B U w' (zn (za ⟨g',0,zh⟩) (ns.length+1) cap') (ns++[n])->Wc.grownBy w' v.ownBlock->wpList prog ops Q rest (a.put o.dst (zn (za ⟨g',0,zh⟩) (ns.length+1) cap')) w'):
  wpList prog ops Q (o::rest) a Wc:=by
 obtain⟨iN,rn,rD,rE,rF⟩:=info_parts zg1;obtain⟨sv,bV,hr⟩:=hN;refine wpList_append_lies _ mb s x 105 ho B 125 iN _ 5 56 underlying105 rn rD rE rF rfl (by omega) v ns.length (mh ns sv) hs bV ⟨H,0,zh⟩ 1 1 (pw n sx) hx rfl ?_ (zlM n sx yN.one) (by omega) (by unfold maxLen;omega) (by omega) hB _ rfl ?_
 ·intro j u hu;have e1:(⟨H,0,zh⟩:Addr).add j=⟨H,j,zh⟩:=by unfold Addr.add;split<;>simp_all
  rw[e1,dt _ _ _ _ _ _ ff,JN];exact hu
 ·intro g' cap' w' iZ cU kc _;refine h g' cap' w' (eX.more (ms:=[n]) (s2:=λ_=>sx) hr (λk hk=>?_) ?_ cU (kc.imp id λe=>by omega)) cU
  ·have:k=0:=by simpa using hk
   subst this;exact yN
  ·have:mh [n] (λ_=>sx)=pw n sx:=by simp[mh,List.range_succ]
   rw[this];exact iZ
theorem zqQ:(prog.info? 105).map (λi=>(i.zero,i.size,i.bytes))=za (za (zn zh 0 0),1,24):=by kernel_rfl
theorem zeP{W0:zx}(mb:o.guard=zh)(s x:Operand)
  (ho:o.op=.call {callee:=.builtin .append,args:=#[s,x],argTypes:=#[159,159]}) (B:Nat) (fv v:zp) (P:List (List aI)) (N:List aI) (hW:W=W0.alloc (.cells #[v] 105)) (hs:a.eval s=fv) (hF:kR B W0 fv P)
  (hx:a.eval x=zn (za ⟨W0.heap.size,0,zh⟩) 1 1) (hv:fT (λb=>B<=b/\fv.ownBlock≠za b) W0 v N) (hN:0<N.length) (hlen:P.length<=100000) (hB:B<=W0.heap.size)
  (h:∀g' cap' w',kR B w' (zn (za ⟨g',0,zh⟩) (P.length+1) cap') (P++[N])->W0.grownBy w' fv.ownBlock->(fv.ownBlock=za g'\/W0.heap.size<=g')->wpList prog ops Q rest (a.put o.dst (zn (za ⟨g',0,zh⟩) (P.length+1) cap')) w'):
  wpList prog ops Q (o::rest) a W:=by
 obtain⟨iN,rn,rD,rE,rF⟩:=info_parts zqQ;obtain⟨pv,bV,hp⟩:=hF;refine wZ mb s x 159 ho W0 #[v] 105 hW W0.heap.size rfl B iN _ 1 24 underlying159 rn rD rE rF rfl (by omega) fv P.length _ hs bV hx rfl ?_ (by omega) (by omega) hB ?_
 ·intro u hu;have:u=v:=by simpa using hu
  subst this;obtain⟨b,cap,sv,rfl,_⟩:=hv
  rfl
 ·intro g' cap' w' iZ cU kc;exact h g' cap' w' (kR.push hp hv hN iZ cU kc) cU kc
end Go.Proofs.Ytfajjdgkiilhfaa
