import Derived.Test.YtfajjdgkiilhfaaGreatDoorC33
import Derived.Deep.RegionLaw
namespace Go.Proofs.YtfajjdgkiilhfaaGreatDoor
open Proofs.Tryz
open Option renaming some->za,none->zb
open RowKit renaming Hid->zc,Below->zh
open Value renaming slice->zd,int->zf
open Go renaming Value->ze,World->zg
set_option maxHeartbeats 2000000
set_option maxRecDepth 100000
open Go.RowKit
attribute [local go_sem ↓] wp_at_zero wp_at_succ
section
variable {f:Nat -> Bool}{c:Nat}
def sI(rs:List (Int×Int)):List ze:=rs.flatMap λr=>[zf .i64 r.1,zf .i64 r.2]
theorem znc(rs:List (Int×Int)):(sI rs).length=rs.length*2:=by
 induction rs with
 |nil=>rfl
 |cons a b ih=>simp[sI]at ih ⊢;omega
theorem Uc(a b:List (Int×Int)):sI (a++b)=sI a++sI b:=by simp[sI]
theorem zrh(rs:List (Int×Int))(i:Nat)(h:i<rs.length):(sI rs)[i*2]?=za (zf .i64 (rs.getD i (0,0)).1)/\(sI rs)[i*2+1]?=za (zf .i64 (rs.getD i (0,0)).2):=by
 induction rs generalizing i with
 |nil=>simp at h
 |cons a b ih=>
  cases i with
  |zero=>exact⟨rfl,rfl⟩
  |succ i=>
   have:=ih i (by simpa using h);rw[show (i+1)*2=i*2+2 by omega];exact this
theorem zvE(l:List (Int×Int))(a b c:Int):sI (l++[(a,c)])=(sI (l++[(a,b)])).set (l.length*2+1) (zf .i64 c):=by
 rw[Uc,Uc,List.set_append_right _ _ (by rw[znc];omega),znc,lV]
 rfl
theorem zkg(f:Nat->Bool):∀c,(ix f c).length<=c
 |0=>aq _
 |c+1=>by
  have:=zkg f c;show (zZ f (ix f c) c).length<=c+1;unfold zZ;split
  ·split
   ·simp;omega
   ·simp;omega
  ·omega
theorem zlM(f:Nat->Bool)(c:Nat)(h:f c=true):∃l a,ix f (c+1)=l++[(a,(c:Int))]:=by
 show ∃l a,zZ f (ix f c) c=_;unfold zZ;rw[af h];split
 ·exact⟨_,_,rfl⟩
 ·exact⟨_,_,rfl⟩
theorem zri(h:f c=false):ix f (c+1)=ix f c:=by
 show zZ f (ix f c) c=_;unfold zZ;rw[ab (by rw[h];decide)]
theorem zkh(h:f c=true)(h2:¬(0<c/\f (c-1)=true)):ix f (c+1)=ix f c++[((c:Int),(c:Int))]:=by
 show zZ f (ix f c) c=_;unfold zZ;rw[af h,ab h2]
theorem zrk{l:List (Int×Int)}{a b:Int}(h:f c=true)(h2:0<c/\f (c-1)=true)(hl:ix f c=l++[(a,b)]):ix f (c+1)=l++[(a,(c:Int))]:=by
 show zZ f (ix f c) c=_;unfold zZ;rw[af h,af h2,hl];simp
theorem zsI:(prog.info? 137).map (λi=>(i.zero,i.size,i.bytes))=za (za (.agg #[zf .i64 0,zf .i64 0]),2,16):=by kernel_rfl
def uA(B:Nat)(W:zg)(v:ze)(rs:List (Int×Int)):Prop:=W.ownsRow B 137 2 v rs.length (sI rs)
theorem zq4{W:zg}{base:Nat}{e:TypeId}{size:Nat}{v:ze}{k:Nat}{xs:List ze}(h:W.ownsRow base e size v (k+1) xs):∃g cap,v=zd (za ⟨g,0,zb⟩) (k+1) cap:=by
 rcases h.2 with ⟨_,h0⟩|⟨g,cap,_,hv,_⟩
 ·omega
 ·exact⟨g,cap,hv⟩
theorem zmZ{G:Nat}(w:zg)(hG:a9 w G f):
  Calls prog 98 #[zd (za ⟨G,0,zb⟩) 256 256] w λe w'=>∃v,e=.returned v/\uA w.heap.size w' v (ix f 256)/\zh w.heap.size w w':=by
 obtain⟨iR,hjR,zzH,zzI,zzJ⟩:=info_parts zsI;have WL:=ay hG
 go_enter func98,ntmps98
 go_wp2
 go_loopw [3,4] (λv i wr=>∃c:Nat,c<=256/\i=zf .i64 (c:Int)/\zh w.heap.size w wr/\zc (uA w.heap.size wr v (ix f c))) (λ_ i _=>256-(intOf i).toNat)
 case atStart=>exact⟨0,by omega,rfl,ax,KR w _ 2 _ _ (aq _) rfl⟩
 case round=>
  obtain⟨c,hc,rfl,hb,HO⟩:=hrel
  by_cases hlt:c<256
  case neg=>
   have hce:c=256:=by omega
   subst hce;go_wp2;go_ret;exact⟨_,rfl,HO.out,hb⟩
  have WM:a9 wr G f:=(hb.block G WL).trans hG;have c0:=WM.get hlt;have hs:=hb.size;cases hf:f c with
  |false=>
   rw[hf]at c0;have HN:zc _:=zri hf;go_wp2
   go_roundw
   case rel=>exact⟨c+1,by omega,by go_num,hb,by rw[HN.out];exact HO⟩
   case measure=>simp[intOf];omega
  |true=>
   rw[hf]at c0;have hlen:=zkg f c
   by_cases h2:0<c/\f (c-1)=true
   ·obtain⟨h3,h4⟩:=h2;have c1:=WM.get (i:=c-1) (by omega);rw[h4]at c1;obtain⟨l,a,hl⟩:=zlM f (c-1) h4;rw[show c-1+1=c by omega]at hl;have HN:zc _:=zrk hf ⟨h3,h4⟩ hl;have rS:=HO.out;rw[hl]at rS;have uL:(l++[(a,((c-1:Nat):Int))]).length=l.length+1:=by simp
    unfold uA at rS;rw[uL]at rS;obtain⟨g,cap,hv⟩:=zq4 rS;subst hv;have J8:l.length+1<=256:=by rw[hl,uL]at hlen;omega
    have hj:l.length*2+1<(l.length+1)*2:=by omega
    obtain⟨u,cu⟩:=TK rS hj;have fu:=rS.frozenAt (l.length*2+1);have HP:zc (uA w.heap.size (wr.setCell ⟨g,l.length*2+1,zb⟩ (zf .i64 (c:Int))) (zd (za ⟨g,0,zb⟩) (l.length+1) cap) (ix f (c+1))):=by
     show uA _ _ _ _;unfold uA;rw[HN.out,show (l++[(a,(c:Int))]).length=l.length+1 by simp,zvE l a ((c-1:Nat):Int) (c:Int)];exact(rS.stored (l.length*2+1) (zf .i64 (c:Int))).1
    have GK:w.heap.size<=g:=(rS.lt g rfl).1;have i1:(0:Int)<(c:Int):=by omega
    have i2:((c:Int)-1).toNat=c-1:=by omega
    have i3:(0:Int)<=(c:Int)-1:=by omega
    have i4:(c:Int)-1<256:=by omega
    have i5:(0:Int)<=((l.length+1:Nat):Int)-1:=by omega
    have i6:(((l.length+1:Nat):Int)-1).toNat=l.length:=by omega
    have i7:((l.length+1:Nat):Int)-1<((l.length+1:Nat):Int):=by omega
    generalize hL:l.length=L at *;clear rS hl uL HN hlen HO;go_wp2
    go_roundw
    case rel=>exact⟨c+1,by omega,by go_num,hb.setCell (by exact GK) _,HP⟩
    case measure=>simp[intOf];omega
   ·by_cases h3:0<c
    case neg=>
     have i1:¬(0:Int)<(c:Int):=by omega
     have HN:zc _:=zkh hf h2;clear h2;obtain⟨N,hN⟩:∃N,N=(ix f c).length:=⟨_,rfl⟩;have Q6:N<=256:=by omega
     have xd:zc (wr.ownsRow w.heap.size 137 2 u3 N (sI (ix f c))):=by rw[hN];exact HO.out
     have mF:zc _:=hN;clear hN hlen
     go_wp2_with (at_builtin;refine wE rfl (.tmp 31) (.tmp 35) 122 rfl wr #[zf .i64 (c:Int),zf .i64 (c:Int)] 137 rfl wr.heap.size rfl w.heap.size iR _ 2 16 underlying122 hjR zzH zzI zzJ rfl (by omega) _ N _ rfl xd.out rfl rfl (by simp[Value.oneCell']) (by omega) (by omega) hs ?_;intro g' cap' w4 iM cX jW)
     have HP:zc (uA w.heap.size w4 (zd (za ⟨g',0,zb⟩) (N+1) cap') (ix f (c+1))):=by
      show uA _ _ _ _;unfold uA;rw[HN.out,Uc,aQ,<-mF.out];exact iM
     have de:zh w.heap.size w w4:=hb.grown cX hs (λk hk=>(dU xd.out hk).1);clear iM cX jW;go_wp2
     go_roundw
     case rel=>exact⟨c+1,by omega,by go_num,de,HP⟩
     case measure=>simp[intOf];omega
    have h4:f (c-1)=false:=by cases h:f (c-1);rfl;exact absurd ⟨h3,h⟩ h2
    have i1:(0:Int)<(c:Int):=by omega
    have i2:((c:Int)-1).toNat=c-1:=by omega
    have i3:(0:Int)<=(c:Int)-1:=by omega
    have i4:(c:Int)-1<256:=by omega
    have c1:=WM.get (i:=c-1) (by omega);rw[h4]at c1;have HN:zc _:=zkh hf h2;clear h2;obtain⟨N,hN⟩:∃N,N=(ix f c).length:=⟨_,rfl⟩;have Q6:N<=256:=by omega
    have xd:zc (wr.ownsRow w.heap.size 137 2 u3 N (sI (ix f c))):=by rw[hN];exact HO.out
    have mF:zc _:=hN;clear hN hlen
    go_wp2_with (at_builtin;refine wE rfl (.tmp 31) (.tmp 35) 122 rfl wr #[zf .i64 (c:Int),zf .i64 (c:Int)] 137 rfl wr.heap.size rfl w.heap.size iR _ 2 16 underlying122 hjR zzH zzI zzJ rfl (by omega) _ N _ rfl xd.out rfl rfl (by simp[Value.oneCell']) (by omega) (by omega) hs ?_;intro g' cap' w4 iM cX jW)
    have HP:zc (uA w.heap.size w4 (zd (za ⟨g',0,zb⟩) (N+1) cap') (ix f (c+1))):=by
     show uA _ _ _ _;unfold uA;rw[HN.out,Uc,aQ,<-mF.out];exact iM
    have de:zh w.heap.size w w4:=hb.grown cX hs (λk hk=>(dU xd.out hk).1);clear iM cX jW;go_wp2
    go_roundw
    case rel=>exact⟨c+1,by omega,by go_num,de,HP⟩
    case measure=>simp[intOf];omega
end
section
variable {U U':Nat -> Prop}{W W':zg}{v:ze}{rs:List (Int×Int)}{B:Nat}{ns:List aC}{sv:Nat -> ze}
def gu(U:Nat->Prop)(W:zg)(v:ze)(rs:List (Int×Int)):Prop:=∃ao cap,v=.slice ao rs.length cap/\rs.length<=cap/\cap<=maxLen/\
 (0<rs.length->∃b,ao=za ⟨b,0,zb⟩/\U b/\b<W.heap.size/\∀j u,(sI rs)[j]?=za u->W.cell? ⟨b,j,zb⟩=za u)
def pn(n:aC)(s:ze):List ze:=[zf .i64 n.kind,s,zf .i64 n.min,zf .i64 n.max,zf .i64 n.group]
def me(ns:List aC)(sv:Nat->ze):List ze:=(List.range ns.length).flatMap λk=>pn (ns.getD k .zero) (sv k)
theorem zqR(ns:List aC)(sv:Nat->ze):(me ns sv).length=ns.length*5:=TZ (f:=λk=>pn (ns.getD k .zero) (sv k)) (λ_=>rfl) _
theorem zuy(ns:List aC)(sv:Nat->ze){k j:Nat}(hk:k<ns.length)(hj:j<5):(me ns sv)[k*5+j]?=(pn (ns.getD k .zero) (sv k))[j]?:=TY (f:=λk=>pn (ns.getD k .zero) (sv k)) (sz:=5) (λ_=>rfl) _ _ _ hk hj
theorem znY{l:List aC}(m:List aC){k:Nat}(h:k<l.length):(l++m).getD k .zero=l.getD k .zero:=by simp[List.getD,List.getElem?_append_left h]
theorem zlw(l m:List aC)(k:Nat):(l++m).getD (l.length+k) .zero=m.getD k .zero:=by
 simp only[List.getD];rw[Ap (by omega),lV]
def EX(n:Nat)(s1 s2:Nat->ze):Nat->ze:=λk=>if k<n then s1 k else s2 (k-n)
theorem zsT:∀(b a:List aC) (s1 s2:Nat->ze),me (a++b) (EX a.length s1 s2)=me a s1++me b s2:=by
 intro b a s1 s2;have h1:∀k,k<a.length->pn ((a++b).getD k .zero) (EX a.length s1 s2 k)=pn (a.getD k .zero) (s1 k):=λk hk=>by
  rw[znY _ hk];unfold EX;rw[af hk]
 have h2:∀k,pn ((a++b).getD (a.length+k) .zero) (EX a.length s1 s2 (a.length+k))=pn (b.getD k .zero) (s2 k):=λk=>by
  rw[zlw];unfold EX;rw[ab (by omega),lV]
 have h3:∀m,(List.range (a.length+m)).flatMap (λk=>pn ((a++b).getD k .zero) (EX a.length s1 s2 k))=(List.range a.length).flatMap (λk=>pn (a.getD k .zero) (s1 k))++(List.range m).flatMap (λk=>pn (b.getD k .zero) (s2 k)):=by
  intro m
  induction m with
  |zero=>rw[Aq,Ov _ h1];simp
  |succ m ih=>rw[<-yC,KU,ih,KU,h2,gJ]
 unfold me;rw[aQ];exact h3 b.length
def fU(U:Nat->Prop)(W:zg)(v:ze)(ns:List aC):Prop:=∃b cap sv,v=zd (za ⟨b,0,zb⟩) ns.length cap/\ns.length<=cap/\cap<=maxLen/\U b/\b<W.heap.size/\
 (∀j u,(me ns sv)[j]?=za u->W.cell? ⟨b,j,zb⟩=za u)/\∀k,k<ns.length->gu U W (sv k) (ns.getD k .zero).set
def e8(B:Nat)(U:Nat->Prop)(W:zg)(v:ze)(ns:List aC):Prop:=∃sv,W.ownsRow B 135 5 v ns.length (me ns sv)/\∀k,k<ns.length->gu (λb=>U b/\v.ownBlock≠za b) W (sv k) (ns.getD k .zero).set
theorem gu.keep(h:gu U W v rs)(hs:W.heap.size<=W'.heap.size)(hk:∀b,U b->b<W.heap.size->W'.heap[b]?=W.heap[b]?):gu U W' v rs:=by
 obtain⟨ao,cap,rfl,h1,h2,h3⟩:=h;refine⟨ao,cap,rfl,h1,h2,λh0=>?_⟩;obtain⟨b,rfl,hU,hb,hc⟩:=h3 h0;exact⟨b,rfl,hU,by omega,λj u hu=>by rw[World.cell?_of_block (w:=W) (hk b hU hb)];exact hc j u hu⟩
theorem gu.mono(h:gu U W v rs)(hU:∀b,U b->b<W.heap.size->U' b):gu U' W v rs:=by
 obtain⟨ao,cap,rfl,h1,h2,h3⟩:=h;refine⟨ao,cap,rfl,h1,h2,λh0=>?_⟩;obtain⟨b,rfl,hu,hb,hc⟩:=h3 h0;exact⟨b,rfl,hU b hu hb,hb,hc⟩
theorem gu.nil(U:Nat->Prop)(W:zg):gu U W (zd zb 0 0) []:=⟨zb,0,rfl,aq _,dz _,λh=>absurd h (by simp)⟩
theorem uA.to(h:uA B W v rs){U:Nat->Prop}(hU:∀b,v.ownBlock=za b->U b):gu U W v rs:=by
 rcases h.2 with ⟨rfl,h0⟩|⟨g,cap,aZ,rfl,hg,hh,h1,h2,h3,h4⟩
 ·have:rs=[]:=qV h0;subst this;exact gu.nil _ _
 ·refine⟨_,cap,rfl,h1,h2,λ_=>⟨g,rfl,hU g rfl,ay hh,λj u hu=>?_⟩⟩;have hj:j<rs.length*2:=by
   have:=(mA.1 hu).1;rw[znc]at this;exact this
  have:=World.ownsRow.cellAt (show W.ownsRow B 137 2 (zd (za ⟨g,0,zb⟩) rs.length cap) rs.length (sI rs) from h) j hj;rw[this,hu]
theorem fU.keep(h:fU U W v ns)(hs:W.heap.size<=W'.heap.size)(hk:∀b,U b->b<W.heap.size->W'.heap[b]?=W.heap[b]?):fU U W' v ns:=by
 obtain⟨b,cap,sv,rfl,h1,h2,hU,hb,hc,hr⟩:=h;exact⟨b,cap,sv,rfl,h1,h2,hU,by omega,λj u hu=>by rw[World.cell?_of_block (w:=W) (hk b hU hb)];exact hc j u hu,λk bu=>(hr k bu).keep hs hk⟩
theorem fU.mono(h:fU U W v ns)(hU:∀b,U b->b<W.heap.size->U' b):fU U' W v ns:=by
 obtain⟨b,cap,sv,rfl,h1,h2,hu,hb,hc,hr⟩:=h;exact⟨b,cap,sv,rfl,h1,h2,hU b hu hb,hb,hc,λk bu=>(hr k bu).mono hU⟩
theorem fU.below(h:fU U W v ns)(hb:zh W.heap.size W W'):fU U W' v ns:=h.keep hb.size λb _ hl=>hb.block b hl
theorem e8.to(h:e8 B U W v ns)(h0:0<ns.length)(hU:∀b,v.ownBlock=za b\/U b->b<W.heap.size->U' b):fU U' W v ns:=by
 obtain⟨sv,ho,hr⟩:=h;rcases ho.2 with ⟨_,h1⟩|⟨g,cap,aZ,rfl,hg,hh,h1,h2,h3,h4⟩
 ·omega
 ·refine⟨g,cap,sv,rfl,h1,h2,hU g (.inl rfl) (ay hh),ay hh,λj u hu=>?_,λk hk=>(hr k hk).mono λb hb hl=>hU b (.inr hb.1) hl⟩;have hj:j<ns.length*5:=by
   have:=(mA.1 hu).1;rw[zqR]at this;exact this
  rw[ho.cellAt j hj,hu]
theorem e8.keep(h:e8 B U W v ns)(hs:W.heap.size<=W'.heap.size)(hk:∀b,(v.ownBlock=za b\/U b)->b<W.heap.size->W'.heap[b]?=W.heap[b]?):e8 B U W' v ns:=by
 obtain⟨sv,ho,hr⟩:=h;exact⟨sv,ub ho λb hb=>hk b (.inl hb) (dU ho hb).2,λk bu=>(hr k bu).keep hs λb hb hl=>hk b (.inr hb.1) hl⟩
theorem e8.below(h:e8 B U W v ns)(hb:zh W.heap.size W W'):e8 B U W' v ns:=h.keep hb.size λb _ hl=>hb.block b hl
theorem e8.new(w:zg)(B H:Nat)(U:Nat->Prop)(hB:B<=H)(hH:w.heap.size=H):e8 B U (w.alloc (.cells #[] 135)) (zd (za ⟨H,0,zb⟩) 0 0) []:=
 ⟨λ_=>zd zb 0 0,KR w _ 5 B H hB hH,λk h=>absurd h (by simp)⟩
theorem e8.more{w':zg}{ms:List aC}{s2:Nat->ze}{g' cap':Nat}(hr:∀k,k<ns.length->gu (λb=>U b/\v.ownBlock≠za b) W (sv k) (ns.getD k .zero).set)
  (h2:∀k,k<ms.length->gu (λb=>U b/\v.ownBlock≠za b) W (s2 k) (ms.getD k .zero).set)
  (ho:w'.ownsRow B 135 5 (zd (za ⟨g',0,zb⟩) (ns.length+ms.length) cap') (ns.length+ms.length) (me ns sv++me ms s2))
  (hg:W.grownBy w' v.ownBlock) (fV:v.ownBlock=za g'\/W.heap.size<=g'):e8 B U w' (zd (za ⟨g',0,zb⟩) (ns.length+ms.length) cap') (ns++ms):=by
 have key:∀s rs,gu (λb=>U b/\v.ownBlock≠za b) W s rs->gu (λb=>U b/\(Value.slice (za ⟨g',0,zb⟩) (ns.length+ms.length) cap').ownBlock≠za b) w' s rs:=by
  intro s rs h;have h3:=h.keep hg.size (λb hb hl=>hg.block b hl (λe=>hb.2 e.symm));have h4:gu (λb=>(U b/\v.ownBlock≠za b)/\b<W.heap.size) W s rs:=h.mono λb hb hl=>⟨hb,hl⟩
  have h5:=h4.keep hg.size (λb hb hl=>hg.block b hl (λe=>hb.1.2 e.symm));refine h5.mono λb hb _=>⟨hb.1.1,λe=>?_⟩
  have e2:g'=b:=by simpa [Value.ownBlock]using e
  subst e2;rcases fV with h|h
  ·exact hb.1.2 h
  ·have:=hb.2;omega
 refine⟨EX ns.length sv s2,by rw[zsT,aQ];exact ho,λk hk=>?_⟩;unfold EX
 by_cases e:k<ns.length
 ·rw[af e,znY _ e];exact key _ _ (hr k e)
 ·rw[ab e];have bu:k-ns.length<ms.length:=by simp at hk;omega
  have:(ns++ms).getD k .zero=ms.getD (k-ns.length) .zero:=by
   have:=zlw ns ms (k-ns.length);rw[show ns.length+(k-ns.length)=k by omega]at this;exact this
  rw[this];exact key _ _ (h2 _ bu)
theorem zhB:(prog.info? 135).map (λi=>(i.zero,i.size,i.bytes))=za (za (.agg #[zf .i64 0,zd zb 0 0,zf .i64 0,zf .i64 0,zf .i64 0]),5,56):=by kernel_rfl
theorem zm4(n:aC)(s:ze)(h:s.oneCell'=true):∀u∈pn n s,u.oneCell'=true:=by
 intro u hu;simp[pn]at hu;rcases hu with rfl|rfl|rfl|rfl|rfl<;>first|rfl|exact h
theorem gu.one(h:gu U W v rs):v.oneCell'=true:=by obtain⟨ao,cap,rfl,_⟩:=h;rfl
theorem zuz(h:∀k,k<ns.length->(sv k).oneCell'=true):∀u∈me ns sv,u.oneCell'=true:=by
 intro u hu;unfold me at hu;rw[List.mem_flatMap]at hu;obtain⟨k,hk,hu⟩:=hu;exact zm4 _ _ (h k (qm.1 hk)) u hu
end
section
variable {parts:List (List aC)}
structure VK(U:Nat->Prop)(W:zg)(G O:Nat)(parts:List (List aC))(pv:Nat->ze):Prop where
 lt:G<W.heap.size
 AJ:∀k,k<parts.length->W.cell? ⟨G,O+k,zb⟩=za (pv k)
 nds:∀k,k<parts.length->fU U W (pv k) (parts.getD k [])
 pos:∀k,k<parts.length->0<(parts.getD k []).length
def Bf(k:Int):aC:=⟨k,[],0,0,0⟩
theorem zgp{k:Nat}(h:k<parts.length):(parts.take (k+1)).flatten=(parts.take k).flatten++parts.getD k []:=by
 rw[oh h,List.flatten_append,bJ,bE h];simp
theorem Zw(parts:List (List aC))(k:Nat):(parts.take k).flatten.length<=parts.flatten.length:=by
 have:parts.flatten=(parts.take k).flatten++(parts.drop k).flatten:=by rw[<-List.flatten_append,List.take_append_drop]
 rw[this,aQ];omega
theorem zlk{U:Nat->Prop}{G O c:Nat}{pv:Nat->ze}(kind:Int)(w:zg)(h:VK U w G O parts pv)(hn:parts.length<=100000)(hl:parts.flatten.length<=100000):
  Calls prog 97 #[zd (za ⟨G,O,zb⟩) parts.length c,zf .i64 kind] w λe w'=>∃v,e=.returned v/\e8 w.heap.size (λb=>U b/\b<w.heap.size) w' v (parts.flatten++List.replicate (parts.length-1) (Bf kind))/\zh w.heap.size w w':=by
 obtain⟨iN,ru,rz,rA,rB⟩:=info_parts zhB;obtain⟨n,zD⟩:∃n,n=parts.length:=⟨_,rfl⟩;have kA:n<=100000:=by omega
 have mF:zc _:=zD;rw[<-zD];clear zD hn
 go_enter func97,ntmps97
 go_wp2
 go_loopw [5,12] (λav i wr=>∃k:Nat,k<=n/\i=zf .i64 (k:Int)/\zh w.heap.size w wr/\zc (e8 w.heap.size (λb=>U b/\b<w.heap.size) wr av (parts.take k).flatten)) (λ_ i _=>n-(intOf i).toNat)
 case atStart=>exact⟨0,by omega,rfl,ax,e8.new w _ _ _ (aq _) rfl⟩
 case round=>
  obtain⟨k,hk,rfl,hb,HO⟩:=hrel;have hs:=hb.size
  by_cases hlt:k<n
  ·have RQ:k<parts.length:=by have:=mF.out;omega
   have h1:(k:Int)<(n:Int):=by omega
   have cB:=(hb.block G h.lt);have c0:wr.cell? ⟨G,O+k,zb⟩=za (pv k):=by rw[World.cell?_of_block (w:=w) cB];exact h.AJ k RQ
   obtain⟨b,cap,sv,hv,pO,jE,Rb,bF,zBs,Yu⟩:=(h.nds k RQ);have oJ:=h.pos k RQ;have XI:=zgp RQ;have Ya:=Zw parts (k+1);have hle:=Zw parts k;rw[XI,aQ]at Ya;rw[hv]at c0;obtain⟨s1,ho,hr⟩:=HO.out;obtain⟨M,hM⟩:∃M,M=(parts.getD k []).length:=⟨_,rfl⟩;obtain⟨N,hN⟩:∃N,N=(parts.take k).flatten.length:=⟨_,rfl⟩;rw[<-hM]at c0 oJ Ya;rw[<-hN]at Ya;have zBp:(N+M)*56<=140737488355328:=by omega
   have hmx:N+M<=maxLen:=by unfold maxLen;omega
   have Az:zc (wr.ownsRow w.heap.size 135 5 u5 N (me (parts.take k).flatten s1)):=by rw[hN];exact ho
   have jp:(me (parts.getD k []) sv).length=M*5:=by rw[zqR,hM]
   have Vw:zc _:=jp;have sj:∀j u,(me (parts.getD k []) sv)[j]?=za u->wr.cell? ((⟨b,0,zb⟩:Addr).add j)=za u:=by
    intro j u hu;have e1:(⟨b,0,zb⟩:Addr).add j=⟨b,j,zb⟩:=by unfold Addr.add;split<;>simp_all
    rw[e1,World.cell?_of_block (w:=w) (hb.block b bF)];exact zBs j u hu
   have Hnc:zc _:=sj;have HM:zc _:=hM;have HN:zc _:=hN;have Hft:zc _:=XI;have Hr:zc _:=hr;have zxQ:zc _:=Yu;have H1:zc (∀u∈me (parts.getD k []) sv,u.oneCell'=true):=zuz λj hj=>(Yu j hj).one
   clear jp sj hM hN XI hr Yu ho hle hv
   go_wp2_with (at_builtin;refine wpList_append_lies _ rfl (.tmp 16) (.tmp 17) 113 rfl w.heap.size 135 iN _ 5 56 underlying113 ru rz rA rB rfl (by omega) _ N _ rfl Az.out ⟨b,0,zb⟩ M cap _ rfl Vw.out Hnc.out H1.out oJ hmx zBp hs _ rfl ?_;intro g' cap' w4 iM cX jW lt4)
   have HP:zc (e8 w.heap.size (λb=>U b/\b<w.heap.size) w4 (zd (za ⟨g',0,zb⟩) (N+M) cap') (parts.take (k+1)).flatten):=by
    show e8 _ _ _ _ _;rw[Hft.out,HN.out,HM.out];rw[HN.out,HM.out]at iM;refine e8.more Hr.out (λj hj=>?_) iM cX (jW.imp id λe=>by omega);have h3:=(zxQ.out j hj).keep hs λb _ hl=>hb.block b hl
    have h4:gu (λb=>U b/\b<w.heap.size) w (sv j) ((parts.getD k []).getD j .zero).set:=(zxQ.out j hj).mono λb hb hl=>⟨hb,hl⟩
    refine(h4.keep hs λb _ hl=>hb.block b hl).mono λb hb _=>⟨hb,λe=>?_⟩
    have:=(dU Az.out e).1;have:=hb.2;omega
   have de:zh w.heap.size w w4:=hb.grown cX hs (λk hk=>(dU Az.out hk).1);clear iM cX jW;go_wp2
   go_roundw
   case rel=>exact⟨k+1,by omega,by go_num,de,HP⟩
   case measure=>simp[intOf];omega
  ·have kz:k=n:=by omega
   subst kz;have DF:zc (e8 w.heap.size (λb=>U b/\b<w.heap.size) wr u5 (parts.flatten++List.replicate 0 (Bf kind))):=by
    have:=HO.out;rw[mF.out,sW]at this;show e8 _ _ _ _ _
    simpa using this
   clear HO;go_wp2
   go_loopw [5,8] (λav i wr=>∃j:Nat,i=zf .i64 ((j+1:Nat):Int)/\(j+1<=k\/j=0)/\zh w.heap.size w wr/\zc (e8 w.heap.size (λb=>U b/\b<w.heap.size) wr av (parts.flatten++List.replicate j (Bf kind)))) (λ_ i _=>k-(intOf i).toNat)
   case atStart=>exact⟨0,rfl,.inr rfl,hb,DF⟩
   case round=>
    obtain⟨j,rfl,hj,aB,rS⟩:=hrel;have pV:=aB.size
    by_cases ry:j+1<k
    ·have h1:((j+1:Nat):Int)<(k:Int):=by omega
     obtain⟨s1,ho,hr⟩:=rS.out;obtain⟨N,hN⟩:∃N,N=(parts.flatten++List.replicate j (Bf kind)).length:=⟨_,rfl⟩;have Q6:N<=200000:=by rw[hN,aQ,List.length_replicate];omega
     have Az:zc (wr.ownsRow w.heap.size 135 5 u5 N (me (parts.flatten++List.replicate j (Bf kind)) s1)):=by rw[hN];exact ho
     have HN:zc _:=hN;have Hr:zc _:=hr;clear hN hr ho
     go_wp2_with (at_builtin;refine wE rfl (.tmp 26) (.tmp 29) 113 rfl wr #[zf .i64 kind,zd zb 0 0,zf .i64 0,zf .i64 0,zf .i64 0] 135 rfl wr.heap.size rfl w.heap.size iN _ 5 56 underlying113 ru rz rA rB rfl (by omega) _ N _ rfl Az.out rfl rfl (by simp[Value.oneCell']) (by omega) (by omega) pV ?_;intro g' cap' w4 iM cX jW)
     have HP:zc (e8 w.heap.size (λb=>U b/\b<w.heap.size) w4 (zd (za ⟨g',0,zb⟩) (N+1) cap') (parts.flatten++List.replicate (j+1) (Bf kind))):=by
      show e8 _ _ _ _ _;rw[List.replicate_succ',<-gJ,HN.out];rw[HN.out]at iM;exact e8.more (ms:=[Bf kind]) (s2:=λ_=>zd zb 0 0) Hr.out (λi hi=>by
       have:i=0:=by simpa using hi
       subst this;exact gu.nil _ _) iM cX jW
     have de:zh w.heap.size w w4:=aB.grown cX pV (λk hk=>(dU Az.out hk).1);clear iM cX jW;go_wp2
     go_roundw
     case rel=>exact⟨j+1,by go_num,.inl (by omega),de,HP⟩
     case measure=>simp[intOf];omega
    ·have h1:¬((j+1:Nat):Int)<(k:Int):=by omega
     have qz:j=k-1:=by omega
     have HF:zc (e8 w.heap.size (λb=>U b/\b<w.heap.size) wr u5 (parts.flatten++List.replicate (k-1) (Bf kind))):=by rw[<-qz];exact rS
     clear rS qz;go_wp2;go_ret;exact⟨_,rfl,HF.out,aB⟩
end
section
variable {l:List Tok}{k:Nat}
def jh(l:List Tok):Nat->List (Nat×Nat)×Nat
 |0=>([],0)
 |k+1=>if aS l k=3/\aX l k=0 then ((jh l k).1++[((jh l k).2,k)],k+1) else jh l k
def Fm(l:List Tok):List (Nat×Nat):=(jh l l.length).1++[((jh l l.length).2,l.length)]
theorem ztL(l:List Tok):∀k,(jh l k).2<=k/\(jh l k).1.length<=k
 |0=>⟨aq _,aq _⟩
 |k+1=>by
  have:=ztL l k;show ((if _ then _ else _:List (Nat×Nat)×Nat)).2<=_/\((if _ then _ else _:List (Nat×Nat)×Nat)).1.length<=_;split
  ·simp;omega
  ·omega
theorem Ud(h:aS l k=3/\aX l k=0):jh l (k+1)=((jh l k).1++[((jh l k).2,k)],k+1):=by
 show (if _ then _ else _)=_;rw[af h]
theorem Pa(h:¬(aS l k=3/\aX l k=0)):jh l (k+1)=jh l k:=by
 show (if _ then _ else _)=_;rw[ab h]
def zM(G O c:Nat)(p:Nat×Nat):ze:=zd (za ⟨G,O+p.1*5,zb⟩) (p.2-p.1) (c-p.1)
theorem zsJ:(prog.info? 140).map (λi=>(i.zero,i.size,i.bytes))=za (za (zd zb 0 0),1,24):=by kernel_rfl
def zAw(w:zg)(G O c:Nat)(l:List Tok)(e:Ending)(w':zg):Prop:=∃v,e=.returned v/\w'.ownsRow w.heap.size 140 1 v (Fm l).length ((Fm l).map (zM G O c))/\zh w.heap.size w w'
theorem zi3{G O g c:Nat}{q:Nat->Nat}(w:zg)(h:gP w G O g l q)(hl:l.length<=2000)(iz:l.length<=c)(jE:c<=9223372036854775807)(nI:(jh l l.length).2<l.length):
  Calls prog 84 #[zd (za ⟨G,O,zb⟩) l.length c] w (zAw w G O c l):=by
 obtain⟨iT,RJ,Ss,Su,Sv⟩:=info_parts zsJ;obtain⟨n,zD⟩:∃n,n=l.length:=⟨_,rfl⟩;have kA:n<=2000:=by omega
 have nH:n<=c:=by omega
 have zBt:(n:Int)<=(c:Int):=by omega
 have Cg:(c:Int)<=9223372036854775807:=by omega
 have mF:zc _:=zD;have HL:zc _:=hl;rw[<-zD];have zz1:zc _:=nI;clear zD iz jE hl nI
 go_enter func84,ntmps84
 go_wp2
 go_loopw [3,4,5] (λpv fv kv wr=>∃k f:Nat,k<=n/\f<=k/\zc ((jh l k).2=f)/\kv=zf .i64 (k:Int)/\fv=zf .i64 (f:Int)/\zh w.heap.size w wr/\zc (wr.ownsRow w.heap.size 140 1 pv (jh l k).1.length ((jh l k).1.map (zM G O c)))) (λ_ _ kv _=>n-(intOf kv).toNat)
 case atStart=>exact⟨0,0,by omega,by omega,rfl,rfl,rfl,ax,KR w _ 1 _ _ (aq _) rfl⟩
 case round=>
  obtain⟨k,f,hk,hf,HF,rfl,rfl,hb,HO⟩:=hrel;have hs:=hb.size;have hp:=(ztL l k).2;obtain⟨N,hN⟩:∃N,N=(jh l k).1.length:=⟨_,rfl⟩;have xd:zc (wr.ownsRow w.heap.size 140 1 u3 N ((jh l k).1.map (zM G O c))):=by rw[hN];exact HO.out
  have Q6:N<=2000:=by omega
  have HN:zc _:=hN;clear hN hp HO;have jZ:(f:Int)<=(k:Int):=by omega
  have hfn:(f:Int)<=(n:Int):=by omega
  have hfc:(f:Int)<=(c:Int):=by omega
  have vX:(k:Int)<=(c:Int):=by omega
  have j1:((k:Int)-(f:Int)).toNat=k-f:=by omega
  have j2:((c:Int)-(f:Int)).toNat=c-f:=by omega
  have j3:((n:Int)-(f:Int)).toNat=n-f:=by omega
  by_cases hlt:k<n
  ·have h1:(k:Int)<(n:Int):=by omega
   have dY:k<l.length:=by have:=mF.out;omega
   have hV:=h.below (hb.mono (aq _));have c0:=hV.CD dY;have e3:=Dk (h.qG k dY) 3 (by omega);have e3:(kB (aS l k)==124)=decide (aS l k=3):=e3;have hD:=KO (c:=c) wr hV (k:=k) (ck:=(k:Int)) (by omega) rfl (by have:=HL.out;omega);have Ch:=zmF l k;rw[<-mF.out]at hD;generalize JA:kB (aS l k)=KB at c0 e3;have HV:zc _:=hV;clear hV
   by_cases bQ:aS l k=3
   ·have vM:(KB==124)=true:=by rw[e3];simpa using bQ
    by_cases Nc:aX l k=0
    ·rw[Nc]at hD;have HS:zc _:=Ud ⟨bQ,Nc⟩;clear e3 bQ Nc JA Ch
     go_wp2_with fail
     refine hD.mono ?_;rintro e w2 ⟨rfl,rfl⟩
     go_wp2_with (at_builtin;refine wE rfl (.tmp 25) (.tmp 30) 148 rfl w2 #[zd (za ⟨G,O+f*5,zb⟩) (k-f) (c-f)] 140 rfl w2.heap.size rfl w.heap.size iT _ 1 24 underlying148 RJ Ss Su Sv rfl (by omega) _ N _ rfl xd.out rfl rfl (by simp[Value.oneCell']) (by omega) (by omega) hs ?_;intro g' cap' w4 iM cX jW)
     have HP:zc (w4.ownsRow w.heap.size 140 1 (zd (za ⟨g',0,zb⟩) (N+1) cap') (jh l (k+1)).1.length ((jh l (k+1)).1.map (zM G O c))):=by
      show World.ownsRow _ _ _ _ _ _ _;rw[HS.out,HF.out,aQ,sY,<-HN.out];exact iM
     have de:zh w.heap.size w w4:=hb.grown cX hs (λk hk=>(dU xd.out hk).1);clear iM cX jW;go_wp2
     go_roundw
     case rel=>exact⟨k+1,k+1,by omega,by omega,by show _=_;rw[HS.out],by go_num,by go_num,de,HP⟩
     case measure=>simp[intOf];omega
    ·have zDg:(aX l k==0)=false:=by simpa using Nc
     have HS:zc _:=Pa (l:=l) (k:=k) (λh=>Nc h.2);have U7:zc (wr.ownsRow w.heap.size 140 1 u3 (jh l (k+1)).1.length ((jh l (k+1)).1.map (zM G O c))):=by
      show World.ownsRow _ _ _ _ _ _ _;rw[HS.out,<-HN.out];exact xd.out
     generalize aX l k=D at *;clear e3 bQ JA
     go_wp2_with fail
     refine hD.mono ?_;rintro e w2 ⟨rfl,rfl⟩;go_wp2
     go_roundw
     case rel=>exact⟨k+1,f,by omega,by omega,by show _=_;rw[HS.out];exact HF.out,by go_num,rfl,hb,U7⟩
     case measure=>simp[intOf];omega
   ·have vM:(KB==124)=false:=by rw[e3];simpa using bQ
    have HS:zc _:=Pa (l:=l) (k:=k) (λh=>bQ h.1);have U7:zc (wr.ownsRow w.heap.size 140 1 u3 (jh l (k+1)).1.length ((jh l (k+1)).1.map (zM G O c))):=by
     show World.ownsRow _ _ _ _ _ _ _;rw[HS.out,<-HN.out];exact xd.out
    clear e3 JA hD Ch;go_wp2
    go_roundw
    case rel=>exact⟨k+1,f,by omega,by omega,by show _=_;rw[HS.out];exact HF.out,by go_num,rfl,hb,U7⟩
    case measure=>simp[intOf];omega
  ·have kz:k=n:=by omega
   subst kz;have zDk:f<k:=by have:=zz1.out;rw[<-mF.out,HF.out]at this;exact this
   have zDh:(f:Int)<(c:Int):=by omega
   have zDi:¬(c:Int)-(f:Int)=0:=by omega
   have zDj:¬c-f=0:=by omega
   go_wp2_with (at_builtin;refine wE rfl (.tmp 34) (.tmp 38) 148 rfl wr #[zd (za ⟨G,O+f*5,zb⟩) (k-f) (c-f)] 140 rfl wr.heap.size rfl w.heap.size iT _ 1 24 underlying148 RJ Ss Su Sv rfl (by omega) _ N _ rfl xd.out rfl rfl (by simp[Value.oneCell']) (by omega) (by omega) hs ?_;intro g' cap' w4 iM cX jW)
   have HP:zc (w4.ownsRow w.heap.size 140 1 (zd (za ⟨g',0,zb⟩) (N+1) cap') (Fm l).length ((Fm l).map (zM G O c))):=by
    show World.ownsRow _ _ _ _ _ _ _;unfold Fm;rw[<-mF.out,HF.out,aQ,sY,<-HN.out];exact iM
   have de:zh w.heap.size w w4:=hb.grown cX hs (λk hk=>(dU xd.out hk).1);clear iM cX jW;go_wp2;go_ret;exact⟨_,rfl,HP.out,de⟩
end
section
variable {s g n g':Nat}{l m t:List Tok}{ns:List aC}{x o c:Tok}{ts:List (List Tok)}{P:List (List aC)}
theorem rJ(l m:List Tok):dh (l++m) (l++m).length=dh l l.length+dh m m.length:=by rw[aQ,zhU]
theorem zhs(l m:List Tok):aX (l++m) (l++m).length=aX l l.length+aX m m.length:=by rw[aQ,Fa]
theorem zjV(x:Tok)(l:List Tok):aS (x::l) 0=x.kind:=rfl
theorem zW(x:Tok):dh [x] 1=if x.kind=1 then 1 else 0:=by show 0+_=_;rw[zjV];omega
theorem Lc(x:Tok):aX [x] 1=if x.kind=1 then 1 else if x.kind=2 then -1 else 0:=by show 0+_=_;rw[zjV];omega
theorem zqx(h:Gr s g l n ns g'):g'=g+dh l l.length:=by
 induction h with
 |atom hk=>rw[show [_].length=1 from rfl,zW,ab (by omega)];omega
 | @dX g g' n o c l ns ho _ hc ih=>
  rw[show o::(l++[c])=[o]++(l++[c]) from rfl,rJ,rJ,show [o].length=1 from rfl,show [c].length=1 from rfl,zW,zW,af ho,ab (by omega)];omega
 |bare _ ih=>exact ih
 |jI _ hr ih=>rw[rJ,show [_].length=1 from rfl,zW,ab (by omega)];omega
 |one _ ih=>exact ih
 |more _ _ kD jg=>rw[rJ];omega
 |eH _ ih=>exact ih
 | @alts g g1 g2 n k l m b ns ms _ hb _ kD jg=>
  rw[show l++b::m=l++([b]++m) from rfl,rJ,rJ,show [b].length=1 from rfl,zW,ab (by omega)];omega
structure mC(l:List Tok):Prop where
 EZ:aX l l.length=0
 pre:∀k,k<=l.length->0<=aX l k
theorem mC.app(h1:mC l)(h2:mC m):mC (l++m):=by
 refine⟨by rw[zhs,h1.EZ,h2.EZ];rfl,λk hk=>?_⟩
 by_cases e:k<=l.length
 ·rw[A6 _ e];exact h1.pre k e
 ·have:=Fa l m (k-l.length);rw[show l.length+(k-l.length)=k by omega,h1.EZ]at this;rw[this];have:=h2.pre (k-l.length) (by simp at hk;omega);omega
theorem mC.one(h1:x.kind≠1)(h2:x.kind≠2):mC [x]:=by
 refine⟨by rw[show [x].length=1 from rfl,Lc,ab h1,ab h2],λk hk=>?_⟩
 match k,hk with
 |0,_=>exact Ai _
 |1,_=>rw[Lc,ab h1,ab h2];exact Ai _
theorem zmN(ho:o.kind=1)(k:Nat)(hk:k<=l.length):aX (o::(l++[c])) (k+1)=1+aX l k:=by
 have:=Fa [o] (l++[c]) k;rw[show [o].length=1 from rfl,Lc,af ho,A6 _ hk,Nat.add_comm 1 k]at this;exact this
theorem mC.dX(ho:o.kind=1)(hc:c.kind=2)(h:mC l):mC (o::(l++[c])):=by
 have ht:aX (o::(l++[c])) (o::(l++[c])).length=0:=by
  rw[show o::(l++[c])=[o]++(l++[c]) from rfl,zhs,zhs,show [o].length=1 from rfl,show [c].length=1 from rfl,Lc,Lc,af ho,ab (by omega),af hc,h.EZ]
  rfl
 refine⟨ht,λk hk=>?_⟩
 match k,hk with
 |0,_=>exact Ai _
 |k+1,hk=>
  by_cases e:k<=l.length
  ·rw[zmN ho k e];have:=h.pre k e;omega
  ·have:k+1=(o::(l++[c])).length:=by simp at hk ⊢;omega
   rw[this,ht];exact Ai _
theorem Iu(h:Gr s g l n ns g'):mC l:=by
 induction h with
 |atom hk=>exact .one (by omega) (by omega)
 |dX ho _ hc ih=>exact .dX ho hc ih
 |bare _ ih=>exact ih
 |jI _ hr ih=>exact ih.app (.one (by omega) (by omega))
 |one _ ih=>exact ih
 |more _ _ kD jg=>exact kD.app jg
 |eH _ ih=>exact ih
 |alts _ hb _ kD jg=>exact kD.app (mC.app (l:=[_]) (.one (by omega) (by omega)) jg)
theorem wP(h:Gr s g l n ns g'):l≠[]:=by
 induction h<;>simp_all
theorem TG(h:Gr s g l n ns g'):0<ns.length:=by
 induction h<;>(try simp_all)<;>omega
theorem Uh(h:Gr s g l n ns g'):(s<2->ns.length+1<=2*l.length)/\(2<=s->ns.length+n<=2*l.length):=by
 induction h with
 |atom hk=>simp
 |dX ho _ hc ih=>have:=ih.2 (by omega);simp;omega
 |bare _ ih=>exact⟨λ_=>ih.1 (by omega),λh=>by omega⟩
 |jI _ hr ih=>have:=ih.1 (by omega);simp;omega
 |one _ ih=>have:=ih.1 (by omega);simp;omega
 |more _ _ kD jg=>have:=kD.1 (by omega);have:=jg.2 (by omega);simp;omega
 |eH _ ih=>have:=ih.2 (by omega);simp;omega
 |alts _ hb _ kD jg=>have:=kD.2 (by omega);have:=jg.2 (by omega);simp;omega
def rN(l:List Tok):Prop:=∀k,k<l.length->aS l k=3->aX l k≠0
theorem rN.app(h1:rN l)(he:mC l)(h2:rN m):rN (l++m):=by
 intro k hk h3
 by_cases e:k<l.length
 ·rw[wI _ e]at h3;rw[A6 _ (by omega)];exact h1 k e h3
 ·have h4:=Fc l m (k-l.length);have h5:=Fa l m (k-l.length);rw[show l.length+(k-l.length)=k by omega]at h4 h5;rw[h4]at h3;rw[h5,he.EZ,Int.zero_add];exact h2 _ (by simp at hk;omega) h3
theorem rN.one(h:x.kind≠3):rN [x]:=by
 intro k hk h3;have:k=0:=by simpa using hk
 subst this;exact absurd h3 h
theorem rN.dX(ho:o.kind=1)(he:mC l):rN (o::(l++[c])):=by
 intro k hk h3
 match k,hk,h3 with
 |0,_,h3=>rw[zjV]at h3;omega
 |k+1,hk,h3=>
  by_cases e:k<=l.length
  ·rw[zmN ho k e];have:=he.pre k e;omega
  ·simp at hk;omega
theorem zqw(h:Gr s g l n ns g')(hs:s<3):rN l:=by
 induction h with
 |atom hk=>exact .one (by omega)
 |dX ho h _ _=>exact .dX ho (Iu h)
 |bare _ ih=>exact ih (by omega)
 |jI h hr ih=>exact(ih (by omega)).app (Iu h) (.one (by omega))
 |one _ ih=>exact ih (by omega)
 |more h1 _ kD jg=>exact(kD (by omega)).app (Iu h1) (jg (by omega))
 |eH=>omega
 |alts=>omega
inductive Bj:List Tok->List (List Tok)->Prop
 |one (t:List Tok):Bj t [t]
 |more {t m:List Tok} {b:Tok} {ts:List (List Tok)}:b.kind=3->Bj m ts->Bj (t++b::m) (t::ts)
def iO:Nat->List (List Tok)->List (Nat×Nat)
 |_,[]=>[]
 |s,t::ts=>(s,s+t.length)::iO (s+t.length+1) ts
def Ib(d:Nat)(p:Nat×Nat):Nat×Nat:=(d+p.1,d+p.2)
theorem Tj(d:Nat):∀(s:Nat) (ts:List (List Tok)),iO (d+s) ts=(iO s ts).map (Ib d)
 |_,[]=>rfl
 |s,t::ts=>by
  show (d+s,d+s+t.length)::iO (d+s+t.length+1) ts=(d+s,d+(s+t.length))::_;rw[show d+s+t.length+1=d+(s+t.length+1) by omega,Tj d (s+t.length+1) ts,yC]
theorem TM:∀(s:Nat) (ts:List (List Tok)),(iO s ts).length=ts.length
 |_,[]=>rfl
 |s,t::ts=>by show (iO _ ts).length+1=_;rw[TM];rfl
theorem Uk(m:List Tok)(hb:rN t):∀k,k<=t.length->jh (t++m) k=([],0)
 |0,_=>rfl
 |k+1,h=>by
  rw[Pa,Uk m hb k (by omega)];rw[wI _ (by omega),A6 _ (by omega)];exact λh2=>hb k (by omega) h2.1 h2.2
theorem zii{t m:List Tok}{b:Tok}(hb:rN t)(he:mC t)(hk:b.kind=3):∀j,j<=m.length->jh (t++b::m) (t.length+1+j)=((0,t.length)::(jh m j).1.map (Ib (t.length+1)),t.length+1+(jh m j).2)
 |0,_=>by
  have h1:aS (t++b::m) t.length=3:=by
   have:=Fc t (b::m) 0;rw[Aq]at this;rw[this];exact hk
  have h2:aX (t++b::m) t.length=0:=by rw[A6 _ (aq _)];exact he.EZ
  rw[Aq,Ud ⟨h1,h2⟩,Uk _ hb _ (aq _)]
  rfl
 |j+1,hj=>by
  have ih:=zii (m:=m) hb he hk j (by omega);have h1:aS (t++b::m) (t.length+1+j)=aS m j:=by
   have:=Fc t (b::m) (1+j);rw[<-yC]at this;rw[this,Nat.add_comm 1 j];rfl
  have h2:aX (t++b::m) (t.length+1+j)=aX m j:=by
   have h3:=Fa t ([b]++m) (1+j);have h4:=Fa [b] m j;rw[show [b].length=1 from rfl,Lc,ab (by omega),ab (by omega)]at h4;rw[h4,he.EZ,<-yC]at h3;rw[show t++b::m=t++([b]++m) from rfl,h3];omega
  by_cases hc:aS m j=3/\aX m j=0
  ·rw[<-yC,Ud (by rw[h1,h2];exact hc),ih,Ud hc];simp[Ib];omega
  ·rw[<-yC,Pa (by rw[h1,h2];exact hc),ih,Pa hc]
theorem zlJ(h:Bj l ts)(hc:∀t∈ts,rN t/\mC t):Fm l=iO 0 ts:=by
 induction h with
 |one t=>
  unfold Fm;have:=Uk [] (hc t (by simp)).1 t.length (aq _);rw[List.append_nil]at this;rw[this];simp[iO]
 | @more t m b ts hb _ ih=>
  have ih:=ih λt ht=>hc t (by simp[ht])
  obtain⟨h1,h2⟩:=hc t (by simp);unfold Fm at ih ⊢;have hlen:(t++b::m).length=t.length+1+m.length:=by simp;omega
  rw[hlen,zii h1 h2 hb m.length (aq _)];show (0,t.length)::((jh m m.length).1.map (Ib (t.length+1))++[(t.length+1+(jh m m.length).2,t.length+1+m.length)])=(0,0+t.length)::iO (0+t.length+1) ts;rw[iH,show iO (t.length+1) ts=iO (t.length+1+0) ts from rfl,Tj,<-ih];simp[Ib]
theorem zqH(h:Bj l ts)(hc:∀t∈ts,rN t/\mC t/\t≠[]):(jh l l.length).2<l.length:=by
 induction h with
 |one t=>
  have:=Uk [] (hc t (by simp)).1 t.length (aq _);rw[List.append_nil]at this;rw[this];exact pC.2 (hc t (by simp)).2.2
 | @more t m b ts hb _ ih=>
  have ih:=ih λt ht=>hc t (by simp[ht])
  obtain⟨h1,h2,_⟩:=hc t (by simp);have hlen:(t++b::m).length=t.length+1+m.length:=by simp;omega
  rw[hlen,zii h1 h2 hb m.length (aq _)];show t.length+1+_<_;omega
inductive Fs:Nat->List Tok->List (List aC)->Nat->Prop
 |nil {g:Nat}:Fs g [] [] g
 |cons {g g1 g2:Nat} {f r:List Tok} {N:List aC} {P:List (List aC)}:Gr 1 g f 0 N g1->Fs g1 r P g2->Fs g (f++r) (N::P) g2
theorem zvS(h:Gr s g l n ns g')(hs:s=2):∃P,Fs g l P g'/\P.length=n/\P.flatten=ns:=by
 induction h with
 |atom|dX|bare|jI|eH|alts=>omega
 | @one g g' l ns h _=>exact⟨[ns],by have:=Fs.cons h .nil;rwa[List.append_nil]at this,rfl,by simp⟩
 |more h1 _ _ jg=>
  obtain⟨P,hP,hl,hf⟩:=jg rfl;exact⟨_::P,.cons h1 hP,by simp[hl],by simp[hf]⟩
structure Bs(g:Nat)(l:List Tok)(N:List aC)(g':Nat):Prop where
 gr:∃n ns,Gr 2 g l (n+1) ns g'/\N=ns++List.replicate n tX
inductive As:Nat->List Tok->List (List Tok)->List (List aC)->Nat->Prop
 |one {g g':Nat} {l:List Tok} {N:List aC}:Bs g l N g'->As g l [l] [N] g'
 |more {g g1 g2:Nat} {l m:List Tok} {b:Tok} {N:List aC} {ts:List (List Tok)} {P:List (List aC)}:Bs g l N g1->b.kind=3->As g1 m ts P g2->As g (l++b::m) (l::ts) (N::P) g2
theorem zvQ(h:Gr s g l n ns g')(hs:s=3):∃ts P,As g l ts P g'/\P.length=n/\P.flatten=ns:=by
 induction h with
 |atom|dX|bare|jI|one|more=>omega
 |eH h _=>exact⟨_,_,.one ⟨_,_,h,rfl⟩,rfl,by simp⟩
 |alts h1 hb _ _ jg=>
  obtain⟨ts,P,hP,hl,hf⟩:=jg rfl;exact⟨_,_::P,.more ⟨_,_,h1,rfl⟩ hb hP,by simp[hl],by simp[hf]⟩
theorem As.bj(h:As g l ts P g'):Bj l ts/\ts.length=P.length/\∀t∈ts,rN t/\mC t/\t≠[]:=by
 induction h with
 |one h=>
  obtain⟨n,ns,h,_⟩:=h;exact⟨.one _,rfl,λt ht=>by simp at ht;subst ht;exact⟨zqw h (by omega),Iu h,wP h⟩⟩
 |more h hb _ ih=>
  obtain⟨n,ns,h,_⟩:=h;refine⟨.more hb ih.1,by simp[ih.2.1],λt ht=>?_⟩;simp at ht;rcases ht with rfl|ht
  ·exact⟨zqw h (by omega),Iu h,wP h⟩
  ·exact ih.2.2 t ht
theorem As.at(h:As g l ts P g'):∀k,k<P.length->∃a t c,l=a++(t++c)/\(iO 0 ts).getD k (0,0)=(a.length,a.length+t.length)/\∃g2,Bs (g+dh a a.length) t (P.getD k []) g2:=by
 induction h with
 | @one g g' l N h=>
  intro k hk;have:k=0:=by simpa using hk
  subst this;exact⟨[],l,[],by simp,by simp[iO],g',by simpa [dh]using h⟩
 | @more g g1 g2 l m b N ts P h hb _ ih=>
  intro k hk;cases k with
  |zero=>exact⟨[],l,b::m,by simp,by simp[iO],g1,by simpa [dh]using h⟩
  |succ k=>
   obtain⟨a,t,c,e1,e2,g3,h3⟩:=ih k (by simpa using hk);refine⟨l++b::a,t,c,by rw[e1];simp,?_,g3,?_⟩
   ·show (iO (0+l.length+1) ts).getD k (0,0)=_;rw[iH,show iO (l.length+1) ts=iO (l.length+1+0) ts from rfl,Tj,bJ,wV];rw[bJ]at e2;cases hq:(iO 0 ts)[k]? with
    |none=>
     rw[hq]at e2;have hlt:ts.length=P.length:=by
      have:=As.bj (by assumption:As g1 m ts P g2);exact this.2.1
     have du:∀s (ts:List (List Tok)),(iO s ts).length=ts.length:=by
      intro s ts
      induction ts generalizing s with
      |nil=>rfl
      |cons a b ih=>simp[iO,ih]
     have:=List.getElem?_eq_none_iff.1 hq;rw[du]at this;simp at hk;omega
    |some p=>
     rw[hq]at e2;have e3:p=(a.length,a.length+t.length):=e2;subst e3;simp[Ib];omega
   ·obtain⟨n,ns,hG,_⟩:=h;have pR:=zqx hG;have:g+dh (l++b::a) (l++b::a).length=g1+dh a a.length:=by
     rw[show l++b::a=l++([b]++a) from rfl,rJ,rJ,show [b].length=1 from rfl,zW,ab (by omega)];omega
    rw[this];exact h3
end
variable {B:Nat}{W Wc:zg}{fv:ze}{P:List (List aC)}{ops:Array Oper}{o:Oper}{a:Act}{Q:Exit -> Act -> zg -> Prop}{rest:List Oper}
def kN(B:Nat)(W:zg)(fv:ze)(P:List (List aC)):Prop:=∃pv:Nat->ze,W.ownsRow B 113 1 fv P.length ((List.range P.length).map pv)/\∀k,k<P.length->fU (λb=>B<=b/\fv.ownBlock≠za b) W (pv k) (P.getD k [])/\0<(P.getD k []).length
theorem kN.new(w:zg)(B H:Nat)(hB:B<=H)(hH:w.heap.size=H):kN B (w.alloc (.cells #[] 113)) (zd (za ⟨H,0,zb⟩) 0 0) []:=
 ⟨λ_=>zd zb 0 0,KR w _ 1 B H hB hH,λk h=>absurd h (by simp)⟩
theorem kN.below{W':zg}(h:kN B W fv P)(hb:zh W.heap.size W W'):kN B W' fv P:=by
 obtain⟨pv,ho,hp⟩:=h;exact⟨pv,vb ho hb,λk hk=>⟨(hp k hk).1.below hb,(hp k hk).2⟩⟩
theorem kN.push{w':zg}{v:ze}{N:List aC}{pv:Nat->ze}{g' cap':Nat}
  (hp:∀k,k<P.length->fU (λb=>B<=b/\fv.ownBlock≠za b) W (pv k) (P.getD k [])/\0<(P.getD k []).length) (hv:fU (λb=>B<=b/\fv.ownBlock≠za b) W v N) (hN:0<N.length)
  (ho:w'.ownsRow B 113 1 (zd (za ⟨g',0,zb⟩) (P.length+1) cap') (P.length+1) ((List.range P.length).map pv++[v])) (hg:W.grownBy w' fv.ownBlock) (fV:fv.ownBlock=za g'\/W.heap.size<=g'):
  kN B w' (zd (za ⟨g',0,zb⟩) (P.length+1) cap') (P++[N]):=by
 have key:∀s ns,fU (λb=>B<=b/\fv.ownBlock≠za b) W s ns->fU (λb=>B<=b/\(Value.slice (za ⟨g',0,zb⟩) (P.length+1) cap').ownBlock≠za b) w' s ns:=by
  intro s ns h;have h4:fU (λb=>(B<=b/\fv.ownBlock≠za b)/\b<W.heap.size) W s ns:=h.mono λb hb hl=>⟨hb,hl⟩
  have h5:=h4.keep hg.size (λb hb hl=>hg.block b hl (λe=>hb.1.2 e.symm));refine h5.mono λb hb _=>⟨hb.1.1,λe=>?_⟩
  have e2:g'=b:=by simpa [Value.ownBlock]using e
  subst e2;rcases fV with h|h
  ·exact hb.1.2 h
  ·have:=hb.2;omega
 have hm:(List.range (P.length+1)).map (λk=>if k<P.length then pv k else v)=(List.range P.length).map pv++[v]:=by
  rw[yE,sY]
  congr 1
  ·apply Ak
   intro k hk;rw[af (qm.1 hk)]
  ·simp
 refine⟨λk=>if k<P.length then pv k else v,by rw[aQ,show [N].length=1 from rfl,hm];exact ho,λk hk=>?_⟩
 by_cases e:k<P.length
 ·have:(P++[N]).getD k []=P.getD k []:=by simp[List.getD,List.getElem?_append_left e]
  rw[this];simp only[af e];exact⟨key _ _ (hp k e).1,(hp k e).2⟩
 ·have e2:k=P.length:=by simp at hk;omega
  subst e2;have:(P++[N]).getD P.length []=N:=by simp[List.getD]
  rw[this];simp only[ab e];exact⟨key _ _ hv,hN⟩
theorem kN.to(h:kN B W fv P)(h0:0<P.length):∃G c pv,fv=zd (za ⟨G,0,zb⟩) P.length c/\VK (λb=>B<=b) W G 0 P pv:=by
 obtain⟨pv,ho,hp⟩:=h;rcases ho.2 with ⟨_,h1⟩|⟨g,cap,aZ,rfl,hg,hh,h1,h2,h3,h4⟩
 ·omega
 ·refine⟨g,cap,pv,rfl,ay hh,λk hk=>?_,λk hk=>(hp k hk).1.mono λb hb _=>hb.1,λk hk=>(hp k hk).2⟩;rw[iH,ho.cellAt k (by omega)];simp[hk]
theorem zij{K:Act->zg->Prop}{E:Prop}(fQ:o.guard=zb)(s x:Operand)
  (ho:o.op=.call {callee:=.builtin .append,args:=#[s,x],argTypes:=#[113,113]}) (B:Nat) (U:Nat->Prop) (v:ze) (ns:List aC) (hs:a.eval s=v) (hN:e8 B U Wc v ns)
  (H:Nat) (n:aC) (sx:ze) (hx:a.eval x=zd (za ⟨H,0,zb⟩) 1 1) (et:Wc.heap[H]?=za (.cells (pn n sx).toArray 135 (0,0))) (xR:gu (λb=>U b/\v.ownBlock≠za b) Wc sx n.set) (hlen:ns.length<=100000) (hB:B<=Wc.heap.size)
  (h:∀g' cap' w',e8 B U w' (zd (za ⟨g',0,zb⟩) (ns.length+1) cap') (ns++[n])->Wc.grownBy w' v.ownBlock->K (a.put o.dst (zd (za ⟨g',0,zb⟩) (ns.length+1) cap')) w'):
  if Region.wanted o (yielded ops a.tmps)=true then Oper.wp prog o a Wc K Q else E:=by
 obtain⟨iN,ru,rz,rA,rB⟩:=info_parts zhB;obtain⟨sv,bL,hr⟩:=hN;refine step_append_lies _ fQ s x 113 ho B 135 iN _ 5 56 underlying113 ru rz rA rB rfl (by omega) v ns.length (me ns sv) hs bL ⟨H,0,zb⟩ 1 1 (pn n sx) hx rfl ?_ (zm4 n sx xR.one) (by omega) (by unfold maxLen;omega) (by omega) hB _ rfl ?_
 ·intro j u hu;have e1:(⟨H,0,zb⟩:Addr).add j=⟨H,j,zb⟩:=by unfold Addr.add;split<;>simp_all
  rw[e1,iY _ _ _ _ _ _ et,List.getElem?_toArray];exact hu
 ·intro g' cap' w' iM cX jW _;refine h g' cap' w' (e8.more (ms:=[n]) (s2:=λ_=>sx) hr (λk hk=>?_) ?_ cX (jW.imp id λe=>by omega)) cX
  ·have:k=0:=by simpa using hk
   subst this;exact xR
  ·have:me [n] (λ_=>sx)=pn n sx:=by simp[me,List.range_succ]
   rw[this];exact iM
theorem CO(fQ:o.guard=zb)(s x:Operand)
  (ho:o.op=.call {callee:=.builtin .append,args:=#[s,x],argTypes:=#[113,113]}) (B:Nat) (U:Nat->Prop) (v:ze) (ns:List aC) (hs:a.eval s=v) (hN:e8 B U Wc v ns)
  (H:Nat) (n:aC) (sx:ze) (hx:a.eval x=zd (za ⟨H,0,zb⟩) 1 1) (et:Wc.heap[H]?=za (.cells (pn n sx).toArray 135 (0,0))) (xR:gu (λb=>U b/\v.ownBlock≠za b) Wc sx n.set) (hlen:ns.length<=100000) (hB:B<=Wc.heap.size)
  (h:∀g' cap' w',e8 B U w' (zd (za ⟨g',0,zb⟩) (ns.length+1) cap') (ns++[n])->Wc.grownBy w' v.ownBlock->wpList prog ops Q rest (a.put o.dst (zd (za ⟨g',0,zb⟩) (ns.length+1) cap')) w'):
  wpList prog ops Q (o::rest) a Wc:=by
 obtain⟨iN,ru,rz,rA,rB⟩:=info_parts zhB;obtain⟨sv,bL,hr⟩:=hN;refine wpList_append_lies _ fQ s x 113 ho B 135 iN _ 5 56 underlying113 ru rz rA rB rfl (by omega) v ns.length (me ns sv) hs bL ⟨H,0,zb⟩ 1 1 (pn n sx) hx rfl ?_ (zm4 n sx xR.one) (by omega) (by unfold maxLen;omega) (by omega) hB _ rfl ?_
 ·intro j u hu;have e1:(⟨H,0,zb⟩:Addr).add j=⟨H,j,zb⟩:=by unfold Addr.add;split<;>simp_all
  rw[e1,iY _ _ _ _ _ _ et,List.getElem?_toArray];exact hu
 ·intro g' cap' w' iM cX jW _;refine h g' cap' w' (e8.more (ms:=[n]) (s2:=λ_=>sx) hr (λk hk=>?_) ?_ cX (jW.imp id λe=>by omega)) cX
  ·have:k=0:=by simpa using hk
   subst this;exact xR
  ·have:me [n] (λ_=>sx)=pn n sx:=by simp[me,List.range_succ]
   rw[this];exact iM
theorem zsH:(prog.info? 113).map (λi=>(i.zero,i.size,i.bytes))=za (za (zd zb 0 0),1,24):=by kernel_rfl
theorem ZX{W0:zg}(fQ:o.guard=zb)(s x:Operand)
  (ho:o.op=.call {callee:=.builtin .append,args:=#[s,x],argTypes:=#[165,165]}) (B:Nat) (fv v:ze) (P:List (List aC)) (N:List aC) (hW:W=W0.alloc (.cells #[v] 113)) (hs:a.eval s=fv) (hF:kN B W0 fv P)
  (hx:a.eval x=zd (za ⟨W0.heap.size,0,zb⟩) 1 1) (hv:fU (λb=>B<=b/\fv.ownBlock≠za b) W0 v N) (hN:0<N.length) (hlen:P.length<=100000) (hB:B<=W0.heap.size)
  (h:∀g' cap' w',kN B w' (zd (za ⟨g',0,zb⟩) (P.length+1) cap') (P++[N])->W0.grownBy w' fv.ownBlock->(fv.ownBlock=za g'\/W0.heap.size<=g')->wpList prog ops Q rest (a.put o.dst (zd (za ⟨g',0,zb⟩) (P.length+1) cap')) w'):
  wpList prog ops Q (o::rest) a W:=by
 obtain⟨iN,ru,rz,rA,rB⟩:=info_parts zsH;obtain⟨pv,bL,hp⟩:=hF;refine wE fQ s x 165 ho W0 #[v] 113 hW W0.heap.size rfl B iN _ 1 24 underlying165 ru rz rA rB rfl (by omega) fv P.length _ hs bL hx rfl ?_ (by omega) (by omega) hB ?_
 ·intro u hu;have:u=v:=by simpa using hu
  subst this;obtain⟨b,cap,sv,rfl,_⟩:=hv
  rfl
 ·intro g' cap' w' iM cX jW;exact h g' cap' w' (kN.push hp hv hN iM cX jW) cX jW
end Go.Proofs.YtfajjdgkiilhfaaGreatDoor
