import Derived.Test.YthdljcdbfmhleaaGreatDoorC6
import Derived.Test.YthdljcdbfmhleaaGreatDoorC7
import Derived.Lib.ConvBytes
namespace Go.Proofs.YthdljcdbfmhleaaGreatDoor
set_option maxHeartbeats 4000000
set_option maxRecDepth 100000
section
variable {T U:Nat -> Nat}
def wdU(x m:Nat):List UInt8:=(List.range m).map fun s=>UInt8.ofNat (x/2 ^ (8*s))
theorem zhL(x m:Nat):wdU x (m+1)=wdU x m++[UInt8.ofNat (x/2 ^ (8*m))]:=by simp[wdU,List.range_succ]
theorem zkd(x m:Nat):(wdU x m).length=m:=by simp[wdU]
theorem zn0{x y:Nat}:∀{m:Nat},wdU x m=wdU y m->x%2 ^ (8*m)=y%2 ^ (8*m)
 |0,_=>by simp[Nat.mod_one]
 |m+1,h=>by
  rw[zhL,zhL] at h;obtain⟨h1,h2⟩:=List.append_inj h (by rw[zkd,zkd]);have ih:=zn0 h1;have h3:UInt8.ofNat (x/2 ^ (8*m))=UInt8.ofNat (y/2 ^ (8*m)):=by simpa using h2
  have h4:=congrArg UInt8.toNat h3;rw[UInt8.toNat_ofNat',UInt8.toNat_ofNat'] at h4;have e:2 ^ (8*(m+1))=2 ^ (8*m)*2 ^ 8:=by rw[<-Nat.pow_add];rfl
  rw[e,Nat.mod_mul,Nat.mod_mul,ih,h4]
def keyU(T:Nat->Nat)(k:Nat):List UInt8:=(List.range k).flatMap fun i=>wdU (T i) 8
theorem zd4(T:Nat->Nat)(k:Nat):keyU T (k+1)=keyU T k++wdU (T k) 8:=by simp[keyU,List.range_succ]
theorem zfb(T:Nat->Nat)(k:Nat):(keyU T k).length=8*k:=by
 induction k with
 |zero=>rfl
 |succ k ih=>rw[zd4,zrK,ih,zkd];omega
theorem zmZ(hT:∀i,T i<18446744073709551616)(hU:∀i,U i<18446744073709551616):∀k,keyU T k=keyU U k↔∀i,i<k->T i=U i
 |0=>by simp[keyU]
 |k+1=>by
  rw[zd4,zd4];have ih:=zmZ hT hU k;constructor
  ·intro e;obtain⟨e1,e2⟩:=List.append_inj e (by rw[zfb,zfb]);intro i hi
   by_cases hik:i=k
   ·subst hik;have:=zn0 e2;rw[show (2:Nat) ^ (8*8)=18446744073709551616 by decide,zsf (hT _),zsf (hU _)] at this;exact this
   ·exact ih.1 e1 i (by omega)
  ·intro e;rw[ih.2 (fun i hi=>e i (by omega)),e k (by omega)]
def keyB(nw:Nat)(T:Nat->Nat):ByteArray:=⟨(keyU T nw).toArray⟩
theorem zmY{nw:Nat}(hT:∀i,T i<18446744073709551616)(hU:∀i,U i<18446744073709551616):keyB nw T=keyB nw U↔∀i,i<nw->T i=U i:=by
 rw[<-zmZ hT hU nw];unfold keyB;constructor
 ·intro e;have:=congrArg (fun b:ByteArray=>b.data.toList) e
  simpa using this
 ·intro e;rw[e]
end
section
open Go.RowKit
attribute [local go_sem ↓] Go.wp_at_zero Go.wp_at_succ
theorem Tryz.infoByteC:(Tryz.prog.info? 5).map (fun i=>(i.zero,i.size,i.bytes))=some (some (.int .u8 0),1,1):=by kernel_rfl
def kbV(l:List UInt8):List Value:=l.map fun b=>Value.int .u8 b.toNat
theorem zoI(l:List UInt8)(b:UInt8):kbV (l++[b])=kbV l++[.int .u8 b.toNat]:=by simp[kbV]
theorem zpB(nw g cap:Nat)(T:Nat->Nat)(w:World)(hT:zal w nw g T)(hnw:nw<=1000):
  Calls Tryz.prog 129 #[.slice (some ⟨g,0,none⟩) nw cap] w fun e w'=>e=.returned (.string (keyB nw T))/\Below w.heap.size w w':=by
 obtain⟨iB,hjB,hyB0,hyB1,hyB2⟩:=info_parts Tryz.infoByteC;have hi8:(nw:Int)<=1000:=by omega
 go_enter Tryz.func129,Tryz.ntmps129
 go_wp2_with (refine wpList_make_own _ rfl _ _ 242 rfl w.heap.size 5 iB _ 1 Tryz.underlying242 hjB hyB0 hyB1 _ _ _ (8*nw) rfl rfl (by omega) (by rw[hyB2];omega) (by unfold maxLen;omega) (zsa _) ?_;intro w1 hown1 hgrow1)
 have hb1:Below w.heap.size w w1:=(Below.refl _ _).grown hgrow1 (zsa _) (by intro k h;cases h);clear hgrow1
 go_loopw [3,13] (fun s i wr=>∃(k g9 c9 nl:Nat),k<=nw/\i=.int .i64 k/\s=.slice (some ⟨g9,0,none⟩) nl c9/\Hid (nl=8*k)/\Below w.heap.size w wr/\wr.ownsRow w.heap.size 5 1 (.slice (some ⟨g9,0,none⟩) nl c9) nl (kbV (keyU T k)))
  (fun _ i _=>nw-(intOf i).toNat)
 case atStart=>exact⟨0,_,_,0,zsj _,rfl,rfl,rfl,hb1,hown1⟩
 case round=>
  clear hb1 hown1;obtain⟨k,g9,c9,nl,hk,rfl,rfl,Hnl,hb,hown⟩:=hrel
  by_cases hlt:k<nw
  ·have c0:=(hT.below hb).cell hlt;have hx:=hT.lt k;have Hks:Hid (keyU T (k+1)=keyU T k++wdU (T k) 8):=zd4 T k;have hi0:(0:Int)<=(k:Int):=by omega
   have hi1:(k:Int)<(nw:Int):=by omega
   generalize T k=a at *;go_wp2;clear c0
   go_loopw [3,6] (fun s sh wr=>∃(m g9 c9 nl:Nat),m<=8/\sh=.int .i64 ((8*m:Nat):Int)/\s=.slice (some ⟨g9,0,none⟩) nl c9/\Hid (nl=8*k+m)/\Below w.heap.size w wr/\wr.ownsRow w.heap.size 5 1 (.slice (some ⟨g9,0,none⟩) nl c9) nl (kbV (keyU T k++wdU a m)))
    (fun _ sh _=>64-(intOf sh).toNat)
   case atStart=>exact⟨0,_,_,nl,by omega,rfl,rfl,by have:=Hnl.out;show _=_;omega,hb,by simpa [wdU] using hown⟩
   case round=>
    clear hb hown;obtain⟨m,g8,c8,nl2,hm,rfl,rfl,Hn2,hb,hown⟩:=hrel
    by_cases hm8:m<8
    ·have hi2:((8*m:Nat):Int)<64:=by omega
     have hnl:nl2<=8000:=by have:=Hn2.out;omega
     obtain⟨s8,Hs8⟩:∃s8,Hid (8*m=s8):=⟨_,rfl⟩;rw[Hs8.out] at hi2 ⊢;have HV:Hid ((a:Int)/2 ^ s8%256=((UInt8.ofNat (a/2 ^ (8*m))).toNat:Int)):=by
      show _=_;rw[UInt8.toNat_ofNat',Hs8.out,Int.natCast_emod,Int.natCast_ediv,Int.natCast_pow]
      rfl
     go_wp2_with (at_builtin;refine zaq wr rfl (.tmp 21) (.tmp 26) 242 rfl w.heap.size 5 iB _ 1 Tryz.underlying242 hjB hyB0 hyB1 hyB2 rfl g8 c8 nl2 (kbV (keyU T k++wdU a m)) (.int .u8 ((a:Int)/2 ^ s8%256)) rfl hown rfl rfl (by omega) (by omega) hb.size ?_;intro g' cap' w5 hown5 hgrow5 hat)
     go_roundw
     case rel=>
      refine⟨m+1,g',cap',nl2+1,by omega,?_,rfl,by have:=Hn2.out;show _=_;omega,hb.grown hgrow5 hb.size (by intro q hq;cases hq;exact(zbb hown).1),?_⟩
      ·rw[show ((8*(m+1):Nat):Int)=(s8:Int)+8 by have:=Hs8.out;omega]
      ·rw[HV.out] at hown5;rw[zhL,<-zrl,zoI];exact hown5
     case measure=>simp[intOf];omega
    ·have hmm:m=8:=by omega
     subst hmm;go_wp2
     go_roundw
     case rel=>exact⟨k+1,g8,c8,nl2,by omega,by go_num,rfl,by have:=Hn2.out;show _=_;omega,hb,by rw[Hks.out];exact hown⟩
     case measure=>simp[intOf];omega
  ·have hkk:k=nw:=by omega
   subst hkk;have hcv:=run_convert_bytes_back (P:=Tryz.prog) wr 242 9 5 ⟨g9,0,none⟩ c9 (keyU T k) Tryz.underlying242 Tryz.underlying5 Tryz.underlying9 (fun j hj=>by
    have e:(⟨g9,0,none⟩:Addr).add j=⟨g9,j,none⟩:=by unfold Addr.add;split<;>simp_all
    rw[e,hown.cellAt j (by have:=Hnl.out;rw[zfb] at hj;omega)];simp[kbV,hj])
   rw[zfb,<-Hnl.out] at hcv;have hck:keyB k T=⟨(keyU T k).toArray⟩:=rfl;rw[<-hck] at hcv;clear hck;go_wp2;go_ret;exact⟨rfl,hb⟩
end
section
variable {w:World}{nw g:Nat}
open Go.RowKit
theorem zal.put{b o:Nat}{T:Nat->Nat}{v:Value}(h:zal w nw g T)(hne:g≠b):zal (w.setCell ⟨b,o,none⟩ v) nw g T:=h.grown (zaK w b o v) (by simpa using hne)
structure FrAt(w:World)(nw ga gl:Nat)(A L:Nat->Nat):Prop where
 fi:zal w nw ga A
 la:zal w nw gl L
 ne:ga≠gl
theorem FrAt.below{w':World}{ga gl:Nat}{A L:Nat->Nat}(h:FrAt w nw ga gl A L)(hb:Below w.heap.size w w'):FrAt w' nw ga gl A L:=⟨h.fi.below hb,h.la.below hb,h.ne⟩
def zq5(w:World)(nw:Nat)(b:Bool)(e:Ending)(w':World):Prop:=
 ∃ga gl:Nat,e=.returned (.agg #[.bool b,.slice (some ⟨ga,0,none⟩) nw nw,.slice (some ⟨gl,0,none⟩) nw nw])/\w.heap.size<=ga/\w.heap.size<=gl/\FrAt w' nw ga gl zaQ zaQ/\Below w.heap.size w w'
theorem zac{a b c:Value}{t:TypeId}(h:w.heap[g]?=some (.cells #[a,b,c] t (0,0))):w.cell? ⟨g,0,none⟩=some a/\w.cell? ⟨g,1,none⟩=some b/\w.cell? ⟨g,2,none⟩=some c/\w.frozen? ⟨g,0,none⟩=false/\w.frozen? ⟨g,1,none⟩=false/\w.frozen? ⟨g,2,none⟩=false:=by
 have:∀o,w.cell? ⟨g,o,none⟩=#[a,b,c][o]?:=fun _=>zsm _ _ _ _ _ _ h
 exact⟨this 0,this 1,this 2,zso _ _ 0 _ _ h,zso _ _ 1 _ _ h,zso _ _ 2 _ _ h⟩
theorem zi1(nw bt:Nat)(b:Bool)(sv fv:Value)(w:World)(hbox:zeo w bt nw sv fv)(hnw:nw<=1000):
  Calls Tryz.prog 125 #[.pointer (some ⟨bt,0,none⟩),.bool b] w fun e w'=>zq5 w nw b e w':=by
 have hbt:bt<w.heap.size:=(zrc.1 hbox).1;have hb0:Below w.heap.size w (w.alloc (.cells #[.bool false,.slice none 0 0,.slice none 0 0] 174)):=(Below.refl _ _).alloc (zsa _) _;have x0:(w.alloc (.cells #[.bool false,.slice none 0 0,.slice none 0 0] 174)).heap[w.heap.size]?=some (.cells #[.bool false,.slice none 0 0,.slice none 0 0] 174 (0,0)):=zsp _ _;have hn1:=zdQ nw bt sv fv _ ((hb0.block bt hbt).trans hbox) hnw
 go_enter Tryz.func125,Tryz.ntmps125
 go_wp2_with fail
 refine hn1.mono ?_;rintro e w1 ⟨rfl,hp1,hg1⟩;have hb1:Below w.heap.size w w1:=hb0.grown hg1 (by simp) (fun k e=>by cases e);have x1:=(hg1.block _ (by simp) (by simp)).trans x0;have hn2:=zdQ nw bt sv fv w1 ((hb1.block bt hbt).trans hbox) hnw;simp only[World.size_alloc] at hp1;obtain⟨ga,hga⟩:∃ga,ga=w.heap.size+1:=⟨_,rfl⟩;rw[<-hga] at hp1;have hgal:w.heap.size<ga:=by omega
 go_wp2_with fail
 refine hn2.mono ?_;rintro e w2 ⟨rfl,hp2,hg2⟩;have hb2:Below w.heap.size w w2:=hb1.grown hg2 hb1.size (fun k e=>by cases e);have x2:=(hg2.block _ (zsc (by simp) hg1.size) (by simp)).trans x1;have hp1':=hp1.grown hg2 (by simp);obtain⟨c0,c1,c2,f0,f1,f2⟩:=zac x2;have hl1:=hp1.glt;have hl2:=hp2.glt;clear x0 x1 hn1 hn2 hg1 hg2 hb0 hp1;go_wp2;subst hga;refine zsl (v:=.agg #[.bool b,.slice (some ⟨w.heap.size+1,0,none⟩) nw nw,.slice (some ⟨w1.heap.size,0,none⟩) nw nw]) (by simp[results,Tryz.results125,go_sem,c0,c1,c2]) rfl ⟨_,_,rfl,by omega,by omega,⟨((hp1'.put (by omega)).put (by omega)).put (by omega),((hp2.put (by omega)).put (by omega)).put (by omega),by omega⟩,?_⟩;exact((hb2.setCell (p:=⟨w.heap.size,0,none⟩) (by simp) _).setCell (p:=⟨w.heap.size,1,none⟩) (by simp) _).setCell (p:=⟨w.heap.size,2,none⟩) (by simp) _
def zq6(w:World)(nw ga gl:Nat)(b:Bool)(A L:Nat->Nat)(e:Ending)(w':World):Prop:=
 e=.returned (.agg #[.bool b,.slice (some ⟨ga,0,none⟩) nw nw,.slice (some ⟨gl,0,none⟩) nw nw])/\FrAt w' nw ga gl A L/\zan (fun k=>k=ga\/k=gl) w w'
theorem zmu(nw bt ga gl ha hl:Nat)(b c:Bool)(A L A' L':Nat->Nat)(w:World)(h1:FrAt w nw ga gl A L)(h2:FrAt w nw ha hl A' L')(d1:ga≠ha)(d2:ga≠hl)(d4:gl≠hl)(hnw:nw<=1000):
  Calls Tryz.prog 123 #[.pointer (some ⟨bt,0,none⟩),.agg #[.bool b,.slice (some ⟨ga,0,none⟩) nw nw,.slice (some ⟨gl,0,none⟩) nw nw],.agg #[.bool c,.slice (some ⟨ha,0,none⟩) nw nw,.slice (some ⟨hl,0,none⟩) nw nw]] w fun e w'=>zq6 w nw ga gl (b || c) (orT A A') (orT L L') e w':=by
 obtain⟨W0,hW0⟩:∃W0,((w.alloc (.cells #[.bool b,.slice (some ⟨ga,0,none⟩) nw nw,.slice (some ⟨gl,0,none⟩) nw nw] 174)).alloc (.cells #[.bool c,.slice (some ⟨ha,0,none⟩) nw nw,.slice (some ⟨hl,0,none⟩) nw nw] 174)).alloc (.cells #[.bool false,.slice none 0 0,.slice none 0 0] 174)=W0:=⟨_,rfl⟩;have hb0:Below w.heap.size w W0:=by rw[<-hW0];exact(((Below.refl _ _).alloc (zsa _) _).alloc (by simp) _).alloc (by simp;omega) _
 have x4:W0.heap[w.heap.size]?=some (.cells #[.bool b,.slice (some ⟨ga,0,none⟩) nw nw,.slice (some ⟨gl,0,none⟩) nw nw] 174 (0,0)):=by rw[<-hW0];exact zah (zah (zsp _ _))
 have x5:W0.heap[w.heap.size+1]?=some (.cells #[.bool c,.slice (some ⟨ha,0,none⟩) nw nw,.slice (some ⟨hl,0,none⟩) nw nw] 174 (0,0)):=by
  rw[<-hW0];refine zah ?_;have:=zsp (w.alloc (.cells #[.bool b,.slice (some ⟨ga,0,none⟩) nw nw,.slice (some ⟨gl,0,none⟩) nw nw] 174)) (.cells #[.bool c,.slice (some ⟨ha,0,none⟩) nw nw,.slice (some ⟨hl,0,none⟩) nw nw] 174)
  simpa using this
 have x6:W0.heap[w.heap.size+1+1]?=some (.cells #[.bool false,.slice none 0 0,.slice none 0 0] 174 (0,0)):=by
  rw[<-hW0];have:=zsp ((w.alloc (.cells #[.bool b,.slice (some ⟨ga,0,none⟩) nw nw,.slice (some ⟨gl,0,none⟩) nw nw] 174)).alloc (.cells #[.bool c,.slice (some ⟨ha,0,none⟩) nw nw,.slice (some ⟨hl,0,none⟩) nw nw] 174)) (.cells #[.bool false,.slice none 0 0,.slice none 0 0] 174)
  simpa using this
 have l1:=h1.fi.glt;have l2:=h1.la.glt;have l3:=h2.fi.glt;have l4:=h2.la.glt;have hne:=h1.ne;have y1:=h1.below hb0;have y2:=h2.below hb0;have hj1:=zcv nw ga ha nw nw A A' W0 y1.fi y2.fi d1 hnw;have hsz:W0.heap.size=w.heap.size+1+1+1:=by rw[<-hW0];simp
 obtain⟨a0,a1,a2,-,-,-⟩:=zac x4;obtain⟨b0,b1,b2,-,-,-⟩:=zac x5
 go_enter Tryz.func123,Tryz.ntmps123
 go_wp2_with fail
 clear a0 a1 a2 b0 b1 b2 hW0;refine hj1.mono ?_;rintro e w1 ⟨rfl,hp1,hg1⟩;have hs1:=hg1.size;have u4:=(hg1.block (w.heap.size) (by omega) (by simp;omega)).trans x4;have u5:=(hg1.block (w.heap.size+1) (by omega) (by simp;omega)).trans x5;have u6:=(hg1.block (w.heap.size+1+1) (by omega) (by simp;omega)).trans x6;have z1:=y1.la.grown hg1 (by simpa using hne.symm);have z2:=y2.la.grown hg1 (by simpa using d2.symm);have hj2:=zcv nw gl hl nw nw L L' w1 z1 z2 d4 hnw;obtain⟨a0,a1,a2,-,-,-⟩:=zac u4;obtain⟨b0,b1,b2,-,-,-⟩:=zac u5
 go_wp2_with fail
 clear a0 a1 a2 b0 b1 b2;refine hj2.mono ?_;rintro e w2 ⟨rfl,hp2,hg2⟩;have hs2:=hg2.size;have v4:=(hg2.block (w.heap.size) (by omega) (by simp;omega)).trans u4;have v5:=(hg2.block (w.heap.size+1) (by omega) (by simp;omega)).trans u5;have v6:=(hg2.block (w.heap.size+1+1) (by omega) (by simp;omega)).trans u6;have hpa:=hp1.grown hg2 (by simpa using hne);have ht:zan (fun k=>k=ga\/k=gl) w w2:=((zan.of_below hb0).trans ((zan.refl _ W0).grown hg1 (fun g e=>by cases e;exact .inl (.inl rfl)))).grown hg2 (fun g e=>by cases e;exact .inl (.inr rfl));obtain⟨a0,a1,a2,-,-,-⟩:=zac v4;obtain⟨b0,b1,b2,-,-,-⟩:=zac v5;obtain⟨e0,e1,e2,f0,f1,f2⟩:=zac v6;clear hj1 hj2 hg1 hg2 x4 x5 x6 u4 u5 u6 v4 v5 v6 y1 y2 z1 z2 hp1 hb0;cases b
 all_goals
  go_wp2;refine zsl (v:=.agg #[.bool _,.slice (some ⟨ga,0,none⟩) nw nw,.slice (some ⟨gl,0,none⟩) nw nw]) (by simp[results,Tryz.results123,go_sem,e0,e1,e2]) rfl ⟨rfl,⟨((hpa.put (by omega)).put (by omega)).put (by omega),((hp2.put (by omega)).put (by omega)).put (by omega),hne⟩,?_⟩;exact((ht.grown (zaK _ _ _ _) (fun g e=>.inr (by cases e;omega))).grown (zaK _ _ _ _) (fun g e=>.inr (by cases e;omega))).grown (zaK _ _ _ _) (fun g e=>.inr (by cases e;omega))
end
variable {b c:Bool}{g nw n bt ga gl ha hl:Nat}{w W:World}{T fr A L A' L':Nat -> Nat}{sv fv:Value}{F:Nat -> Nat -> Nat}
open Go.RowKit
theorem zad{a b:Array Value}{t u:TypeId}{f g:Nat×Nat}(h:some (Obj.cells a t f)=some (Obj.cells b u g)):t=u:=by
 injection h with h
 injection h
theorem zpx{k:Nat}(hB:zaY w)(h:zal w nw k T):k≠0:=by
 rintro rfl;have h1:=hB 0 (by omega);rw[zsm _ _ _ _ _ _ h.row] at h1
 by_cases hn:0<nw
 ·rw[zei _ _ hn] at h1;cases h1
 ·rw[zrb (by simp[zca];omega)] at h1;cases h1
theorem zbm(hB:zaY w):0<w.heap.size:=block_lt_of_cell (hB 0 (by omega))
structure TrkL(w:World)(n nw bt:Nat)(sv fv:Value)(fr:Nat->Nat)(F:Nat->Nat->Nat):Prop where
 box:zeo w bt nw sv fv
 fv:0<n->∃(gf cf:Nat) (cur:Array Value),fv=.slice (some ⟨gf,0,none⟩) n cf/\w.heap[gf]?=some (.cells cur 129 (0,0))/\∀p,p<n->cur[p]?=some (.slice (some ⟨fr p,0,none⟩) nw nw)
 fol:Fol w n nw fr F
 n64:n<=64*nw
 nwl:nw<=1000
 bru:zaY w
theorem TrkL.turn{S:Nat->Prop}{F':Nat->Nat->Nat}(h:TrkL w n nw bt sv fv fr F)(t:zan S w W)(hS:∀k,k<w.heap.size->S k->∃m T,zal w m k T)(hf:Fol W n nw fr F'):TrkL W n nw bt sv fv fr F':=by
 have hkeep:∀(k:Nat) (o:Obj),w.heap[k]?=some o->(∀m T,¬zal w m k T)->W.heap[k]?=some o:=fun k o hk hn=>by
  have hlt:=(zrc.1 hk).1;refine(t.same k hlt (fun hs=>?_)).trans hk;obtain⟨m,T,hp⟩:=hS k hlt hs;exact hn m T hp
 refine⟨?_,fun hn=>?_,hf,h.n64,h.nwl,?_⟩
 ·exact hkeep _ _ h.box (fun m T hp=>by have:=hp.row;rw[h.box] at this;exact absurd (zad this) (by decide))
 ·obtain⟨gf,cf,cur,h1,h2,h3⟩:=h.fv hn;exact⟨gf,cf,cur,h1,hkeep _ _ h2 (fun m T hp=>by have:=hp.row;rw[h2] at this;exact absurd (zad this) (by decide)),h3⟩
 ·refine h.bru.keep (t.same 0 (zbm h.bru) (fun hs=>?_));obtain⟨m,T,hp⟩:=hS 0 (zbm h.bru) hs;exact zpx h.bru hp rfl
theorem zkA(n nw bt g1 c1 g2 c2:Nat)(sv fv:Value)(fr:Nat->Nat)(F:Nat->Nat->Nat)(T1 T2:Nat->Nat)(w:World)(h:TrkL w n nw bt sv fv fr F)(h1:zal w nw g1 T1)(h2:zal w nw g2 T2)
  (hd1:∀p,p<n->fr p≠g1) (hd2:∀p,p<n->fr p≠g2) (hm:∀p,p<64*nw->zae T1 p=true->p<n):
  Calls Tryz.prog 132 #[.pointer (some ⟨bt,0,none⟩),.slice (some ⟨g1,0,none⟩) nw c1,.slice (some ⟨g2,0,none⟩) nw c2] w fun e w'=>e=.returned (.tuple #[])/\TrkL w' n nw bt sv fv fr (fun p=>if zae T1 p=true then orT (F p) T2 else F p)/\zan (fun k=>∃p,p<n/\k=fr p) w w':=by
 refine(zqd n nw bt g1 c1 g2 c2 sv fv fr F T1 T2 w h.box (fun hn=>?_) h.fol h1 h2 hd1 hd2 (fun p hp=>zpx h.bru (h.fol.rows p hp)) (fun p hp e=>?_) hm h.n64 h.nwl h.bru (zbm h.bru)).mono fun e w' hw=>⟨hw.1,h.turn hw.2.2 (fun k _ ⟨p,hp,e⟩=>⟨nw,F p,e ▸ h.fol.rows p hp⟩) hw.2.1,hw.2.2⟩
 ·obtain⟨gf,cf,cur,k1,k2,k3⟩:=h.fv hn;refine⟨gf,cf,k1,(zrc.1 k2).1,fun p hp=>by rw[zsm _ _ _ _ _ _ k2];exact k3 p hp,fun p hp e=>?_⟩;have:=(h.fol.rows p hp).row;rw[e,k2] at this;exact absurd (zad this) (by decide)
 ·have:=(h.fol.rows p hp).row;rw[e,h.box] at this;exact absurd (zad this) (by decide)
def zpL(w:World)(n nw bt:Nat)(sv fv:Value)(fr:Nat->Nat)(F:Nat->Nat->Nat)(ga hl:Nat)(b:Bool)(A L:Nat->Nat)(e:Ending)(w':World):Prop:=
 e=.returned (.agg #[.bool b,.slice (some ⟨ga,0,none⟩) nw nw,.slice (some ⟨hl,0,none⟩) nw nw])/\FrAt w' nw ga hl A L/\TrkL w' n nw bt sv fv fr F/\zan (fun k=>k=ga\/k=hl\/∃p,p<n/\k=fr p) w w'
theorem TrkL.join(h:TrkL w n nw bt sv fv fr F)(hg:w.grownBy W (some g))(hp:zal w nw g T)(hd:∀p,p<n->fr p≠g):TrkL W n nw bt sv fv fr F:=
 h.turn ((zan.refl (fun k=>k=g) w).grown hg (fun k e=>by cases e;exact .inl rfl)) (fun k _ e=>⟨nw,T,e ▸ hp⟩) ⟨fun p hp'=>(h.fol.rows p hp').grown hg (by simpa using hd p hp'),h.fol.inj⟩
theorem TrkL.below(h:TrkL w n nw bt sv fv fr F)(hb:Below w.heap.size w W):TrkL W n nw bt sv fv fr F:=
 h.turn (zan.of_below (S:=fun _=>False) hb) (fun _ _ e=>e.elim) ⟨fun p hp=>(h.fol.rows p hp).below hb,h.fol.inj⟩
theorem TrkL.put{b o:Nat}{v:Value}{cs:Array Value}{t:TypeId}(h:TrkL w n nw bt sv fv fr F)(hb:w.heap[b]?=some (.cells cs t (0,0)))(h1:t≠207)(h2:t≠129)(h3:t≠185)(h4:b≠0):TrkL (w.setCell ⟨b,o,none⟩ v) n nw bt sv fv fr F:=by
 have hk:∀(k:Nat) (a:Array Value) (u:TypeId),w.heap[k]?=some (.cells a u (0,0))->t≠u->(w.setCell ⟨b,o,none⟩ v).heap[k]?=some (.cells a u (0,0)):=fun k a u hk hne=>
  ((zaK w b o v).block k (zrc.1 hk).1 (fun e=>by cases e;rw[hb] at hk;exact hne (zad hk))).trans hk
 refine⟨hk _ _ _ h.box h1,fun hn=>?_,⟨fun p hp=>⟨hk _ _ _ (h.fol.rows p hp).row h3,(h.fol.rows p hp).lt⟩,h.fol.inj⟩,h.n64,h.nwl,h.bru.keep ((zaK w b o v).block 0 (zbm h.bru) (fun e=>h4 (by cases e;rfl)))⟩;obtain⟨gf,cf,cur,k1,k2,k3⟩:=h.fv hn;exact⟨gf,cf,cur,k1,hk _ _ _ k2 h2,k3⟩
structure SqS(w W:World)(n nw bt ga gl ha hl:Nat)(b c:Bool)(sv fv:Value)(fr:Nat->Nat)(F:Nat->Nat->Nat)(A L A' L':Nat->Nat):Prop where
 r4:W.heap[w.heap.size]?=some (.cells #[.bool b,.slice (some ⟨ga,0,none⟩) nw nw,.slice (some ⟨gl,0,none⟩) nw nw] 174 (0,0))
 r5:W.heap[w.heap.size+1]?=some (.cells #[.bool c,.slice (some ⟨ha,0,none⟩) nw nw,.slice (some ⟨hl,0,none⟩) nw nw] 174 (0,0))
 r6:W.heap[w.heap.size+1+1]?=some (.cells #[.bool false,.slice none 0 0,.slice none 0 0] 174 (0,0))
 fa:zal W nw ga A
 la:zal W nw gl L
 fb:zal W nw ha A'
 lb:zal W nw hl L'
 tk:TrkL W n nw bt sv fv fr F
 t:zan (fun k=>k=ga\/k=hl\/∃p,p<n/\k=fr p) w W
theorem SqS.join{W2:World}{A2 L2:Nat->Nat}(h:SqS w W n nw bt ga gl ha hl b c sv fv fr F A L A' L')(hg:W.grownBy W2 (some g))(hl1:ga<w.heap.size)(hl2:hl<w.heap.size)(hg1:g=ga\/g=hl)
  (ngl:g≠gl) (nha:g≠ha) (hfr:∀p,p<n->fr p≠g) (ha2:zal W2 nw ga A2) (hl2':zal W2 nw hl L2):SqS w W2 n nw bt ga gl ha hl b c sv fv fr F A2 L A' L2:=by
 have hk:∀(k:Nat) (o:Obj),W.heap[k]?=some o->k≠g->W2.heap[k]?=some o:=fun k o hk hne=>(hg.block k (zrc.1 hk).1 (by simpa using hne)).trans hk
 have hgp:∃T,zal W nw g T:=by rcases hg1 with e|e<;>subst e;exact⟨_,h.fa⟩;exact⟨_,h.lb⟩
 obtain⟨T,hT⟩:=hgp;exact⟨hk _ _ h.r4 (by omega),hk _ _ h.r5 (by omega),hk _ _ h.r6 (by omega),ha2,h.la.grown hg (by simpa using ngl.symm),h.fb.grown hg (by simpa using nha.symm),hl2',h.tk.join hg hT hfr,h.t.grown hg (fun k e=>by cases e;rcases hg1 with e|e;exact .inl (.inl e);exact .inl (.inr (.inl e)))⟩
theorem SqS.done{v:Bool}(h:SqS w W n nw bt ga gl ha hl b c sv fv fr F A L A' L')(hl1:ga<w.heap.size)(hl2:hl<w.heap.size)(hne:ga≠hl)(v0 v1 v2:Value):
  zpL w n nw bt sv fv fr F ga hl v A L' (.returned (.agg #[.bool v,.slice (some ⟨ga,0,none⟩) nw nw,.slice (some ⟨hl,0,none⟩) nw nw])) (((W.setCell ⟨w.heap.size+1+1,0,none⟩ v0).setCell ⟨w.heap.size+1+1,1,none⟩ v1).setCell ⟨w.heap.size+1+1,2,none⟩ v2):=by
 have hs:∀(X:World) (o:Nat) (u:Value) (cs:Array Value),X.heap[w.heap.size+1+1]?=some (.cells cs 174 (0,0))->∃cs',(X.setCell ⟨w.heap.size+1+1,o,none⟩ u).heap[w.heap.size+1+1]?=some (.cells cs' 174 (0,0)):=fun X o u cs hx=>⟨_,zsr X _ o _ _ u hx⟩
 obtain⟨c1,k1⟩:=hs W 0 v0 _ h.r6;obtain⟨c2,k2⟩:=hs _ 1 v1 _ k1;have t0:=h.tk.put (o:=0) (v:=v0) h.r6 (by decide) (by decide) (by decide) (by omega);have t1:=t0.put (o:=1) (v:=v1) k1 (by decide) (by decide) (by decide) (by omega);have t2:=t1.put (o:=2) (v:=v2) k2 (by decide) (by decide) (by decide) (by omega);exact⟨rfl,⟨((h.fa.put (by omega)).put (by omega)).put (by omega),((h.lb.put (by omega)).put (by omega)).put (by omega),hne⟩,t2,
  ((h.t.grown (zaK _ _ _ _) (fun g e=>.inr (by cases e;omega))).grown (zaK _ _ _ _) (fun g e=>.inr (by cases e;omega))).grown (zaK _ _ _ _) (fun g e=>.inr (by cases e;omega))⟩
theorem zj2(n nw bt ga gl ha hl:Nat)(b c:Bool)(sv fv:Value)(fr:Nat->Nat)(F:Nat->Nat->Nat)(A L A' L':Nat->Nat)(w:World)(h:TrkL w n nw bt sv fv fr F)(h1:FrAt w nw ga gl A L)(h2:FrAt w nw ha hl A' L')
  (d1:ga≠ha) (d2:ga≠hl) (d4:gl≠hl) (e1:∀p,p<n->fr p≠ga) (e2:∀p,p<n->fr p≠gl) (e3:∀p,p<n->fr p≠ha) (e4:∀p,p<n->fr p≠hl) (hm:∀p,p<64*nw->zae L p=true->p<n):
  Calls Tryz.prog 122 #[.pointer (some ⟨bt,0,none⟩),.agg #[.bool b,.slice (some ⟨ga,0,none⟩) nw nw,.slice (some ⟨gl,0,none⟩) nw nw],.agg #[.bool c,.slice (some ⟨ha,0,none⟩) nw nw,.slice (some ⟨hl,0,none⟩) nw nw]] w fun e w'=>
   zpL w n nw bt sv fv fr (fun p=>if zae L p=true then orT (F p) A' else F p) ga hl (b&&c) (if b=true then orT A A' else A) (if c=true then orT L' L else L') e w':=by
 obtain⟨F2,hF2⟩:∃F2,(fun p=>if zae L p=true then orT (F p) A' else F p)=F2:=⟨_,rfl⟩;rw[hF2];have hnw:=h.nwl;obtain⟨W0,hW0⟩:∃W0,((w.alloc (.cells #[.bool b,.slice (some ⟨ga,0,none⟩) nw nw,.slice (some ⟨gl,0,none⟩) nw nw] 174)).alloc (.cells #[.bool c,.slice (some ⟨ha,0,none⟩) nw nw,.slice (some ⟨hl,0,none⟩) nw nw] 174)).alloc (.cells #[.bool false,.slice none 0 0,.slice none 0 0] 174)=W0:=⟨_,rfl⟩;have hb0:Below w.heap.size w W0:=by rw[<-hW0];exact(((Below.refl _ _).alloc (zsa _) _).alloc (by simp) _).alloc (by simp;omega) _
 have x4:W0.heap[w.heap.size]?=some (.cells #[.bool b,.slice (some ⟨ga,0,none⟩) nw nw,.slice (some ⟨gl,0,none⟩) nw nw] 174 (0,0)):=by rw[<-hW0];exact zah (zah (zsp _ _))
 have x5:W0.heap[w.heap.size+1]?=some (.cells #[.bool c,.slice (some ⟨ha,0,none⟩) nw nw,.slice (some ⟨hl,0,none⟩) nw nw] 174 (0,0)):=by
  rw[<-hW0];refine zah ?_;have:=zsp (w.alloc (.cells #[.bool b,.slice (some ⟨ga,0,none⟩) nw nw,.slice (some ⟨gl,0,none⟩) nw nw] 174)) (.cells #[.bool c,.slice (some ⟨ha,0,none⟩) nw nw,.slice (some ⟨hl,0,none⟩) nw nw] 174)
  simpa using this
 have x6:W0.heap[w.heap.size+1+1]?=some (.cells #[.bool false,.slice none 0 0,.slice none 0 0] 174 (0,0)):=by
  rw[<-hW0];have:=zsp ((w.alloc (.cells #[.bool b,.slice (some ⟨ga,0,none⟩) nw nw,.slice (some ⟨gl,0,none⟩) nw nw] 174)).alloc (.cells #[.bool c,.slice (some ⟨ha,0,none⟩) nw nw,.slice (some ⟨hl,0,none⟩) nw nw] 174)) (.cells #[.bool false,.slice none 0 0,.slice none 0 0] 174)
  simpa using this
 have l1:=h1.fi.glt;have l2:=h1.la.glt;have l3:=h2.fi.glt;have l4:=h2.la.glt;have hfl:∀p,p<n->fr p<w.heap.size:=fun p hp=>(h.fol.rows p hp).glt
 have hsz:W0.heap.size=w.heap.size+1+1+1:=by rw[<-hW0];simp
 have hpw:=zbm h.bru;have y:=h.below hb0;have y1:=h1.below hb0;have y2:=h2.below hb0;have hlk:=zkA n nw bt gl nw ha nw sv fv fr F L A' W0 y y1.la y2.fi e2 e3 hm;rw[hF2] at hlk;clear hF2;have T0:zan (fun k=>k=ga\/k=hl\/∃p,p<n/\k=fr p) w W0:=zan.of_below hb0;clear hb0;obtain⟨a0,a1,a2,-,-,-⟩:=zac x4;obtain⟨b0,b1,b2,-,-,-⟩:=zac x5
 go_enter Tryz.func122,Tryz.ntmps122
 go_wp2_with fail
 clear a0 a1 a2 b0 b1 b2 hW0;refine hlk.mono ?_;rintro e w1 ⟨rfl,q,t1⟩;have hn:∀k,w.heap.size<=k->¬∃p,p<n/\k=fr p:=fun k hk ⟨p,hp,e⟩=>by have:=hfl p hp;omega
 have u4:=(t1.same (w.heap.size) (by omega) (hn _ (by omega))).trans x4;have u5:=(t1.same (w.heap.size+1) (by omega) (hn _ (by omega))).trans x5;have u6:=(t1.same (w.heap.size+1+1) (by omega) (hn _ (by omega))).trans x6;have z1:=y1.fi.touch t1 (fun⟨p,hp,e⟩=>e1 p hp e.symm);have z2:=y1.la.touch t1 (fun⟨p,hp,e⟩=>e2 p hp e.symm);have z3:=y2.fi.touch t1 (fun⟨p,hp,e⟩=>e3 p hp e.symm);have z4:=y2.la.touch t1 (fun⟨p,hp,e⟩=>e4 p hp e.symm);have T1:=T0.trans (t1.mono (fun k _ hk=>.inr (.inr hk)));have s1:=t1.size;have hga:=h1.ne;have hha:=h2.ne;clear hlk x4 x5 x6 y y1 y2 T0 t1 h h1 h2;have hS:SqS w w1 n nw bt ga gl ha hl b c sv fv fr F2 A L A' L':=⟨u4,u5,u6,z1,z2,z3,z4,q,T1⟩;clear u4 u5 u6 z1 z2 z3 z4 q T1;have hfin:∀(W:World) (A2 L2:Nat->Nat),SqS w W n nw bt ga gl ha hl b c sv fv fr F2 A2 L A' L2->∃c0 c1 c2,W.cell? ⟨w.heap.size,0,none⟩=some (.bool b)/\W.cell? ⟨w.heap.size,1,none⟩=some (.slice (some ⟨ga,0,none⟩) nw nw)/\W.cell? ⟨w.heap.size+1,0,none⟩=some (.bool c)/\W.cell? ⟨w.heap.size+1,2,none⟩=some (.slice (some ⟨hl,0,none⟩) nw nw)/\W.cell? ⟨w.heap.size,2,none⟩=some (.slice (some ⟨gl,0,none⟩) nw nw)/\W.cell? ⟨w.heap.size+1,1,none⟩=some (.slice (some ⟨ha,0,none⟩) nw nw)/\W.cell? ⟨w.heap.size+1+1,0,none⟩=some c0/\W.cell? ⟨w.heap.size+1+1,1,none⟩=some c1/\W.cell? ⟨w.heap.size+1+1,2,none⟩=some c2/\W.frozen? ⟨w.heap.size+1+1,0,none⟩=false/\W.frozen? ⟨w.heap.size+1+1,1,none⟩=false/\W.frozen? ⟨w.heap.size+1+1,2,none⟩=false:=fun W A2 L2 hq=>by
  obtain⟨a0,a1,a2,-,-,-⟩:=zac hq.r4;obtain⟨b0,b1,b2,-,-,-⟩:=zac hq.r5;obtain⟨k0,k1,k2,f0,f1,f2⟩:=zac hq.r6;exact⟨_,_,_,a0,a1,b0,b2,a2,b1,k0,k1,k2,f0,f1,f2⟩
 cases b<;>cases c
 ·obtain⟨p0,p1,p2,a0,a1,b0,b2,a2,b1,k0,k1,k2,f0,f1,f2⟩:=hfin _ _ _ hS;go_wp2;refine zsl (v:=.agg #[.bool false,.slice (some ⟨ga,0,none⟩) nw nw,.slice (some ⟨hl,0,none⟩) nw nw]) (by simp[results,Tryz.results122,go_sem,k0,k1,k2]) rfl ?_;exact hS.done l1 l4 d2 _ _ _
 ·obtain⟨p0,p1,p2,a0,a1,b0,b2,a2,b1,k0,k1,k2,f0,f1,f2⟩:=hfin _ _ _ hS;have hj:=zcv nw hl gl nw nw L' L w1 hS.lb hS.la d4.symm hnw
  go_wp2_with fail
  refine hj.mono ?_;rintro e w2 ⟨rfl,hp2,hg2⟩;have hS2:=hS.join (A2:=A) hg2 l1 l4 (.inr rfl) d4.symm hha.symm e4 (hS.fa.grown hg2 (by simpa using d2)) hp2;clear a0 a1 b0 b2 a2 b1 k0 k1 k2 f0 f1 f2;obtain⟨p0,p1,p2,a0,a1,b0,b2,a2,b1,k0,k1,k2,f0,f1,f2⟩:=hfin _ _ _ hS2;go_wp2;refine zsl (v:=.agg #[.bool false,.slice (some ⟨ga,0,none⟩) nw nw,.slice (some ⟨hl,0,none⟩) nw nw]) (by simp[results,Tryz.results122,go_sem,k0,k1,k2]) rfl ?_;exact hS2.done l1 l4 d2 _ _ _
 ·obtain⟨p0,p1,p2,a0,a1,b0,b2,a2,b1,k0,k1,k2,f0,f1,f2⟩:=hfin _ _ _ hS;have hj:=zcv nw ga ha nw nw A A' w1 hS.fa hS.fb d1 hnw
  go_wp2_with fail
  refine hj.mono ?_;rintro e w2 ⟨rfl,hp2,hg2⟩;have hS2:=hS.join (L2:=L') hg2 l1 l4 (.inl rfl) hga d1 e1 hp2 (hS.lb.grown hg2 (by simpa using d2.symm));clear a0 a1 b0 b2 a2 b1 k0 k1 k2 f0 f1 f2;obtain⟨p0,p1,p2,a0,a1,b0,b2,a2,b1,k0,k1,k2,f0,f1,f2⟩:=hfin _ _ _ hS2;go_wp2;refine zsl (v:=.agg #[.bool false,.slice (some ⟨ga,0,none⟩) nw nw,.slice (some ⟨hl,0,none⟩) nw nw]) (by simp[results,Tryz.results122,go_sem,k0,k1,k2]) rfl ?_;exact hS2.done l1 l4 d2 _ _ _
 ·obtain⟨p0,p1,p2,a0,a1,b0,b2,a2,b1,k0,k1,k2,f0,f1,f2⟩:=hfin _ _ _ hS;have hj:=zcv nw ga ha nw nw A A' w1 hS.fa hS.fb d1 hnw
  go_wp2_with fail
  refine hj.mono ?_;rintro e w2 ⟨rfl,hp2,hg2⟩;have hS2:=hS.join (L2:=L') hg2 l1 l4 (.inl rfl) hga d1 e1 hp2 (hS.lb.grown hg2 (by simpa using d2.symm));clear a0 a1 b0 b2 a2 b1 k0 k1 k2 f0 f1 f2;obtain⟨p0,p1,p2,a0,a1,b0,b2,a2,b1,k0,k1,k2,f0,f1,f2⟩:=hfin _ _ _ hS2;have hj2:=zcv nw hl gl nw nw L' L w2 hS2.lb hS2.la d4.symm hnw
  go_wp2_with fail
  refine hj2.mono ?_;rintro e w3 ⟨rfl,hp3,hg3⟩;have hS3:=hS2.join (A2:=orT A A') hg3 l1 l4 (.inr rfl) d4.symm hha.symm e4 (hS2.fa.grown hg3 (by simpa using d2)) hp3;clear a0 a1 b0 b2 a2 b1 k0 k1 k2 f0 f1 f2;obtain⟨p0,p1,p2,a0,a1,b0,b2,a2,b1,k0,k1,k2,f0,f1,f2⟩:=hfin _ _ _ hS3;go_wp2;refine zsl (v:=.agg #[.bool true,.slice (some ⟨ga,0,none⟩) nw nw,.slice (some ⟨hl,0,none⟩) nw nw]) (by simp[results,Tryz.results122,go_sem,k0,k1,k2]) rfl ?_;exact hS3.done l1 l4 d2 _ _ _
end Go.Proofs.YthdljcdbfmhleaaGreatDoor
