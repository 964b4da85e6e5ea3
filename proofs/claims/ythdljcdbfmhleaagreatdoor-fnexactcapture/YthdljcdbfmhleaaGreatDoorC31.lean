import Derived.Test.YthdljcdbfmhleaaGreatDoorC30
namespace Go.Proofs.YthdljcdbfmhleaaGreatDoor
set_option maxHeartbeats 2000000
set_option maxRecDepth 100000
open Go.RowKit
section
attribute [local go_sem ↓] Go.wp_at_zero Go.wp_at_succ
def FurP(O1 O2:Nat->Prop)(w:World)(s:Nat)(v:StV)(a b:RdV)(u:Word)(M:PA)(E:Nat->Prop)(fr:Nat)(e:Ending)(w':World):Prop:=
 ∃(k now n end':Nat) (ok:Bool) (a':RdV) (O:Nat->Prop),e=.returned (.tuple #[.int .i64 end',.bool ok])/\FwS w O1 O2 s v a b u M E fr w' k now a' O/\k<=max fr u.length/\(∀x,E x->x<=n)/\Best u M E fr n end' ok
def zl6(O1:Nat->Prop)(w:World)(nw:Nat)(u:Word)(M:PA)(E:Nat->Prop)(fr high:Nat)(av:Value):Prop:=
 av=.pointer none\/∃(t:Nat) (Bk:Nat->Nat->Prop),av=.pointer (some ⟨t,0,none⟩)/\(∀W,zan O1 w W->∀k,k<high->Calls Tryz.prog 154 #[.pointer (some ⟨t,0,none⟩),.int .i64 k] W fun e w'=>∃rv,e=.returned rv/\((rv=.slice none 0 0/\∀p,¬Bk k p)\/∃(g:Nat) (T:Nat->Nat),rv=.slice (some ⟨g,0,none⟩) nw nw/\zal w' nw g T/\zdG nw T (Bk k))/\Below W.heap.size W w')/\∀k,fr<=k->k<high->(∀p,Fwd u M fr (k+1) p->¬Bk k p)->∀x,k<x->E x->¬LgM u M fr x
theorem znb{M:PA}{n nw:Nat}{f:Nat->Nat->Bool}{F G:Nat->Nat->Nat}{X Y:Nat->Nat}(hR:zcZ M n nw f F G X Y){u:Word}{i j:Nat}{T U:Nat->Nat}{B:Nat->Prop}(hT:zdG nw T (Fwd u M i j))(hl:∀x,T x<18446744073709551616)(hU:zdG nw U B)(hm:zb8 nw T U=false):∀p,Fwd u M i j p->¬B p:=fun p h1 h2=>by
 have hp:=(hR.D p).1 (h1.2.2.inside hR.fi hR.fo);have hn:=hR.n64;have:zb8 nw T U=true:=(zfF nw T U hl).2 ⟨p,by omega,(hT p (by omega)).2 h1,(hU p (by omega)).2 h2⟩;rw[hm] at this;cases this
theorem zji{O1 O2:Nat->Prop}{w:World}{s:Nat}{v:StV}{a b:RdV}(h:Strd O1 O2 w s v a b)(M:PA)(hR:zcZ M v.n v.nw v.f v.F v.G v.A v.L)(hem:v.e=true↔M.e)(t:ByteArray)(ht:t.size<=4096)(ne ge cap fr:Nat)(ET:Nat->Nat)(hE:zal w ne ge ET)(hne:ne<=100)(hO:¬O1 ge)(hx:∃q,q<64*ne/\zae ET q=true)(hq:∀q,q<64*ne->zae ET q=true->q<=t.size)(hfr:fr<=t.size)(hfn:fr<64*ne)(ham:a.m<=90000000)(av:Value)
  (hal:∀high,(high<64*ne/\zae ET high=true)->(∀q,q<64*ne->zae ET q=true->q<=high)->zl6 O1 w v.nw t.data.toList M (fun q=>q<64*ne/\zae ET q=true) fr high av):
  Calls Tryz.prog 159 #[.pointer (some ⟨s,0,none⟩),.string t,.int .i64 fr,.slice (some ⟨ge,0,none⟩) ne cap,av] w fun e w'=>FurP O1 O2 w s v a b t.data.toList M (fun q=>q<64*ne/\zae ET q=true) fr e w':=by
 have hB:=h.c.c1.le;have hhas0:=zhe ne ge cap ET fr w hE hfn (by omega);obtain⟨ve,Hve⟩:∃ve,Hid (v.e=ve):=⟨_,rfl⟩;obtain⟨x0,Hx0⟩:∃x0,Hid (x0=(ve&&zae ET fr)):=⟨_,rfl⟩;obtain⟨ef,Hef⟩:∃ef,Hid (ef=zae ET fr):=⟨_,rfl⟩;rw[<-Hef.out] at hhas0;have c1:=(zaG h.box).2.1;rw[Hve.out] at c1;have HS0:Hid (FwS w O1 O2 s v a b t.data.toList M (fun q=>q<64*ne/\zae ET q=true) fr w fr 0 a O1):=by
  refine⟨zan.refl _ _,fun _ _ e=>e,h,RdN.refl a,zsa _,fun _ x=>x,fun _ x=>.inl x,zsa _,h.ra.pos,fun q hq'=>⟨fun h1=>?_,fun h1=>?_⟩⟩
  ·have h2:=h.ra.zero (q/64) (by omega);unfold zae at h1;rw[h2] at h1;simp at h1
  ·have:=h1.1;omega
 have HB0:Hid (Best t.data.toList M (fun q=>q<64*ne/\zae ET q=true) fr fr fr x0):=by
  have hL:LgM t.data.toList M fr fr↔M.e:=⟨fun x=>x.elim (fun y=>y.2) (fun y=>by omega),fun x=>.inl ⟨rfl,x⟩⟩;cases hb:x0
  ·refine .inr ⟨rfl,rfl,fun x hx hE2 hL2=>?_⟩;have hxe:x=fr:=by
    rcases hL2 with ⟨e,_⟩|⟨e,_⟩<;>omega
   subst hxe;have h1:=hem.2 (hL.1 hL2);have:=Hx0.out;rw[hb,<-Hve.out,h1,hE2.2] at this;cases this
  ·have:=Hx0.out;rw[hb,<-Hve.out] at this;have h2:=Bool.and_eq_true_iff.1 this.symm;exact .inl ⟨rfl,⟨hfn,h2.2⟩,hL.2 (hem.1 h2.1),zsa _,fun x h _ _=>h⟩
 have hg:=zdK ne ge cap ET w hE (by omega);have hEl:ge<w.heap.size:=hE.glt;have Hfr:Hid (∀W:World,zan O1 w W->zal W ne ge ET):=fun W tc=>⟨(tc.same ge hEl hO).trans hE.row,hE.lt⟩
 have HR:Hid _:=hR;have Hal:=hidF hal;clear h hE hR hem hal hO
 go_enter Tryz.func159,Tryz.ntmps159
 go_upto_region 1 with fail
 go_cut [12,13] from 17 to 27 (fun v12 v13 wx=>v12=.int .i64 fr/\v13=.bool x0/\wx=w)
 case first=>
  have hx0:=Hx0.out;rw[<-Hef.out] at hx0;have Hx1:Hid _:=hx0;clear hx0 HS0 HB0 hg;cases ve with
  |false=>
   go_wp2
   go_meet
   exact⟨rfl,by rw[Hx1.out];rfl,rfl⟩
  |true=>
   go_wp2_with fail
   refine hhas0.mono ?_;rintro e1 W ⟨rfl,hW⟩;subst W;clear hhas0;go_wp2
   go_meet
   exact⟨rfl,by rw[Hx1.out];rfl,rfl⟩
 case rest=>
  obtain⟨rfl,rfl,hwc⟩:=hcut;subst wc;clear hhas0 c1
  go_wp2_with fail
  refine hg.mono ?_;rintro e w1 ⟨hv,rfl,hgp,hb1⟩;obtain⟨high,rfl,hhi,hhb,hhigh⟩:∃high:Nat,hv=high/\high<64*ne/\zae ET high=true/\∀q,high<q->q<64*ne->zae ET q=false:=by
   rcases hgp with ⟨-,h1⟩|⟨p,h1⟩
   ·obtain⟨q,h2,h3⟩:=hx;rw[h1 q h2] at h3;cases h3
   ·exact⟨p,h1⟩
  have hht:=hq high hhi hhb;have hmax:∀q,q<64*ne->zae ET q=true->q<=high:=fun q h1 h2=>by
   rcases zsd high q with e|e
   ·have:=hhigh q e h1;rw[h2] at this;cases this
   ·exact e
  have HAl:=hidF (Hal.out high ⟨hhi,hhb⟩ hmax);have Hmax:Hid _:=hmax;have HS1:Hid _:=HS0.out.below hb1;clear hg hgp hhigh hhb hx Hal HS0 hmax hb1;go_wp2
  go_loopw [12,13,15,16] (fun ev kv nv av wr=>∃(k now end':Nat) (ok:Bool) (a':RdV) (O:Nat->Prop),ev=.int .i64 end'/\kv=.bool ok/\nv=.int .i64 now/\av=.int .i64 k/\Hid (FwS w O1 O2 s v a b t.data.toList M (fun q=>q<64*ne/\zae ET q=true) fr wr k now a' O)/\Hid (Best t.data.toList M (fun q=>q<64*ne/\zae ET q=true) fr k end' ok)/\k<=max fr high)
   (fun _ _ _ av _=>high-(intOf av).toNat)
  case atStart=>exact⟨fr,0,fr,x0,a,O1,rfl,rfl,rfl,rfl,HS1,HB0,by omega⟩
  case round=>
   clear HS1 HB0;obtain⟨k,now,end',ok,a',O,rfl,rfl,rfl,rfl,HS,HBe,hkh⟩:=hrel
   by_cases hlt:k<high
   ·have hd:decide ((k:Int)<(high:Int))=true:=by simp;omega
    have hkt:k<t.size:=by omega
    have HSd:Hid (∀n,FwS w O1 O2 s v a b t.data.toList M (fun q=>q<64*ne/\zae ET q=true) fr (wr.drewN n) k now a' O):=fun n=>HS.out.below ⟨rfl,rfl,rfl,zsa _,fun _ _=>rfl⟩
    obtain⟨bg,Hbg⟩:∃bg,Hid (bg=decide (k=fr)):=⟨_,rfl⟩;have hbgE:((k:Int)==(fr:Int))=bg:=by
     rw[Hbg.out]
     by_cases e:k=fr
     ·simp[e]
     ·have e2:¬(k:Int)=(fr:Int):=by omega
      simp[e,e2]
    have hmb:=HS.out.mb;have hrd:=fun n=>zo8 (HSd.out n).st now (t[k]'hkt).toNat bg (HSd.out n).nw (UInt8.toNat_lt _) (by omega)
    have q5:=(zaG HS.out.st.box).2.2.2.2.2.1;have hk0:(0:Int)<=(k:Int):=by omega
    have hk1:(k:Int)<(t.size:Int):=by omega
    have hle:=HS.out.le;clear HS
    go_upto_region 7 with fail
    have hmix:Tryz.prog.follows .mixedOrders=true:=by kernel_rfl
    refine zbt 11 (fun w'=>∃n,w'=wr.drewN n) hmix ⟨1,rfl⟩ (by decide) (by kernel_rfl) ?_;intro os hos;simp only[zr6,zr8] at hos;subst hos
    repeat (go_big_quiet_step (fail))
    refine wpQuiet_nil ?_;rintro w' ⟨nq,rfl⟩ r' hr';simp only[zrr,List.drop_zero] at hr';subst hr'
    go_wp2_with fail
    refine(hrd nq).mono ?_;rintro e2 W2 ⟨x,a2,rfl,hx,hm,hn,hs,st,tc,km⟩;have H3:Hid _:=(HSd.out nq).read HR.out (zi4 t hkt) (by rw[Hbg.out];simp) hx hm hn hs st tc km;clear hrd HSd hm hn hs st tc km q5 hbgE;obtain⟨-,-,-,-,-,q5,-⟩:=zaG H3.out.st.box;have d5:=(zaM H3.out.st.ra.s.box).2.2.2.2.2.1;obtain⟨gS,cS,eS,hgS,hcS⟩:=H3.out.st.ra.rowS;have dS:=hcS x hx;rw[eS] at d5;have hset:=H3.out.st.ra.s.set x hx;have hx0:(0:Int)<=(x:Int):=by omega
    have hx1:(x:Int)<(a2.m:Int):=by omega
    have hnwl:=H3.out.st.c.c1.nwl;clear hcS eS
    go_upto_region 8 with fail
    go_cut [70] from 48 to 70 (fun v70 wx=>∃bb:Bool,v70=.bool bb/\Below W2.heap.size W2 wx/\Hid (bb=true->∀y,k<y->(y<64*ne/\zae ET y=true)->¬LgM t.data.toList M fr y))
    case first=>
     by_cases hz:x=0
     ·have HD:Hid (∀y,k<y->(y<64*ne/\zae ET y=true)->¬LgM t.data.toList M fr y):=by
       have h4:=H3.out;rw[hz] at h4;exact fun y hy _=>h4.dead HR.out (by omega) y hy
      have hd0:((x:Int)==0)=true:=by simp[hz]
      have Hz:Hid _:=hz;clear hz H3 HBe
      go_region
      all_goals
       go_wp2
       go_meet
       exact⟨true,rfl,(Below.refl _ _).drew,fun _=>HD.out⟩
     ·have hd0:((x:Int)==0)=false:=by simp[hz]
      have Hz:Hid _:=hz;clear hz;rcases HAl.out with hav|⟨tt,Bk,hav,hat,hmet⟩
      ·subst hav;clear H3 HBe
       go_region
       all_goals
        go_wp2
        go_meet
        exact⟨false,rfl,(Below.refl _ _).drew,fun e=>by cases e⟩
      ·subst hav;have hat2:=hat W2.drew H3.out.tc.drew k hlt;have hgl:=hset.glt;have hsl:s<W2.heap.size:=(zrc.1 H3.out.st.box).1;have hrl:a2.r<W2.heap.size:=(zrc.1 H3.out.st.ra.s.box).1;have Hme:Hid (∀(W3:World) (rv:Value),Below W2.heap.size W2 W3->((rv=.slice none 0 0/\∀p,¬Bk k p)\/∃(g:Nat) (T:Nat->Nat),rv=.slice (some ⟨g,0,none⟩) v.nw v.nw/\zal W3 v.nw g T/\zdG v.nw T (Bk k))->Calls Tryz.prog 130 #[.slice (some ⟨a2.gx x,0,none⟩) v.nw v.nw,rv] W3 fun e w'=>∃mb:Bool,e=.returned (.bool mb)/\Hid (mb=false->∀y,k<y->(y<64*ne/\zae ET y=true)->¬LgM t.data.toList M fr y)/\Below W3.heap.size W3 w'):=by
        intro W3 rv hb3 hrv;rcases hrv with ⟨rfl,hno⟩|⟨g,T,rfl,hT,hTs⟩
        ·refine(zjy v.nw _ v.nw W3).mono ?_;rintro e w' ⟨rfl,hb⟩;exact⟨false,rfl,fun _=>hmet k hle hlt (fun p _=>hno p),hb⟩
        ·refine(zkD v.nw _ g v.nw v.nw (a2.Ts x) T W3 (hset.below hb3) hT hnwl).mono ?_;rintro e w' ⟨rfl,hb⟩;exact⟨_,rfl,fun hm=>hmet k hle hlt (znb HR.out H3.out.fw hset.lt hTs hm),hb⟩
       clear H3 HBe hat hmet HAl
       go_region_held3 (fun w'=>w'.cell? ⟨s,5,none⟩=some (.pointer (some ⟨a2.r,0,none⟩))/\w'.cell? ⟨a2.r,5,none⟩=some (.slice (some ⟨gS,0,none⟩) a2.m cS)/\w'.cell? ⟨gS,x,none⟩=some (.slice (some ⟨a2.gx x,0,none⟩) v.nw v.nw)) ((first|exact⟨q5,d5,dS⟩|exact⟨n5,m5,nS⟩|exact⟨o5,p5,oS⟩|go_keep)) ((first|(go_at_call 154;refine hat2.mono ?_;rintro e3 W3 ⟨rv,rfl,hrv,hb3⟩;have hb3':Below W2.heap.size W2 W3:=⟨hb3.os,hb3.tape,hb3.output,hb3.size,hb3.block⟩;have n5:=(hb3'.cell (p:=⟨s,5,none⟩) hsl).trans q5;have m5:=(hb3'.cell (p:=⟨a2.r,5,none⟩) hrl).trans d5;have nS:=(hb3'.cell (p:=⟨gS,x,none⟩) hgS).trans dS;have hme:=Hme.out W3 rv hb3' hrv;clear hrv)|(go_at_call 130;refine hme.mono ?_;rintro e4 W4 ⟨mb,rfl,Hmb,hb4⟩;have o5:=(hb4.cell (p:=⟨s,5,none⟩) (zsc hsl hb3'.size)).trans n5;have p5:=(hb4.cell (p:=⟨a2.r,5,none⟩) (zsc hrl hb3'.size)).trans m5;have oS:=(hb4.cell (p:=⟨gS,x,none⟩) (zsc hgS hb3'.size)).trans nS)))
       go_wp2
       go_meet
       exact⟨!mb,rfl,hb3'.trans (hb4.mono hb3'.size),fun e=>Hmb.out (by simpa using e)⟩
    case rest=>
     obtain⟨bb,rfl,hbw,Hbb⟩:=hcut;cases bb with
     |true=>
      have hul:t.data.toList.length=t.size:=by simp
      have HF:Hid (FurP O1 O2 w s v a b t.data.toList M (fun q=>q<64*ne/\zae ET q=true) fr (.returned (.tuple #[.int .i64 end',.bool ok])) wc):=⟨k+1,x,high,end',ok,a2,_,rfl,H3.out.below hbw,by omega,fun y hy=>Hmax.out y hy.1 hy.2,HBe.out.last (Hbb.out rfl) high (by omega)⟩;clear H3 HBe HAl Hbb hset;go_wp2
      go_ret2
      exact HF.out
     |false=>
      have H4:Hid _:=H3.out.below hbw;have hE2:=Hfr.out wc H4.out.tc;have hhas:=zhe ne ge cap ET (k+1) wc hE2 (by omega) (by omega);obtain⟨-,-,-,-,-,r5,-⟩:=zaG H4.out.st.box;have d6:=(zaM H4.out.st.ra.s.box).2.2.2.2.2.2.1;obtain⟨gP,cP,eP,hgP,hcP⟩:=H4.out.st.ra.rowP;have dP:=hcP x hx;rw[eP] at d6;have hends:=hidF (H4.out.ends HR.out (by omega));obtain⟨m0,Hm0⟩:∃m0,Hid (m0=zb8 v.nw (a2.Ts x) v.L):=⟨_,rfl⟩;rw[<-Hm0.out] at dP;obtain⟨e0,He0⟩:∃e0,Hid (e0=zae ET (k+1)):=⟨_,rfl⟩;rw[<-He0.out] at hhas;have hk2:((k+1:Nat):Int)=(k:Int)+1:=by omega
      rw[hk2] at hhas;clear H3 hE2 hcP eP q5 d5 dS hset Hbb hbw HAl hk2;cases m0 with
      |false=>
       have HB2:Hid _:=HBe.out.miss (fun _ hL=>by have:=hends.out.1 hL;rw[<-Hm0.out] at this;cases this);clear hhas HBe;go_wp2
       go_roundw
       case rel=>exact⟨k+1,x,end',ok,a2,_,rfl,rfl,rfl,by go_num,H4,HB2,by omega⟩
       case measure=>simp[intOf];omega
      |true=>
       go_wp2_with fail
       refine hhas.mono ?_;rintro e3 W5 ⟨rfl,hW5⟩;subst W5;clear hhas;cases e0 with
       |false=>
        have HB2:Hid _:=HBe.out.miss (fun hE3 _=>by have:=hE3.2;rw[<-He0.out] at this;cases this);clear HBe;go_wp2
        go_roundw
        case rel=>exact⟨k+1,x,end',ok,a2,_,rfl,rfl,rfl,by go_num,H4,HB2,by omega⟩
        case measure=>simp[intOf];omega
       |true=>
        have HB2:Hid (Best t.data.toList M (fun q=>q<64*ne/\zae ET q=true) fr (k+1) (k+1) true):=Best.hit ⟨by omega,He0.out.symm⟩ (hends.out.2 Hm0.out.symm);clear HBe;go_wp2
        go_roundw
        case rel=>exact⟨k+1,x,k+1,true,a2,_,by go_num,rfl,rfl,by go_num,H4,HB2,by omega⟩
        case measure=>simp[intOf];omega
   ·have hd:decide ((k:Int)<(high:Int))=false:=by simp;omega
    have hul:t.data.toList.length=t.size:=by simp
    have hkt:k<=max fr t.data.toList.length:=by omega
    have HF:Hid (FurP O1 O2 w s v a b t.data.toList M (fun q=>q<64*ne/\zae ET q=true) fr (.returned (.tuple #[.int .i64 end',.bool ok])) wr):=⟨k,now,k,end',ok,a',O,rfl,HS.out,hkt,fun x hx=>by have:=Hmax.out x hx.1 hx.2;omega,HBe.out⟩;clear HS HBe HAl;go_wp2
    go_ret2
    exact HF.out
end
variable {lo lo' pl a sz n B k:Nat}{w w':World}{Q Q' R:Nat -> Option Pt}{p q:Pt}{v:Value}{xs:List Value}
def opL(xs:List (Nat×Pt)):List Value:=xs.map fun x=>.pointer (some ⟨x.1,0,none⟩)
def lkL:List (Nat×Lnk)->List Value
 |[]=>[]
 |(a,(_,o))::xs=>.pointer (some ⟨a,0,none⟩) :: .bool o::lkL xs
theorem zcG:∀(xs ys:List (Nat×Lnk)),lkL (xs++ys)=lkL xs++lkL ys
 |[],_=>rfl
 |(_,_,_)::xs,ys=>by simp[lkL,zcG xs ys]
theorem zjs:∀(xs:List (Nat×Lnk)) (i a:Nat) (q:Pt) (o:Bool),xs[i]?=some (a,q,o)->(lkL xs)[i*2]?=some (.pointer (some ⟨a,0,none⟩))/\(lkL xs)[i*2+1]?=some (.bool o)
 |(a0,q0,o0)::xs,0,a,q,o,h=>by simp at h;obtain⟨rfl,-,rfl⟩:=h;exact⟨rfl,rfl⟩
 |(a0,q0,o0)::xs,i+1,a,q,o,h=>by
  obtain⟨h1,h2⟩:=zjs xs i a q o (by simpa using h);rw[show (i+1)*2=i*2+1+1 from by omega];exact⟨h1,h2⟩
structure PcB(lo:Nat)(w:World)(pl:Nat)(Q:Nat->Option Pt)(a:Nat)(p:Pt)(f:Value):Prop where
 lo:lo<=a
 q:Q a=some p
 box:∃v,w.heap[a]?=some (.cells #[.pointer (some ⟨pl,0,none⟩),v,f,.pointer none] 114 (0,0))/\zai w v p
 wt:wPt p<=2000
def zba:Pt->List Lnk
 |.seq p q=>zd9 (zbU (.seq p q))
 |.rep b mn mx=>repL b mn.toNat mx
 |_=>[]
inductive PcAt (lo:Nat) (w:World) (pl:Nat) (Q:Nat->Option Pt):Nat->Pt->Prop
 |leaf (a:Nat) (p:Pt):PcB lo w pl Q a p .nilIface->noG p->PcAt lo w pl Q a p
 |group (a a':Nat) (b:Pt) (g:Int):PcB lo w pl Q a (.grp b g) (.iface 126 (.agg #[.int .i64 g,.pointer (some ⟨a',0,none⟩)]))->PcAt lo w pl Q a' b->PcAt lo w pl Q a (.grp b g)
 |choice (a:Nat) (l r:Pt) (go cap:Nat) (xs:List (Nat×Pt)):PcB lo w pl Q a (.alt l r) (.iface 167 (.agg #[.slice (some ⟨go,0,none⟩) xs.length cap]))->w.ownsRow lo 86 1 (.slice (some ⟨go,0,none⟩) xs.length cap) xs.length (opL xs)->xs.map Prod.snd=zaW (.alt l r)->(∀x,x∈xs->PcAt lo w pl Q x.1 x.2)->PcAt lo w pl Q a (.alt l r)
 |chain (a:Nat) (p:Pt) (go cap:Nat) (xs:List (Nat×Lnk)):PcB lo w pl Q a p (.iface 161 (.agg #[.slice (some ⟨go,0,none⟩) xs.length cap]))->w.ownsRow lo 155 2 (.slice (some ⟨go,0,none⟩) xs.length cap) xs.length (lkL xs)->xs.map Prod.snd=zba p->(∀l r,p≠.alt l r)->(∀b g,p≠.grp b g)->(∀b,p≠.rep b 0 (-1))->(∀f,p≠.set f)->(∀x,x∈xs->PcAt lo w pl Q x.1 x.2.1)->PcAt lo w pl Q a p
 |rounds (a a':Nat) (b:Pt):PcB lo w pl Q a (.rep b 0 (-1)) (.iface 169 (.agg #[.pointer (some ⟨a,0,none⟩),.pointer (some ⟨a',0,none⟩)]))->PcAt lo w pl Q a' b->PcAt lo w pl Q a (.rep b 0 (-1))
theorem PcB.keep{f:Value}(h:PcB lo w pl Q a p f)(hl:lo'<=lo)(hk:∀k,lo<=k->k<w.heap.size->w'.heap[k]?=w.heap[k]?)(hm:zaJ w w')(hQ:∀k q,Q k=some q->Q' k=some q):PcB lo' w' pl Q' a p f:=by
 obtain⟨v,h1,h2⟩:=h.box;exact⟨zsb hl h.lo,hQ a p h.q,⟨v,(hk a h.lo (zrc.1 h1).1).trans h1,zai.keep hm p v h2⟩,h.wt⟩
theorem zdy{e:TypeId}(h:w.ownsRow lo e sz v n xs)(hl:lo'<=lo):w.ownsRow lo' e sz v n xs:=by
 refine⟨h.1,?_⟩;rcases h.2 with h2|⟨g,cap,cur,h1,h2,h3⟩
 ·exact .inl h2
 ·exact .inr ⟨g,cap,cur,h1,by omega,h3⟩
theorem zd7{e:TypeId}(h:w.ownsRow lo e sz v n xs)(hk:∀k,lo<=k->k<w.heap.size->w'.heap[k]?=w.heap[k]?):w'.ownsRow lo e sz v n xs:=by
 refine⟨h.1,?_⟩;rcases h.2 with h2|⟨g,cap,cur,h1,h2,h3,h4⟩
 ·exact .inl h2
 ·exact .inr ⟨g,cap,cur,h1,h2,(hk g h2 (zrc.1 h3).1).trans h3,h4⟩
theorem PcAt.keep(h:PcAt lo w pl Q a p)(hl:lo'<=lo)(hk:∀k,lo<=k->k<w.heap.size->w'.heap[k]?=w.heap[k]?)(hm:zaJ w w')(hQ:∀k q,Q k=some q->Q' k=some q):PcAt lo' w' pl Q' a p:=by
 induction h with
 |leaf a p h1 h2=>exact .leaf a p (h1.keep hl hk hm hQ) h2
 |group a a' b g h1 _ ih=>exact .group a a' b g (h1.keep hl hk hm hQ) ih
 |choice a l r go cap xs h1 h2 h3 _ ih=>exact .choice a l r go cap xs (h1.keep hl hk hm hQ) (zdy (zd7 h2 hk) hl) h3 ih
 |chain a p go cap xs h1 h2 h3 h4 h5 h6 h7 _ ih=>exact .chain a p go cap xs (h1.keep hl hk hm hQ) (zdy (zd7 h2 hk) hl) h3 h4 h5 h6 h7 ih
 |rounds a a' b h1 _ ih=>exact .rounds a a' b (h1.keep hl hk hm hQ) ih
theorem PcAt.blk(h:PcAt lo w pl Q a p):∃f,PcB lo w pl Q a p f/\(f=.nilIface->noG p)/\(f=.nilIface\/∃t x,f=.iface t x):=by
 cases h with
 |leaf _ _ h1 h2=>exact⟨_,h1,fun _=>h2,.inl rfl⟩
 |group _ a' b g h1 _=>exact⟨_,h1,fun e=>(by cases e),.inr ⟨_,_,rfl⟩⟩
 |choice _ l r go cap xs h1 _ _ _=>exact⟨_,h1,fun e=>(by cases e),.inr ⟨_,_,rfl⟩⟩
 |chain _ _ go cap xs h1 _ _ _ _ _ _ _=>exact⟨_,h1,fun e=>(by cases e),.inr ⟨_,_,rfl⟩⟩
 |rounds _ a' b h1 _=>exact⟨_,h1,fun e=>(by cases e),.inr ⟨_,_,rfl⟩⟩
def PcM(B:Nat)(w:World)(pl:Nat)(Q:Nat->Option Pt):Prop:=∀a q,Q a=some q->B<=a/\wPt q<=2000/\∃v f,w.heap[a]?=some (.cells #[.pointer (some ⟨pl,0,none⟩),v,f,.pointer none] 114 (0,0))/\zai w v q
theorem PcM.keep{B':Nat}(h:PcM B w pl Q)(hl:B'<=B)(hk:∀k,B<=k->k<w.heap.size->w'.heap[k]?=w.heap[k]?)(hm:zaJ w w'):PcM B' w' pl Q:=fun a q hq=>by
 obtain⟨h1,h2,v,f,h3,h4⟩:=h a q hq;exact⟨by omega,h2,v,f,(hk a h1 (zrc.1 h3).1).trans h3,zai.keep hm q v h4⟩
def qU(Q R:Nat->Option Pt)(k:Nat):Option Pt:=match Q k with
 |some q=>some q
 |none=>R k
theorem zjU(h:Q k=some q):qU Q R k=some q:=by unfold qU;rw[h]
theorem zhp(h0:Q k=none)(h:R k=some q):qU Q R k=some q:=by unfold qU;rw[h0];exact h
theorem zq9(h:qU Q R k=some q):Q k=some q\/R k=some q:=by
 unfold qU at h;split at h
 ·rename_i q' hq;rw[hq];exact .inl h
 ·exact .inr h
theorem PcM.below0(h:PcM B w pl Q){k:Nat}(hk:k<B):Q k=none:=by
 cases hq:Q k with
 |none=>rfl
 |some q=>have:=(h k q hq).1;omega
theorem PcM.high(h:PcM B w pl Q){k:Nat}(hk:w.heap.size<=k):Q k=none:=by
 cases hq:Q k with
 |none=>rfl
 |some q=>
  obtain⟨_,_,v,f,h3,_⟩:=h k q hq;have:=(zrc.1 h3).1;omega
theorem PcM.union(h:PcM B w pl Q)(k:PcM B w pl R):PcM B w pl (qU Q R):=fun a q hq=>(zq9 hq).elim (h a q) (k a q)
def qOne(a:Nat)(p:Pt)(k:Nat):Option Pt:=if k=a then some p else none
theorem zfW(a:Nat)(p:Pt):qOne a p a=some p:=zst rfl
theorem zjT(h:qOne a p k=some q):k=a/\p=q:=by
 unfold qOne at h;split at h
 ·rename_i e;exact⟨e,Option.some.inj h⟩
 ·cases h
theorem PcM.nothing(B:Nat)(w:World)(pl:Nat):PcM B w pl (fun _=>none):=fun a q h=>by cases h
def PcR(w:World)(pl:Nat)(p:Pt)(e:Ending)(w':World):Prop:=
 ∃(a:Nat) (Q:Nat->Option Pt),e=.returned (.pointer (some ⟨a,0,none⟩))/\Below w.heap.size w w'/\PcM w.heap.size w' pl Q/\PcAt w.heap.size w' pl Q a p
def zce(p:Pt):Prop:=∀(pl:Nat) (v:Value) (w:World),zai w v p->wPt p<=2000->Calls Tryz.prog 40 #[.pointer (some ⟨pl,0,none⟩),v] w fun e w'=>PcR w pl p e w'
theorem zfk{x y:Int}(h:capW x<=2000)(hxy:y<=x):y<=2000:=by unfold capW at h;split at h<;>omega
theorem zqw{b:Pt}{mn mx:Int}(hT:zai w v (.rep b mn mx))(hw:wPt (.rep b mn mx)<=2000):wPt b<=2000:=by
 obtain⟨lv,_,h1,h2⟩:=hT;have h3:=za8 b _ h1;have hc:=zcg h2;refine zfk (x:=wPt b*zaL mn mx) hw ?_;have:wPt b*1<=wPt b*zaL mn mx:=Int.mul_le_mul_of_nonneg_left (by omega) (by omega);omega
theorem zeh{l r:Pt}(hT:zai w v (.seq l r)\/zai w v (.alt l r))(hw:capW (wPt l+wPt r)<=2000):wPt l<=2000/\wPt r<=2000:=by
 have:∃lv rv,zai w lv l/\zai w rv r:=by
  rcases hT with ⟨lv,rv,_,h1,h2⟩|⟨lv,rv,_,h1,h2⟩<;>exact⟨lv,rv,h1,h2⟩
 obtain⟨lv,rv,h1,h2⟩:=this;have h3:=za8 l _ h1;have h4:=za8 r _ h2;exact⟨zfk hw (by omega),zfk hw (by omega)⟩
theorem zcV:∀(p:Pt) (v:Value),zai w v p->OkP p
 |.set _,_,_=>trivial
 |.seq l r,_,⟨_,_,_,h1,h2⟩=>⟨zcV l _ h1,zcV r _ h2⟩
 |.alt l r,_,⟨_,_,_,h1,h2⟩=>⟨zcV l _ h1,zcV r _ h2⟩
 |.rep b mn mx,_,⟨_,_,h1,h2⟩=>by
  refine⟨zcV b _ h1,?_⟩;simp[zaD] at h2;omega
 |.grp b _,_,⟨_,_,h1⟩=>zcV b _ h1
end Go.Proofs.YthdljcdbfmhleaaGreatDoor
