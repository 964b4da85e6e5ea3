import Derived.Test.YtfajjdgkiilhfaaGreatDoorC40
namespace Go.Proofs.YtfajjdgkiilhfaaGreatDoor
open Proofs.Tryz
open Option renaming none->za,some->zb
open Value renaming slice->zc,int->zd
open Obj renaming cells->ze
set_option maxHeartbeats 8000000
set_option maxRecDepth 100000
open Go.RowKit
attribute [local go_sem ↓] wp_at_zero wp_at_succ
section
variable {d:aL}{c:List UInt8}
theorem ziX(h:eI d/\d.next.length<=65536):d.ai.length<=65536/\d.next.length<=65536/\d.tag.length<=65536/\d.fin.length<=65536:=by
 have h1:=h.1.cl;have h2:=h.1.n2;have h3:=h.1.fl;omega
theorem znm(h:eI d/\d.next.length<=65536)(a:Nat):zS (qf c d a).1:=by
 have hs:=ziX h;unfold qf;generalize (ae c 9 a).1=x;generalize (ae c 9 a).2=y;have key:∀d2:aL,d2.ai.length<=65536->d2.next.length<=65536->d2.tag.length<=65536->d2.fin.length<=65537->zS d2:=λd2 h1 h2 h3 h4=>⟨by omega,by omega,by omega,by omega⟩
 unfold Y8;split
 ·exact key _ (by rw[jQ];exact hs.1) hs.2.1 hs.2.2.1 (FF hs.2.2.2)
 split
 ·exact key _ (by show (d.ai.take 255).length<=_;rw[rP];omega) hs.2.1 hs.2.2.1 (FF hs.2.2.2)
 split
 ·exact key _ hs.1 hs.2.1 hs.2.2.1 (FF hs.2.2.2)
 split
 ·exact key _ hs.1 (by rw[jQ];exact hs.2.1) hs.2.2.1 (FF hs.2.2.2)
 split
 ·exact key _ hs.1 hs.2.1 (by rw[jQ];exact hs.2.2.1) (FF hs.2.2.2)
 split
 ·exact key _ hs.1 hs.2.1 hs.2.2.1 (by rw[jQ];exact FF hs.2.2.2)
 split
 ·exact key _ hs.1 hs.2.1 hs.2.2.1 (by show (d.fin++[-1]).length<=_;rw[aQ];have:=hs.2.2.2;show d.fin.length+1<=_;omega)
 split
 ·exact key _ hs.1 (by show (d.next.take (d.next.length-1)).length<=_;rw[rP];omega) hs.2.2.1 (FF hs.2.2.2)
 ·exact key _ hs.1 (by rw[jQ];exact hs.2.1) hs.2.2.1 (FF hs.2.2.2)
theorem zpF(c:List UInt8)(a:Nat):zS (AG c a).1:=by
 have b:=ue (c:=c) (a:=a) (n:=2) (by omega);have hn:(4000+(ae c 2 a).1).toNat<=4001:=by omega
 unfold AG;generalize (4000+(ae c 2 a).1).toNat=n at *;generalize (ae c 2 a).2=y;refine⟨?_,?_,?_,?_⟩
 ·show (eY 256).length<=_;rw[C8];omega
 ·show (kP c n y 5).1.length<=_;rw[OU];omega
 ·show ((eY n).set _ _).length<=_;rw[jQ,C8];omega
 ·show (eY n).length<=_;rw[C8];omega
theorem ziQ(parts:Array (Nat×Value)):Instr.build 41 parts=xr 41 parts:=rfl
theorem zvH(ao:Option Addr)(n m:Nat)(W:World):(xr 41 #[(0,.slice ao n m)]).run prog W=.ok (.agg #[.slice ao n m,zd .i64 0,zd .i64 0]) W:=run_build W _ _ _ (by kernel_rfl)
attribute [local go_sem ↓] ziQ
def Dh(w:World)(ao:Option Addr)(c:List UInt8):Prop:=0<c.length->∃b o,ao=zb ⟨b,o,za⟩/\b<w.heap.size/\∀k,k<c.length->w.cell? ⟨b,o+k,za⟩=zb (.int .u8 ((c.getD k 0).toNat:Int))
theorem Dh.below{w w':World}{ao:Option Addr}(h:Dh w ao c)(hb:Below w.heap.size w w'):Dh w' ao c:=λh0=>by
 obtain⟨b,o,e,hl,hk⟩:=h h0;exact⟨b,o,e,dR hl hb.size,λk bu=>(hb.cell (p:=⟨b,o+k,za⟩) hl).trans (hk k bu)⟩
end
section
def vN(k:Nat):List Int:=(List.range k).map λ(ch:Nat)=>255-(ch:Int)
theorem T4(k:Nat):(vN k).length=k:=by simp[vN]
theorem zqk(k:Nat):vN (k+1)=vN k++[255-(k:Int)]:=by simp[vN,List.range_succ]
def Fo(aU:Int)(s k:Nat):Int:=if s=235/\1<=k/\(k:Int)<=aU then 7 else if s<235 then (k:Int) else 0
def xF(aU:Int)(s:Nat)(x:List Int)(j:Nat):List Int:=x++(List.range j).map (Fo aU s)
theorem zqn(aU:Int)(s:Nat)(x:List Int):xF aU s x 0=x:=by simp[xF]
theorem zqm(aU:Int)(s:Nat)(x:List Int)(j:Nat):xF aU s x (j+1)=xF aU s x j++[Fo aU s j]:=by simp[xF,List.range_succ]
theorem znH(aU:Int)(s:Nat)(x:List Int)(j:Nat):(xF aU s x j).length=x.length+j:=by simp[xF]
def xE(aU:Int):Nat->List Int
 |0=>[]
 |s+1=>xF aU s (xE aU s) 256
theorem T5(aU:Int):∀s,(xE aU s).length=256*s
 |0=>rfl
 |s+1=>by rw[xE,znH,T5 aU s];omega
def yZ(s:Nat):List Int:=List.replicate s (-1)
theorem zjK(s:Nat):(yZ s).length=s:=by simp[yZ]
theorem zqo(s:Nat):yZ (s+1)=yZ s++[-1]:=by simp[yZ,List.replicate_succ']
def yY(s:Nat):List Int:=(List.range s).map λ(k:Nat)=>((k%3:Nat):Int)-1
theorem zjJ(s:Nat):(yY s).length=s:=by simp[yY]
theorem zql(s:Nat):yY (s+1)=yY s++[((s%3:Nat):Int)-1]:=by simp[yY,List.range_succ]
def Un(aU:Int):aL:=⟨vN 256,256,xE aU 300,yZ 300,yY 300⟩
def Fp(c:List UInt8)(a:Nat):aL×Nat:=(Un (74+(ae c 3 a).1-1),(ae c 3 a).2)
theorem zoR(c:List UInt8)(a:Nat):zS (Fp c a).1:=by
 unfold Fp Un;refine⟨?_,?_,?_,?_⟩
 ·show (vN 256).length<=_;rw[T4];omega
 ·show (xE _ 300).length<=_;rw[T5];omega
 ·show (yZ 300).length<=_;rw[zjK];omega
 ·show (yY 300).length<=_;rw[zjJ];omega
attribute [local go_sem ↓] ziR
theorem zoQ(w:World)(p:Nat)(c:List UInt8)(a:Nat)(r:Int)(h:aR w p c a r):
  Calls prog 18 #[.pointer (zb ⟨p,0,za⟩)] w (Ae p w c (Fp c a).1 (Fp c a).2 r):=by
 have du:=h.lt;obtain⟨W0,aw⟩:∃W0,w.alloc (ze bI 25)=W0:=⟨_,rfl⟩;have aD:Below w.heap.size w W0:=by rw[<-aw];exact ax
 have x0:W0.heap[w.heap.size]?=zb (ze bI 25 (0,0)):=by rw[<-aw];exact aJ _ _
 have pj:W0.heap.size=w.heap.size+1:=by rw[<-aw];simp
 obtain⟨W2,fe⟩:∃W2,W0.alloc (ze #[zc za 0 0,zd .i64 256,zc za 0 0,zc za 0 0,zc za 0 0] 25)=W2:=⟨_,rfl⟩;have aB:Below W0.heap.size W0 W2:=by rw[<-fe];exact ax
 have g2:W2.heap[w.heap.size+1]?=zb (ze #[zc za 0 0,zd .i64 256,zc za 0 0,zc za 0 0,zc za 0 0] 25 (0,0)):=by rw[<-pj,<-fe];exact aJ _ _
 have HI:Hid (eZ p w w.heap.size w.heap.size (w.heap.size+1) W2 256 (λ_=>zc za 0 0) (L4 (vN 0) [] [] [])):=
  ⟨zp9 (aI.nil _ _ _) rfl rfl rfl rfl,g2,aT x0 aB,(aE.of (p:=p) aD).trans (.of aB),by omega⟩
 have HD:=ar ((h.keep (w':=W0) λk hk=>aD.block k (by omega)).keep (w':=W2) λk hk=>aB.block k (by omega));have HP:=ar λW (hW:aR W p c a r)=>rK W p c a r hW 3 (by omega)
 have sg:=jL h.le 3;have HF:Hid (Fp c a=(Un (74+(ae c 3 a).1-1),(ae c 3 a).2)):=rfl;obtain⟨x3,y3,sA⟩:∃x y,ae c 3 a=(x,y):=⟨_,_,rfl⟩;rw[sA]at HP HF sg;obtain⟨l30,l31⟩:0<=x3/\x3<=2:=by have h1:=sg.2.1;have h2:=sg.2.2;simp only at h1 h2;omega
 have qD:=zrw 256;have lI:=ar fe;unfold bI at aw;clear sg sA aD x0 aB g2 h fe
 go_enter func18,ntmps18
 go_wp2;rw[lI.out];clear qD lI pj aw
 go_loopw [5] (λi wr=>∃k:Nat,k<=256/\i=zd .i64 k/\∃v,eZ p w w.heap.size w.heap.size (w.heap.size+1) wr 256 v (L4 (vN k) [] [] [])/\aR wr p c a r) (λi _=>256-(intOf i).toNat)
 case atStart=>exact⟨0,by omega,rfl,_,HI.out,HD.out⟩
 case round=>
  clear HI HD;obtain⟨k,hk,rfl,v,hS,hC⟩:=hrel;have HS:=ar hS;have HC:=ar hC;have hsz:=ay HS.out.bw;clear hS hC
  by_cases hlt:k<256
  ·have Cm:(k:Int)<256:=by omega
   obtain⟨⟨a0,c0⟩,iI⟩:=dQ (HS.out.au.own 0 (by omega));rw[show L4 (vN k) [] [] [] 0=vN k from rfl,T4]at iI;have HV:Hid (v 0=.slice a0 k c0):=iI;have e2:wr.cell? ⟨w.heap.size+1,0,za⟩=zb (.slice a0 k c0):=by rw[<-HV.out];exact(cE HS.out.box).1
   have HK:=ar (zqk k);clear iI
   go_wp2_with (at_builtin;refine kJ HS.out.au _ rfl rfl (.tmp 16) (.tmp 19) rfl 0 (by omega) (vN k) rfl k (T4 _) (by exact HV.out.symm) _ rfl (by omega) hsz ?_;intro g2 d2 V2 hF2 dE;obtain⟨dr,J2⟩:=HS.out.field (i:=0) (by omega) 0 rfl hF2 dE;have pG:=ar (HS.out.rY HC.out (i:=0) (by omega) dE 0 (zc (zb ⟨g2,0,za⟩) (k+1) d2));have qb:=(cE dr).1;rw[HV.out]at qb;have oA:=aM _ _ 0 _ _ dr;have kg:=ar J2;clear hF2 dE dr J2)
   go_roundw
   case rel=>exact⟨k+1,by omega,by go_num,_,by rw[HK.out];exact kg.out.to rfl rfl rfl rfl,pG.out⟩
   case measure=>simp[intOf];omega
  ·have lK:k=256:=by omega
   have fX:¬(k:Int)<256:=by omega
   rw[lK]at HS;have vt:=ar (T4 256);have wi:=HP.out wr HC.out;unfold Un at HF;generalize vN 256=cl at *;clear hk hlt lK HP HC hsz
   go_wp2_with fail
   refine wi.mono ?_;rintro e w1 ⟨rfl,eM,bO⟩;have gL:Hid (eZ p w w.heap.size w.heap.size (w.heap.size+1) w1 256 v (L4 cl (xE (74+x3-1) 0) (yZ 0) (yY 0))):=HS.out.kp bO;have qX:=ar eM;obtain⟨O,hO⟩:∃O,74+x3-1=O:=⟨_,rfl⟩;have Q8:73<=O/\O<=75:=by omega
   rw[hO]at HF gL;clear wi HS eM bO fX;go_wp2;clear hO l30 l31
   go_loopw [7] (λi wr=>∃s:Nat,s<=300/\i=zd .i64 s/\∃v,eZ p w w.heap.size w.heap.size (w.heap.size+1) wr 256 v (L4 cl (xE O s) (yZ s) (yY s))/\aR wr p c y3 r) (λi _=>300-(intOf i).toNat)
   case atStart=>exact⟨0,by omega,rfl,_,gL.out,qX.out⟩
   case round=>
    clear gL qX v;obtain⟨s,hs,rfl,v,hS,hC⟩:=hrel;have HS:=ar hS;have HC:=ar hC;clear hS hC
    by_cases Nu:s<300
    ·have zBT:(s:Int)<300:=by omega
     have Ma:Hid (xE O (s+1)=xF O s (xE O s) 256):=rfl;have DB:=ar (T5 O s);have FZ:=ar (zqo s);have HES:=ar (zql s);have PZ:=ar (zjK s);have PH:=ar (zjJ s);generalize xE O s=nx at *;generalize yZ s=tg at *;generalize yY s=fn at *;go_wp2
     go_loopw [8] (λi wr=>∃j:Nat,j<=256/\i=zd .i64 j/\∃v,eZ p w w.heap.size w.heap.size (w.heap.size+1) wr 256 v (L4 cl (xF O s nx j) tg fn)/\aR wr p c y3 r) (λi _=>256-(intOf i).toNat)
     case atStart=>exact⟨0,by omega,rfl,_,by rw[zqn];exact HS.out,HC.out⟩
     case round=>
      clear HS HC v;obtain⟨j,hj,rfl,v,hS,hC⟩:=hrel;have HS:=ar hS;have HC:=ar hC;have hsz:=ay HS.out.bw;clear hS hC
      by_cases GR:j<256
      ·have zza:(j:Int)<256:=by omega
       have vw:=ar (zqm O s nx j);obtain⟨m,hm⟩:∃m,(xF O s nx j).length=m:=⟨_,rfl⟩;have fZ:m<=100000:=by have h1:=znH O s nx j;have h2:=DB.out;omega
       have HM:=ar hm;generalize xF O s nx j=xs at *;obtain⟨⟨a1,c1⟩,jY⟩:=dQ (HS.out.au.own 1 (by omega));rw[show L4 cl xs tg fn 1=xs from rfl,hm]at jY;have HV:Hid (v 1=.slice a1 m c1):=jY;have e2:wr.cell? ⟨w.heap.size+1,2,za⟩=zb (.slice a1 m c1):=by rw[<-HV.out];exact(cE HS.out.box).2.2.1
       have M9:((s:Int)<235/\((s:Int)==235)=false/\Fo O s j=(j:Int))\/(¬(s:Int)<235/\((s:Int)==235)=false/\Fo O s j=0)\/(¬(s:Int)<235/\((s:Int)==235)=true/\¬(1:Int)<=(j:Int)/\Fo O s j=0)\/(¬(s:Int)<235/\((s:Int)==235)=true/\(1:Int)<=(j:Int)/\¬(j:Int)<=O/\Fo O s j=0)\/(¬(s:Int)<235/\((s:Int)==235)=true/\(1:Int)<=(j:Int)/\(j:Int)<=O/\Fo O s j=7):=by
        unfold Fo
        by_cases q1:s<235
        ·exact .inl ⟨by omega,by simp;omega,by rw[ab (by omega),af q1]⟩
        by_cases q2:s=235
        ·subst q2
         by_cases q3:1<=j
         ·by_cases q4:(j:Int)<=O
          ·exact .inr (.inr (.inr (.inr ⟨by omega,rfl,by omega,q4,by rw[af ⟨rfl,q3,q4⟩]⟩)))
          ·exact .inr (.inr (.inr (.inl ⟨by omega,rfl,by omega,q4,by rw[ab (by omega),ab q1]⟩)))
         ·exact .inr (.inr (.inl ⟨by omega,rfl,by omega,by rw[ab (by omega),ab q1]⟩))
        ·exact .inr (.inl ⟨by omega,by simp;omega,by rw[ab (by omega),ab q1]⟩)
       clear jY hm DB;rcases M9 with ⟨b1,b2,b3⟩|⟨b1,b2,b3⟩|⟨b1,b2,b4,b3⟩|⟨b1,b2,b4,b5,b3⟩|⟨b1,b2,b4,b5,b3⟩
       all_goals
        rw[b3]at vw;clear b3
        go_wp2_with (at_builtin;refine kJ HS.out.au _ rfl rfl (.tmp 50) (.tmp 52) rfl 1 (by omega) xs rfl m HM.out (by exact HV.out.symm) _ rfl (by omega) hsz ?_;intro g2 d2 V2 hF2 dE;obtain⟨dr,J2⟩:=HS.out.field (i:=1) (by omega) 2 rfl hF2 dE;have pG:=ar (HS.out.rY HC.out (i:=1) (by omega) dE 2 (zc (zb ⟨g2,0,za⟩) (m+1) d2));have qb:=(cE dr).2.2.1;rw[HV.out]at qb;have oA:=aM _ _ 2 _ _ dr;have kg:=ar J2;clear hF2 dE dr J2)
        go_roundw
        case rel=>exact⟨j+1,by omega,by go_num,_,by rw[vw.out];exact kg.out.to rfl rfl rfl rfl,pG.out⟩
        case measure=>simp[intOf];omega
      ·have hj6:j=256:=by omega
       have zDm:¬(j:Int)<256:=by omega
       obtain⟨ny,Ye⟩:∃ny,xE O (s+1)=ny:=⟨_,rfl⟩;rw[hj6,<-Ma.out,Ye]at HS;have Hny:=ar Ye;clear Ye Ma;obtain⟨⟨a2,c2⟩,eP⟩:=dQ (HS.out.au.own 2 (by omega));rw[show L4 cl ny tg fn 2=tg from rfl,PZ.out]at eP;obtain⟨⟨a3,c3⟩,fi⟩:=dQ (HS.out.au.own 3 (by omega));rw[show L4 cl ny tg fn 3=fn from rfl,PH.out]at fi;have nA:Hid (v 2=.slice a2 s c2):=eP;have uv:Hid (v 3=.slice a3 s c3):=fi;have e2:wr.cell? ⟨w.heap.size+1,3,za⟩=zb (.slice a2 s c2):=by rw[<-nA.out];exact(cE HS.out.box).2.2.2.1
       clear eP fi GR hj hj6
       go_upto_region 21 with (at_builtin;refine kJ HS.out.au _ rfl rfl (.tmp 56) (.tmp 57) rfl 2 (by omega) tg rfl s PZ.out (by exact nA.out.symm) _ rfl (by omega) hsz ?_;intro g2 d2 V2 hF2 dE;obtain⟨dr,J2⟩:=HS.out.field (i:=2) (by omega) 3 rfl hF2 dE;have pG:=ar (HS.out.rY HC.out (i:=2) (by omega) dE 3 (zc (zb ⟨g2,0,za⟩) (s+1) d2));have qb:=(cE dr).2.2.2.1;rw[nA.out]at qb;have oA:=aM _ _ 3 _ _ dr;have kg:=ar J2;clear hF2 dE dr J2)
       have er:=ar (kg.out.to (a:=cl) (b:=ny) (c:=tg++[-1]) (d:=fn) rfl rfl rfl rfl);have th:Hid (upd v 2 (zc (zb ⟨g2,0,za⟩) (s+1) d2) 3=.slice a3 s c3):=uv.out;generalize upd v 2 (zc (zb ⟨g2,0,za⟩) (s+1) d2)=v9 at *;generalize hU:V2.setCell ⟨w.heap.size+1,3,za⟩ (zc (zb ⟨g2,0,za⟩) (s+1) d2)=U at *;have hsz:=ay er.out.bw;have e3:U.cell? ⟨w.heap.size+1,4,za⟩=zb (.slice a3 s c3):=by rw[<-th.out];exact(cE er.out.box).2.2.2.2
       clear kg qb oA e2 HS HC hU;have Si:(s:Int)%3=((s%3:Nat):Int):=by omega
       have zB7:s%3<3:=Nat.mod_lt _ (by omega);generalize s%3=z at *
       go_wp2_with (at_builtin;refine kJ er.out.au _ rfl rfl (.tmp 61) (.tmp 65) rfl 3 (by omega) fn rfl s PH.out (by exact th.out.symm) _ rfl (by omega) hsz ?_;intro g5 d5 V5 hF2 kV;obtain⟨dr,J2⟩:=er.out.field (i:=3) (by omega) 4 rfl hF2 kV;have BN:=ar (er.out.rY pG.out (i:=3) (by omega) kV 4 (zc (zb ⟨g5,0,za⟩) (s+1) d5));have CK:=(cE dr).2.2.2.2;rw[th.out]at CK;have D8:=aM _ _ 4 _ _ dr;have vv:=ar J2;clear hF2 kV dr J2)
       go_roundw
       case rel=>exact⟨s+1,by omega,by go_num,_,by rw[FZ.out,HES.out,Hny.out];exact vv.out.to rfl rfl rfl rfl,BN.out⟩
       case measure=>simp[intOf];omega
    ·have G6:s=300:=by omega
     have zDn:¬(s:Int)<300:=by omega
     rw[G6]at HS;have te:=ar HS.out;have DB:=ar (T5 O 300);have PZ:=ar (zjK 300);have PH:=ar (zjJ 300);generalize xE O 300=nx at *;generalize yZ 300=tg at *;generalize yY 300=fn at *;obtain⟨⟨a0,c0⟩,iI⟩:=dQ (te.out.au.own 0 (by omega));obtain⟨⟨a1,c1⟩,jY⟩:=dQ (te.out.au.own 1 (by omega));obtain⟨⟨a2,c2⟩,eP⟩:=dQ (te.out.au.own 2 (by omega));obtain⟨⟨a3,c3⟩,fi⟩:=dQ (te.out.au.own 3 (by omega));have HE:=ar (te.out.done HC.out (by
      intro i hi
      match i,hi with
      |0,_=>show cl.length<=_;have h0:=vt.out;omega
      |1,_=>show nx.length<=_;have h0:=DB.out;omega
      |2,_=>show tg.length<=_;have h0:=PZ.out;omega
      |3,_=>show fn.length<=_;have h0:=PH.out;omega))
     obtain⟨b0,b1,b2,b3,b4⟩:=cE te.out.box;have dK:=te.out.bw;have r0:=aM _ _ 0 _ _ dK;have r1:=aM _ _ 1 _ _ dK;have r2:=aM _ _ 2 _ _ dK;have r3:=aM _ _ 3 _ _ dK;have r4:=aM _ _ 4 _ _ dK;unfold bI at dK;obtain⟨z0,z1,z2,z3,z4⟩:=dM dK;simp only at iI jY eP fi;rw[iI,jY,eP,fi]at HE;rw[iI]at b0;rw[jY]at b2;rw[eP]at b3;rw[fi]at b4;clear dK iI jY eP fi HS hs Nu G6;go_wp2;refine aW (v:=_) (by simp[results,results18,go_sem,z0,z1,z2,z3,z4];rfl) rfl ?_;rw[HF.out];exact⟨_,_,_,_,rfl,HE.out⟩
end
section
noncomputable def H5 (c:List UInt8):aL:=
 if (oT c 0).1=1 then (qf c (rj c (oT c 0).2 0).d (rj c (oT c 0).2 0).a).1
 else if (oT c 0).1=2 then (if (ae c 2 (oT c 0).2).1=1 then (Fp c (ae c 2 (oT c 0).2).2).1 else (AG c (ae c 2 (oT c 0).2).2).1)
 else (rj c (oT c 0).2 0).d
theorem zq7(c:List UInt8):zS (H5 c):=by
 unfold H5;split
 ·exact znm (zp5 _ _ _) _
 split
 ·split
  ·exact zoR _ _
  ·exact zpF _ _
 ·have:=ziX (zp5 c (oT c 0).2 0);exact⟨by omega,by omega,by omega,by omega⟩
attribute [local go_sem ↓] ziQ
theorem zmG(w:World)(c:List UInt8)(ao:Option Addr)(cap:Nat)(hc:Dh w ao c)(hlen:c.length<=1048576):
  Calls prog 4 #[.slice ao c.length cap] w λe w'=>∃cv nv tv ev,e=.returned (.agg #[cv,zd .i64 (H5 c).width,nv,tv,ev])/\dP w.heap.size w' cv nv tv ev (H5 c)/\Bt nv/\Below w.heap.size w w':=by
 obtain⟨W0,aw⟩:∃W0,w.alloc (ze bI 25)=W0:=⟨_,rfl⟩;have aD:Below w.heap.size w W0:=by rw[<-aw];exact ax
 have x0:W0.heap[w.heap.size]?=zb (ze bI 25 (0,0)):=by rw[<-aw];exact aJ _ _
 have pj:W0.heap.size=w.heap.size+1:=by rw[<-aw];simp
 obtain⟨W1,cZ⟩:∃W1,W0.alloc (ze #[.slice ao c.length cap,zd .i64 0,zd .i64 0] 41)=W1:=⟨_,rfl⟩;have aO:Below W0.heap.size W0 W1:=by rw[<-cZ];exact ax
 have x1:W1.heap[w.heap.size+1]?=zb (ze #[.slice ao c.length cap,zd .i64 0,zd .i64 0] 41 (0,0)):=by rw[<-pj,<-cZ];exact aJ _ _
 have hb:Below w.heap.size w W1:=aH aD aD.size aO;have hD:aR W1 (w.heap.size+1) c 0 0:=by
  refine⟨⟨ao,cap,x1,λh0=>?_⟩,hlen,dz _⟩;obtain⟨b,o,e,hl,hk⟩:=hc h0;exact⟨b,o,e,by omega,λk bu=>(hb.cell (p:=⟨b,o+k,za⟩) hl).trans (hk k bu)⟩
 have Kb:=zsq W1 (w.heap.size+1) c 0 0 hD;have X1:=aT x0 aO;have hrC:=zvH;have HF:Hid (H5 c=if (oT c 0).1=1 then (qf c (rj c (oT c 0).2 0).d (rj c (oT c 0).2 0).a).1 else if (oT c 0).1=2 then (if (ae c 2 (oT c 0).2).1=1 then (Fp c (ae c 2 (oT c 0).2).2).1 else (AG c (ae c 2 (oT c 0).2).2).1) else (rj c (oT c 0).2 0).d):=rfl;generalize H5 c=D at *
 /- the end,for whatever was drawn -/
 have Av:Hid (∀(d:aL) (w3:World) (a0 a1 a2 a3:Option Addr) (n0 c0 n1 c1 n2 c2 n3 c3:Nat) (lo:Nat),w.heap.size+1<=lo->dP lo w3 (.slice a0 n0 c0) (.slice a1 n1 c1) (.slice a2 n2 c2) (.slice a3 n3 c3) d->aE (w.heap.size+1) W1 w3->
   dP w.heap.size (ff w3 w.heap.size (.slice a0 n0 c0) (zd .i64 d.width) (.slice a1 n1 c1) (.slice a2 n2 c2) (.slice a3 n3 c3)) (.slice a0 n0 c0) (.slice a1 n1 c1) (.slice a2 n2 c2) (.slice a3 n3 c3) d/\Below w.heap.size w (ff w3 w.heap.size (.slice a0 n0 c0) (zd .i64 d.width) (.slice a1 n1 c1) (.slice a2 n2 c2) (.slice a3 n3 c3))/\w3.heap[w.heap.size]?=zb (ze bI 25 (0,0))):=by
  intro d w3 a0 a1 a2 a3 n0 c0 n1 c1 n2 c2 n3 c3 lo nJ pL bQ;have cI:=aO.size;have Jt:Below w.heap.size w w3:=⟨bQ.os.trans hb.os,bQ.tape.trans hb.tape,bQ.output.trans hb.output,cY hb.size bQ.size,λk hk=>(bQ.block k (by omega) (by omega)).trans (hb.block k hk)⟩;exact⟨(pL.ff (b:=w.heap.size) (by omega) _ _ _ _ _).low (show w.heap.size<=_ by omega),Ig Jt (aq _) _ _ _ _ _,(bQ.block _ (ay X1) (by omega)).trans X1⟩
 obtain⟨x,y,hx⟩:∃x y,oT c 0=(x,y):=⟨_,_,rfl⟩;rw[hx]at Kb HF;unfold bI at aw;obtain⟨n,hn⟩:∃n,c.length=n:=⟨_,rfl⟩;rw[hn]at cZ ⊢;clear hn x1 x0 aD aO hD hx hb hc hlen
 go_enter func4,ntmps4
 go_wp2_with fail
 refine Kb.mono ?_;rintro e w1 ⟨rfl,eM,bO⟩;have r8:w.heap.size+1<w1.heap.size:=eM.lt;clear Kb hrC aw cZ X1;have Nf:=zoK w1 (w.heap.size+1) c y 0 eM;have nL:=zp5 c y 0
 by_cases h1:x=1
 ·subst h1;have HE:=ah (HF.out.trans (af rfl));generalize rj c y 0=dw at *;obtain⟨d,yd,rd⟩:=dw;clear HF
  go_wp2_with fail
  refine Nf.mono ?_;rintro e w2 ⟨cv,nv,tv,ev,rfl,⟨hD2,_⟩,eQ,bu⟩;have pV:=bu.size;have hsp:=znl w2 (w.heap.size+1) c yd rd eQ cv nv tv ev d (hD2.low (by omega)) nL.1 nL.2
  go_wp2_with fail
  refine hsp.mono ?_;rintro e w3 ⟨Mw,zK,Ze,fi,rfl,⟨pL,tP⟩,eU,bQ⟩;obtain⟨a0,n0,c0,a1,n1,c1,a2,n2,c2,a3,n3,c3,rfl,rfl,rfl,rfl⟩:=pL.form;obtain⟨hA,hB,X3⟩:=Av.out _ w3 _ _ _ _ _ _ _ _ _ _ _ _ _ (by omega) pL ((bO.trans bu).trans bQ);have HA:=ah hA;have HB:=ah hB;have HC:=ah tP;unfold bI at X3;obtain⟨⟨z0,z1,z2,z3,z4⟩,f0,f1,f2,f3,f4⟩:=CU X3;clear Nf hsp pL eU bQ hD2 eQ bu X3 eM nL bO hA hB tP Av;go_wp2;refine aW (v:=_) (by simp[results,results4,go_sem,z0,z1,z2,z3,z4];rfl) rfl ?_;rw[HE.out];exact⟨_,_,_,_,rfl,HA.out,HC.out,HB.out⟩
 have m1:(x==1)=false:=by simp[h1]
 by_cases h2:x=2
 ·subst h2;have HE:=ah ((HF.out.trans (ab h1)).trans (af rfl));have wi:=rK w1 (w.heap.size+1) c y 0 eM 2 (by omega);obtain⟨u,y2,hu⟩:∃u y2,ae c 2 y=(u,y2):=⟨_,_,rfl⟩;rw[hu]at wi HE;clear HF Nf nL hu
  go_wp2_with fail
  refine wi.mono ?_;rintro e w2 ⟨rfl,eQ,bu⟩;have hR2:w.heap.size+1<w2.heap.size:=eQ.lt;clear wi
  by_cases h3:u=1
  ·subst h3;have fM:=ah (HE.out.trans (af rfl));clear HE;have rq:=zoQ w2 (w.heap.size+1) c y2 0 eQ;generalize Fp c y2=bf at *;obtain⟨d,yd⟩:=bf
   go_wp2_with fail
   refine rq.mono ?_;rintro e w3 ⟨Mw,zK,Ze,fi,rfl,⟨pL,tP⟩,eU,bQ⟩;obtain⟨a0,n0,c0,a1,n1,c1,a2,n2,c2,a3,n3,c3,rfl,rfl,rfl,rfl⟩:=pL.form;obtain⟨hA,hB,X3⟩:=Av.out _ w3 _ _ _ _ _ _ _ _ _ _ _ _ _ (by omega) pL ((bO.trans bu).trans bQ);have HA:=ah hA;have HB:=ah hB;have HC:=ah tP;unfold bI at X3;obtain⟨⟨z0,z1,z2,z3,z4⟩,f0,f1,f2,f3,f4⟩:=CU X3;clear rq pL eU bQ eQ bu X3 eM bO hA hB tP Av;go_wp2;refine aW (v:=_) (by simp[results,results4,go_sem,z0,z1,z2,z3,z4];rfl) rfl ?_;rw[fM.out];exact⟨_,_,_,_,rfl,HA.out,HC.out,HB.out⟩
  have m3:(u==1)=false:=by simp[h3]
  have fM:=ah (HE.out.trans (ab h3));clear HE;have rq:=zpE w2 (w.heap.size+1) c y2 0 eQ;generalize AG c y2=bf at *;obtain⟨d,yd⟩:=bf
  go_wp2_with fail
  refine rq.mono ?_;rintro e w3 ⟨Mw,zK,Ze,fi,rfl,⟨pL,tP⟩,eU,bQ⟩;obtain⟨a0,n0,c0,a1,n1,c1,a2,n2,c2,a3,n3,c3,rfl,rfl,rfl,rfl⟩:=pL.form;obtain⟨hA,hB,X3⟩:=Av.out _ w3 _ _ _ _ _ _ _ _ _ _ _ _ _ (by omega) pL ((bO.trans bu).trans bQ);have HA:=ah hA;have HB:=ah hB;have HC:=ah tP;unfold bI at X3;obtain⟨⟨z0,z1,z2,z3,z4⟩,f0,f1,f2,f3,f4⟩:=CU X3;clear rq pL eU bQ eQ bu X3 eM bO hA hB tP Av;go_wp2;refine aW (v:=_) (by simp[results,results4,go_sem,z0,z1,z2,z3,z4];rfl) rfl ?_;rw[fM.out];exact⟨_,_,_,_,rfl,HA.out,HC.out,HB.out⟩
 have m2':(x==2)=false:=by simp[h2]
 have HE:=ah ((HF.out.trans (ab h1)).trans (ab h2));generalize rj c y 0=dw at *;obtain⟨d,yd,rd⟩:=dw;clear HF nL
 go_wp2_with fail
 refine Nf.mono ?_;rintro e w3 ⟨Mw,zK,Ze,fi,rfl,⟨pL,tP⟩,eU,bQ⟩;obtain⟨a0,n0,c0,a1,n1,c1,a2,n2,c2,a3,n3,c3,rfl,rfl,rfl,rfl⟩:=pL.form;obtain⟨hA,hB,X3⟩:=Av.out _ w3 _ _ _ _ _ _ _ _ _ _ _ _ _ (by omega) pL (bO.trans bQ);have HA:=ah hA;have HB:=ah hB;have HC:=ah tP;unfold bI at X3;obtain⟨⟨z0,z1,z2,z3,z4⟩,f0,f1,f2,f3,f4⟩:=CU X3;clear Nf pL eU bQ X3 eM bO hA hB tP Av;go_wp2;refine aW (v:=_) (by simp[results,results4,go_sem,z0,z1,z2,z3,z4];rfl) rfl ?_;rw[HE.out];exact⟨_,_,_,_,rfl,HA.out,HC.out,HB.out⟩
end
section
variable {row l:List Int}{x z:Int}{k n:Nat}
def jX(row:List Int)(x:Int):Nat:=row.count x
def Fl(row:List Int)(x:Int):Bool:=row.contains x&&row.all λy=>decide (jX row y<jX row x\/(jX row y=jX row x/\x<=y))
def dW(row:List Int):Int:=(row.find? (Fl row)).getD 0
theorem Tg:Fl row x=true↔x∈row/\∀y∈row,jX row y<jX row x\/(jX row y=jX row x/\x<=y):=by
 simp[Fl]
theorem zjU{y:Int}(hx:Fl row x=true)(hy:Fl row y=true):x=y:=by
 rw[Tg]at hx hy;have a:=hx.2 y hy.1;have b:=hy.2 x hx.1;omega
theorem znv(h:Fl row x=true):dW row=x:=by
 unfold dW;cases hf:row.find? (Fl row) with
 |none=>
  rw[List.find?_eq_none]at hf;exact absurd h (hf x (Tg.1 h).1)
 |some y=>exact zjU (List.find?_some hf) h
def im(az:List Int)(k:Nat):Bool:=decide (az.length<=k) || az.getD k 0 == -1
def qM(az:List Int)(aU:List Nat)(k:Nat):Bool:=aU.all λc=>im az (k+c)
def oz(az:List Int)(aU:List Nat):Nat:=((List.range (az.length+1)).find? (qM az aU)).getD 0
theorem zjI(az:List Int)(aU:List Nat){k:Nat}(h:az.length<=k):qM az aU k=true:=by
 simp only[qM,jR,im,nt,lZ];intro c _;exact .inl (by omega)
theorem zoN{p:Nat->Bool}(hk:k<n)(h:p k=true)(hb:∀j,j<k->p j=false):(List.range n).find? p=zb k:=by
 rw[List.find?_eq_some_iff_append];refine⟨h,List.range k,(List.range n).drop (k+1),?_,?_⟩
 ·apply FE
  ·simp;omega
  ·intro i h1 h2;rw[List.getElem_append];split
   ·simp
   ·rename_i hi
    simp at hi h1
    by_cases e:i=k
    ·subst e;simp
    ·have:i-k=(i-k-1)+1:=by omega
     simp only[IJ];rw[List.getElem_cons];split
     ·omega
     ·simp;omega
 ·intro j hj;simp at hj;simp[hb j hj]
theorem zqc{az:List Int}{aU:List Nat}(h:qM az aU k=true)(hb:∀j,j<k->qM az aU j=false):oz az aU=k:=by
 have hk:k<az.length+1:=by
  by_cases hc:k<=az.length
  ·omega
  ·have:=hb az.length (by omega);rw[zjI az aU (aq _)]at this;cases this
 unfold oz;rw[zoN hk h hb]
 rfl
def aK(row:List Int)(d:Int)(k:Nat):List Nat:=(List.range k).filter λc=>row.getD c 0 != d
theorem zlD(row:List Int)(d:Int)(k:Nat):aK row d (k+1)=aK row d k++(if row.getD k 0 != d then [k] else []):=by
 unfold aK;rw[yE,List.filter_append]
 congr 1
 simp only[List.filter_cons,List.filter_nil]
theorem Lj{d:Int}{c:Nat}(h:c∈aK row d k):c<k:=by
 simp[aK]at h;exact h.1
def bP(z:Int)(n:Nat)(l:List Int):List Int:=l++List.replicate (n-l.length) z
theorem pq(z:Int)(n:Nat)(l:List Int):(bP z n l).length=max l.length n:=by simp[bP];omega
theorem K7(h:n<=l.length):bP z n l=l:=by
 have:n-l.length=0:=by omega
 simp[bP,this]
theorem Ox(h:l.length<=n):bP z (n+1) l=bP z n l++[z]:=by
 have:n+1-l.length=(n-l.length)+1:=by omega
 simp[bP,this,List.replicate_succ',List.append_assoc]
theorem zm2{m:Nat}(h:n<=m):bP z m (bP z n l)=bP z m l:=by
 unfold bP;rw[gJ,aQ,List.length_replicate,List.replicate_append_replicate]
 congr 2
 omega
theorem zqN{i:Nat}(h:i<l.length)(x:Int):bP z n (l.set i x)=(bP z n l).set i x:=by
 unfold bP;rw[jQ,List.set_append,af h]
def sB(z:Int)(l:List Int)(i:Nat)(x:Int):List Int:=(bP z (i+1) l).set i x
def di(z:Int)(l:List Int)(k:Nat)(f:Nat->Int):List Nat->List Int
 |[]=>l
 |c::cs=>di z (sB z l (k+c) (f c)) k f cs
theorem zfC(z:Int)(k:Nat)(f:Nat->Int):∀(a b:List Nat) (l:List Int),di z l k f (a++b)=di z (di z l k f a) k f b
 |[],_,_=>rfl
 |c::cs,b,l=>by simp only[List.cons_append,di];exact zfC z k f cs b _
def jv(l:List Int)(k:Nat)(f:Nat->Int):List Nat->List Int
 |[]=>l
 |c::cs=>jv (l.set (k+c) (f c)) k f cs
theorem zgz(k:Nat)(f:Nat->Int):∀(a b:List Nat) (l:List Int),jv l k f (a++b)=jv (jv l k f a) k f b
 |[],_,_=>rfl
 |c::cs,b,l=>by simp only[List.cons_append,jv];exact zgz k f cs b _
theorem zie(k:Nat)(f:Nat->Int):∀(a:List Nat) (l:List Int),(jv l k f a).length=l.length
 |[],_=>rfl
 |c::cs,l=>by simp only[jv];rw[zie k f cs,jQ]
theorem zlp(z:Int)(k:Nat)(f:Nat->Int)(n:Nat):∀(a:List Nat) (l:List Int),(∀c∈a,k+c<n)->bP z n (di z l k f a)=jv (bP z n l) k f a
 |[],_,_=>rfl
 |c::cs,l,h=>by
  have hc:=h c (by simp);simp only[di,jv];rw[zlp z k f n cs _ (λx hx=>h x (by simp[hx]))]
  congr 1
  unfold sB;rw[zqN (by rw[pq];omega),zm2 (by omega)]
theorem zi4(z:Int)(k:Nat)(f:Nat->Int):∀(a:List Nat) (l:List Int),l.length<=(di z l k f a).length/\(∀c∈a,k+c<(di z l k f a).length)
 |[],l=>⟨aq _,by simp⟩
 |c::cs,l=>by
  have ih:=zi4 z k f cs (sB z l (k+c) (f c));have hl:(sB z l (k+c) (f c)).length=max l.length (k+c+1):=by unfold sB;rw[jQ,pq]
  simp only[di];refine⟨by omega,λx hx=>?_⟩;rcases pD.1 hx with rfl|hx
  ·omega
  ·exact ih.2 x hx
theorem Iq(z:Int)(k:Nat)(f:Nat->Int)(n:Nat):∀(a:List Nat) (l:List Int),l.length<=n->(∀c∈a,k+c<n)->(di z l k f a).length<=n
 |[],_,h,_=>h
 |c::cs,l,h,ha=>by
  simp only[di];refine Iq z k f n cs _ ?_ (λx hx=>ha x (by simp[hx]));have:=ha c (by simp);unfold sB;rw[jQ,pq];omega
theorem znS(z:Int)(k:Nat)(f:Nat->Int)(a:List Nat)(l:List Int)(gz:Nat)(ht:gz∈a)(h:∀c∈a,c<=gz):di z l k f a=jv (bP z (k+gz+1) l) k f a:=by
 have h1:=zlp z k f (k+gz+1) a l (λc hc=>by have:=h c hc;omega);have h2:=(zi4 z k f a l).2 gz ht;rw[<-h1,K7 (by omega)]
structure pI where
 base:List Int
 bA:List Int
 next:List Int
 az:List Int
def a8(nx:List Int)(wd s:Nat):List Int:=(nx.drop (s*wd)).take wd
def AY(nx:List Int)(wd s:Nat)(L:pI):Option pI:=
 let row:=a8 nx wd s
 let d:=dW row
 let aU:=aK row d wd
 if aU=[] then zb ⟨L.base++[0],L.bA++[d],L.next,L.az⟩
 else
  let k:=oz L.az aU
  if aU.all (λc=>decide (k+c<60000)) then zb ⟨L.base++[(k:Int)],L.bA++[d],di 0 L.next k (λc=>row.getD c 0) aU,di (-1) L.az k (λ_=>(s:Int)) aU⟩
  else za
def mW(nx:List Int)(wd:Nat):Nat->Option pI
 |0=>zb ⟨[],[],[],[]⟩
 |s+1=>(mW nx wd s).bind (AY nx wd s)
end
variable {nx:List Int}{wd s n:Nat}
theorem zoT(z:Int)(n:Nat)(l:List Int)(j:Nat):(bP z n l).getD j z=l.getD j z:=by
 simp only[bP,bJ,zwq,List.getElem?_replicate];split
 ·rfl
 ·rename_i h
  rw[Bo (by omega)];split<;>rfl
theorem zqq(z:Int)(l:List Int)(i:Nat)(x:Int)(j:Nat):(sB z l i x).getD j z=if j=i then x else l.getD j z:=by
 have hl:=pq z (i+1) l;rw[sB,bJ,List.getElem?_set]
 by_cases h:i=j
 ·subst h;rw[af rfl,af rfl,af (by omega)];rfl
 ·rw[ab h,ab (by omega),<-bJ,zoT]
theorem ZP(z:Int)(k:Nat)(f:Nat->Int)(j:Nat):∀(a:List Nat) (l:List Int),(di z l k f a).getD j z=if k<=j/\j-k∈a then f (j-k) else l.getD j z
 |[],l=>by rw[di,ab (by simp)]
 |c::cs,l=>by
  rw[di,ZP z k f j cs,zqq]
  by_cases h:k<=j/\j-k∈cs
  ·rw[af h,af ⟨h.1,List.mem_cons_of_mem _ h.2⟩]
  ·rw[ab h]
   by_cases e:j=k+c
   ·subst e;have e:k+c-k=c:=by omega
    rw[af rfl,e,af ⟨by omega,by simp⟩]
   ·rw[ab e,ab];rintro ⟨h1,h2⟩;rcases pD.1 h2 with h2|h2
    ·omega
    ·exact h ⟨h1,h2⟩
theorem zhK(z y:Int)(k:Nat)(f g:Nat->Int):∀(a:List Nat) (l m:List Int),l.length=m.length->(di z l k f a).length=(di y m k g a).length
 |[],_,_,h=>h
 |c::cs,l,m,h=>by
  rw[di,di];refine zhK z y k f g cs _ _ ?_;rw[sB,sB,jQ,jQ,pq,pq,h]
theorem zro{c:Nat}(h:c<wd):(a8 nx wd s).getD c 0=nx.getD (s*wd+c) 0:=by
 rw[a8,bJ,bJ,List.getElem?_take,af h,Dq]
theorem zuF{y:Int}(h:y∈a8 nx wd s):y∈nx:=List.mem_of_mem_drop (List.mem_of_mem_take h)
theorem zse(row:List Int):dW row=0\/dW row∈row:=by
 unfold dW;cases h:row.find? (Fl row) with
 |none=>exact .inl rfl
 |some y=>exact .inr (List.mem_of_find?_eq_some h)
theorem zk3(l:List Int)(x:Int)(k:Nat):(l++[x]).getD k 0=if k=l.length then x else l.getD k 0:=by
 rw[bJ,zwq]
 by_cases h:k<l.length
 ·rw[af h,ab (by omega),bJ]
 ·rw[ab h]
  by_cases e:k=l.length
  ·subst e;simp
  ·rw[ab e,bJ,Bo (by simp;omega),Bo (by omega)]
theorem zoO{az:List Int}{k:Nat}:im az k=true↔az.getD k (-1)=-1:=by
 rw[im,nt,lZ,beq_iff_eq,bJ,bJ]
 by_cases h:k<az.length
 ·rw[bE h];simp only[Option.getD_some];constructor
  ·rintro (h1|h1)
   ·omega
   ·exact h1
  ·exact .inr
 ·rw[Bo (by omega)];exact⟨λ_=>rfl,λ_=>.inl (by omega)⟩
theorem zqd(az:List Int)(aU:List Nat):qM az aU (oz az aU)=true:=by
 unfold oz;cases h:(List.range (az.length+1)).find? (qM az aU) with
 |some k=>exact List.find?_some h
 |none=>
  rw[List.find?_eq_none]at h;exact absurd (zjI az aU (aq _)) (h az.length (by simp))
structure Qp(nx:List Int)(wd n s:Nat)(L:pI):Prop where
 bl:L.base.length=s
 dl:L.bA.length=s
 nk:L.next.length=L.az.length
 nm:L.az.length<=60000
 bs:∀x∈L.base,0<=x/\x<=59999
 ds:∀x∈L.bA,0<=x/\x<=(n:Int)-1
 ks:∀j,-1<=L.az.getD j (-1)/\L.az.getD j (-1)<s
 ns:∀j,0<=L.next.getD j 0/\L.next.getD j 0<=(n:Int)-1
 fr:∀j,L.az.getD j (-1)=-1->L.next.getD j 0=0
 lk:∀t c,t<s->c<wd->(if L.az.getD ((L.base.getD t 0).toNat+c) (-1)=(t:Int) then L.next.getD ((L.base.getD t 0).toNat+c) 0 else L.bA.getD t 0)=nx.getD (t*wd+c) 0
theorem zqK(nx:List Int)(wd n:Nat)(hn:1<=n):Qp nx wd n 0 ⟨[],[],[],[]⟩:=by
 refine⟨rfl,rfl,rfl,by simp,by simp,by simp,λj=>?_,λj=>?_,λj _=>rfl,λt c h=>by omega⟩
 ·simp
 ·simp;omega
theorem zqJ{L L':pI}(hn:1<=n)(hx:∀x∈nx,0<=x/\x<=(n:Int)-1)(h:Qp nx wd n s L)(hF:AY nx wd s L=zb L'):Qp nx wd n (s+1) L':=by
 have hd:0<=dW (a8 nx wd s)/\dW (a8 nx wd s)<=(n:Int)-1:=by
  rcases zse (a8 nx wd s) with e|e
  ·omega
  ·exact hx _ (zuF e)
 have zzi:∀c,c<wd->(c∈aK (a8 nx wd s) (dW (a8 nx wd s)) wd↔¬nx.getD (s*wd+c) 0=dW (a8 nx wd s)):=by
  intro c hc;simp only[aK,List.mem_filter,qm,bne_iff_ne,zro hc];exact⟨λh=>h.2,λh=>⟨hc,h⟩⟩
 have et:∀c,c∈aK (a8 nx wd s) (dW (a8 nx wd s)) wd->(a8 nx wd s).getD c 0=nx.getD (s*wd+c) 0:=λc hc=>zro (Lj hc)
 have iw:∀k,0<=nx.getD k 0/\nx.getD k 0<=(n:Int)-1:=by
  intro k;rw[bJ];cases e:nx[k]? with
  |none=>simp;omega
  |some y=>exact hx y (IL e)
 obtain⟨bl,dl,nk,nm,bs,ds,ks,ns,fr,lk⟩:=h;unfold AY at hF;simp only at hF;generalize dW (a8 nx wd s)=d at *;generalize aK (a8 nx wd s) d wd=aU at *;split at hF
 ·rename_i ho
  obtain rfl:=Option.some.inj hF;subst ho;refine⟨by simp[bl],by simp[dl],nk,nm,?_,?_,λj=>⟨(ks j).1,Int.lt_trans (ks j).2 (by omega)⟩,ns,fr,λt c ht hc=>?_⟩
  ·intro x hm;rcases gH.1 hm with hm|hm
   ·exact bs x hm
   ·simp at hm;omega
  ·intro x hm;rcases gH.1 hm with hm|hm
   ·exact ds x hm
   ·simp at hm;omega
  ·simp only[zk3,bl,dl]
   by_cases e:t=s
   ·subst e;rw[af rfl,af rfl,ab (by have:=(ks ((0:Int).toNat+c)).2;omega)];have:=zzi c hc;simp at this;exact this.symm
   ·rw[ab e,ab e];exact lk t c (by omega) hc
 ·rename_i ho
  split at hF
  case isFalse=>cases hF
  rename_i ha
  obtain rfl:=Option.some.inj hF;have zyM:=zqd L.az aU;generalize oz L.az aU=k at *;rw[qM,jR]at zyM;rw[jR]at ha;have vU:∀c∈aU,L.az.getD (k+c) (-1)=-1:=λc hc=>zoO.1 (zyM c hc)
  have EJ:∀c∈aU,k+c<60000:=λc hc=>by simpa using ha c hc
  have hk:k<=59999:=by
   cases aU with
   |nil=>exact absurd rfl ho
   |cons c cs=>have:=EJ c (by simp);omega
  have gK:∀j,(di (-1) L.az k (λ_=>(s:Int)) aU).getD j (-1)=if k<=j/\j-k∈aU then (s:Int) else L.az.getD j (-1):=λj=>ZP ..
  have gN:∀j,(di 0 L.next k (λc=>(a8 nx wd s).getD c 0) aU).getD j 0=if k<=j/\j-k∈aU then (a8 nx wd s).getD (j-k) 0 else L.next.getD j 0:=λj=>ZP ..
  refine⟨by simp[bl],by simp[dl],zhK _ _ _ _ _ _ _ _ nk,Iq _ _ _ _ _ _ nm EJ,?_,?_,λj=>?_,λj=>?_,λj hj=>?_,λt c ht hc=>?_⟩
  ·intro x hm;rcases gH.1 hm with hm|hm
   ·exact bs x hm
   ·simp at hm;omega
  ·intro x hm;rcases gH.1 hm with hm|hm
   ·exact ds x hm
   ·simp at hm;omega
  ·show _<=(di (-1) L.az k (λ_=>(s:Int)) aU).getD j (-1)/\(di (-1) L.az k (λ_=>(s:Int)) aU).getD j (-1)<_;rw[gK];have:=ks j;split<;>omega
  ·show _<=(di 0 L.next k (λc=>(a8 nx wd s).getD c 0) aU).getD j 0/\(di 0 L.next k (λc=>(a8 nx wd s).getD c 0) aU).getD j 0<=_;rw[gN];split
   ·rename_i hj
    rw[et _ hj.2];exact iw _
   ·exact ns j
  ·have hj':(di (-1) L.az k (λ_=>(s:Int)) aU).getD j (-1)=-1:=hj;rw[gK]at hj';show (di 0 L.next k (λc=>(a8 nx wd s).getD c 0) aU).getD j 0=0;rw[gN];split
   ·rename_i e;rw[af e]at hj';omega
   ·rename_i e;rw[ab e]at hj';exact fr j hj'
  ·simp only[zk3,bl,dl,gK,gN]
   by_cases e:t=s
   ·subst e;rw[af rfl,af rfl];have e1:(k:Int).toNat+c=k+c:=by simp
    have e2:k+c-k=c:=by omega
    rw[e1,e2]
    by_cases hm:c∈aU
    ·have hp:k<=k+c/\c∈aU:=⟨by omega,hm⟩;simp only[af hp,if_true];exact et c hm
    ·have hp:¬(k<=k+c/\c∈aU):=λh=>hm h.2
     simp only[ab hp];rw[ab (by have:=(ks (k+c)).2;omega)];have:=zzi c hc;simp only[hm,false_iff,Decidable.not_not]at this;exact this.symm
   ·rw[ab e,ab e];have hl:=lk t c (by omega) hc;generalize (L.base.getD t 0).toNat+c=j at *
    by_cases hm:k<=j/\j-k∈aU
    ·have hf:=vU _ hm.2;have e3:k+(j-k)=j:=by omega
     rw[e3]at hf;simp only[af hm];rw[ab (by omega)];rw[hf,ab (by omega)]at hl;exact hl
    ·simp only[ab hm];exact hl
theorem znQ(hn:1<=n)(hx:∀x∈nx,0<=x/\x<=(n:Int)-1):∀(s:Nat) (L:pI),mW nx wd s=zb L->Qp nx wd n s L
 |0,L,h=>by obtain rfl:=Option.some.inj h;exact zqK nx wd n hn
 |s+1,L,h=>by
  rw[mW]at h;cases e:mW nx wd s with
  |none=>rw[e]at h;cases h
  |some L1=>rw[e]at h;exact zqJ hn hx (znQ hn hx s L1 e) h
end Go.Proofs.YtfajjdgkiilhfaaGreatDoor
