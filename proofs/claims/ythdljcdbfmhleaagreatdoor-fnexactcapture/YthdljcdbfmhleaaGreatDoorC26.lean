import Derived.Test.YthdljcdbfmhleaaGreatDoorC25
namespace Go.Proofs.YthdljcdbfmhleaaGreatDoor
set_option maxHeartbeats 4000000
set_option maxRecDepth 100000
section
open Go.RowKit
attribute [local go_sem ↓] Go.wp_at_zero Go.wp_at_succ
theorem zi9(p:Pt)(ih:WrC p)(m e:Nat)(hme:e=m+1)(he:m<=255)(B n nw bt:Nat)(sv fv:Value)(mk:Nat->Nat)(f:Nat->Nat->Bool)(fr:Nat->Nat)(F:Nat->Nat->Nat)(w:World)(t:TypeId)(x:Value)(h:Trk B w n nw bt sv fv mk f fr F)(hT:zai w (.iface t x) p)(hle:wPt p<=2000)(hn:n+e*(wPt p).toNat<=64*nw):
  Calls Tryz.prog 124 #[.pointer (some ⟨bt,0,none⟩),.agg #[.iface t x,.int .i64 m,.int .i64 (-1)]] w fun r W=>WrR B w n nw bt mk f fr F (e*(wPt p).toNat) (unD (.rep p m (-1)) n) r W:=by
 have hpos:=zbm h.bru;have hbt:bt<w.heap.size:=(zrc.1 h.box).1;have hbb:=h.bb;have hnw:=h.nwl;obtain⟨W0,hW0⟩:∃W0,(w.alloc (.cells #[.iface t x,.int .i64 m,.int .i64 (-1)] 121)).alloc (.cells #[.bool false,.slice none 0 0,.slice none 0 0] 174)=W0:=⟨_,rfl⟩;have hb0:Below w.heap.size w W0:=by rw[<-hW0];exact((Below.refl _ _).alloc (zsa _) _).alloc (by simp) _
 have x0:W0.heap[w.heap.size]?=some (.cells #[.iface t x,.int .i64 m,.int .i64 (-1)] 121 (0,0)):=by rw[<-hW0];exact zah (zsp _ _)
 have x1:W0.heap[w.heap.size+1]?=some (.cells #[.bool false,.slice none 0 0,.slice none 0 0] 174 (0,0)):=by rw[<-hW0];exact zcT _ _ _
 have hs0:=hb0.size;have h0:=h.below hb0;have hT0:=zai.keep (.of hb0) p _ hT;have hba:=zi1 nw bt true sv fv W0 h0.box hnw;have Hmul:Hid (∀a b:Nat,a+b<=e->a*(wPt p).toNat+b*(wPt p).toNat<=e*(wPt p).toNat):=fun a b hab=>by rw[<-Nat.add_mul];exact Nat.mul_le_mul_right _ hab
 have Hme:Hid (e=m+1):=hme;have hm255:m<=255:=by omega
 clear hme
 go_enter Tryz.func124,Tryz.ntmps124
 go_wp2_with fail
 refine hba.mono ?_;rintro e1 W1 ⟨ga,gl,rfl,na,nl,hfr,hb1⟩;clear hba hW0;obtain⟨W2,hW2⟩:∃W2,W1.alloc (.cells #[.bool true,.slice (some ⟨ga,0,none⟩) nw nw,.slice (some ⟨gl,0,none⟩) nw nw] 174)=W2:=⟨_,rfl⟩;have hb2:Below W1.heap.size W1 W2:=by rw[<-hW2];exact(Below.refl _ _).alloc (zsa _) _
 have r2:W2.heap[W1.heap.size]?=some (.cells #[.bool true,.slice (some ⟨ga,0,none⟩) nw nw,.slice (some ⟨gl,0,none⟩) nw nw] 174 (0,0)):=by rw[<-hW2];exact zsp _ _
 have D0:=(WrD.bare h0 true na nl hfr hb1).below hb2;have hs1:=hb1.size;have y0:=D0.kp.typ _ _ _ x0 (by decide) (by decide) (by decide);obtain⟨c0,c1,c2,-,-,-⟩:=zac y0;have Hn:Hid (n+e*(wPt p).toNat<=64*nw):=hn;have hrW:W0.heap.size<=W1.heap.size:=hs1;have hp0:0<W0.heap.size:=by omega
 have hb02:Below W0.heap.size W0 W2:=hb1.trans (hb2.mono hs1);have hone:=Hmul.out 1 0 (by have:=Hme.out;omega);have hc:=ih B n nw bt sv fv mk f fr F W2 (.iface t x) (h0.below hb02) (zai.keep (.of hb02) p _ hT0) hle (by omega);clear hn hs1 D0 hfr y0 hb1 hb2 na nl h h0 hT
 go_wp2_with fail
 refine hc.mono ?_;rintro e3 W3 ⟨n1,ha,hl,c,sv3,fv3,mk3,f3,fr3,F3,A3,L3,rfl,hk3,D3⟩;clear hc hW2 c0 c1 c2;have r3:=D3.kp.typ _ _ _ r2 (by decide) (by decide) (by decide);have D3':=D3.start hb02 (by omega);obtain⟨k0,k1,k2,f0,f1,f2⟩:=zac r3;obtain⟨⟨sv4,fv4,mk4,f4,fr4,F4,A4,L4,q5⟩,q6⟩:=WrX.put3 ⟨_,_,_,_,_,_,_,_,D3'⟩ r3 hrW hp0 (.bool c) (.slice (some ⟨ha,0,none⟩) nw nw) (.slice (some ⟨hl,0,none⟩) nw nw);have hlk:=zpn q5;obtain⟨W4,hW4⟩:∃W4,((W3.setCell ⟨W1.heap.size,0,none⟩ (.bool c)).setCell ⟨W1.heap.size,1,none⟩ (.slice (some ⟨ha,0,none⟩) nw nw)).setCell ⟨W1.heap.size,2,none⟩ (.slice (some ⟨hl,0,none⟩) nw nw)=W4:=⟨_,rfl⟩;rw[hW4] at hlk q6 q5;have y4:=q5.kp.typ _ _ _ x0 (by decide) (by decide) (by decide);obtain⟨d0,d1,d2,-,-,-⟩:=zac q6;clear D3 D3' r3 r2 q5
 go_wp2_with fail
 refine hlk.mono ?_;rintro e5 W5 ⟨rfl,hX5,hKU⟩;clear hlk hW4 k0 k1 k2 f0 f1 f2 d0 d1 d2;have r5:=hKU _ _ _ q6 (by decide);have y5:=hKU _ _ _ y4 (by decide);obtain⟨k0,-,-,f0,-,-⟩:=zac r5;have hX6:=hX5.putF (o:=0) (v:=.bool true) r5 hrW hp0;have r6:=zsr _ _ 0 _ _ (.bool true) r5;have y6:=hX6.kp.typ _ _ _ x0 (by decide) (by decide) (by decide);obtain⟨-,c1,c2,-,-,-⟩:=zac y6;have hsub:(-1:Int)-(m:Int)=-((m:Int)+1):=by omega
 clear q6 y4 y5 hX5 hKU r5;go_wp2;generalize hW6:W5.setCell ⟨W1.heap.size,0,none⟩ (.bool true)=W6 at *;clear hW6 k0 f0 c1 c2
 go_loopw [27] (fun i wr=>i=.int .i64 0/\wr=W6) (fun _ _=>0)
 case atStart=>exact⟨rfl,rfl⟩
 case round=>
   obtain⟨rfl,rfl⟩:=hrel;have hneg:¬(0:Int) < -((m:Int)+1):=by omega
   have yk:=hX6.kp.typ _ _ _ x0 (by decide) (by decide) (by decide);have c1:wr.cell? ⟨w.heap.size,1,none⟩=some (.int .i64 m):=(zac yk).2.1;have hX2:Cps B W0 n nw bt mk f fr F W1.heap.size (1*(wPt p).toNat) (ahD (unD p) (cntP p) (PA.star (unD p n)) (n+1*cntP p) 0) wr:=⟨n1,ha,hl,true,r6,by omega,hX6.words rfl⟩;clear yk;go_wp2;clear c1
   go_loopw [40] (fun i wr=>∃k:Nat,k<=m/\i=.int .i64 k/\Cps B W0 n nw bt mk f fr F W1.heap.size ((1+k)*(wPt p).toNat) (ahD (unD p) (cntP p) (PA.star (unD p n)) (n+1*cntP p) k) wr)
    (fun i _=>m-(intOf i).toNat)
   case atStart=>exact⟨0,zsj _,rfl,hX2⟩
   case round=>
    clear hX2;obtain⟨k,hk,rfl,n',ga',gl',b,hr,hn',hX'⟩:=hrel
    by_cases hlt:k<m
    ·have Hj:=Hmul.out (1+k) 1 (by have:=Hme.out;omega);have hw:=zg8 ih hT0 hle hX' hr hn' (by have:=Hn.out;omega) (hX'.cnt (zk4 (zco p) (zpG p n) (by omega) k) (by omega));have yk:=hX'.kp.typ _ _ _ x0 (by decide) (by decide) (by decide);have c0:wr.cell? ⟨w.heap.size,0,none⟩=some (.iface t x):=(zac yk).1;obtain⟨d0,d1,d2,-,-,-⟩:=zac hr;have hi0:(0:Int)<=(k:Int):=by omega
     have hi1:(k:Int)<(m:Int):=by omega
     have Hj2:Hid ((1+k)*(wPt p).toNat+(wPt p).toNat=(1+(k+1))*(wPt p).toNat):=by show _=_;rw[<-Nat.add_assoc,Nat.add_mul _ 1,Nat.one_mul]
     clear Hj hX' yk hr hn';go_wp2
     go_region_law ((first|(refine zb9 (by rfl) 106 #[.tmp 43,.tmp 45] #[172,85] (by rfl) #[.pointer (some ⟨bt,0,none⟩),.iface t x] (by simp[Act.eval]) _ (zcB _ _) hw ?_;rintro _ W4 ⟨n2,ha,hl,c,rfl,Hn2,⟨z0,z1,z2⟩,HX,hsq⟩)|(refine zdi (by rfl) 122 #[.tmp 42,.tmp 46,.tmp 47] #[172,174,174] (by rfl) _ (by simp[Act.eval]) _ _ (ze9 _ _) hsq ?_;rintro W5 ⟨D5,hKU⟩;have y0:=hKU _ _ _ HX.out (by decide);obtain⟨k0,k1,k2,f0,f1,f2⟩:=zac y0)))
     all_goals
      obtain⟨q5,q6⟩:=D5.put3 y0 hrW hp0 (.bool (c&&b)) (.slice (some ⟨ha,0,none⟩) nw nw) (.slice (some ⟨gl',0,none⟩) nw nw);clear hw hsq y0 hKU HX z0 z1 z2 d0 d1 d2 c0 D5 k0 k1 k2 f0 f1 f2;generalize ((W5.setCell ⟨W1.heap.size,0,none⟩ (.bool (c&&b))).setCell ⟨W1.heap.size,1,none⟩ (.slice (some ⟨ha,0,none⟩) nw nw)).setCell ⟨W1.heap.size,2,none⟩ (.slice (some ⟨gl',0,none⟩) nw nw)=W6 at *;go_wp2
      go_roundw
      case rel=>exact⟨k+1,by omega,by go_num,n2,ha,gl',c&&b,q6,by have:=Hn2.out;have:=Hj2.out;omega,q5.words rfl⟩
      case measure=>simp[intOf];omega
    ·have hkm:k=m:=by omega
     subst hkm;obtain⟨sv5,fv5,mk5,f5,fr5,F5,A5,L5,D⟩:=hX';have yk:=D.kp.typ _ _ _ x1 (by decide) (by decide) (by decide);obtain⟨k0,k1,k2,f0,f1,f2⟩:=zac yk;obtain⟨d0,d1,d2,-,-,-⟩:=zac hr;have hret:=((D.start hb0 (by omega)).words (N:=unD (.rep p (k:Int) (-1)) n) (zix n p k)).ret (m:=e*(wPt p).toNat) yk (by omega) hpos (by rw[Hme.out,Nat.add_comm k 1];exact hn');clear D yk hr;go_wp2;exact zsl (by simp[results,Tryz.results124,go_sem,k0,k1,k2]) rfl hret
end
section
open Go.RowKit
attribute [local go_sem ↓] Go.wp_at_zero Go.wp_at_succ
theorem WrR.wide{B:Nat}{w:World}{n nw bt:Nat}{mk:Nat->Nat}{f:Nat->Nat->Bool}{fr:Nat->Nat}{F:Nat->Nat->Nat}{k k':Nat}{M:PA}{e:Ending}{W:World}(h:WrR B w n nw bt mk f fr F k M e W)(hk:k<=k'):WrR B w n nw bt mk f fr F k' M e W:=by
 obtain⟨n',ga,gl,b,sv,fv,mk',f',fr',F',A,L,h1,h2,h3⟩:=h;exact⟨n',ga,gl,b,sv,fv,mk',f',fr',F',A,L,h1,by omega,h3⟩
theorem zlg(p:Pt)(ih:WrC p)(mn mx:Int)(hbd:zaD mn mx=true)(B n nw bt:Nat)(sv fv:Value)(mk:Nat->Nat)(f:Nat->Nat->Bool)(fr:Nat->Nat)(F:Nat->Nat->Nat)(w:World)(t:TypeId)(x:Value)(h:Trk B w n nw bt sv fv mk f fr F)(hT:zai w (.iface t x) p)(hle:wPt (.rep p mn mx)<=2000)(hn:n+(wPt (.rep p mn mx)).toNat<=64*nw):
  Calls Tryz.prog 124 #[.pointer (some ⟨bt,0,none⟩),.agg #[.iface t x,.int .i64 mn,.int .i64 mx]] w fun r W=>WrR B w n nw bt mk f fr F (wPt (.rep p mn mx)).toNat (unD (.rep p mn mx) n) r W:=by
 have hp1:=(za8 p _ hT).1;have hc:=zcg hbd;have e:wPt (.rep p mn mx)=capW (wPt p*zaL mn mx):=rfl;have hw:wPt (.rep p mn mx)=wPt p*zaL mn mx:=by
  rw[e] at hle ⊢;unfold capW at hle ⊢;split
  ·rfl
  ·rw[zss (by assumption)] at hle;omega
 rw[hw] at hle hn ⊢;clear e hw;obtain⟨wb,hwb⟩:∃wb:Nat,wPt p=wb:=⟨(wPt p).toNat,by omega⟩;obtain⟨c,hcc⟩:∃c:Nat,zaL mn mx=c:=⟨(zaL mn mx).toNat,by omega⟩;have htn:(wPt p).toNat=wb:=by omega
 have hprod:wPt p*zaL mn mx=((c*wb:Nat):Int):=by rw[hwb,hcc,Int.mul_comm];simp
 rw[hprod] at hle hn ⊢;rw[zri] at hn ⊢;have hple:wPt p<=2000:=by
  have h1:1*wb<=c*wb:=Nat.mul_le_mul_right _ (by omega);omega
 have hbd':=hbd;simp[zaD] at hbd';obtain⟨⟨h1,h2⟩,h3⟩:=hbd';obtain⟨m,rfl⟩:∃m:Nat,mn=m:=⟨mn.toNat,by omega⟩
 by_cases hx:mx=-1
 ·subst hx;have hcm:c=m+1:=by
   unfold zaL at hcc;rw[zst rfl] at hcc;omega
  have:=zi9 p ih m c hcm (by omega) B n nw bt sv fv mk f fr F w t x h hT hple (by rw[htn];exact hn);rw[htn] at this;exact this
 ·obtain⟨ee,rfl⟩:∃ee:Nat,mx=ee:=⟨mx.toNat,by omega⟩;have hce:ee<=c:=by
   unfold zaL at hcc;rw[zss hx] at hcc;split at hcc<;>omega
  have hmul:ee*wb<=c*wb:=Nat.mul_le_mul_right _ hce;have:=zja p ih m (ee-m) ee (by omega) (by omega) B n nw bt sv fv mk f fr F w t x h hT hple (by rw[htn];omega);rw[htn] at this;exact this.mono fun e W hR=>hR.wide hmul
theorem zn6(p:Pt)(mn mx:Int)(ih:WrC p):WrC (.rep p mn mx):=by
 intro B n nw bt sv fv mk f fr F w v h hT hle hn;obtain⟨lv,rfl,hl,hbd⟩:=hT;have hpos:=zbm h.bru;have hbt:bt<w.heap.size:=(zrc.1 h.box).1;have hbb:=h.bb;obtain⟨t,x,rfl⟩:=zaz hl;obtain⟨W0,hW0⟩:∃W0,(w.alloc (.cells #[.bool false,.slice none 0 0,.slice none 0 0] 174)).alloc (.cells #[.iface t x,.int .i64 mn,.int .i64 mx] 121)=W0:=⟨_,rfl⟩;have hb0:Below w.heap.size w W0:=by rw[<-hW0];exact((Below.refl _ _).alloc (zsa _) _).alloc (by simp) _
 have x0:W0.heap[w.heap.size]?=some (.cells #[.bool false,.slice none 0 0,.slice none 0 0] 174 (0,0)):=by rw[<-hW0];exact zah (zsp _ _)
 have x1:W0.heap[w.heap.size+1]?=some (.cells #[.iface t x,.int .i64 mn,.int .i64 mx] 121 (0,0)):=by rw[<-hW0];exact zcT _ _ _
 obtain⟨q0,q1,q2,-,-,-⟩:=zac x1;have hc:=zlg p ih mn mx hbd B n nw bt sv fv mk f fr F W0 t x (h.below hb0) (zai.keep (.of hb0) p _ hl) hle hn;have a1:=zlJ;have a2:=zlI;have a3:=zlH;have a4:=zqD;clear hle hn hbd
 go_enter Tryz.func106,Tryz.ntmps106
 go_wp2_with fail
 refine hc.mono ?_;rintro e W ⟨n',ga,gl,b,sv',fv',mk',f',fr',F',A,L,rfl,hk,D⟩;have u0:=D.kp.typ _ _ _ x0 (by decide) (by decide) (by decide);obtain⟨k0,k1,k2,f0,f1,f2⟩:=zac u0;have hret:=(D.start hb0 (by omega)).ret u0 (zsa _) hpos hk;clear hc hW0 D hk;go_wp2;exact zsl (by simp[results,Tryz.results106,go_sem,k0,k1,k2]) rfl hret
theorem zcW:∀p:Pt,WrC p
 |.set g=>zn8 g
 |.seq p q=>zn7 p q (zcW p) (zcW q)
 |.alt p q=>zn4 p q (zcW p) (zcW q)
 |.rep p mn mx=>zn6 p mn mx (zcW p)
 |.grp p g=>zn5 p g (zcW p)
end
section
variable {w:World}
open Go.RowKit
theorem Trk.start{B:Nat}{nw bt:Nat}(hbb:B<=bt)(hb0:0<B)(h:zeo w bt nw (.slice none 0 0) (.slice none 0 0))(hnw:nw<=1000)(hB:zaY w)(mk:Nat->Nat)(f:Nat->Nat->Bool)(fr:Nat->Nat)(F:Nat->Nat->Nat):Trk B w 0 nw bt (.slice none 0 0) (.slice none 0 0) mk f fr F:=
 ⟨h,⟨rfl,.inl ⟨rfl,rfl⟩⟩,⟨rfl,.inl ⟨rfl,rfl⟩⟩,⟨fun _ hp=>absurd hp (zsg _),fun _ _ hp=>absurd hp (zsg _)⟩,fun _ hp=>absurd hp (zsg _),zsj _,hnw,hB,hbb,hb0⟩
theorem zem{P:Program}{ops:Array Oper}{rest:List Oper}{o:Oper}{a:Act}{Q:Exit->Act->World->Prop}(hg:o.guard=none)(t:TypeId)(x:Operand)(ho:o.op=.box t x)(cells:Array Value)(hx:(a.eval x).cells=cells)
  (h:wpList P ops Q rest (a.put o.dst (.pointer (some ⟨w.heap.size,0,none⟩))) (w.alloc (.cells cells t))):wpList P ops Q (o::rest) a w:=by
 subst hx;refine wpList_plain hg fun K hK=>?_
 unfold Oper.wp execOp;simp only[ho,Sem.run_bind,Instr.box,newVar,newRow,run_newObj_alloc,Sem.run_pure,Result.andThen_ok];exact hK _ _ h
theorem zhQ(k:Int):Tryz.prog.built 207 [(0,.int .i64 k)]=some #[.int .i64 k,.slice none 0 0,.slice none 0 0]:=by kernel_rfl
theorem zim(wt nw:Nat)(hnw:nw=(wt+63)/64)(hwt:wt<=2001)(w:World):
  Calls Tryz.prog 105 #[.int .i64 wt] w fun e W=>e=.returned (.pointer (some ⟨w.heap.size,0,none⟩))/\W=w.alloc (.cells #[.int .i64 nw,.slice none 0 0,.slice none 0 0] 207):=by
 have e1:((wt:Int)+63)/64=(nw:Int):=by omega
 have e2:((wt:Int)+63).tdiv 64=(nw:Int):=by rw[<-e1];exact Int.tdiv_eq_ediv_of_nonneg (by omega)
 have hb:=zhQ nw;have hnl:nw<=1000:=by omega
 clear hnw
 go_enter Tryz.func105,Tryz.ntmps105
 go_wp2_with (first|(refine zdm rfl 207 #[(0,.tmp 5)] rfl [(0,.int .i64 nw)] (by simp[Act.eval]) _ hb ?_)|(refine zem rfl 207 (.tmp 6) rfl #[.int .i64 nw,.slice none 0 0,.slice none 0 0] rfl ?_))
 go_ret
 exact⟨rfl,rfl⟩
end
section
open Go.RowKit
theorem zbz{w:World}:∀(p:Pt) (v:Value),zai w v p->zb6 v (wPt p)
 |.set f,_,⟨mg,h1,_⟩=>by subst h1;exact zg1 _
 |.seq l r,_,⟨lv,rv,h1,h2,h3⟩=>by
  subst h1;have hl:=za8 l lv h2;have hr:=za8 r rv h3;exact zg0 lv rv _ _ (zbz l lv h2) (zbz r rv h3) (by omega) (by omega) (by omega) (by omega)
 |.alt l r,_,⟨lv,rv,h1,h2,h3⟩=>by
  subst h1;have hl:=za8 l lv h2;have hr:=za8 r rv h3;exact zgX lv rv _ _ (zbz l lv h2) (zbz r rv h3) (by omega) (by omega) (by omega) (by omega)
 |.rep b mn mx,_,⟨lv,h1,h2,h3⟩=>by
  subst h1;have hl:=za8 b lv h2;exact zgZ lv _ mn mx (zbz b lv h2) (by omega) (by omega) h3
 |.grp b g,_,⟨lv,h1,h2⟩=>by
  subst h1;exact zgY lv g _ (zbz b lv h2)
structure BfA(W:World)(s bt ga gl nw:Nat)(e:Bool)(wr:World)(k:Nat)(br:Nat->Nat)(ba:Option Addr)(bc:Nat):Prop where
 tc:zan (· = s) W wr
 box:wr.heap[s]?=some (.cells #[.pointer (some ⟨bt,0,none⟩),.bool e,.slice (some ⟨ga,0,none⟩) nw nw,.slice (some ⟨gl,0,none⟩) nw nw,.slice ba k bc,.pointer none,.pointer none] 177 (0,0))
 own:wr.ownsRow W.heap.size 129 1 (.slice ba k bc) k (slcL br nw k)
 set:∀p,p<k->zal wr nw (br p) zaQ/\W.heap.size<=br p
 inj:∀p q,p<k->q<k->br p=br q->p=q
theorem zpT(B m nw gn:Nat)(sv:Value)(br:Nat->Nat)(w:World)(h:w.ownsRow B 129 1 sv m (slcL br nw m))(hm:m<=64000)(hB:B<=w.heap.size):
  ∃g c w',(appP #[175,175] 175 #[sv,.slice (some ⟨w.heap.size,0,none⟩) 1 1]).run Tryz.prog (w.alloc (.cells #[.slice (some ⟨gn,0,none⟩) nw nw] 129))=.ok (.slice (some ⟨g,0,none⟩) (m+1) c) w'/\w'.ownsRow B 129 1 (.slice (some ⟨g,0,none⟩) (m+1) c) (m+1) (slcL br nw m++[.slice (some ⟨gn,0,none⟩) nw nw])/\w.grownBy w' sv.ownBlock:=by
 obtain⟨i1,hj,hy0,hy1,hy2⟩:=info_parts Tryz.infoPosSet;obtain⟨v',w8,hap,hown,hgr,-⟩:=run_append_own (P:=Tryz.prog) (w.alloc (.cells #[.slice (some ⟨gn,0,none⟩) nw nw] 129)) B 175 175 129 i1 _ 1 24 Tryz.underlying175 hj hy0 hy1 hy2 rfl (by decide) sv m (slcL br nw m) (h.alloc _) ⟨w.heap.size,0,none⟩ 1 1 [.slice (some ⟨gn,0,none⟩) nw nw] rfl (fun j u hj=>by
   match j,hj with
   |0,hj=>simp at hj;subst hj;simp[Addr.add]) (by intro u hu;simp at hu;subst hu;rfl) (by unfold maxLen;omega) (by omega) (by simp;omega)
 obtain⟨g8,cap8,rfl⟩:=zgV hown;exact⟨g8,cap8,w8,hap,hown,⟨hgr.os,hgr.tape,hgr.output,zsb (by simp) hgr.size,fun k hk hne=>by rw[hgr.block k (by simp;omega) hne,Below.heap_alloc _ _ _ hk]⟩⟩
theorem BfA.next{W:World}{s bt ga gl nw:Nat}{e:Bool}{wr:World}{k:Nat}{br:Nat->Nat}{ba:Option Addr}{bc:Nat}(h:BfA W s bt ga gl nw e wr k br ba bc)(hk:k<=64000)(hs:s<W.heap.size){cs:Nat}{x:Value}(hcs:wr.heap[cs]?=some (.cells #[x] 112 (0,0))){w6:World}(hp:zal w6 nw wr.heap.size zaQ)(hg:wr.drew.grownBy w6 none):
  ∃g c w10,(w6.cell? ⟨cs,0,none⟩=some x/\w6.cell? ⟨s,4,none⟩=some (.slice ba k bc))/\((w6.alloc (.cells #[.slice (some ⟨wr.heap.size,0,none⟩) nw nw] 129)).cell? ⟨cs,0,none⟩=some x/\(w6.alloc (.cells #[.slice (some ⟨wr.heap.size,0,none⟩) nw nw] 129)).cell? ⟨s,4,none⟩=some (.slice ba k bc))/\
   (appP #[175,175] 175 #[.slice ba k bc,.slice (some ⟨w6.heap.size,0,none⟩) 1 1]).run Tryz.prog (w6.alloc (.cells #[.slice (some ⟨wr.heap.size,0,none⟩) nw nw] 129))=.ok (.slice (some ⟨g,0,none⟩) (k+1) c) w10/\w10.cell? ⟨cs,0,none⟩=some x/\w10.frozen? ⟨s,4,none⟩=false/\w10.cell? ⟨s,4,none⟩=some (.slice ba k bc)/\
   BfA W s bt ga gl nw e (w10.setCell ⟨s,4,none⟩ (.slice (some ⟨g,0,none⟩) (k+1) c)) (k+1) (fun i=>if i=k then wr.heap.size else br i) (some ⟨g,0,none⟩) c:=by
 have sz:W.heap.size<=wr.heap.size:=h.tc.size;have b6:∀j,j<wr.heap.size->w6.heap[j]?=wr.heap[j]?:=fun j hj=>hg.block j hj (by simp)
 have box6:=(b6 s (by omega)).trans h.box;have cs6:=(b6 cs (zrc.1 hcs).1).trans hcs;have own6:w6.ownsRow W.heap.size 129 1 (.slice ba k bc) k (slcL br nw k):=zar h.own fun j c e=>(b6 j (zrc.1 e).1).trans e
 have sz6:wr.heap.size<=w6.heap.size:=hg.size;obtain⟨g,c,w10,hap,own10,gr10⟩:=zpT W.heap.size k nw wr.heap.size (.slice ba k bc) br w6 own6 hk (by omega);have ob:∀j,(Value.slice ba k bc).ownBlock=some j->W.heap.size<=j/\∃cur,w6.heap[j]?=some (.cells cur 129 (0,0)):=fun j e=>zaP own6 e
 have keep:∀(j:Nat) (cs:Array Value) (t:TypeId),w6.heap[j]?=some (.cells cs t (0,0))->t≠129->w10.heap[j]?=some (.cells cs t (0,0)):=fun j cs t e hn=>(gr10.block j (zrc.1 e).1 (fun e2=>by
  obtain⟨-,cur,e3⟩:=ob j e2.symm;rw[e] at e3;exact hn (zad e3))).trans e
 have box10:=keep s _ _ box6 (by decide);have cs10:=keep cs _ _ cs6 (by decide);have hot:∀j,j≠s->(w10.setCell ⟨s,4,none⟩ (.slice (some ⟨g,0,none⟩) (k+1) c)).heap[j]?=w10.heap[j]?:=fun j hj=>zsq _ _ _ _ (show j≠s from hj)
 have pos:∀(j:Nat) (T:Nat->Nat),zal w6 nw j T->zal (w10.setCell ⟨s,4,none⟩ (.slice (some ⟨g,0,none⟩) (k+1) c)) nw j T:=fun j T hp=>⟨(hot j (fun e=>by have:=hp.row;rw[e,box6] at this;exact absurd (zad this) (by decide))).trans (keep j _ _ hp.row (by decide)),hp.lt⟩
 refine⟨g,c,w10,⟨(zsm _ _ _ _ _ _ cs6:_=_),(zaG box6).2.2.2.2.1⟩,⟨(zsm _ _ _ _ _ _ (zah cs6):_=_),(zaG (zah box6)).2.2.2.2.1⟩,hap,(zsm _ _ _ _ _ _ cs10:_=_),zso _ _ 4 _ _ box10,(zaG box10).2.2.2.2.1,?_,zsr _ _ 4 _ _ _ box10,?_,fun p hp'=>?_,fun p q hp' hq'=>?_⟩
 ·refine⟨gr10.os.trans (hg.os.trans h.tc.os),gr10.tape.trans (hg.tape.trans h.tc.tape),gr10.output.trans (hg.output.trans h.tc.output),?_,fun j h1 h2=>?_⟩
  ·have:=gr10.size;simp;omega
  ·rw[hot j h2,gr10.block j (by omega) (fun e=>by have:=(ob j e.symm).1;omega),b6 j (by omega),h.tc.same j h1 h2]
 ·rw[<-ziF];exact zar own10 fun j cs e=>(hot j (fun e2=>by rw[e2,box10] at e;exact absurd (zad e) (by decide))).trans e
 ·by_cases e:p=k
  ·simp only[zst e];exact⟨pos _ _ hp,by omega⟩
  ·simp only[zss e];have:=h.set p (by omega);exact⟨pos _ _ ⟨(b6 _ this.1.glt).trans this.1.row,this.1.lt⟩,this.2⟩
 ·have l:∀p,p<k->br p<wr.heap.size:=fun p hp=>(h.set p hp).1.glt
  by_cases e1:p=k<;>by_cases e2:q=k
  ·intro _;omega
  ·simp only[zst e1,zss e2];intro e3;have:=l q (by omega);omega
  ·simp only[zss e1,zst e2];intro e3;have:=l p (by omega);omega
  ·simp only[zss e1,zss e2];exact h.inj p q (by omega) (by omega)
end
section
open Go.RowKit
structure BfB(W:World)(n nw:Nat)(br:Nat->Nat)(F:Nat->Nat->Nat)(wr:World)(k:Nat)(G:Nat->Nat->Nat):Prop where
 tc:zan (fun j=>∃p,p<n/\j=br p) W wr
 set:∀p,p<n->zal wr nw (br p) (G p)/\∀q,zae (G p) q=true↔q<k/\zae (F q) p=true
theorem zj4{w1 W2 W3 W5 W6 wr:World}{n nw bt ga gl s:Nat}{e:Bool}{M:PA}{sv:Value}{fa ba:Option Addr}{fc bc:Nat}{mk0:Nat->Nat}{f0:Nat->Nat->Bool}{fr0:Nat->Nat}{F0:Nat->Nat->Nat}{mk:Nat->Nat}{f:Nat->Nat->Bool}{fr br:Nat->Nat}{F G:Nat->Nat->Nat}{A L:Nat->Nat}
  (hbt:bt=w1.heap.size) (h2:bt<W2.heap.size) (hp:0<bt) (D:WrD bt W2 0 nw bt mk0 f0 fr0 F0 W3 n ga gl e M sv (.slice fa n fc) mk f fr F A L)
  (hs:s=W3.heap.size) (hs5:s<W5.heap.size) (h5:Below W3.heap.size W3 W5) (hA:BfA W5 s bt ga gl nw e W6 n br ba bc) (hB:BfB W6 n nw br F wr n G):
  StdC wr s ⟨bt,wr.heap.size,n,nw,bt,ga,gl,sv,fa,fc,ba,bc,fr,br,mk,f,F,G,A,L,e⟩/\wr.heap[s]?=some (.cells (zhB ⟨bt,wr.heap.size,n,nw,bt,ga,gl,sv,fa,fc,ba,bc,fr,br,mk,f,F,G,A,L,e⟩ (.pointer none) (.pointer none)) 177 (0,0))/\zcZ M n nw f F G A L/\(e=true↔M.e):=by
 have sz5:=h5.size;have sz6:=hA.tc.size;have szr:=hB.tc.size;have hbr:∀p,p<n->W5.heap.size<=br p:=fun p hp=>(hA.set p hp).2
 have same6:∀k,k<W5.heap.size->wr.heap[k]?=W6.heap[k]?:=fun k hk=>hB.tc.same k (by omega) (fun⟨p,h1,h2⟩=>by have:=hbr p h1;omega)
 have same:∀k,k<W3.heap.size->wr.heap[k]?=W3.heap[k]?:=fun k hk=>(same6 k (by omega)).trans ((hA.tc.same k (by omega) (by omega)).trans (h5.block k hk))
 have cell:∀k o,k<W3.heap.size->wr.cell? ⟨k,o,none⟩=W3.cell? ⟨k,o,none⟩:=fun k o hk=>World.cell?_of_block (same k hk)
 have pos:∀{g:Nat} {T:Nat->Nat},zal W3 nw g T->zal wr nw g T:=fun h=>⟨(same _ h.glt).trans h.row,h.lt⟩
 have lt3:∀{k:Nat} {o:Obj},W3.heap[k]?=some o->k<W3.heap.size:=fun h=>(zrc.1 h).1
 have hbtl:=lt3 D.tk.box;have sz3:=D.kp.size;have hD:∀q,M.D q↔q<n:=fun q=>(D.good.dm q).symm.trans ⟨fun h=>h.2,fun h=>⟨zsj _,h⟩⟩
 have hfo:∀p q,p<n->zae (F p) q=true->q<n:=fun p q hp h=>(D.good.fo p q ⟨zsj _,hp⟩ h).2
 have svs:0<n->∃gs cs:Nat,sv=.slice (some ⟨gs,0,none⟩) n cs/\gs<wr.heap.size/\∀p,p<n->wr.cell? ⟨gs,p,none⟩=some (.pointer (some ⟨mk p,0,none⟩)):=fun hn=>by
  obtain⟨gs,cs,h1,h2,h3⟩:=D.tk.setsAt hn;exact⟨gs,cs,h1,by omega,fun p hp=>(cell _ _ h2).trans (h3 p hp)⟩
 have mks:∀p,p<n->wr.heap[mk p]?=some (.cells (zao (f p)) 197 (0,0))/\mk p<wr.heap.size:=fun p hp=>by
  have h1:=D.tk.mks p hp;have h2:=lt3 h1;exact⟨(same _ h2).trans h1,by omega⟩
 have bru:zaY wr:=D.tk.bru.keep (same 0 (by omega));have lga:=D.fg.fi.glt;have lgl:=D.fg.la.glt;have c1:StC wr.heap.size wr n nw bt ga gl (.slice fa n fc) sv (.slice fa n fc) fr mk F A L f:=by
  refine⟨(same _ hbtl).trans D.tk.box,by omega,svs,mks,fun hn=>?_,fun p hp=>?_,⟨pos D.fg.fi,by omega⟩,⟨pos D.fg.la,by omega⟩,bru,by omega,zsa _,D.tk.n64,D.tk.nwl,fun p q h1 _ h3=>hfo p q h1 h3,fun q _ h=>(D.good.fi q h).2⟩
  ·obtain⟨g,cap,cur,h1,h2,h3⟩:=zbc D.tk.fo hn;have hl:=lt3 h2;exact⟨g,cap,h1,by omega,fun p hp=>by rw[cell g p hl,zsm _ _ _ _ _ _ h2,h3 p hp];simp[slcL,hp]⟩
  ·have h1:=D.tk.fol.rows p hp;exact⟨pos h1,by have:=h1.glt;omega⟩
 have c2:StC wr.heap.size wr n nw bt gl ga (.slice ba n bc) sv (.slice fa n fc) br mk G L A f:=by
  refine⟨c1.box,c1.btB,svs,mks,fun hn=>?_,fun p hp=>⟨(hB.set p hp).1,(hB.set p hp).1.glt⟩,c1.pl,c1.pa,bru,c1.pos,zsa _,D.tk.n64,D.tk.nwl,fun p q h1 _ h3=>(((hB.set p h1).2 q).1 h3).1,fun q _ h=>(D.good.la q h).2⟩;obtain⟨g,cap,cur,h1,h2,h3⟩:=zbc hA.own hn;have hl:g<W6.heap.size:=(zrc.1 h2).1;have hr:wr.heap[g]?=some (.cells cur 129 (0,0)):=(hB.tc.same g hl (fun⟨p,h4,h5⟩=>by
   have:=(hA.set p h4).1.row;rw[<-h5,h2] at this;exact absurd (zad this) (by decide))).trans h2
  exact⟨g,cap,h1,by omega,fun p hp=>by rw[zsm _ _ _ _ _ _ hr,h3 p hp];simp[slcL,hp]⟩
 refine⟨⟨c1,c2,hp,by show bt<=s;omega,by show s<wr.heap.size;omega,zsa _,by have:=D.na;show bt<=ga;omega,by have:=D.nl;show bt<=gl;omega,fun k h=>?_,fun k h=>?_,fun k h=>?_,fun p hp=>?_,fun p hp=>?_,by show bt≠s;omega,by show ga≠s;omega,by show gl≠s;omega,fun p hp=>⟨?_,?_⟩⟩,(same6 s hs5).trans hA.box,⟨D.tk.n64,hD,fun q h=>(hD q).2 ((D.good.fi q ((D.good.fs q).2 h)).2),fun q h=>(hD q).2 ((D.good.la q ((D.good.ls q).2 h)).2),fun p q h1 h2=>?_,fun q c hq=>(D.good.tks q c ⟨zsj _,hq⟩).symm,fun q r hq _=>D.good.fl q r ⟨zsj _,hq⟩,fun q r hq hr=>?_,fun q _=>D.good.fs q,fun q _=>D.good.ls q⟩,D.good.em⟩
 ·obtain⟨h1,cur,h2⟩:=zaP D.tk.so h;have:=lt3 h2;exact⟨h1,by omega⟩
 ·obtain⟨h1,cur,h2⟩:=zaP D.tk.fo h;have:=lt3 h2;exact⟨h1,by omega⟩
 ·obtain⟨h1,-⟩:=zaP hA.own h;exact⟨by show bt<=k;omega,by omega⟩
 ·have:=D.new p (zsj _) hp;show bt<=fr p;omega
 ·have:=hbr p hp;show bt<=br p;omega
 ·have:=(D.tk.fol.rows p hp).glt;show fr p≠s;omega
 ·have:=hbr p hp;show br p≠s;omega
 ·have hq:=(hD p).1 h1;exact(hD q).2 (hfo p q hq ((D.good.fl p q ⟨zsj _,hq⟩).2 h2))
 ·rw[(hB.set q hq).2 r];exact⟨fun h=>(D.good.fl r q ⟨zsj _,hr⟩).1 h.2,fun h=>⟨hr,(D.good.fl r q ⟨zsj _,hr⟩).2 h⟩⟩
end
open Go
section
variable {P:Program} {ops:Array Oper} {md:Region.Mode} {C:World->Prop}
def za9(md:Region.Mode)(ops:Array Oper)(listed:Array Bool):Prop:=∀(k:Nat) (o:Oper),ops[k]?=some o->listed.getD k true=true->∀e∈o.after,Region.binds md e=true->listed.getD e.on true=true
theorem zhc{l:Array Bool}{i j:Nat}(h:l.getD i true=true):(l.setIfInBounds j true).getD i true=true:=by
 by_cases e:j=i
 ·subst e
  by_cases hj:j<l.size
  ·simp[hj]
  ·simp[hj]
 ·rw[getD_set_ne true e];exact h
theorem za9.start(md:Region.Mode)(ops:Array Oper):za9 md ops (Array.replicate ops.size false):=fun k o hk h=>by
 have hlt:=(Array.getElem?_eq_some_iff.1 hk).1;simp[hlt] at h
theorem zpb{listed:Array Bool}{j:Nat}{o:Oper}(ho:ops[j]?=some o)(hj:j∈Region.ready md ops listed):∀e∈o.after,Region.binds md e=true->listed.getD e.on true=true:=fun e he hb=>by
 obtain⟨_,o',ho',hall⟩:=mem_ready.1 hj;rw[ho] at ho';cases ho';have h1:=hall e he hb;rcases Nat.lt_or_ge e.on listed.size with h'|h'
 ·simp[h'] at h1 ⊢;exact h1
 ·simp[Array.getElem?_eq_none h'] at h1
theorem za9.set{listed:Array Bool}(h:za9 md ops listed){j:Nat}(hj:j∈Region.ready md ops listed):za9 md ops (listed.setIfInBounds j true):=fun k o hk hl e he hb=>by
 refine zhc ?_
 by_cases e1:j=k
 ·subst e1;exact zpb hk hj e he hb
 ·rw[getD_set_ne true e1] at hl;exact h k o hk hl e he hb
end
end Go.Proofs.YthdljcdbfmhleaaGreatDoor
