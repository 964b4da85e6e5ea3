import Derived.Test.YtdimhpfiieepiaaGreatDoorC29
import Derived.WalkSpells
namespace Go.Proofs.YtdimhpfiieepiaaGreatDoor
open Proofs.Tryz
open Option renaming some->zb,none->zc
open Go renaming World->zd,Value->zh,Calls->zl,TypeId->zm
open Value renaming slice->ze,pointer->zf,int->zj
open RowKit renaming Hid->zg,Below->zk
open Obj renaming cells->zi
set_option maxHeartbeats 4000000
set_option maxRecDepth 100000
open Go.RowKit
section
attribute [local go_sem ↓] wp_at_zero wp_at_succ
section
variable {bs:List aV}{w W:zd}{vs:List zh}{rs:List bi}
theorem zlk{st:List Int}(hl:jq bs=zb st)(hle:iH st<=2000):iH st=jM bs:=by
 cases ha:nQ bs
 ·rw[Xh bs ha]at hl;cases hl
 ·rw[Xi bs ha]at hl;cases hl;unfold iH at hle ⊢;rw[Yg _ 0 (by omega) (by omega) (by
   intro x hx;obtain⟨b,hb,rfl⟩:=rh.1 hx;have:=iQ.1 ha b hb;rw[de]at this;have:=QV this.1 (Nn this.1) this.2;omega),<-Xx,Int.zero_add]at hle ⊢
  unfold cM at hle ⊢;split
  ·rfl
  ·rw[ak (by assumption)]at hle;omega
def zT(w:zd)(v:zh)(bs:List aV):Prop:=∃(g sc:Nat) (st:List Int) (xs:List zh),v=ze (zb ⟨g,0,zc⟩) bs.length sc/\g<w.heap.size/\st.length=bs.length/\iH st=jM bs/\iH st<=2000/\(∀j,j<bs.length->w.cell? ⟨g,j,zc⟩=xs[j]?)/\sk w xs st (sA bs)
theorem zT.keep{v:zh}(h:zT w v bs)(hs:w.heap.size<=W.heap.size)(hk:∀(k:Nat) (cs:Array zh) (t:zm),w.heap[k]?=zb (zi cs t (0,0))->t=184\/t=293->W.heap[k]?=zb (zi cs t (0,0)))(hp:∀g sc,v=ze (zb ⟨g,0,zc⟩) bs.length sc->∃cs,w.heap[g]?=zb (zi cs 184 (0,0))):zT W v bs:=by
 obtain⟨g,sc,st,xs,e,h1,h2,h3,h4,h5,h6⟩:=h;obtain⟨cs,hc⟩:=hp g sc e;have hW:=hk _ _ _ hc (.inl rfl);refine⟨g,sc,st,xs,e,by omega,h2,h3,h4,λj hj=>?_,h6.keep λmg f hm=>hk _ _ _ hm (.inr rfl)⟩;rw[aM _ _ _ _ _ _ hW,<-aM _ _ _ _ _ _ hc];exact h5 j hj
structure sx(w:zd)(vs:List zh)(rs:List bi):Prop where
 len:vs.length=rs.length
 at_:∀i,i<rs.length->∃(g sc:Nat) (cs:Array zh),vs[i]?=zb (ze (zb ⟨g,0,zc⟩) (rs.getD i .zero).branches.length sc)/\w.heap[g]?=zb (zi cs 184 (0,0))/\zT w (ze (zb ⟨g,0,zc⟩) (rs.getD i .zero).branches.length sc) (rs.getD i .zero).branches
theorem sx.keep(h:sx w vs rs)(hs:w.heap.size<=W.heap.size)(hk:∀(k:Nat) (cs:Array zh) (t:zm),w.heap[k]?=zb (zi cs t (0,0))->t=184\/t=293->W.heap[k]?=zb (zi cs t (0,0))):sx W vs rs:=
 ⟨h.len,λi hi=>by
  obtain⟨g,sc,cs,h1,h2,h3⟩:=h.at_ i hi;exact⟨g,sc,cs,h1,hk _ _ _ h2 (.inl rfl),h3.keep hs hk (λg' Qf e=>by cases e;exact⟨cs,h2⟩)⟩⟩
theorem sx.below(h:sx w vs rs)(hb:zk w.heap.size w W):sx W vs rs:=
 h.keep hb.size λk _ _ e _=>(hb.block k (ah.1 e).1).trans e
theorem sx.snoc{k g sc:Nat}{cs:Array zh}(h:sx w vs (rs.take k))(hk:k<rs.length)(hc:w.heap[g]?=zb (zi cs 184 (0,0)))(hp:zT w (ze (zb ⟨g,0,zc⟩) (rs.getD k .zero).branches.length sc) (rs.getD k .zero).branches):sx w (vs++[ze (zb ⟨g,0,zc⟩) (rs.getD k .zero).branches.length sc]) (rs.take (k+1)):=by
 have hl:=h.len;rw[List.length_take,JV (by omega)]at hl;refine⟨by simp[hl];omega,λi hi=>?_⟩;rw[List.length_take,JV (by omega)]at hi;have e:∀m,i<m->(rs.take m).getD i .zero=rs.getD i .zero:=λm hm=>by simp[List.getD,hm]
 rw[e (k+1) hi]
 by_cases IC:i=k
 ·subst IC;exact⟨g,sc,cs,by rw[sJ (by omega),hl];simp,hc,hp⟩
 ·obtain⟨g',Qf,fN,h1,h2,h3⟩:=h.at_ i (by rw[List.length_take,JV (by omega)];omega);rw[e k (by omega)]at h1 h3;exact⟨g',Qf,fN,by rw[pH (by omega)];exact h1,h2,h3⟩
def zuk(w:zd)(rs:List bi)(e:Ending)(W:zd):Prop:=
 zk w.heap.size w W/\((lu rs=false/\∃a b,e=.returned (.tuple #[a,b,.bool false]))\/(lu rs=true/\∃(g cap:Nat) (vs:List zh),e=.returned (.tuple #[ze (zb ⟨g,0,zc⟩) rs.length cap,zj .i64 (iM rs),.bool true])/\W.ownsRow w.heap.size 155 1 (ze (zb ⟨g,0,zc⟩) rs.length cap) rs.length vs/\sx W vs rs))
theorem Tryz.zAp:(prog.info? 155).map (λi=>(i.zero,i.size,i.bytes))=zb (zb (ze zc 0 0),1,24):=by kernel_rfl
theorem zlj{lo:Nat}(v:zh)(rs:List bi)(w:zd)(hs:fU lo w v rs)(hsm:pC rs):
  zl prog 70 #[v] w λe W=>zuk w rs e W:=by
 obtain⟨ao,cap,rfl,hm,hc⟩:=hs;have hl:=hsm.1;obtain⟨i0,hi,bI,aO,aQ⟩:=info_parts Tryz.zAp
 by_cases Ps:rs.length<=100
 ·have ag:¬(100:Int)<(rs.length:Int):=by omega
  have HC:=aA hc;have N6:=aA hsm;clear hc hsm hl
  go_enter func70,ntmps70
  go_wp2_with fail
  go_loopw [5,6,17] (λs sv i wr=>∃(k g cap:Nat) (vs:List zh),k<=rs.length/\i=zj .i64 k/\s=ze (zb ⟨g,0,zc⟩) k cap/\sv=zj .i64 (iM (rs.take k))/\zk w.heap.size w wr/\wr.ownsRow w.heap.size 155 1 (ze (zb ⟨g,0,zc⟩) k cap) k vs/\sx wr vs (rs.take k)/\zg ((rs.take k).all iK=true)/\0<=iM (rs.take k)/\iM (rs.take k)<=2000*k) (λ_ _ i _=>rs.length-(intOf i).toNat)
  case atStart=>exact⟨0,w.heap.size,0,[],aR _,rfl,rfl,by simp[iM],aw,Qq w _ _ _ (aj _) rfl,⟨rfl,λi hi=>absurd hi (cR _)⟩,rfl,by simp[iM],by simp[iM]⟩
  case round=>
   obtain⟨k,g,fB,vs,hk,rfl,rfl,rfl,hb,aB,hP,io,wy,mh⟩:=hrel
   by_cases hlt:k<rs.length
   ·obtain⟨b,o,bv,rd,rfl,gD,aZ,c0,c1,iU⟩:=HC.out.elem hb hlt;have rX:=zkC rs k hlt;rw[gD.out]at rX;have Dn:=N6.out.2 k hlt;rw[gD.out]at Dn;obtain⟨bo,bc,rfl,xB,qG⟩:=iU;have da:(0:Int)<=(k:Int):=by omega
    have cO:(k:Int)<(rs.length:Int):=by omega
    have za:eh lo w (.slice bo rd.branches.length bc) rd.branches:=⟨bo,bc,rfl,xB,qG⟩;obtain⟨W2,dk⟩:∃W2,wr.alloc (zi #[.slice bo rd.branches.length bc,zj .i64 rd.di] 69)=W2:=⟨_,rfl⟩;have b2:zk wr.heap.size wr W2:=by rw[<-dk];exact aw
    have x2:W2.heap[wr.heap.size]?=zb (zi #[.slice bo rd.branches.length bc,zj .i64 rd.di] 69 (0,0)):=by rw[<-dk];exact aI _ _
    have dg:=aq hb hb.size b2;have cr:=zjT rd.di (.slice bo rd.branches.length bc) rd.branches W2 (za.below dg) Dn;obtain⟨q0,q1⟩:=jr x2;have Lh:(rs.take (k+1)).all iK=iK rd:=by
     rw[List.take_add_one,List.all_append,io.out,dh hlt,<-gD.out];simp[List.getD,hlt]
    have hno:iK rd=false->lu rs=false:=λh=>by
     have:rs.all iK=false:=by
      rw[Bool.eq_false_iff];intro h2;have h3:=iQ.1 h2 rd (by rw[<-gD.out];simp[List.getD,hlt]);rw[h]at h3;cases h3
     unfold lu;rw[this];simp
    have LZ:iK rd=qo rd.di rd.branches:=(zqd _ _).symm;have Zh:=aA LZ;have RV:=aA hno;have RI:=aA Lh;have Ai:=aA dk;have J9:=aA rX;have Ad:=aA dg;have pJ:=aA b2;have HOW:=aA aB;have HP:=aA hP;have HRB:=aA (YN (r:=rd));clear qG za dk x2 rX dg b2 hb io Lh hno LZ Dn xB aB hP
    go_upto_region 8 with fail
    rw[Ai.out];clear Ai c0 c1
    go_wp2_with fail
    refine cr.mono ?_;rintro e W3 ⟨b3,⟨hi,pv,rfl⟩|⟨hi,st,xs,B0,g3,Qg,hst,zxy,Vr,rfl,L6,I0⟩⟩
    ·have Hi:=aA hi;clear hi cr;go_wp2;exact bh (v:=.tuple #[ze zc 0 0,zj .i64 0,.bool false]) (by simp[results,results70,go_sem]) rfl ⟨aq Ad.out Ad.out.size b3,.inl ⟨RV.out (by rw[Zh.out];exact Hi.out),_,_,rfl⟩⟩
    ·have Hi:=aA hi;have jU:=aA hst;have SB:=aA zxy;have kn:=aq Ad.out Ad.out.size b3;have zxK:zk wr.heap.size wr W3:=pJ.out.trans (b3.mono pJ.out.size);have kH:=dQ HOW.out zxK;have RY:=aA (HP.out.below zxK);have Zp:=aA (zlk hst Vr);have zvR:=aA Vr;have HTR:=aA I0;have GL:=aA L6;obtain⟨N,j8⟩:=I0.parts;have Zi:=aA j8;have mf:st.length<=2000000:=by have:=(N6.out.2 k hlt).1;rw[gD.out]at this;omega
     clear hi hst zxy Vr L6 I0 j8 cr q0 q1
     go_wp2_with (at_builtin;refine wL W3 rfl (.tmp 28) (.tmp 30) 123 rfl w.heap.size 155 i0 _ 24 underlying123 hi bI aO aQ rfl g fB k vs _ rfl kH rfl rfl (by omega) (by omega) kn.size ?_;intro g' cap' w5 qb vX dF)
     obtain⟨zAV,zzz⟩:=Q8 kH;have IF:∀(b:Nat) (cs:Array zh) (t:zm),W3.heap[b]?=zb (zi cs t (0,0))->t≠155->w5.heap[b]?=zb (zi cs t (0,0)):=λb cs t e ht=>(vX.block b (ah.1 e).1 (λe2=>by cases e2;rw[zzz]at e;injection e with e;injection e with e1 e2;exact ht e2.symm)).trans e
     have TL:=li GL.out (W:=w5) λb cs e=>IF b cs _ e (by decide)
     have VC:=WS st xs w5 TL Zi.out mf;obtain⟨sc,Ou⟩:∃sc:Int,zg (iH st=sc):=⟨_,rfl⟩;rw[Ou.out]at VC;have dD:0<=sc:=by have:=(Nr Zi.out st.length (aj _)).1;rw[wY]at this;rw[<-Ou.out];exact this
     have dH:sc<=2000:=by rw[<-Ou.out];exact zvR.out
     have Zg:=aA TL;have Y9:=aA vX;have HW5:=aA qb;have Za:=aA IF;have zBv:(k:Int)<=100:=by omega
     have Iv:=(qn kH).1;obtain⟨ws,Hws⟩:∃ws:Int,zg (iM (rs.take k)=ws):=⟨_,rfl⟩;rw[Hws.out]at wy mh ⊢;clear TL vX qb IF kH dF
     go_wp2_with fail
     refine VC.mono ?_;rintro e w6 ⟨rfl,b6⟩;clear VC;go_wp2
     go_roundw
     case rel=>
      have AM:zk w.heap.size w w5:=kn.grown Y9.out kn.size (λq e=>by cases e;exact Iv);have zAi:iM (rs.take (k+1))=ws+sc:=by rw[J9.out,Hws.out,<-Zp.out,Ou.out]
      obtain⟨ax,C8⟩:=Q8 Zg.out;have hlen:(rs.getD k .zero).branches.length=st.length:=by rw[gD.out];exact SB.out.symm
      have Ii:=HTR.out.keep (w':=w5) (λmg f hm=>Za.out _ _ _ hm (by decide));have Dk:zT w5 (ze (zb ⟨g3,0,zc⟩) (rs.getD k .zero).branches.length Qg) (rs.getD k .zero).branches:=by
       rw[gD.out];refine⟨g3,Qg,st,xs,rfl,JK C8,SB.out,Zp.out,zvR.out,λj hj=>?_,Ii⟩;have zw:j<st.length:=by rw[SB.out];exact hj
       exact Zg.out.cellAt j (by omega)
      have hPL:sx w5 (vs++[ze (zb ⟨g3,0,zc⟩) (rs.getD k .zero).branches.length Qg]) (rs.take (k+1)):=(RY.out.keep Y9.out.size λb cs t e ht=>Za.out b cs t e (by rcases ht with rfl|rfl<;>decide)).snoc hlt C8 Dk;rw[hlen]at hPL;refine⟨k+1,g',cap',vs++[ze (zb ⟨g3,0,zc⟩) st.length Qg],by omega,by go_num,rfl,by rw[zAi],aq AM AM.size b6,dQ HW5.out b6,hPL.below b6,?_,by omega,by omega⟩;show _=true;rw[RI.out,Zh.out];exact Hi.out
     case measure=>simp[intOf];omega
   ·have bK:k=rs.length:=by omega
    have O6:sx wr vs rs:=by rw[bK,wY]at hP;exact hP
    have hak:rs.all iK=true:=by have:=io.out;rw[bK,wY]at this;exact this
    have hwk:iM (rs.take k)=iM rs:=by rw[bK,wY]
    rw[hwk]at wy mh ⊢;have NZ:zg (lu rs=decide (iM rs<=4000)):=by
     show _=_;unfold lu;rw[hak,decide_eq_true Ps];simp
    have fE:wr.ownsRow w.heap.size 155 1 (ze (zb ⟨g,0,zc⟩) rs.length fB) rs.length vs:=by rw[<-bK];exact aB
    have HP:=aA O6;have HO:=aA fE;have uh:=aA bK;clear O6 fE hP aB io hak hwk bK
    by_cases h4:iM rs<=4000
    ·go_wp2;refine bh (v:=.tuple #[ze (zb ⟨g,0,zc⟩) k fB,zj .i64 (iM rs),.bool true]) (by simp[results,results70,go_sem]) rfl ⟨hb,.inr ⟨by rw[NZ.out];exact decide_eq_true h4,g,fB,vs,by rw[uh.out],HO.out,HP.out⟩⟩
    ·go_wp2;refine bh (v:=.tuple #[ze (zb ⟨g,0,zc⟩) k fB,zj .i64 (iM rs),.bool false]) (by simp[results,results70,go_sem]) rfl ⟨hb,.inl ⟨by rw[NZ.out];exact decide_eq_false (by omega),_,_,rfl⟩⟩
 ·have ag:(100:Int)<(rs.length:Int):=by omega
  have HL:=aA (show lu rs=false by unfold lu;simp;omega);clear hc hsm hl
  go_enter func70,ntmps70
  go_wp2;exact bh (v:=.tuple #[ze zc 0 0,zj .i64 0,.bool false]) (by simp[results,results70,go_sem]) rfl ⟨Below.refl _ _,.inl ⟨HL.out,_,_,rfl⟩⟩
end
section
def mkQ(t:zm)(x y:zh):Sem zh:=Instr.makeSlice t x y
theorem ziK(x y:zh):Instr.makeSlice 126 x y=mkQ 126 x y:=rfl
attribute [local go_sem ↓] ziK
theorem Tryz.zAq:(prog.info? 161).map (λi=>(i.zero,i.size,i.bytes))=zb (zb (zf zc),1,8):=by kernel_rfl
structure Cf(w:zd)(rv cv bv fv tv ev nv kv:zh)(wd:Int)(rs:List bi)(bf g cap gq:Nat)(vs:List zh)(W:zd):Prop where
 bu:zk w.heap.size w W
 zv3:w.heap.size<=bf
 OR:w.heap.size<=gq
 box:W.heap[bf]?=zb (zi (AW rv cv wd bv fv tv ev nv kv (ze (zb ⟨g,0,zc⟩) rs.length cap) (ze (zb ⟨gq,0,zc⟩) rs.length rs.length)) 128 (0,0))
 own:W.ownsRow w.heap.size 155 1 (ze (zb ⟨g,0,zc⟩) rs.length cap) rs.length vs
 MO:sx W vs rs
 qs:W.heap[gq]?=zb (zi (Array.replicate rs.length (zf zc)) 161 (0,0))
def G2(w:zd)(rv cv bv fv tv ev nv kv:zh)(wd:Int)(rs:List bi)(m:Bool)(e:Ending)(W:zd):Prop:=
 (m=false/\e=.returned (.tuple #[zf zc,.bool false])/\zk w.heap.size w W)\/(m=true/\∃bf g cap gq vs,e=.returned (.tuple #[zf (zb ⟨bf,0,zc⟩),.bool true])/\Cf w rv cv bv fv tv ev nv kv wd rs bf g cap gq vs W)
theorem zrv(n:Nat):(madeCells (Value.pointer zc).cells (n*1)).toList.toArray=Array.replicate n (zf zc):=by
 apply Array.ext_getElem?
 intro i
 by_cases h:i<n
 ·simp[madeCells,Value.cells,Nat.mod_one,h]
 ·simp[madeCells,h]
theorem zj5{lo:Nat}(ao:Option Addr)(rc:Nat)(cv bv fv tv ev nv kv:zh)(rs:List bi)(d:bj)(w:zd)(hr:fU lo w (.slice ao rs.length rc) rs)(hsm:pC rs)(hs:fV lo w cv bv fv tv ev nv kv d)(pw:zP d):
  zl prog 36 #[.agg #[.slice ao rs.length rc,cv,zj .i64 d.width,bv,fv,tv,ev,nv,kv]] w λe W=>G2 w (.slice ao rs.length rc) cv bv fv tv ev nv kv d.width rs (og rs d) e W:=by
 obtain⟨i0,hi,bI,aO,aQ⟩:=info_parts Tryz.zAq;obtain⟨W0,ai⟩:∃W0,w.alloc (zi #[.slice ao rs.length rc,cv,zj .i64 d.width,bv,fv,tv,ev,nv,kv] 41)=W0:=⟨_,rfl⟩;have af:zk w.heap.size w W0:=by rw[<-ai];exact aw
 have r0:W0.heap[w.heap.size]?=zb (zi #[.slice ao rs.length rc,cv,zj .i64 d.width,bv,fv,tv,ev,nv,kv] 41 (0,0)):=by rw[<-ai];exact aI _ _
 have hl:=hsm.1;have c1:=zlj (.slice ao rs.length rc) rs W0 (hr.below af) hsm;have c2:=λW (hb:zk w.heap.size w W)=>zhs cv bv fv tv ev nv kv d W (hs.below hb) pw
 have c3:=λW (hb:zk w.heap.size w W)=>DF (-1) ((rs.length:Int)-1) tv d.tag W (hs.below hb).tag
 have c4:=λW (hb:zk w.heap.size w W)=>DF (-1) ((rs.length:Int)-1) ev d.fin W (hs.below hb).fin
 have Hm:zg (og rs d=(lu rs&&iy d&&bS (-1) (rs.length-1) d.tag&&bS (-1) (rs.length-1) d.fin)):=rfl;obtain⟨q0,q1,q2,q3,q4,q5,q6,q7,q8⟩:=jL r0;have Hl:=ay hl;clear hr hs hl hsm;generalize iy d=b2 at *;generalize bS (-1) (rs.length-1) d.tag=b3 at *;generalize bS (-1) (rs.length-1) d.fin=b4 at *
 go_enter func36,ntmps36
 go_wp2_with fail
 refine c1.mono ?_;rintro e w1 ⟨ag,⟨hf,x1,x2,rfl⟩|⟨hf,g,cap,vs,rfl,lL,zx3⟩⟩
 ·have fu:=aq af af.size ag;have HF:zg (G2 w (.slice ao rs.length rc) cv bv fv tv ev nv kv d.width rs (og rs d) (.returned (.tuple #[zf zc,.bool false])) w1):=.inl ⟨by rw[Hm.out,hf];rfl,rfl,fu⟩;clear hf ag q0 q1 q2 q3 q4 q5 q6 q7 q8 ai c1 c2 c3 c4 af;go_wp2;exact bh (v:=.tuple #[zf zc,.bool false]) (by simp[results,results36,go_sem]) rfl HF.out
 have fu:=aq af af.size ag;have r1:=ck r0 ag;rw[hf]at Hm;have GK:=ay lL;have xg:=ay zx3;have c2:=c2 w1 fu;clear q0 q1 q2 q3 q4 q5 q6 q7 q8 ai c1 lL zx3 hf ag;obtain⟨q0,q1,q2,q3,q4,q5,q6,q7,q8⟩:=jL r1
 go_wp2_with fail
 refine c2.mono ?_;rintro e w2 ⟨rfl,ae⟩;have dg:=aq fu fu.size ae;have r2:=ck r1 ae;have yK:=ay (dQ GK.out ae);have N4:=ay (xg.out.below ae);clear q0 q1 q2 q3 q4 q5 q6 q7 q8 c2 GK xg;cases b2
 ·have HF:zg (G2 w (.slice ao rs.length rc) cv bv fv tv ev nv kv d.width rs (og rs d) (.returned (.tuple #[zf zc,.bool false])) w2):=.inl ⟨by rw[Hm.out];rfl,rfl,dg⟩;go_wp2;exact bh (v:=.tuple #[zf zc,.bool false]) (by simp[results,results36,go_sem]) rfl HF.out
 obtain⟨q0,q1,q2,q3,q4,q5,q6,q7,q8⟩:=jL r2;have c3:=c3 w2 dg;have c4:=c4 w2 dg;have ia:(rs.length:Int)<=1048576:=by have:=Hl.out;omega
 have jo:IntKind.i64.wrap ((rs.length:Int)-1)=(rs.length:Int)-1:=by rw[IntKind.wrap_i64];omega
 go_wp2_with fail
 refine c3.mono ?_;rintro e w3 ⟨rfl,Bx⟩;subst w3;cases b3
 ·have HF:zg (G2 w (.slice ao rs.length rc) cv bv fv tv ev nv kv d.width rs (og rs d) (.returned (.tuple #[zf zc,.bool false])) w2):=.inl ⟨by rw[Hm.out];rfl,rfl,dg⟩;go_wp2;exact bh (v:=.tuple #[zf zc,.bool false]) (by simp[results,results36,go_sem]) rfl HF.out
 go_wp2_with fail
 refine c4.mono ?_;rintro e w4 ⟨rfl,Bz⟩;subst w4;cases b4
 ·have HF:zg (G2 w (.slice ao rs.length rc) cv bv fv tv ev nv kv d.width rs (og rs d) (.returned (.tuple #[zf zc,.bool false])) w2):=.inl ⟨by rw[Hm.out];rfl,rfl,dg⟩;go_wp2;exact bh (v:=.tuple #[zf zc,.bool false]) (by simp[results,results36,go_sem]) rfl HF.out
 obtain⟨W5,xJ,qb,vW⟩:=run_make_full (P:=prog) w2.drew w2.heap.size 126 161 i0 _ 1 underlying126 hi bI aO .i64 .i64 rs.length (by rw[aQ];omega) (by unfold maxLen;omega) (aj _);have zw9:(mkQ 126 (zj .i64 (rs.length:Int)) (zj .i64 (rs.length:Int))).run prog w2.drew=.ok (ze (zb ⟨w2.heap.size,0,zc⟩) rs.length rs.length) W5:=xJ;have bD:zk w2.heap.size w2 W5:=⟨vW.os,vW.tape,vW.output,vW.size,λk hk=>vW.block k hk (by simp)⟩;obtain⟨p0,p1,p2,p3,p4,p5,p6,p7,p8⟩:=jL (ck r2 bD);have bQ:zk W5.heap.size W5 (W5.alloc (zi (AW (.slice ao rs.length rc) cv d.width bv fv tv ev nv kv (ze (zb ⟨g,0,zc⟩) rs.length cap) (ze (zb ⟨w2.heap.size,0,zc⟩) rs.length rs.length)) 128)):=aw;have Ph:zk w2.heap.size w2 (W5.alloc (zi (AW (.slice ao rs.length rc) cv d.width bv fv tv ev nv kv (ze (zb ⟨g,0,zc⟩) rs.length cap) (ze (zb ⟨w2.heap.size,0,zc⟩) rs.length rs.length)) 128)):=aq bD bD.size bQ;have IV:W5.heap[w2.heap.size]?=zb (zi (Array.replicate rs.length (zf zc)) 161 (0,0)):=by
  have:=QA qb;rw[zrv]at this;exact this
 have HF:zg (G2 w (.slice ao rs.length rc) cv bv fv tv ev nv kv d.width rs (og rs d) (.returned (.tuple #[zf (zb ⟨W5.heap.size,0,zc⟩),.bool true])) (W5.alloc (zi (AW (.slice ao rs.length rc) cv d.width bv fv tv ev nv kv (ze (zb ⟨g,0,zc⟩) rs.length cap) (ze (zb ⟨w2.heap.size,0,zc⟩) rs.length rs.length)) 128))):=.inr ⟨by rw[Hm.out];rfl,_,g,cap,w2.heap.size,vs,rfl,aq dg dg.size Ph,aW dg.size bD.size,dg.size,aI _ _,ny (dQ yK.out Ph) af.size,N4.out.below Ph,ck IV bQ⟩;clear c3 c4 xJ qb vW IV bQ Ph
 go_upto_region 7 with fail
 go_region
 go_wp2;exact bh (v:=.tuple #[zf (zb ⟨W5.heap.size,0,zc⟩),.bool true]) (by simp[results,results36,go_sem]) rfl HF.out
end
section
variable {N:Nat}{xs:List zh}{st:List Int}
theorem zmN(h:JR N xs st)(k:Nat)(hk:k<st.length)(hle:iH (st.take (k+1))<=2000):iH (st.take (k+1))=iH (st.take k)+st.getD k 0/\1<=st.getD k 0/\0<=iH (st.take k):=by
 rw[Xa st k hk]at hle ⊢;obtain⟨t,x,_,hp⟩:=h.2 k hk;have h1:=gu.facts N _ _ hp;have h2:=Nr h k (by omega);unfold cM at hle ⊢;split
 ·exact⟨rfl,h1.2.1,h2.1⟩
 ·rw[ak (by assumption)]at hle;omega
theorem zqk(h:JR N xs st)(hle:iH st<=2000):∀m k,k+m=st.length->iH (st.take k)<=iH st
 |0,k,e=>by rw[wZ (by omega)];exact Int.le_refl _
 |m+1,k,e=>by
  have h1:=zqk h hle m (k+1) (by omega);have h2:=zmN h k (by omega) (by omega);omega
theorem ztz(h:JR N xs st)(hle:iH st<=2000)(k:Nat)(hk:k<st.length):st.getD k 0<=2000:=by
 have h0:=zqk h hle (st.length-(k+1)) (k+1) (by omega);have h1:=zmN h k hk (by omega);omega
end
section
variable {u:aJ}{b:Pt}
theorem Tryz.zxV:(prog.info? 247).map (λi=>(i.zero,i.size,i.bytes))=zb (zb (.agg #[zf zc,zj .i64 0]),2,16):=by kernel_rfl
theorem zpk{i n:Nat}{L:Laid}(h:nO u n b i L):yR u i n (.az b 0 (-1)) L:=by
 show if (0:Int)=0/\(-1:Int)=-1 then nO u n b i L else jx u n (gM b (Int.toNat 0) (-1)) i L
 rw[aC ⟨rfl,rfl⟩];exact h
theorem zm1{O1:Nat->Prop}{w:zd}{nw V2:Nat}(fE:oT b){E0 E:Nat->Prop}{fr high hi:Nat}(zu:high<=hi)(h9:hi<=4096)(hE:∀x,E x->AB u (cj b 0).star E0 x)(bY:V2=nw)(t ne gs B:Nat)(pv:zh)(ps:List Nat)(rb:cz){n bt ga gl:Nat}{lv:zh}{f:Nat->Nat->Bool}{Lk:Nat->Nat->Nat}{A L:Nat->Nat}{O:Nat->Prop}
  (uH:∀W,ap O1 w W->W.heap[t]?=zb (zi #[zf (zb ⟨rb.r,0,zc⟩),ze (zb ⟨gs,0,zc⟩) ne ne,zj .i64 hi,pv] 195 (0,0))/\W.ownsRow B 3 1 pv ps.length (vp ps)/\qA O W n V2 bt ga gl lv f Lk A L rb)
  (ID:∀j,j<ps.length->ps.getD j 0<rb.m/\sD V2 (rb.Ts (ps.getD j 0)) (gU u (cj b 0).star E0 (hi-1-j))) (hof:∀i p,i+ps.length<hi->¬gU u (cj b 0).star E0 i p):YL O1 w nw u (cj b 0) E fr high (zf (zb ⟨t,0,zc⟩)):=by
 subst bY;refine .inr ⟨t,gU u (cj b 0).star E0,rfl,λW hT k hk=>?_,λk h1 h2 h3 x hx hEx hL=>?_⟩
 ·obtain⟨x1,x2,x3⟩:=uH W hT;refine(zum x3 t ne gs hi k B pv ps x1 x2 (λj hj=>(ID j hj).1) (by omega) h9).mono ?_;rintro e w' ⟨⟨y1,rfl⟩|⟨y1,rfl⟩,hb⟩
  ·exact⟨_,rfl,.inl ⟨rfl,λp hp=>hof k p (by omega) hp⟩,hb⟩
  ·obtain⟨z1,z2⟩:=ID _ y1;refine⟨_,rfl,.inr ⟨_,rb.Ts (ps.getD (hi-1-k) 0),rfl,(x3.s.set _ z1).below hb,?_⟩,hb⟩;rw[show hi-1-(hi-1-k)=k from by omega]at z2;exact z2
 ·rcases hL with ⟨e,_⟩|⟨_,q,hq,hl⟩
  ·omega
  ·obtain⟨p,p1,p2⟩:=zp7 (yt b fE 0) hq hl (hE x hEx) k h1 hx;exact h3 p p1 p2
theorem zki{w0:zd}{pl:Nat}{Q:Nat->Option Pt}{Ow:Nat->Nat->Prop}(w:zd)(h:cF w0 pl Q Ow w)(lo a a':Nat)(b:Pt)(ha:Q a=zb (.az b 0 (-1)))(ha':Q a'=zb b)(hp:dU lo w0 pl Q a' b)(t:ByteArray)(ht:t.size<=4096)(hL:Lg t.data.toList (.az b 0 (-1)) 0 t.size):
  zl prog 234 #[.agg #[zf (zb ⟨a,0,zc⟩),zf (zb ⟨a',0,zc⟩)],.string t] w λe w'=>te w0 pl Q Ow w lo t.data.toList t.size (.az b 0 (-1)) e w':=by
 obtain⟨i0,hi,bI,aO,aQ⟩:=info_parts Tryz.zxV;have wz:=h.size;have hne:a≠a':=λe=>by rw[e,ha']at ha;exact zt8 b (Option.some.inj ha).symm
 have tN:t.data.toList.length=t.size:=by simp
 have zz8:=aA (h.MK ha');obtain⟨W0,ai⟩:∃W0,(w.alloc (zi #[zf (zb ⟨a,0,zc⟩),zf (zb ⟨a',0,zc⟩)] 313)).alloc (zi #[] 247)=W0:=⟨_,rfl⟩;have af:zk w.heap.size w W0:=by rw[<-ai];exact(aw).alloc (by simp) _
 have x0:W0.heap[w.heap.size]?=zb (zi #[zf (zb ⟨a,0,zc⟩),zf (zb ⟨a',0,zc⟩)] 313 (0,0)):=by rw[<-ai];exact cX (aI _ _)
 have Dp:W0.ownsRow w.heap.size 247 2 (ze (zb ⟨w.heap.size+1,0,zc⟩) 0 0) 0 []:=by rw[<-ai];exact DC _ _ 2 _ _ (by omega) (by simp)
 have dD:w.heap.size+1<W0.heap.size:=by rw[<-ai];simp
 have hst:=Jp a _ W0 (h.below af) ha;have nJ:=aA (cY.bR h af);have fC:∀k,w.heap.size<=k->∀c,¬Ow k c:=λk hk c ho=>by have:=(h.ow _ c ho).2;omega
 have c0:=(jr x0).1;have HL:=aA hL;have Hp:=aA hp;have td:=aA x0;have ZW:=aA Dp;clear h hL hp x0 Dp af
 go_enter func234,ntmps234
 go_wp2_with fail
 refine hst.mono ?_;rintro e w1 ⟨s,dX,X1,v1,ra1,rb1,O1,O2,rfl,mX,tG,pX,hch⟩;have rU:=QR t.size w1 ht;have uj:=aA mX;have yO:=aA hch;clear hst mX hch c0 ai
 go_wp2_with fail
 refine rU.mono ?_;rintro e w2 ⟨U,rfl,hU,gX,ae⟩;have cV:=uj.out.below (uj.out.inv.below ae) ae;have eW:=aA (yO.out.below ae);have jk:=Qs cV (by omega) (by omega) t ht (t.size/64+1) w1.heap.size (t.size/64+1) U hU (by omega) (λhx=>by have:=(uj.out.x0 _ hx).2;omega) ⟨t.size,by omega,(gX _).2 rfl⟩ (λq _ hb=>by have:=(gX q).1 hb;omega);have ru:=aA gX;have yQ:=aA cV;obtain⟨ne,zxc⟩:∃ne,t.size/64+1=ne:=⟨_,rfl⟩;have Fe:ne<=100:=by omega
 have lG:t.size<64*ne:=by omega
 rw[zxc]at jk ⊢;clear rU hU gX cV zxc
 go_wp2_with fail
 refine jk.mono ?_;rintro e w3 ⟨jC,X3,high,tt,gs,b3,O3,S,pv,ps,rfl,h3,nU,pk,BA,T,hh⟩;have Pw:=nU _ _ eW.out;have FE:=nJ.out.trans (h3.zL Pw);have vZ:high=t.size:=(ru.out high).1 hh.2;subst vZ;have HE0:zg ((λq=>q<64*ne/\au U q=true)=λq=>q=t.size):=funext λq=>propext ⟨λx=>(ru.out q).1 x.2,λx=>by subst x;exact⟨lG,(ru.out _).2 rfl⟩⟩
 have Vv:∀k,w.heap.size<=k->k<W0.heap.size->w3.heap[k]?=W0.heap[k]?/\∀c,¬jC k c:=λk h1 h2=>by
  have:=(h3.zL Pw).eG k (by omega) h2 (fC k h1);exact this
 have zBF:W0.heap.size<=w2.heap.size:=aW yO.out.tc.size ae.size;have tM:=Jp a' b w3 h3.inv ha';have c1:=(jr ((Vv w.heap.size (aj _) (by omega)).1.trans td.out)).2;have H3:=aA h3;have HT:=aA T;have Sy:=aA FE;have Ov:=aA Vv;have Oo:=aA pk;have Ox:=aA BA;have Am:=aA Pw;clear jk h3 T FE Vv pk BA nU Pw hh
 go_wp2_with fail
 refine tM.mono ?_;rintro e w4 ⟨s2,nN,X4,v4,ra4,rb4,O14,O24,rfl,MV,zBx,zBy,CG⟩;obtain⟨Pr,sU⟩:∃Pr:Nat->Prop,zg (∀k,Pr k↔X3 k\/k=tt\/k=gs\/pv.ownBlock=zb k\/k=w.heap.size):=⟨_,λ_=>Iff.rfl⟩;have Vh:∀k,pv.ownBlock=zb k->w2.heap.size<=k/\k<w3.heap.size:=λk e=>by
  obtain⟨q1,ax,q2⟩:=ke HT.out.pa e;exact⟨q1,(ah.1 q2).1⟩
 have mZ:tt<w3.heap.size:=(ah.1 HT.out.box).1;have fD:gs<w3.heap.size:=HT.out.sp.cB;have PT:=HT.out.tw;have bU:=HT.out.gw;have zBH:=Am.out.tc.size;have zxu:=CG.tc.size;have PX:w.heap.size<=w4.heap.size:=by omega
 have TP:∀k,Pr k->w0.heap.size<=k/\k<w3.heap.size/\¬jC k a':=λk hk=>by
  rcases(sU.out k).1 hk with e|e|e|e|e
  ·refine⟨(H3.out.x0 k e).1,(H3.out.x0 k e).2,λho=>?_⟩;rcases H3.out.x1 with ⟨f1,_⟩|f1
   ·exact hne (H3.out.inv.dj k a a' ((f1 k).1 e) ho)
   ·exact f1 k a' e ho
  ·subst e;exact⟨by omega,mZ,(QI yQ.out Oo.out Ox.out PT HT.out.nt).1 a'⟩
  ·subst e;exact⟨by omega,fD,(QI yQ.out Oo.out Ox.out bU HT.out.ng).1 a'⟩
  ·obtain⟨q1,q2⟩:=Vh k e;exact⟨by omega,q2,(QI yQ.out Oo.out Ox.out q1 (HT.out.np k e)).1 a'⟩
  ·subst e;exact⟨wz,by omega,(Ov.out w.heap.size (aj _) (by omega)).2 a'⟩
 have hP:∀k,Pr k->k<w4.heap.size/\¬X4 k:=λk hk=>by
  obtain⟨q1,q2,q3⟩:=TP k hk;exact⟨by omega,λe=>(CG.xs k e).elim q3 λe=>by omega⟩
 have zwn:∀k,Pr k->w4.heap[k]?=w3.heap[k]?:=λk hk=>by
  obtain⟨q1,q2,q3⟩:=TP k hk;have:=H3.out.inv.zK;have:=H3.out.inv.aN ha';refine CG.tc.same k q2 ?_;rintro (e|e|e)
  ·omega
  ·omega
  ·exact q3 e
 have Pd:∀k,w0.heap.size<=k->k<w.heap.size->(∀c,¬Ow k c)->¬X4 k:=λk h1 h2 h3 e=>by
  rcases CG.xs k e with f|f
  ·exact(Sy.out.eG k h1 h2 h3).2 a' f
  ·omega
 have UO:w4.heap[w.heap.size+1]?=W0.heap[w.heap.size+1]?/\(∀c,¬nN (w.heap.size+1) c)/\¬X4 (w.heap.size+1)/\¬Pr (w.heap.size+1):=by
  obtain⟨f1,f2⟩:=Ov.out (w.heap.size+1) (by omega) dD;obtain⟨g1,g2⟩:=(MV.zL CG).eG (w.heap.size+1) (by omega) (by omega) f2;refine⟨g1.trans f1,g2,λe=>(CG.xs _ e).elim (f2 a') λe=>by omega,λe=>?_⟩;rcases(sU.out _).1 e with e|e|e|e|e
  ·exact(Am.out.xs _ e).elim (fC _ (by omega) a) λe=>by omega
  ·omega
  ·omega
  ·have:=Vh _ e;omega
  ·omega
 have rr:zg (Cu w0 pl Q a' b Ow w w4 X4 Pr s2 v4 rb4 O24 nN w4 X4 ra4 O14):=⟨MV,Sy.out.trans (MV.zL CG),λ_ e=>.inl e,λ_ _=>rfl,aj _⟩;have lM:=aA (show w4.ownsRow w.heap.size 247 2 (ze (zb ⟨w.heap.size+1,0,zc⟩) 0 0) 0 [] from gR ZW.out λk e=>by
  have e:w.heap.size+1=k:=by simpa [Value.ownBlock]using e
  subst e;exact UO.1)
 have Og:=aA UO;have HP:=aA hP;have HX4:=aA Pd;have zz6:v1.nw=v4.nw:=by
  rw[H3.out.st.I5,MV.st.I5];obtain⟨_,_,_,_,_,_,hw,_⟩:=H3.out.inv.pc a' b ha';rw[zmS hw]
 -- what lies along,in any world in which the zBQ stands
 have R3:zg (∀W:zd,(∀k,Pr k->W.heap[k]?=w4.heap[k]?)->W.heap[tt]?=zb (zi #[zf (zb ⟨b3.r,0,zc⟩),ze (zb ⟨gs,0,zc⟩) ne ne,zj .i64 (t.size:Int),pv] 195 (0,0))/\aH W ne gs S/\W.ownsRow w2.heap.size 3 1 pv ps.length (vp ps)/\qA O3 W v1.n v1.nw v1.bt v1.gl v1.ga (.slice v1.ba v1.n v1.bc) v1.f v1.G v1.L v1.A b3/\W.cell? ⟨w.heap.size,1,zc⟩=zb (zf (zb ⟨a',0,zc⟩))):=λW hW=>by
  have hk:∀k,Pr k->W.heap[k]?=w3.heap[k]?:=λk hk=>(hW k hk).trans (zwn k hk)
  refine⟨(hk tt ((sU.out _).2 (.inr (.inl rfl)))).trans HT.out.box,⟨(hk gs ((sU.out _).2 (.inr (.inr (.inl rfl))))).trans HT.out.sp.row,HT.out.sp.lt⟩,gR HT.out.pa λk e=>hk k ((sU.out _).2 (.inr (.inr (.inr (.inl e))))),H3.out.st.st.rb.keep λk e _=>hk k ((sU.out _).2 (.inl (H3.out.st.x2 k e))),?_⟩;exact(jr ((hk _ ((sU.out _).2 (.inr (.inr (.inr (.inr rfl)))))).trans ((Ov.out w.heap.size (aj _) (by omega)).1.trans td.out))).2
 have kR:zg (∀m,au S m=true↔Lg t.data.toList (.az b 0 (-1)) m t.size):=λm=>by
  rw[Qw yQ.out.inv ha HT.out (λm hm=>by rw[tN,(ru.out m).1 hm.2];omega) m];constructor
  ·rintro ⟨e,h1,h2⟩;rw[(ru.out e).1 h1.2]at h2;exact h2
  ·intro h1;exact⟨t.size,⟨lG,(ru.out _).2 rfl⟩,h1⟩
 have Zk:=aA HT.out.ss;have ZM:=aA HT.out.ix;have ZY:=aA HT.out.off;rw[zst]at Zk ZM ZY;clear tM MV CG UO TP hP zwn Pd Vh Ov Am Oo Ox Sy HT yQ uj yO eW ru td ZW nJ c1;go_wp2
 go_loopw [5,8] (λlv av wr=>∃(k:Nat) (ys:List ul) (vL:zh) (lB:Nat->Nat->Prop) (XW:Nat->Prop) (Wh:cz) (OW:Nat->Prop),lv=vL/\av=zj .i64 k/\k<=t.size/\ys.length<=k/\zg (Cu w0 pl Q a' b Ow w w4 X4 Pr s2 v4 rb4 O24 lB wr XW Wh OW)/\zg (Wh.m<=8192+4096*k)/\zg (Lg t.data.toList (.az b 0 (-1)) k t.size)/\zg (∀L,nO t.data.toList t.size b k L->nO t.data.toList t.size b 0 (oe ys++L))/\zg (wr.ownsRow w.heap.size 247 2 vL ys.length (mw ys))/\zg (∀k,vL.ownBlock=zb k->(∀c,¬lB k c)/\¬XW k/\¬Pr k)/\zg (∀y,y∈ys->dU lo w0 pl Q y.1 y.2.1))
  (λ_ av _=>t.size-(intOf av).toNat)
 case atStart=>exact⟨0,[],_,nN,X4,ra4,O14,rfl,rfl,aR _,aj _,rr,by show _<=_;omega,HL,λL hL=>hL,lM,λk e=>by
   have e:w.heap.size+1=k:=by simpa [Value.ownBlock]using e
   subst e;exact⟨Og.out.2.1,Og.out.2.2.1,Og.out.2.2.2⟩,λy hy=>by cases hy⟩
 case round=>
  clear rr lM Og HL;obtain⟨k,ys,vL,lB,XW,Wh,OW,UQ,rfl,jY,Fv,HS,Hm,Ef,N5,HO,pL,Cg⟩:=hrel;have UR:=UQ.symm;subst UR
  by_cases hlt:k<t.size
  ·have hd:decide ((k:Int)<(t.size:Int))=true:=by simp;omega
   obtain⟨r1,r2,-,-,-⟩:=R3.out wr HS.out.sm;have k1:=(qm r1).2.1;have zwP:¬XW gs:=λe=>by
    have Vb:=(sU.out gs).2 (.inr (.inr (.inl rfl)));have:=HP.out gs Vb;rcases HS.out.xs gs e with f|f
    ·exact this.2 f
    ·omega
   have Lz:=zfR HS.out.so (by have:=Hm.out;omega) (by omega) t ht ne gs ne k S r2 Fe zwP ⟨k,by omega,(kR.out k).2 Ef.out⟩ (λq _ hb=>by have:=((kR.out q).1 hb).1;omega) (by omega) (by omega) (zf (zb ⟨tt,0,zc⟩)) (λeO bU _=>zm1 zz8.out (hi:=t.size) (by have:=((kR.out eO).1 bU.2).1;exact this) ht (E0:=λq=>q<64*ne/\au U q=true) (λx hx=>(Zk.out x).1 hx.2) zz6 tt ne gs w2.heap.size pv ps b3 (O:=O3) (λW hT=>by
    have hW:∀k,Pr k->W.heap[k]?=w4.heap[k]?:=λk hk=>(hT.same k (by have:=(HP.out k hk).1;have:=HS.out.sz;omega) (λe=>by
     rcases HS.out.xs k (HS.out.so.st.x1 k e) with f|f
     ·exact(HP.out k hk).2 f
     ·have:=(HP.out k hk).1;omega)).trans (HS.out.sm k hk)
    obtain⟨q1,q2,q3,q4,q5⟩:=R3.out W hW;exact⟨q1,q3,q4⟩) ZM.out ZY.out)
   clear r1 r2
   go_wp2_with fail
   refine Lz.mono ?_;rintro e W2 ⟨nM,X2,a2,xj,cI,ok,rfl,Qj,zwz,U8,VF,dG,lg,hR⟩;have eC:=aA (HS.out.step HP.out HX4.out PX Qj U8 VF lg (ztP zwz));clear zwz;obtain⟨k0,j1,j2,j3⟩:=zmM hlt Ef.out;have Kh:zg (∀x,(x<64*ne/\au S x=true)↔Lg t.data.toList (.az b 0 (-1)) x t.size):=λx=>⟨λz=>(kR.out x).1 z.2,λz=>⟨by have:=z.1;omega,(kR.out x).2 z⟩⟩
   have uT:Lg t.data.toList b k cI/\Lg t.data.toList (.az b 0 (-1)) cI t.size/\k<cI/\∀x,Lg t.data.toList b k x->Lg t.data.toList (.az b 0 (-1)) x t.size->x<=cI:=by
    rcases hR with ⟨-,b2,b3,b4⟩|⟨-,-,b3⟩
    ·refine⟨b3,(Kh.out _).1 b2,?_,λx h1 h2=>b4 x ((Kh.out x).2 h2) h1⟩;have:=b4 k0 ((Kh.out k0).2 j3) j2;omega
    ·exact absurd j2 (b3 k0 ((Kh.out k0).2 j3))
   have pV:cI<=t.size:=uT.2.1.1;have UF:=uT.2.2.1;have zym:zg (∀L,nO t.data.toList t.size b cI L->nO t.data.toList t.size b 0 (oe (ys++[(a',b,cI)])++L)):=λL hL=>by
    have:=N5.out ((b,cI)::L) (.more k cI L hlt ⟨by omega,pV,⟨uT.1,uT.2.1⟩,λm h1 h2 h3=>by have:=uT.2.2.2 m h3.1 h3.2;omega⟩ hL)
    simpa [oe]using this
   have yI:=aA uT.2.1;have Oh:zg (a2.m<=8192+4096*cI):=by show _<=_;have:=Hm.out;omega
   have ff:W2.ownsRow w.heap.size 247 2 vL ys.length (mw ys):=gR HO.out λk e=>by
    obtain⟨-,ax,e4⟩:=dy HO.out e;exact lg.same k (ah.1 e4).1 (pL.out k e).2.1
   have ZX:zg (∀k,vL.ownBlock=zb k->w.heap.size<=k/\(∀c,¬nM k c)/\¬X2 k/\¬Pr k/\∃ax,W2.heap[k]?=zb (zi ax 247 (0,0))):=λk e=>by
    obtain⟨e3,ax,e4⟩:=dy HO.out e;have LM:=(ah.1 e4).1;obtain⟨f1,f2,f3⟩:=pL.out k e;have uW:¬X2 k:=λz=>(VF k z).elim f2 λz=>by omega
    refine⟨e3,λc hc=>(U8 k c hc).elim (f1 c) uW,uW,f3,ax,(lg.same k LM f2).trans e4⟩
   obtain⟨-,-,-,-,c1⟩:=R3.out W2 eC.out.sm;have iu:ys.length<=2000000:=by omega
   have iU:w.heap.size<=W2.heap.size:=eC.out.pt.size;obtain⟨va,vn,vc,VB⟩:∃(va:Option Addr) (vn vc:Nat),vL=.slice va vn vc:=by
    rcases ff.2 with ⟨e,_⟩|⟨g,c,_,e,_⟩
    ·exact⟨_,_,_,e⟩
    ·exact⟨_,_,_,e⟩
   subst VB;clear Lz HS Hm Ef N5 HO pL hR Qj U8 VF lg dG uT j2 j3 k1 zwP
   go_wp2_with (at_builtin;refine wM rfl (.tmp 37) (.tmp 42) 244 rfl W2 #[zf (zb ⟨a',0,zc⟩),zj .i64 (cI:Int)] 247 rfl W2.heap.size rfl w.heap.size i0 _ 2 16 underlying244 hi bI aO aQ rfl (by omega) (.slice va vn vc) ys.length (mw ys) rfl ff rfl rfl (by intro u hu;simp at hu;rcases hu with rfl|rfl<;>rfl) iu (by omega) iU ?_;intro g7 bG W7 fh er iI)
   have R4:=aA (eC.out.row (λk hk=>(HP.out k hk).1) er wz ZX.out)
   go_roundw
   case rel=>exact⟨cI,ys++[(a',b,cI)],_,nM,X2,a2,xj,rfl,rfl,pV,by simp;omega,R4,Oh,yI,zym,by show World.ownsRow _ _ _ _ _ _ _;rw[nG,Xk];exact fh,λk e=>by
     have e:g7=k:=by simpa [Value.ownBlock]using e
     subst e;rcases iI with f|f
     ·obtain⟨z1,z2,z3,z4,_⟩:=ZX.out g7 f;exact⟨z2,z3,z4⟩
     ·refine⟨λc hc=>by have:=(eC.out.so.inv.ow _ c hc).2;omega,λhc=>by have:=(eC.out.so.x0 _ hc).2;omega,λhc=>?_⟩;have:=(HP.out _ hc).1;have:=eC.out.sz;omega,λy hy=>by
     rcases fm.1 hy with hy|hy
     ·exact Cg.out y hy
     ·rw[eK.1 hy];exact Hp.out⟩
   case measure=>simp[intOf];omega
  ·obtain rfl:k=t.size:=by omega
   have hd:decide ((t.size:Int)<(t.size:Int))=false:=by simp
   have HF:zg (te w0 pl Q Ow w lo t.data.toList t.size (.az b 0 (-1)) (.returned vL) wr):=by
    refine⟨lB,ys,vL,rfl,HS.out.pt,HO.out,λk e=>(pL.out k e).1,?_,Cg.out⟩;have:=N5.out [] .done;rw[ud]at this;exact zpk this
   clear HS N5 HO pL Cg Hm Ef;go_wp2;go_ret;exact HF.out
end
end
structure ub(H:Nat)(A B:zd):Prop where
 os:B.os=A.os
 tape:B.tape=A.tape
 output:B.output=A.output
 size:A.heap.size<=B.heap.size
 same:∀k,k≠H->k≠H+1->k<A.heap.size->B.heap[k]?=A.heap[k]?
 nc:(∀o,B.heap[H]?=zb o->o.isCells=false)/\∀o,B.heap[H+1]?=zb o->o.isCells=false
theorem ub.put{H:Nat}{A:zd}{x:Option (List Deferred)}{o:Obj}(hl:A.heap[H+1]?=zb o)(hk:A.heap[H]?=zb (.deferred x))(r:Loop):ub H A (A.putObj (H+1) (.loop r)):=
 ⟨rfl,rfl,rfl,by simp,λk _ h2 _=>World.putObj_heap_other h2,λo ho=>by
  rw[World.putObj_heap_other (by omega),hk]at ho;cases ho;rfl,λo ho=>by
  rw[World.putObj_heap_same (ah.1 hl).1]at ho;cases ho;rfl⟩
def Gu(H:Nat)(A B:zd):Prop:=B.heap[H]?=A.heap[H]?/\B.heap[H+1]?=A.heap[H+1]?
def zrK{α:Type}(H:Nat)(T:List Nat)(I:List α->zd->Prop)(Ix:Code->List α->zd->Prop)(s:List α)(W:zd):Exit->Act->zd->Prop
 |.normal,_,W'=>Gu H W W'/\(∀k∈T,W'.heap[k]?=W.heap[k]?)/\I s W'
 |.ret,_,W'=>Gu H W W'/\Ix .ret s W'
 |.exit id,_,W'=>Gu H W W'/\Ix (.exit id) s W'
 |.goto t,_,W'=>Gu H W W'/\Ix (.goto t) s W'
 |.panic _,_,_=>False
 |.outgrown,_,_=>False
def zvW{α:Type}(n:Nat)(P:Program)(g:Nat)(fb lb:Array zh)(uB:α->Array zh)(T:List Nat)(S Sp:List α->Prop)(Nx:List α->α->Prop)(w:zd):Prop:=
 ∀(l:Nat) (J Jx:List α->zd->Prop) (W:zd),(∀k∈T,W.heap[k]?=w.heap[k]?)->
  (∀pre x W1,J pre W1->Nx pre x->YieldAt Fence.wide (n-1) P l (uB x) W1 λe W'=>
   (e=.returned (.bool true)/\J (pre++[x]) W'/\∀k∈T,W'.heap[k]?=W1.heap[k]?)\/(e=.returned (.bool false)/\Jx (pre++[x]) W'))->
  J [] W->
  CallsIn Fence.wide n P g (fb++#[.func (.yield l) #[] #[]]++lb) W λe W'=>(∃v,e=.returned v)/\((∃xs,S xs/\J xs W')\/(∃pre,Sp pre/\Jx pre W'))
theorem zl4{α:Type}{n:Nat}{P:Program}{g:Operand}{ps:Array Tmp}{assign body:Code}{Q:Exit->Act->zd->Prop}{a:Act}{w:zd}(h1:1<=n)
  {gf:Nat} {fb lb:Array zh} (hg:a.eval g=.func (.func gf) fb lb) (eg:∀args w,(callFunc gf args).run P w=.ok (.enter gf args) w)
  {uB:α->Array zh} {T:List Nat} {S Sp:List α->Prop} {Nx:List α->α->Prop} (hT:∀k∈T,k<w.heap.size) (IW:zvW (n-1) P gf fb lb uB T S Sp Nx w) (wm:∀x,(uB x).size=ps.size)
  (I:List α->zd->Prop) (Ix:Code->List α->zd->Prop) (hI:∀s A B,I s A->ub w.heap.size A B->I s B) (A8:∀c s A B,Ix c s A->ub w.heap.size A B->Ix c s B) (h0:I [] w) (V:α->zd->zd) (hV:∀x W,zk W.heap.size W (V x W)) (a₁:α->zd->Act)
  (T6:∀(l:Nat) (x:α) (W:zd) (K:Act->zd->Prop),K (a₁ x W) (V x W)->
   assign.wpIn (Fence.wide.inRound l) (n-1-1) P (Exit.then K (λ_ _ _=>False)) {tmps:=(ps.zip (uB x)).foldl (λt (p,v)=>t.setIfInBounds p v) a.tmps,defers:=[]} W)
  (Ug:∀(l:Nat) (pre:List α) (x:α) (W0 W:zd),w.heap.size+1<W0.heap.size->I pre W0->ub w.heap.size (V x W0) W->Nx pre x->body.wpIn (Fence.wide.inRound l) (n-1-1) P (zrK w.heap.size T I Ix (pre++[x]) W) (a₁ x W0) W)
  (hdone:∀(D:Nat) (xs:List α) (W:zd),w.heap.size=D->S xs->I xs W->W.heap[D]?=zb (.deferred (zb []))->Q .normal {a with defers:={target:=.collected D,args:=#[]} :: a.defers} W)
  (Mh:∀(D:Nat) (c:Code) (pre:List α) (W:zd),w.heap.size=D->Sp pre->Ix c pre W->W.heap[D]?=zb (.deferred (zb []))->c.wpIn Fence.wide n P Q {a with defers:={target:=.collected D,args:=#[]} :: a.defers} W):
  (Code.rangeFunc g ps assign body).wpIn Fence.wide n P Q a w:=by
 refine wpIn_rangeFunc λfn vV=>?_
 let rc:LoopState->Option Code->Loop:=λst pe=>{state:=st,pending:=pe,fn,tmps:=a.tmps,params:=ps,assign,body,defers:=w.heap.size}
 obtain⟨W1,cm⟩:∃W1,(w.alloc (.deferred (zb []))).alloc (.loop (rc .ready zc))=W1:=⟨_,rfl⟩;have t1:ub w.heap.size w W1:=by
  rw[<-cm];refine⟨rfl,rfl,rfl,by simp;omega,λk _ _ hlt=>?_,λo ho=>?_,λo ho=>?_⟩
  ·rw[Below.heap_alloc _ _ k (by simp;omega),Below.heap_alloc _ _ k hlt]
  ·rw[Below.heap_alloc _ _ _ (by simp),World.alloc_heap_new]at ho;cases ho;rfl
  ·have:=World.alloc_heap_new (w.alloc (.deferred (zb []))) (.loop (rc .ready zc));rw[World.size_alloc]at this;rw[this]at ho;cases ho;rfl
 have Wi:W1.heap[w.heap.size+1]?=zb (.loop (rc .ready zc)):=by
  rw[<-cm];have:=World.alloc_heap_new (w.alloc (.deferred (zb []))) (.loop (rc .ready zc));rwa[World.size_alloc]at this
 have Tp:W1.heap[w.heap.size]?=zb (.deferred (zb [])):=by rw[<-cm,Below.heap_alloc _ _ _ (by simp),World.alloc_heap_new]
 refine⟨w.heap.size+1,[{target:=.collected w.heap.size,args:=#[]}],W1,{target:=.fn (.func gf) lb,args:=fb++#[.func (.yield (w.heap.size+1)) #[] #[]]},W1,gf,
  fb++#[.func (.yield (w.heap.size+1)) #[] #[]]++lb,W1,?_,?_,λ_ _=>trivial,?_,λ_=>h1,?_⟩
 ·rw[<-cm];exact run_enterLoop_outer _ _ _ _ _
 ·simp only[resolve,hg];simp[go_sem]
 ·simp[invoke,go_sem,eg]
 refine(IW (w.heap.size+1)
  (λpre W=>I pre W/\W.heap[w.heap.size+1]?=zb (.loop (rc .ready zc))/\W.heap[w.heap.size]?=zb (.deferred (zb [])))
  (λpre W=>∃c,Ix c pre W/\W.heap[w.heap.size+1]?=zb (.loop (rc .done (zb c)))/\W.heap[w.heap.size]?=zb (.deferred (zb [])))
  W1 ?_ ?_ ⟨hI _ _ _ h0 t1,Wi,Tp⟩).mono ?_
 ·intro k hk;have:=hT k hk;rw[<-cm,Below.heap_alloc _ _ k (by simp;omega),Below.heap_alloc _ _ k this]
 ·rintro pre x Wb ⟨hi,uO,gH⟩ hlen;have zw6:=(ah.1 uO).1;obtain⟨W,hW⟩:∃W,V x Wb=W:=⟨_,rfl⟩;have vU:zk Wb.heap.size Wb W:=hW ▸ hV x Wb;have hl:W.heap[w.heap.size+1]?=zb (.loop (rc .ready zc)):=(vU.block _ zw6).trans uO;have hk:W.heap[w.heap.size]?=zb (.deferred (zb [])):=(vU.block _ (by omega)).trans gH;have hlt:=(ah.1 hl).1;refine⟨fn,_,assign,body,run_yield (P:=P) (args:=uB x) uO (wm x),roundIn_of_wpIn vV (T6 _ x Wb _ ⟨_,by rw[hW];exact run_beginRound hl rfl,?_⟩)⟩;have busy:(W.putObj (w.heap.size+1) (.loop (rc .busy zc))).heap[w.heap.size+1]?=zb (.loop (rc .busy zc)):=World.putObj_heap_same hlt;have held:(W.putObj (w.heap.size+1) (.loop (rc .busy zc))).heap[w.heap.size]?=zb (.deferred (zb [])):=(World.putObj_heap_other (by omega)).trans hk;refine wpIn_mono (Ug _ pre x Wb _ zw6 hi (by rw[hW];exact ub.put hl hk _) hlen) ?_;have fin:∀(jump:Option Code) (W3:zd),Gu w.heap.size (W.putObj (w.heap.size+1) (.loop (rc .busy zc))) W3->
    (Instr.endRound (w.heap.size+1) jump).run P W3=.ok (.bool jump.isNone) (W3.putObj (w.heap.size+1) (.loop (rc (if jump.isNone then .ready else .done) jump)))/\
    W3.heap[w.heap.size+1]?=zb (.loop (rc .busy zc))/\
    (W3.putObj (w.heap.size+1) (.loop (rc (if jump.isNone then .ready else .done) jump))).heap[w.heap.size+1]?=zb (.loop (rc (if jump.isNone then .ready else .done) jump))/\
    (W3.putObj (w.heap.size+1) (.loop (rc (if jump.isNone then .ready else .done) jump))).heap[w.heap.size]?=zb (.deferred (zb [])):=λjump W3 k3=>by
   have l3:=k3.2.trans busy;exact⟨run_endRound (P:=P) jump l3,l3,World.putObj_heap_same (ah.1 l3).1,(World.putObj_heap_other (by omega)).trans (k3.1.trans held)⟩
  have bk:∀(A:zd) (o:Obj) (k:Nat),k∈T->(A.putObj (w.heap.size+1) o).heap[k]?=A.heap[k]?:=λA o k hk=>World.putObj_heap_other (by have:=hT k hk;omega)
  have bT:∀k,k∈T->W.heap[k]?=Wb.heap[k]?:=λk hk=>vU.block k (by have:=hT k hk;omega)
  rintro e a3 W3 hp;cases e with
  |normal=>
   obtain⟨k3,b3,i3⟩:=hp;obtain⟨r,l3,l4,d4⟩:=fin zc W3 k3;exact⟨_,_,r,.inl ⟨rfl,⟨hI _ _ _ i3 (ub.put l3 (k3.1.trans held) _),l4,d4⟩,λk hk=>by rw[bk _ _ k hk,b3 k hk,bk _ _ k hk,bT k hk]⟩⟩
  |ret=>
   obtain⟨k3,i3⟩:=hp;obtain⟨r,l3,l4,d4⟩:=fin (zb .ret) W3 k3;exact⟨_,_,r,.inr ⟨rfl,.ret,A8 _ _ _ _ i3 (ub.put l3 (k3.1.trans held) _),l4,d4⟩⟩
  |exit id=>
   obtain⟨k3,i3⟩:=hp;obtain⟨r,l3,l4,d4⟩:=fin (zb (.exit id)) W3 k3;exact⟨_,_,r,.inr ⟨rfl,.exit id,A8 _ _ _ _ i3 (ub.put l3 (k3.1.trans held) _),l4,d4⟩⟩
  |goto t=>
   obtain⟨k3,i3⟩:=hp;obtain⟨r,l3,l4,d4⟩:=fin (zb (.goto t)) W3 k3;exact⟨_,_,r,.inr ⟨rfl,.goto t,A8 _ _ _ _ i3 (ub.put l3 (k3.1.trans held) _),l4,d4⟩⟩
  |panic ch=>exact hp.elim
  |outgrown=>exact hp.elim
 ·rintro e W2 ⟨⟨v,rfl⟩,(⟨xs,hS,hi,hl,hk⟩|⟨pre,TU,c,hi,hl,hk⟩)⟩
  ·exact⟨zc,_,run_endLoop (P:=P) hl (by simp[rc]),hdone _ xs _ rfl hS (hI _ _ _ hi (ub.put hl hk _)) ((World.putObj_heap_other (by omega)).trans hk)⟩
  ·exact⟨zb c,_,run_endLoop (P:=P) hl (by simp[rc]),Mh _ c pre _ rfl TU (A8 _ _ _ _ hi (ub.put hl hk _)) ((World.putObj_heap_other (by omega)).trans hk)⟩
attribute [local go_sem] Oper.semAt_some
def OO{n:Nat}(pa:Nat->Nat)(po:Nat->Bool)(k:oL n):Array zh:=#[zj .i64 (k.1:Int),.agg #[zf (zb ⟨pa k.1,0,zc⟩),.bool (po k.1)]]
theorem zqI(m l n g cap bx:Nat)(pa:Nat->Nat)(po:Nat->Bool)(hm:1<=m)(hn:n<=100000)(J Jx:List (oL n)->zd->Prop)(W:zd)
  (hY:∀pre x W1,J pre W1->x.1+pre.length+1=n->YieldAt Fence.wide (m-1) prog l (OO pa po x) W1 λe W'=>
   (e=.returned (.bool true)/\J (pre++[x]) W'/\∀k∈[bx,g],W'.heap[k]?=W1.heap[k]?)\/(e=.returned (.bool false)/\Jx (pre++[x]) W'))
  (hb:W.heap[bx]?=zb (zi #[ze (zb ⟨g,0,zc⟩) n cap] 300 (0,0))) (hT:∀i,i<n->W.cell? ⟨g,i*2,zc⟩=zb (zf (zb ⟨pa i,0,zc⟩))/\W.cell? ⟨g,i*2+1,zc⟩=zb (.bool (po i))) (h0:J [] W):
  CallsIn Fence.wide m prog 232 #[.func (.yield l) #[] #[],zf (zb ⟨bx,0,zc⟩)] W λe W'=>(∃v,e=.returned v)/\
   ((∃ys,ys.length=n/\J ys W')\/(∃pre,(0<pre.length/\pre.length<=n)/\Jx pre W')):=by
 refine callsIn_of_wp func232 rfl trivial ?_ rfl;simp only[ntmps232,yE,qu,oJ,Nat.reduceAdd,Nat.reduceSub,B4,B5,B9,BW,wX,BX];have c0:W.cell? ⟨bx,0,zc⟩=zb (ze (zb ⟨g,0,zc⟩) n cap):=(aM _ _ _ _ _ _ hb:W.cell? ⟨bx,0,zc⟩=_);have HT:=aA hT;clear hT
 gi_wp2
 clear c0
 gi_loopw [3] (λi wr=>∃(j:Nat) (pre:List (oL n)),zg (pre.length=j)/\j<=n/\i=zj .i64 ((n:Int)-1-j)/\J pre wr/\wr.heap[bx]?=zb (zi #[ze (zb ⟨g,0,zc⟩) n cap] 300 (0,0))/\zg (∀i,i<n->wr.cell? ⟨g,i*2,zc⟩=zb (zf (zb ⟨pa i,0,zc⟩))/\wr.cell? ⟨g,i*2+1,zc⟩=zb (.bool (po i))))
  (λi _=>(intOf i+1).toNat)
 case atStart=>exact⟨0,[],rfl,aR _,by simp,h0,hb,HT⟩
 case round=>
  clear hb HT h0;obtain⟨j,pre,Hp,hj,rfl,hJ,hb,HT⟩:=hrel
  by_cases hlt:j<n
  case neg=>
   obtain rfl:j=n:=by omega
   have hd:¬(0:Int)<=(j:Int)-1-(j:Int):=by omega
   have pU:decide ((0:Int)<=(j:Int)-1-(j:Int))=false:=by simp;omega
   gi_wp2
   go_end0
   exact⟨⟨_,rfl⟩,.inl ⟨pre,Hp.out,hJ⟩⟩
  have c0:wr.cell? ⟨bx,0,zc⟩=zb (ze (zb ⟨g,0,zc⟩) n cap):=(aM _ _ _ _ _ _ hb:wr.cell? ⟨bx,0,zc⟩=_);obtain⟨k,hk⟩:∃k:Nat,(n:Int)-1-j=k:=⟨n-1-j,by omega⟩;have jY:k<n:=by omega
  obtain⟨c1,c2⟩:=HT.out k jY;have da:(0:Int)<=(k:Int):=by omega
  have cO:(k:Int)<(n:Int):=by omega
  obtain⟨fn,tmps,assign,body,hy,hR⟩:=hY pre ⟨k,jY⟩ wr hJ (by have:=Hp.out;show k+pre.length+1=n;omega);have Hk:zg ((n:Int)-1-j=k):=hk;rw[hk];unfold OO at hy;clear hY hk
  gi_wp2
  refine hR.mono ?_;rintro e W3 (⟨rfl,K1,rS⟩|⟨rfl,K4⟩)
  ·have nK:zg (∀i,i<n->W3.cell? ⟨g,i*2,zc⟩=zb (zf (zb ⟨pa i,0,zc⟩))/\W3.cell? ⟨g,i*2+1,zc⟩=zb (.bool (po i))):=λi hi=>⟨(World.cell?_of_block (rS g (by simp))).trans (HT.out i hi).1,(World.cell?_of_block (rS g (by simp))).trans (HT.out i hi).2⟩
   have aG:=(rS bx (by simp)).trans hb
   gi_wp2
   go_roundw
   case rel=>exact⟨j+1,pre++[⟨k,jY⟩],by show _=_;rw[nG,Hp.out];rfl,by omega,by congr 1;have:=Hk.out;omega,K1,aG,nK⟩
   case measure=>first|(simp[intOf];done)|(simp[intOf];omega)
  ·gi_wp2
   refine bh (results_none rfl _ _ _) rfl ?_;exact⟨⟨_,rfl⟩,.inr ⟨_,⟨by simp,by rw[nG,Hp.out];simp;omega⟩,K4⟩⟩
theorem zm3(m n g cap bx:Nat)(pa:Nat->Nat)(po:Nat->Bool)(hm:1<=m)(hn:n<=100000)(w:zd)(hb:w.heap[bx]?=zb (zi #[ze (zb ⟨g,0,zc⟩) n cap] 300 (0,0)))(hT:∀i,i<n->w.cell? ⟨g,i*2,zc⟩=zb (zf (zb ⟨pa i,0,zc⟩))/\w.cell? ⟨g,i*2+1,zc⟩=zb (.bool (po i))):
  zvW m prog 232 #[] #[zf (zb ⟨bx,0,zc⟩)] (OO (n:=n) pa po) [bx,g] (λys:List (oL n)=>ys.length=n) (λpre:List (oL n)=>0<pre.length/\pre.length<=n) (λpre x=>x.1+pre.length+1=n) w:=
 λl J Jx W hW hY h0=>zqI m l n g cap bx pa po hm hn J Jx W hY ((hW bx (by simp)).trans hb) (λi hi=>⟨(World.cell?_of_block (hW g (by simp))).trans (hT i hi).1,(World.cell?_of_block (hW g (by simp))).trans (hT i hi).2⟩) h0
theorem zor(g n cap:Nat)(w:zd):
  zl prog 230 #[ze (zb ⟨g,0,zc⟩) n cap] w λe w'=>e=.returned (.func (.func 232) #[] #[zf (zb ⟨w.heap.size,0,zc⟩)])/\w'=w.alloc (zi #[ze (zb ⟨g,0,zc⟩) n cap] 300):=by
 go_enter func230,ntmps230
 go_wp2;go_ret;exact⟨rfl,rfl⟩
end Go.Proofs.YtdimhpfiieepiaaGreatDoor
