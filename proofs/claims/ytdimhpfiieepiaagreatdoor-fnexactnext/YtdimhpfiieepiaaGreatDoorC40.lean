import Derived.Test.YtdimhpfiieepiaaGreatDoorC39
import Derived.WalkSpells
namespace Go.Proofs.YtdimhpfiieepiaaGreatDoor
open Proofs.Tryz
open Option renaming some->za,none->zb
open Go renaming World->zc,Value->zg,Calls->zl,TypeId->zm
open Value renaming slice->zd,pointer->ze,int->zj
open RowKit renaming Hid->zf,Below->zk
open Obj renaming cells->aa
set_option maxHeartbeats 4000000
set_option maxRecDepth 100000
open Go.RowKit
section
variable {bs:List aW}{w W:zc}{vs:List zg}{rs:List bL}
attribute [local go_sem ↓] wp_at_zero wp_at_succ
theorem zlj{st:List Int}(hl:jz bs=za st)(hle:iF st<=2000):iF st=jU bs:=by
 cases ha:nM bs
 ·rw[Vv bs ha]at hl;cases hl
 ·rw[Vw bs ha]at hl;cases hl;unfold iF at hle ⊢;rw[Wf _ 0 (by omega) (by omega) (by
   intro x hx;obtain⟨b,hb,rfl⟩:=sy.1 hx;have:=jl.1 ha b hb;rw[dE]at this;have:=Py this.1 (LU this.1) this.2;omega),<-V2,Int.zero_add]at hle ⊢
  unfold cJ at hle ⊢;split
  ·rfl
  ·rw[aq (by assumption)]at hle;omega
def zw(w:zc)(v:zg)(bs:List aW):Prop:=∃(g sc:Nat) (st:List Int) (xs:List zg),v=zd (za ⟨g,0,zb⟩) bs.length sc/\g<w.heap.size/\st.length=bs.length/\iF st=jU bs/\iF st<=2000/\(∀j,j<bs.length->w.cell? ⟨g,j,zb⟩=xs[j]?)/\r8 w xs st (sg bs)
theorem zw.keep{v:zg}(h:zw w v bs)(hs:w.heap.size<=W.heap.size)(hk:∀(k:Nat) (cs:Array zg) (t:zm),w.heap[k]?=za (aa cs t (0,0))->t=184\/t=293->W.heap[k]?=za (aa cs t (0,0)))(hp:∀g sc,v=zd (za ⟨g,0,zb⟩) bs.length sc->∃cs,w.heap[g]?=za (aa cs 184 (0,0))):zw W v bs:=by
 obtain⟨g,sc,st,xs,e,h1,h2,h3,h4,h5,h6⟩:=h;obtain⟨cs,hc⟩:=hp g sc e;have hW:=hk _ _ _ hc (.inl rfl);refine⟨g,sc,st,xs,e,by omega,h2,h3,h4,λj hj=>?_,h6.keep λmg f hm=>hk _ _ _ hm (.inr rfl)⟩;rw[aO _ _ _ _ _ _ hW,<-aO _ _ _ _ _ _ hc];exact h5 j hj
structure tQ(w:zc)(vs:List zg)(rs:List bL):Prop where
 len:vs.length=rs.length
 at_:∀i,i<rs.length->∃(g sc:Nat) (cs:Array zg),vs[i]?=za (zd (za ⟨g,0,zb⟩) (rs.getD i .zero).branches.length sc)/\w.heap[g]?=za (aa cs 184 (0,0))/\zw w (zd (za ⟨g,0,zb⟩) (rs.getD i .zero).branches.length sc) (rs.getD i .zero).branches
theorem tQ.keep(h:tQ w vs rs)(hs:w.heap.size<=W.heap.size)(hk:∀(k:Nat) (cs:Array zg) (t:zm),w.heap[k]?=za (aa cs t (0,0))->t=184\/t=293->W.heap[k]?=za (aa cs t (0,0))):tQ W vs rs:=
 ⟨h.len,λi hi=>by
  obtain⟨g,sc,cs,h1,h2,h3⟩:=h.at_ i hi;exact⟨g,sc,cs,h1,hk _ _ _ h2 (.inl rfl),h3.keep hs hk (λg' Ls e=>by cases e;exact⟨cs,h2⟩)⟩⟩
theorem tQ.below(h:tQ w vs rs)(hb:zk w.heap.size w W):tQ W vs rs:=
 h.keep hb.size λk _ _ e _=>(hb.block k (ap.1 e).1).trans e
theorem tQ.snoc{k g sc:Nat}{cs:Array zg}(h:tQ w vs (rs.take k))(hk:k<rs.length)(hc:w.heap[g]?=za (aa cs 184 (0,0)))(hp:zw w (zd (za ⟨g,0,zb⟩) (rs.getD k .zero).branches.length sc) (rs.getD k .zero).branches):tQ w (vs++[zd (za ⟨g,0,zb⟩) (rs.getD k .zero).branches.length sc]) (rs.take (k+1)):=by
 have hl:=h.len;rw[List.length_take,IL (by omega)]at hl;refine⟨by simp[hl];omega,λi hi=>?_⟩;rw[List.length_take,IL (by omega)]at hi;have e:∀m,i<m->(rs.take m).getD i .zero=rs.getD i .zero:=λm hm=>by simp[List.getD,hm]
 rw[e (k+1) hi]
 by_cases GK:i=k
 ·subst GK;exact⟨g,sc,cs,by rw[vo (by omega),hl];simp,hc,hp⟩
 ·obtain⟨g',Ls,gj,h1,h2,h3⟩:=h.at_ i (by rw[List.length_take,IL (by omega)];omega);rw[e k (by omega)]at h1 h3;exact⟨g',Ls,gj,by rw[qR (by omega)];exact h1,h2,h3⟩
def ztV(w:zc)(rs:List bL)(e:Ending)(W:zc):Prop:=
 zk w.heap.size w W/\((li rs=false/\∃a b,e=.returned (.tuple #[a,b,.bool false]))\/(li rs=true/\∃(g cap:Nat) (vs:List zg),e=.returned (.tuple #[zd (za ⟨g,0,zb⟩) rs.length cap,zj .i64 (iO rs),.bool true])/\W.ownsRow w.heap.size 155 1 (zd (za ⟨g,0,zb⟩) rs.length cap) rs.length vs/\tQ W vs rs))
theorem Tryz.zyY:(prog.info? 155).map (λi=>(i.zero,i.size,i.bytes))=za (za (zd zb 0 0),1,24):=by kernel_rfl
theorem zli{lo:Nat}(v:zg)(rs:List bL)(w:zc)(hs:gZ lo w v rs)(hsm:qM rs):
  zl prog 70 #[v] w λe W=>ztV w rs e W:=by
 obtain⟨ao,cap,rfl,hm,hc⟩:=hs;have hl:=hsm.1;obtain⟨i0,hi,bK,bh,bz⟩:=info_parts Tryz.zyY
 by_cases NX:rs.length<=100
 ·have ak:¬(100:Int)<(rs.length:Int):=by omega
  have HC:=aC hc;have MJ:=aC hsm;clear hc hsm hl
  go_enter func70,ntmps70
  go_wp2_with fail
  go_loopw [5,6,17] (λs sv i wr=>∃(k g cap:Nat) (vs:List zg),k<=rs.length/\i=zj .i64 k/\s=zd (za ⟨g,0,zb⟩) k cap/\sv=zj .i64 (iO (rs.take k))/\zk w.heap.size w wr/\wr.ownsRow w.heap.size 155 1 (zd (za ⟨g,0,zb⟩) k cap) k vs/\tQ wr vs (rs.take k)/\zf ((rs.take k).all iM=true)/\0<=iO (rs.take k)/\iO (rs.take k)<=2000*k) (λ_ _ i _=>rs.length-(intOf i).toNat)
  case atStart=>exact⟨0,w.heap.size,0,[],aZ _,rfl,rfl,by simp[iO],au,OX w _ _ _ (ai _) rfl,⟨rfl,λi hi=>absurd hi (dk _)⟩,rfl,by simp[iO],by simp[iO]⟩
  case round=>
   obtain⟨k,g,fe,vs,hk,rfl,rfl,rfl,hb,az,hP,db,vW,lG⟩:=hrel
   by_cases hlt:k<rs.length
   ·obtain⟨b,o,bv,rd,rfl,gE,bu,c0,c1,iY⟩:=HC.out.elem hb hlt;have rR:=zkD rs k hlt;rw[gE.out]at rR;have CJ:=MJ.out.2 k hlt;rw[gE.out]at CJ;obtain⟨bo,bc,rfl,yP,rI⟩:=iY;have dO:(0:Int)<=(k:Int):=by omega
    have dh:(k:Int)<(rs.length:Int):=by omega
    have uv:eh lo w (.slice bo rd.branches.length bc) rd.branches:=⟨bo,bc,rfl,yP,rI⟩;obtain⟨W2,dH⟩:∃W2,wr.alloc (aa #[.slice bo rd.branches.length bc,zj .i64 rd.dG] 69)=W2:=⟨_,rfl⟩;have b2:zk wr.heap.size wr W2:=by rw[<-dH];exact au
    have x2:W2.heap[wr.heap.size]?=za (aa #[.slice bo rd.branches.length bc,zj .i64 rd.dG] 69 (0,0)):=by rw[<-dH];exact aL _ _
    have dL:=aj hb hb.size b2;have cr:=zjU rd.dG (.slice bo rd.branches.length bc) rd.branches W2 (uv.below dL) CJ;obtain⟨q0,q1⟩:=jA x2;have JX:(rs.take (k+1)).all iM=iM rd:=by
     rw[List.take_add_one,List.all_append,db.out,eY hlt,<-gE.out];simp[List.getD,hlt]
    have hno:iM rd=false->li rs=false:=λh=>by
     have:rs.all iM=false:=by
      rw[Bool.eq_false_iff];intro h2;have h3:=jl.1 h2 rd (by rw[<-gE.out];simp[List.getD,hlt]);rw[h]at h3;cases h3
     unfold li;rw[this];simp
    have Kv:iM rd=qf rd.dG rd.branches:=(zp4 _ _).symm;have XL:=aC Kv;have Qi:=aC hno;have P7:=aC JX;have I3:=aC dH;have I5:=aC rR;have zB:=aC dL;have kN:=aC b2;have HOW:=aC az;have HP:=aC hP;have HRB:=aC (Xc (r:=rd));clear rI uv dH x2 rR dL b2 hb db JX hno Kv CJ yP az hP
    go_upto_region 8 with fail
    rw[I3.out];clear I3 c0 c1
    go_wp2_with fail
    refine cr.mono ?_;rintro e W3 ⟨b3,⟨hi,pv,rfl⟩|⟨hi,st,xs,B0,g3,Lt,hst,zwo,TP,rfl,lE,G0⟩⟩
    ·have Hi:=aC hi;clear hi cr;go_wp2;exact bD (v:=.tuple #[zd zb 0 0,zj .i64 0,.bool false]) (by simp[results,results70,go_sem]) rfl ⟨aj zB.out zB.out.size b3,.inl ⟨Qi.out (by rw[XL.out];exact Hi.out),_,_,rfl⟩⟩
    ·have Hi:=aC hi;have jY:=aC hst;have QO:=aC zwo;have ql:=aj zB.out zB.out.size b3;have zwz:zk wr.heap.size wr W3:=kN.out.trans (b3.mono kN.out.size);have kh:=cI HOW.out zwz;have Ql:=aC (HP.out.below zwz);have XT:=aC (zlj hst TP);have YI:=aC TP;have HTR:=aC G0;have FP:=aC lE;obtain⟨N,fV⟩:=G0.parts;have XM:=aC fV;have iL:st.length<=2000000:=by have:=(MJ.out.2 k hlt).1;rw[gE.out]at this;omega
     clear hi hst zwo TP lE G0 fV cr q0 q1
     go_wp2_with (at_builtin;refine pX W3 rfl (.tmp 28) (.tmp 30) 123 rfl w.heap.size 155 i0 _ 24 underlying123 hi bK bh bz rfl g fe k vs _ rfl kh rfl rfl (by omega) (by omega) ql.size ?_;intro g' cap' w5 jv gu dg)
     obtain⟨zzG,zx9⟩:=PH kh;have GN:∀(b:Nat) (cs:Array zg) (t:zm),W3.heap[b]?=za (aa cs t (0,0))->t≠155->w5.heap[b]?=za (aa cs t (0,0)):=λb cs t e ht=>(gu.block b (ap.1 e).1 (λe2=>by cases e2;rw[zx9]at e;injection e with e;injection e with e1 e2;exact ht e2.symm)).trans e
     have RY:=lg FP.out (W:=w5) λb cs e=>GN b cs _ e (by decide)
     have T4:=Ve st xs w5 RY XM.out iL;obtain⟨sc,M8⟩:∃sc:Int,zf (iF st=sc):=⟨_,rfl⟩;rw[M8.out]at T4;have bX:0<=sc:=by have:=(LX XM.out st.length (ai _)).1;rw[wK]at this;rw[<-M8.out];exact this
     have dB:sc<=2000:=by rw[<-M8.out];exact YI.out
     have XK:=aC RY;have XB:=aC gu;have HW5:=aC jv;have XE:=aC GN;have zAh:(k:Int)<=100:=by omega
     have xj:=(qc kh).1;obtain⟨ws,YL⟩:∃ws:Int,zf (iO (rs.take k)=ws):=⟨_,rfl⟩;rw[YL.out]at vW lG ⊢;clear RY gu jv GN kh dg
     go_wp2_with fail
     refine T4.mono ?_;rintro e w6 ⟨rfl,b6⟩;clear T4;go_wp2
     go_roundw
     case rel=>
      have zZ:zk w.heap.size w w5:=ql.grown XB.out ql.size (λq e=>by cases e;exact xj);have zyS:iO (rs.take (k+1))=ws+sc:=by rw[I5.out,YL.out,<-XT.out,M8.out]
      obtain⟨aA,Cq⟩:=PH XK.out;have hlen:(rs.getD k .zero).branches.length=st.length:=by rw[gE.out];exact QO.out.symm
      have JU:=HTR.out.keep (w':=w5) (λmg f hm=>XE.out _ _ _ hm (by decide));have CF:zw w5 (zd (za ⟨g3,0,zb⟩) (rs.getD k .zero).branches.length Lt) (rs.getD k .zero).branches:=by
       rw[gE.out];refine⟨g3,Lt,st,xs,rfl,ID Cq,QO.out,XT.out,YI.out,λj hj=>?_,JU⟩;have Cx:j<st.length:=by rw[QO.out];exact hj
       exact XK.out.cellAt j (by omega)
      have Z0:tQ w5 (vs++[zd (za ⟨g3,0,zb⟩) (rs.getD k .zero).branches.length Lt]) (rs.take (k+1)):=(Ql.out.keep XB.out.size λb cs t e ht=>XE.out b cs t e (by rcases ht with rfl|rfl<;>decide)).snoc hlt Cq CF;rw[hlen]at Z0;refine⟨k+1,g',cap',vs++[zd (za ⟨g3,0,zb⟩) st.length Lt],by omega,by go_num,rfl,by rw[zyS],aj zZ zZ.size b6,cI HW5.out b6,Z0.below b6,?_,by omega,by omega⟩;show _=true;rw[P7.out,XL.out];exact Hi.out
     case measure=>simp[intOf];omega
   ·have bC:k=rs.length:=by omega
    have ND:tQ wr vs rs:=by rw[bC,wK]at hP;exact hP
    have hak:rs.all iM=true:=by have:=db.out;rw[bC,wK]at this;exact this
    have hwk:iO (rs.take k)=iO rs:=by rw[bC,wK]
    rw[hwk]at vW lG ⊢;have ME:zf (li rs=decide (iO rs<=4000)):=by
     show _=_;unfold li;rw[hak,decide_eq_true NX];simp
    have eU:wr.ownsRow w.heap.size 155 1 (zd (za ⟨g,0,zb⟩) rs.length fe) rs.length vs:=by rw[<-bC];exact az
    have HP:=aC ND;have HO:=aC eU;have tZ:=aC bC;clear ND eU hP az db hak hwk bC
    by_cases h4:iO rs<=4000
    ·go_wp2;refine bD (v:=.tuple #[zd (za ⟨g,0,zb⟩) k fe,zj .i64 (iO rs),.bool true]) (by simp[results,results70,go_sem]) rfl ⟨hb,.inr ⟨by rw[ME.out];exact decide_eq_true h4,g,fe,vs,by rw[tZ.out],HO.out,HP.out⟩⟩
    ·go_wp2;refine bD (v:=.tuple #[zd (za ⟨g,0,zb⟩) k fe,zj .i64 (iO rs),.bool false]) (by simp[results,results70,go_sem]) rfl ⟨hb,.inl ⟨by rw[ME.out];exact decide_eq_false (by omega),_,_,rfl⟩⟩
 ·have ak:(100:Int)<(rs.length:Int):=by omega
  have HL:=aC (show li rs=false by unfold li;simp;omega);clear hc hsm hl
  go_enter func70,ntmps70
  go_wp2;exact bD (v:=.tuple #[zd zb 0 0,zj .i64 0,.bool false]) (by simp[results,results70,go_sem]) rfl ⟨Below.refl _ _,.inl ⟨HL.out,_,_,rfl⟩⟩
end
section
attribute [local go_sem ↓] wp_at_zero wp_at_succ
def mkQ(t:zm)(x y:zg):Sem zg:=Instr.makeSlice t x y
theorem ziP(x y:zg):Instr.makeSlice 126 x y=mkQ 126 x y:=rfl
attribute [local go_sem ↓] ziP
theorem Tryz.zyZ:(prog.info? 161).map (λi=>(i.zero,i.size,i.bytes))=za (za (ze zb),1,8):=by kernel_rfl
structure wP(w:zc)(rv cv bv fv tv ev nv kv:zg)(wd:Int)(rs:List bL)(bf g cap gq:Nat)(vs:List zg)(W:zc):Prop where
 bj:zk w.heap.size w W
 Ro:w.heap.size<=bf
 JF:w.heap.size<=gq
 box:W.heap[bf]?=za (aa (DT rv cv wd bv fv tv ev nv kv (zd (za ⟨g,0,zb⟩) rs.length cap) (zd (za ⟨gq,0,zb⟩) rs.length rs.length)) 128 (0,0))
 own:W.ownsRow w.heap.size 155 1 (zd (za ⟨g,0,zb⟩) rs.length cap) rs.length vs
 OK:tQ W vs rs
 qs:W.heap[gq]?=za (aa (Array.replicate rs.length (ze zb)) 161 (0,0))
def F9(w:zc)(rv cv bv fv tv ev nv kv:zg)(wd:Int)(rs:List bL)(m:Bool)(e:Ending)(W:zc):Prop:=
 (m=false/\e=.returned (.tuple #[ze zb,.bool false])/\zk w.heap.size w W)\/(m=true/\∃bf g cap gq vs,e=.returned (.tuple #[ze (za ⟨bf,0,zb⟩),.bool true])/\wP w rv cv bv fv tv ev nv kv wd rs bf g cap gq vs W)
theorem zrl(n:Nat):(madeCells (Value.pointer zb).cells (n*1)).toList.toArray=Array.replicate n (ze zb):=by
 apply Array.ext_getElem?
 intro i
 by_cases h:i<n
 ·simp[madeCells,Value.cells,Nat.mod_one,h]
 ·simp[madeCells,h]
theorem zj5{lo:Nat}(ao:Option Addr)(rc:Nat)(cv bv fv tv ev nv kv:zg)(rs:List bL)(d:bG)(w:zc)(hr:gZ lo w (.slice ao rs.length rc) rs)(hsm:qM rs)(hs:eN lo w cv bv fv tv ev nv kv d)(rQ:zq d):
  zl prog 36 #[.agg #[.slice ao rs.length rc,cv,zj .i64 d.width,bv,fv,tv,ev,nv,kv]] w λe W=>F9 w (.slice ao rs.length rc) cv bv fv tv ev nv kv d.width rs (rT rs d) e W:=by
 obtain⟨i0,hi,bK,bh,bz⟩:=info_parts Tryz.zyZ;obtain⟨W0,ah⟩:∃W0,w.alloc (aa #[.slice ao rs.length rc,cv,zj .i64 d.width,bv,fv,tv,ev,nv,kv] 41)=W0:=⟨_,rfl⟩;have ae:zk w.heap.size w W0:=by rw[<-ah];exact au
 have r0:W0.heap[w.heap.size]?=za (aa #[.slice ao rs.length rc,cv,zj .i64 d.width,bv,fv,tv,ev,nv,kv] 41 (0,0)):=by rw[<-ah];exact aL _ _
 have hl:=hsm.1;have c1:=zli (.slice ao rs.length rc) rs W0 (hr.below ae) hsm;have c2:=λW (hb:zk w.heap.size w W)=>zhB cv bv fv tv ev nv kv d W (hs.below hb) rQ
 have c3:=λW (hb:zk w.heap.size w W)=>C7 (-1) ((rs.length:Int)-1) tv d.tag W (hs.below hb).tag
 have c4:=λW (hb:zk w.heap.size w W)=>C7 (-1) ((rs.length:Int)-1) ev d.fin W (hs.below hb).fin
 have Hm:zf (rT rs d=(li rs&&iq d&&bO (-1) (rs.length-1) d.tag&&bO (-1) (rs.length-1) d.fin)):=rfl;obtain⟨q0,q1,q2,q3,q4,q5,q6,q7,q8⟩:=mC r0;have Hl:=aY hl;clear hr hs hl hsm;generalize iq d=b2 at *;generalize bO (-1) (rs.length-1) d.tag=b3 at *;generalize bO (-1) (rs.length-1) d.fin=b4 at *
 go_enter func36,ntmps36
 go_wp2_with fail
 refine c1.mono ?_;rintro e w1 ⟨ak,⟨hf,x1,x2,rfl⟩|⟨hf,g,cap,vs,rfl,mq,zwL⟩⟩
 ·have iU:=aj ae ae.size ak;have HF:zf (F9 w (.slice ao rs.length rc) cv bv fv tv ev nv kv d.width rs (rT rs d) (.returned (.tuple #[ze zb,.bool false])) w1):=.inl ⟨by rw[Hm.out,hf];rfl,rfl,iU⟩;clear hf ak q0 q1 q2 q3 q4 q5 q6 q7 q8 ah c1 c2 c3 c4 ae;go_wp2;exact bD (v:=.tuple #[ze zb,.bool false]) (by simp[results,results36,go_sem]) rfl HF.out
 have iU:=aj ae ae.size ak;have r1:=cB r0 ak;rw[hf]at Hm;have FO:=aY mq;have BA:=aY zwL;have c2:=c2 w1 iU;clear q0 q1 q2 q3 q4 q5 q6 q7 q8 ah c1 mq zwL hf ak;obtain⟨q0,q1,q2,q3,q4,q5,q6,q7,q8⟩:=mC r1
 go_wp2_with fail
 refine c2.mono ?_;rintro e w2 ⟨rfl,af⟩;have dL:=aj iU iU.size af;have r2:=cB r1 af;have yo:=aY (cI FO.out af);have MH:=aY (BA.out.below af);clear q0 q1 q2 q3 q4 q5 q6 q7 q8 c2 FO BA;cases b2
 ·have HF:zf (F9 w (.slice ao rs.length rc) cv bv fv tv ev nv kv d.width rs (rT rs d) (.returned (.tuple #[ze zb,.bool false])) w2):=.inl ⟨by rw[Hm.out];rfl,rfl,dL⟩;go_wp2;exact bD (v:=.tuple #[ze zb,.bool false]) (by simp[results,results36,go_sem]) rfl HF.out
 obtain⟨q0,q1,q2,q3,q4,q5,q6,q7,q8⟩:=mC r2;have c3:=c3 w2 dL;have c4:=c4 w2 dL;have ju:(rs.length:Int)<=1048576:=by have:=Hl.out;omega
 have jx:IntKind.i64.wrap ((rs.length:Int)-1)=(rs.length:Int)-1:=by rw[IntKind.wrap_i64];omega
 go_wp2_with fail
 refine c3.mono ?_;rintro e w3 ⟨rfl,G2⟩;subst w3;cases b3
 ·have HF:zf (F9 w (.slice ao rs.length rc) cv bv fv tv ev nv kv d.width rs (rT rs d) (.returned (.tuple #[ze zb,.bool false])) w2):=.inl ⟨by rw[Hm.out];rfl,rfl,dL⟩;go_wp2;exact bD (v:=.tuple #[ze zb,.bool false]) (by simp[results,results36,go_sem]) rfl HF.out
 go_wp2_with fail
 refine c4.mono ?_;rintro e w4 ⟨rfl,AV⟩;subst w4;cases b4
 ·have HF:zf (F9 w (.slice ao rs.length rc) cv bv fv tv ev nv kv d.width rs (rT rs d) (.returned (.tuple #[ze zb,.bool false])) w2):=.inl ⟨by rw[Hm.out];rfl,rfl,dL⟩;go_wp2;exact bD (v:=.tuple #[ze zb,.bool false]) (by simp[results,results36,go_sem]) rfl HF.out
 obtain⟨W5,xu,jv,vK⟩:=run_make_full (P:=prog) w2.drew w2.heap.size 126 161 i0 _ 1 underlying126 hi bK bh .i64 .i64 rs.length (by rw[bz];omega) (by unfold maxLen;omega) (ai _);have zv2:(mkQ 126 (zj .i64 (rs.length:Int)) (zj .i64 (rs.length:Int))).run prog w2.drew=.ok (zd (za ⟨w2.heap.size,0,zb⟩) rs.length rs.length) W5:=xu;have bE:zk w2.heap.size w2 W5:=⟨vK.os,vK.tape,vK.output,vK.size,λk hk=>vK.block k hk (by simp)⟩;obtain⟨p0,p1,p2,p3,p4,p5,p6,p7,p8⟩:=mC (cB r2 bE);have bB:zk W5.heap.size W5 (W5.alloc (aa (DT (.slice ao rs.length rc) cv d.width bv fv tv ev nv kv (zd (za ⟨g,0,zb⟩) rs.length cap) (zd (za ⟨w2.heap.size,0,zb⟩) rs.length rs.length)) 128)):=au;have NP:zk w2.heap.size w2 (W5.alloc (aa (DT (.slice ao rs.length rc) cv d.width bv fv tv ev nv kv (zd (za ⟨g,0,zb⟩) rs.length cap) (zd (za ⟨w2.heap.size,0,zb⟩) rs.length rs.length)) 128)):=aj bE bE.size bB;have GW:W5.heap[w2.heap.size]?=za (aa (Array.replicate rs.length (ze zb)) 161 (0,0)):=by
  have:=O9 jv;rw[zrl]at this;exact this
 have HF:zf (F9 w (.slice ao rs.length rc) cv bv fv tv ev nv kv d.width rs (rT rs d) (.returned (.tuple #[ze (za ⟨W5.heap.size,0,zb⟩),.bool true])) (W5.alloc (aa (DT (.slice ao rs.length rc) cv d.width bv fv tv ev nv kv (zd (za ⟨g,0,zb⟩) rs.length cap) (zd (za ⟨w2.heap.size,0,zb⟩) rs.length rs.length)) 128))):=.inr ⟨by rw[Hm.out];rfl,_,g,cap,w2.heap.size,vs,rfl,aj dL dL.size NP,aU dL.size bE.size,dL.size,aL _ _,qO (cI yo.out NP) ae.size,MH.out.below NP,cB GW bB⟩;clear c3 c4 xu jv vK GW bB NP
 go_upto_region 7 with fail
 go_region
 go_wp2;exact bD (v:=.tuple #[ze (za ⟨W5.heap.size,0,zb⟩),.bool true]) (by simp[results,results36,go_sem]) rfl HF.out
end
section
variable {N:Nat}{xs:List zg}{st:List Int}
theorem zmI(h:IH N xs st)(k:Nat)(hk:k<st.length)(hle:iF (st.take (k+1))<=2000):iF (st.take (k+1))=iF (st.take k)+st.getD k 0/\1<=st.getD k 0/\0<=iF (st.take k):=by
 rw[Vl st k hk]at hle ⊢;obtain⟨t,x,_,hp⟩:=h.2 k hk;have h1:=fZ.facts N _ _ hp;have h2:=LX h k (by omega);unfold cJ at hle ⊢;split
 ·exact⟨rfl,h1.2.1,h2.1⟩
 ·rw[aq (by assumption)]at hle;omega
theorem zqb(h:IH N xs st)(hle:iF st<=2000):∀m k,k+m=st.length->iF (st.take k)<=iF st
 |0,k,e=>by rw[wL (by omega)];exact Int.le_refl _
 |m+1,k,e=>by
  have h1:=zqb h hle m (k+1) (by omega);have h2:=zmI h k (by omega) (by omega);omega
theorem ztb(h:IH N xs st)(hle:iF st<=2000)(k:Nat)(hk:k<st.length):st.getD k 0<=2000:=by
 have h0:=zqb h hle (st.length-(k+1)) (k+1) (by omega);have h1:=zmI h k hk (by omega);omega
end
section
variable {u:aJ}{b:Pt}
attribute [local go_sem ↓] wp_at_zero wp_at_succ
theorem Tryz.zwG:(prog.info? 247).map (λi=>(i.zero,i.size,i.bytes))=za (za (.agg #[ze zb,zj .i64 0]),2,16):=by kernel_rfl
theorem zpb{i n:Nat}{L:Laid}(h:nK u n b i L):yy u i n (.aw b 0 (-1)) L:=by
 show if (0:Int)=0/\(-1:Int)=-1 then nK u n b i L else jD u n (gI b (Int.toNat 0) (-1)) i L
 rw[aD ⟨rfl,rfl⟩];exact h
theorem zmW{O1:Nat->Prop}{w:zc}{nw Uo:Nat}(eU:oO b){E0 E:Nat->Prop}{fr high hi:Nat}(yS:high<=hi)(h9:hi<=4096)(hE:∀x,E x->zR u (bY b 0).star E0 x)(bV:Uo=nw)(t ne gs B:Nat)(pv:zg)(ps:List Nat)(rb:cd){n bt ga gl:Nat}{lv:zg}{f:Nat->Nat->Bool}{Lk:Nat->Nat->Nat}{A L:Nat->Nat}{O:Nat->Prop}
  (uy:∀W,aE O1 w W->W.heap[t]?=za (aa #[ze (za ⟨rb.r,0,zb⟩),zd (za ⟨gs,0,zb⟩) ne ne,zj .i64 hi,pv] 195 (0,0))/\W.ownsRow B 3 1 pv ps.length (uW ps)/\qj O W n Uo bt ga gl lv f Lk A L rb)
  (GL:∀j,j<ps.length->ps.getD j 0<rb.m/\si Uo (rb.Ts (ps.getD j 0)) (gO u (bY b 0).star E0 (hi-1-j))) (hof:∀i p,i+ps.length<hi->¬gO u (bY b 0).star E0 i p):WV O1 w nw u (bY b 0) E fr high (ze (za ⟨t,0,zb⟩)):=by
 subst bV;refine .inr ⟨t,gO u (bY b 0).star E0,rfl,λW hT k hk=>?_,λk h1 h2 h3 x hx hEx hL=>?_⟩
 ·obtain⟨x1,x2,x3⟩:=uy W hT;refine(ztX x3 t ne gs hi k B pv ps x1 x2 (λj hj=>(GL j hj).1) (by omega) h9).mono ?_;rintro e w' ⟨⟨y1,rfl⟩|⟨y1,rfl⟩,hb⟩
  ·exact⟨_,rfl,.inl ⟨rfl,λp hp=>hof k p (by omega) hp⟩,hb⟩
  ·obtain⟨z1,z2⟩:=GL _ y1;refine⟨_,rfl,.inr ⟨_,rb.Ts (ps.getD (hi-1-k) 0),rfl,(x3.s.set _ z1).below hb,?_⟩,hb⟩;rw[show hi-1-(hi-1-k)=k from by omega]at z2;exact z2
 ·rcases hL with ⟨e,_⟩|⟨_,q,hq,hl⟩
  ·omega
  ·obtain⟨p,p1,p2⟩:=zpY (xR b eU 0) hq hl (hE x hEx) k h1 hx;exact h3 p p1 p2
theorem zki{w0:zc}{pl:Nat}{Q:Nat->Option Pt}{Ow:Nat->Nat->Prop}(w:zc)(h:cE w0 pl Q Ow w)(lo a a':Nat)(b:Pt)(ha:Q a=za (.aw b 0 (-1)))(ha':Q a'=za b)(hp:dI lo w0 pl Q a' b)(t:ByteArray)(ht:t.size<=4096)(hL:Lg t.data.toList (.aw b 0 (-1)) 0 t.size):
  zl prog 234 #[.agg #[ze (za ⟨a,0,zb⟩),ze (za ⟨a',0,zb⟩)],.string t] w λe w'=>sL w0 pl Q Ow w lo t.data.toList t.size (.aw b 0 (-1)) e w':=by
 obtain⟨i0,hi,bK,bh,bz⟩:=info_parts Tryz.zwG;have tx:=h.size;have hne:a≠a':=λe=>by rw[e,ha']at ha;exact ztJ b (Option.some.inj ha).symm
 have vV:t.data.toList.length=t.size:=by simp
 have zyK:=aC (h.Li ha');obtain⟨W0,ah⟩:∃W0,(w.alloc (aa #[ze (za ⟨a,0,zb⟩),ze (za ⟨a',0,zb⟩)] 313)).alloc (aa #[] 247)=W0:=⟨_,rfl⟩;have ae:zk w.heap.size w W0:=by rw[<-ah];exact(au).alloc (by simp) _
 have x0:W0.heap[w.heap.size]?=za (aa #[ze (za ⟨a,0,zb⟩),ze (za ⟨a',0,zb⟩)] 313 (0,0)):=by rw[<-ah];exact cQ (aL _ _)
 have CL:W0.ownsRow w.heap.size 247 2 (zd (za ⟨w.heap.size+1,0,zb⟩) 0 0) 0 []:=by rw[<-ah];exact LJ _ _ 2 _ _ (by omega) (by simp)
 have bX:w.heap.size+1<W0.heap.size:=by rw[<-ah];simp
 have hst:=Ik a _ W0 (h.below ae) ha;have nG:=aC (da.cH h ae);have eT:∀k,w.heap.size<=k->∀c,¬Ow k c:=λk hk c ho=>by have:=(h.ow _ c ho).2;omega
 have c0:=(jA x0).1;have HL:=aC hL;have Hp:=aC hp;have sK:=aC x0;have Yy:=aC CL;clear h hL hp x0 CL ae
 go_enter func234,ntmps234
 go_wp2_with fail
 refine hst.mono ?_;rintro e w1 ⟨s,dQ,X1,v1,ra1,rb1,O1,O2,rfl,mY,xq,pM,hch⟩;have vR:=Pu t.size w1 ht;have ub:=aC mY;have yt:=aC hch;clear hst mY hch c0 ah
 go_wp2_with fail
 refine vR.mono ?_;rintro e w2 ⟨U,rfl,hU,gT,af⟩;have cZ:=ub.out.below (ub.out.inv.below af) af;have dx:=aC (yt.out.below af);have jM:=O0 cZ (by omega) (by omega) t ht (t.size/64+1) w1.heap.size (t.size/64+1) U hU (by omega) (λhx=>by have:=(ub.out.x0 _ hx).2;omega) ⟨t.size,by omega,(gT _).2 rfl⟩ (λq _ hb=>by have:=(gT q).1 hb;omega);have qZ:=aC gT;have yw:=aC cZ;obtain⟨ne,zv5⟩:∃ne,t.size/64+1=ne:=⟨_,rfl⟩;have Em:ne<=100:=by omega
 have mU:t.size<64*ne:=by omega
 rw[zv5]at jM ⊢;clear vR hU gT cZ zv5
 go_wp2_with fail
 refine jM.mono ?_;rintro e w3 ⟨jG,X3,high,tt,gs,b3,O3,S,pv,ps,rfl,h3,nQ,uH,AW,T,hh⟩;have N0:=nQ _ _ dx.out;have EE:=nG.out.trans (h3.zh N0);have vN:high=t.size:=(qZ.out high).1 hh.2;subst vN;have HE0:zf ((λq=>q<64*ne/\ax U q=true)=λq=>q=t.size):=funext λq=>propext ⟨λx=>(qZ.out q).1 x.2,λx=>by subst x;exact⟨mU,(qZ.out _).2 rfl⟩⟩
 have TS:∀k,w.heap.size<=k->k<W0.heap.size->w3.heap[k]?=W0.heap[k]?/\∀c,¬jG k c:=λk h1 h2=>by
  have:=(h3.zh N0).eG k (by omega) h2 (eT k h1);exact this
 have zAr:W0.heap.size<=w2.heap.size:=aU yt.out.tc.size af.size;have tq:=Ik a' b w3 h3.inv ha';have c1:=(jA ((TS w.heap.size (ai _) (by omega)).1.trans sK.out)).2;have H3:=aC h3;have HT:=aC T;have QL:=aC EE;have M9:=aC TS;have MX:=aC uH;have Na:=aC AW;have oK:=aC N0;clear jM h3 T EE TS uH AW nQ N0 hh
 go_wp2_with fail
 refine tq.mono ?_;rintro e w4 ⟨s2,nJ,X4,v4,ra4,rb4,YQ,YR,rfl,Lv,zAj,zAk,B1⟩;obtain⟨Pr,sG⟩:∃Pr:Nat->Prop,zf (∀k,Pr k↔X3 k\/k=tt\/k=gs\/pv.ownBlock=za k\/k=w.heap.size):=⟨_,λ_=>Iff.rfl⟩;have TE:∀k,pv.ownBlock=za k->w2.heap.size<=k/\k<w3.heap.size:=λk e=>by
  obtain⟨q1,aA,q2⟩:=ki HT.out.pa e;exact⟨q1,(ap.1 q2).1⟩
 have nh:tt<w3.heap.size:=(ap.1 HT.out.box).1;have fC:gs<w3.heap.size:=HT.out.sp.cj;have Oo:=HT.out.tw;have bU:=HT.out.gw;have zAt:=oK.out.tc.size;have zwl:=B1.tc.size;have hww:w.heap.size<=w4.heap.size:=by omega
 have R0:∀k,Pr k->w0.heap.size<=k/\k<w3.heap.size/\¬jG k a':=λk hk=>by
  rcases(sG.out k).1 hk with e|e|e|e|e
  ·refine⟨(H3.out.x0 k e).1,(H3.out.x0 k e).2,λho=>?_⟩;rcases H3.out.x1 with ⟨f1,_⟩|f1
   ·exact hne (H3.out.inv.dj k a a' ((f1 k).1 e) ho)
   ·exact f1 k a' e ho
  ·subst e;exact⟨by omega,nh,(Pm yw.out MX.out Na.out Oo HT.out.nt).1 a'⟩
  ·subst e;exact⟨by omega,fC,(Pm yw.out MX.out Na.out bU HT.out.ng).1 a'⟩
  ·obtain⟨q1,q2⟩:=TE k e;exact⟨by omega,q2,(Pm yw.out MX.out Na.out q1 (HT.out.np k e)).1 a'⟩
  ·subst e;exact⟨tx,by omega,(M9.out w.heap.size (ai _) (by omega)).2 a'⟩
 have hP:∀k,Pr k->k<w4.heap.size/\¬X4 k:=λk hk=>by
  obtain⟨q1,q2,q3⟩:=R0 k hk;exact⟨by omega,λe=>(B1.xs k e).elim q3 λe=>by omega⟩
 have ZZ:∀k,Pr k->w4.heap[k]?=w3.heap[k]?:=λk hk=>by
  obtain⟨q1,q2,q3⟩:=R0 k hk;have:=H3.out.inv.AZ;have:=H3.out.inv.aQ ha';refine B1.tc.same k q2 ?_;rintro (e|e|e)
  ·omega
  ·omega
  ·exact q3 e
 have NK:∀k,w0.heap.size<=k->k<w.heap.size->(∀c,¬Ow k c)->¬X4 k:=λk h1 h2 h3 e=>by
  rcases B1.xs k e with f|f
  ·exact(QL.out.eG k h1 h2 h3).2 a' f
  ·omega
 have Tc:w4.heap[w.heap.size+1]?=W0.heap[w.heap.size+1]?/\(∀c,¬nJ (w.heap.size+1) c)/\¬X4 (w.heap.size+1)/\¬Pr (w.heap.size+1):=by
  obtain⟨f1,f2⟩:=M9.out (w.heap.size+1) (by omega) bX;obtain⟨g1,g2⟩:=(Lv.zh B1).eG (w.heap.size+1) (by omega) (by omega) f2;refine⟨g1.trans f1,g2,λe=>(B1.xs _ e).elim (f2 a') λe=>by omega,λe=>?_⟩;rcases(sG.out _).1 e with e|e|e|e|e
  ·exact(oK.out.xs _ e).elim (eT _ (by omega) a) λe=>by omega
  ·omega
  ·omega
  ·have:=TE _ e;omega
  ·omega
 have qY:zf (BM w0 pl Q a' b Ow w w4 X4 Pr s2 v4 rb4 YR nJ w4 X4 ra4 YQ):=⟨Lv,QL.out.trans (Lv.zh B1),λ_ e=>.inl e,λ_ _=>rfl,ai _⟩;have jS:=aC (show w4.ownsRow w.heap.size 247 2 (zd (za ⟨w.heap.size+1,0,zb⟩) 0 0) 0 [] from kH Yy.out λk e=>by
  have e:w.heap.size+1=k:=by simpa [Value.ownBlock]using e
  subst e;exact Tc.1)
 have MS:=aC Tc;have HP:=aC hP;have HX4:=aC NK;have zyI:v1.nw=v4.nw:=by
  rw[H3.out.st.G7,Lv.st.G7];obtain⟨_,_,_,_,_,_,hw,_⟩:=H3.out.inv.pc a' b ha';rw[zmN hw]
 -- what lies along,in any world in which the zAE stands
 have Qo:zf (∀W:zc,(∀k,Pr k->W.heap[k]?=w4.heap[k]?)->W.heap[tt]?=za (aa #[ze (za ⟨b3.r,0,zb⟩),zd (za ⟨gs,0,zb⟩) ne ne,zj .i64 (t.size:Int),pv] 195 (0,0))/\aH W ne gs S/\W.ownsRow w2.heap.size 3 1 pv ps.length (uW ps)/\qj O3 W v1.n v1.nw v1.bt v1.gl v1.ga (.slice v1.ba v1.n v1.bc) v1.f v1.G v1.L v1.A b3/\W.cell? ⟨w.heap.size,1,zb⟩=za (ze (za ⟨a',0,zb⟩))):=λW hW=>by
  have hk:∀k,Pr k->W.heap[k]?=w3.heap[k]?:=λk hk=>(hW k hk).trans (ZZ k hk)
  refine⟨(hk tt ((sG.out _).2 (.inr (.inl rfl)))).trans HT.out.box,⟨(hk gs ((sG.out _).2 (.inr (.inr (.inl rfl))))).trans HT.out.sp.row,HT.out.sp.lt⟩,kH HT.out.pa λk e=>hk k ((sG.out _).2 (.inr (.inr (.inr (.inl e))))),H3.out.st.st.rb.keep λk e _=>hk k ((sG.out _).2 (.inl (H3.out.st.x2 k e))),?_⟩;exact(jA ((hk _ ((sG.out _).2 (.inr (.inr (.inr (.inr rfl)))))).trans ((M9.out w.heap.size (ai _) (by omega)).1.trans sK.out))).2
 have kw:zf (∀m,ax S m=true↔Lg t.data.toList (.aw b 0 (-1)) m t.size):=λm=>by
  rw[O6 yw.out.inv ha HT.out (λm hm=>by rw[vV,(qZ.out m).1 hm.2];omega) m];constructor
  ·rintro ⟨e,h1,h2⟩;rw[(qZ.out e).1 h1.2]at h2;exact h2
  ·intro h1;exact⟨t.size,⟨mU,(qZ.out _).2 rfl⟩,h1⟩
 have XO:=aC HT.out.ss;have Yq:=aC HT.out.ix;have YA:=aC HT.out.off;rw[zr7]at XO Yq YA;clear tq Lv B1 Tc R0 hP ZZ NK TE M9 oK MX Na QL HT yw ub yt dx qZ sK Yy nG c1;go_wp2
 go_loopw [5,8] (λlv av wr=>∃(k:Nat) (ys:List ud) (vL:zg) (lx:Nat->Nat->Prop) (XW:Nat->Prop) (UC:cd) (OW:Nat->Prop),lv=vL/\av=zj .i64 k/\k<=t.size/\ys.length<=k/\zf (BM w0 pl Q a' b Ow w w4 X4 Pr s2 v4 rb4 YR lx wr XW UC OW)/\zf (UC.m<=8192+4096*k)/\zf (Lg t.data.toList (.aw b 0 (-1)) k t.size)/\zf (∀L,nK t.data.toList t.size b k L->nK t.data.toList t.size b 0 (oa ys++L))/\zf (wr.ownsRow w.heap.size 247 2 vL ys.length (my ys))/\zf (∀k,vL.ownBlock=za k->(∀c,¬lx k c)/\¬XW k/\¬Pr k)/\zf (∀y,y∈ys->dI lo w0 pl Q y.1 y.2.1))
  (λ_ av _=>t.size-(intOf av).toNat)
 case atStart=>exact⟨0,[],_,nJ,X4,ra4,YQ,rfl,rfl,aZ _,ai _,qY,by show _<=_;omega,HL,λL hL=>hL,jS,λk e=>by
   have e:w.heap.size+1=k:=by simpa [Value.ownBlock]using e
   subst e;exact⟨MS.out.2.1,MS.out.2.2.1,MS.out.2.2.2⟩,λy hy=>by cases hy⟩
 case round=>
  clear qY jS MS HL;obtain⟨k,ys,vL,lx,XW,UC,OW,Td,rfl,ke,Ez,HS,Hm,Dt,MI,HO,rh,BB⟩:=hrel;have Te:=Td.symm;subst Te
  by_cases hlt:k<t.size
  ·have hd:decide ((k:Int)<(t.size:Int))=true:=by simp;omega
   obtain⟨r1,r2,-,-,-⟩:=Qo.out wr HS.out.sm;have k1:=(qb r1).2.1;have zvJ:¬XW gs:=λe=>by
    have Ty:=(sG.out gs).2 (.inr (.inr (.inl rfl)));have:=HP.out gs Ty;rcases HS.out.xs gs e with f|f
    ·exact this.2 f
    ·omega
   have J8:=zfZ HS.out.so (by have:=Hm.out;omega) (by omega) t ht ne gs ne k S r2 Em zvJ ⟨k,by omega,(kw.out k).2 Dt.out⟩ (λq _ hb=>by have:=((kw.out q).1 hb).1;omega) (by omega) (by omega) (ze (za ⟨tt,0,zb⟩)) (λeC bU _=>zmW zyK.out (hi:=t.size) (by have:=((kw.out eC).1 bU.2).1;exact this) ht (E0:=λq=>q<64*ne/\ax U q=true) (λx hx=>(XO.out x).1 hx.2) zyI tt ne gs w2.heap.size pv ps b3 (O:=O3) (λW hT=>by
    have hW:∀k,Pr k->W.heap[k]?=w4.heap[k]?:=λk hk=>(hT.same k (by have:=(HP.out k hk).1;have:=HS.out.sz;omega) (λe=>by
     rcases HS.out.xs k (HS.out.so.st.x1 k e) with f|f
     ·exact(HP.out k hk).2 f
     ·have:=(HP.out k hk).1;omega)).trans (HS.out.sm k hk)
    obtain⟨q1,q2,q3,q4,q5⟩:=Qo.out W hW;exact⟨q1,q3,q4⟩) Yq.out YA.out)
   clear r1 r2
   go_wp2_with fail
   refine J8.mono ?_;rintro e W2 ⟨pC,X2,a2,wU,cG,ok,rfl,wo,-,Tv,T6,cD,pW,hR⟩;have fI:=aC (HS.out.step HP.out HX4.out hww wo Tv T6 pW);obtain⟨k0,j1,j2,j3⟩:=zmH hlt Dt.out;have Jb:zf (∀x,(x<64*ne/\ax S x=true)↔Lg t.data.toList (.aw b 0 (-1)) x t.size):=λx=>⟨λz=>(kw.out x).1 z.2,λz=>⟨by have:=z.1;omega,(kw.out x).2 z⟩⟩
   have uI:Lg t.data.toList b k cG/\Lg t.data.toList (.aw b 0 (-1)) cG t.size/\k<cG/\∀x,Lg t.data.toList b k x->Lg t.data.toList (.aw b 0 (-1)) x t.size->x<=cG:=by
    rcases hR with ⟨-,b2,b3,b4⟩|⟨-,-,b3⟩
    ·refine⟨b3,(Jb.out _).1 b2,?_,λx h1 h2=>b4 x ((Jb.out x).2 h2) h1⟩;have:=b4 k0 ((Jb.out k0).2 j3) j2;omega
    ·exact absurd j2 (b3 k0 ((Jb.out k0).2 j3))
   have pK:cG<=t.size:=uI.2.1.1;have SX:=uI.2.2.1;have zw4:zf (∀L,nK t.data.toList t.size b cG L->nK t.data.toList t.size b 0 (oa (ys++[(a',b,cG)])++L)):=λL hL=>by
    have:=MI.out ((b,cG)::L) (.more k cG L hlt ⟨by omega,pK,⟨uI.1,uI.2.1⟩,λm h1 h2 h3=>by have:=uI.2.2.2 m h3.1 h3.2;omega⟩ hL)
    simpa [oa]using this
   have ym:=aC uI.2.1;have MT:zf (a2.m<=8192+4096*cG):=by show _<=_;have:=Hm.out;omega
   have eJ:W2.ownsRow w.heap.size 247 2 vL ys.length (my ys):=kH HO.out λk e=>by
    obtain⟨-,aA,e4⟩:=iD HO.out e;exact pW.same k (ap.1 e4).1 (rh.out k e).2.1
   have Yz:zf (∀k,vL.ownBlock=za k->w.heap.size<=k/\(∀c,¬pC k c)/\¬X2 k/\¬Pr k/\∃aA,W2.heap[k]?=za (aa aA 247 (0,0))):=λk e=>by
    obtain⟨e3,aA,e4⟩:=iD HO.out e;have Kj:=(ap.1 e4).1;obtain⟨f1,f2,f3⟩:=rh.out k e;have uK:¬X2 k:=λz=>(T6 k z).elim f2 λz=>by omega
    refine⟨e3,λc hc=>(Tv k c hc).elim (f1 c) uK,uK,f3,aA,(pW.same k Kj f2).trans e4⟩
   obtain⟨-,-,-,-,c1⟩:=Qo.out W2 fI.out.sm;have jR:ys.length<=2000000:=by omega
   have iY:w.heap.size<=W2.heap.size:=fI.out.pt.size;obtain⟨va,vn,vc,T3⟩:∃(va:Option Addr) (vn vc:Nat),vL=.slice va vn vc:=by
    rcases eJ.2 with ⟨e,_⟩|⟨g,c,_,e,_⟩
    ·exact⟨_,_,_,e⟩
    ·exact⟨_,_,_,e⟩
   subst T3;clear J8 HS Hm Dt MI HO rh hR wo Tv T6 pW cD uI j2 j3 k1 zvJ
   go_wp2_with (at_builtin;refine EN rfl (.tmp 37) (.tmp 42) 244 rfl W2 #[ze (za ⟨a',0,zb⟩),zj .i64 (cG:Int)] 247 rfl W2.heap.size rfl w.heap.size i0 _ 2 16 underlying244 hi bK bh bz rfl (by omega) (.slice va vn vc) ys.length (my ys) rfl eJ rfl rfl (by intro u hu;simp at hu;rcases hu with rfl|rfl<;>rfl) jR (by omega) iY ?_;intro g7 bS W7 fu dW iH)
   have Qq:=aC (fI.out.row (λk hk=>(HP.out k hk).1) dW tx Yz.out)
   go_roundw
   case rel=>exact⟨cG,ys++[(a',b,cG)],_,pC,X2,a2,wU,rfl,rfl,pK,by simp;omega,Qq,MT,ym,zw4,by show World.ownsRow _ _ _ _ _ _ _;rw[pz,Vy];exact fu,λk e=>by
     have e:g7=k:=by simpa [Value.ownBlock]using e
     subst e;rcases iH with f|f
     ·obtain⟨z1,z2,z3,z4,_⟩:=Yz.out g7 f;exact⟨z2,z3,z4⟩
     ·refine⟨λc hc=>by have:=(fI.out.so.inv.ow _ c hc).2;omega,λhc=>by have:=(fI.out.so.x0 _ hc).2;omega,λhc=>?_⟩;have:=(HP.out _ hc).1;have:=fI.out.sz;omega,λy hy=>by
     rcases er.1 hy with hy|hy
     ·exact BB.out y hy
     ·rw[eM.1 hy];exact Hp.out⟩
   case measure=>simp[intOf];omega
  ·obtain rfl:k=t.size:=by omega
   have hd:decide ((t.size:Int)<(t.size:Int))=false:=by simp
   have HF:zf (sL w0 pl Q Ow w lo t.data.toList t.size (.aw b 0 (-1)) (.returned vL) wr):=by
    refine⟨lx,ys,vL,rfl,HS.out.pt,HO.out,λk e=>(rh.out k e).1,?_,BB.out⟩;have:=MI.out [] .done;rw[tW]at this;exact zpb this
   clear HS MI HO rh BB Hm Dt;go_wp2;go_ret;exact HF.out
end
structure tT(H:Nat)(A B:zc):Prop where
 os:B.os=A.os
 tape:B.tape=A.tape
 output:B.output=A.output
 size:A.heap.size<=B.heap.size
 same:∀k,k≠H->k≠H+1->k<A.heap.size->B.heap[k]?=A.heap[k]?
 nc:(∀o,B.heap[H]?=za o->o.isCells=false)/\∀o,B.heap[H+1]?=za o->o.isCells=false
theorem tT.put{H:Nat}{A:zc}{x:Option (List Deferred)}{o:Obj}(hl:A.heap[H+1]?=za o)(hk:A.heap[H]?=za (.deferred x))(r:Loop):tT H A (A.putObj (H+1) (.loop r)):=
 ⟨rfl,rfl,rfl,by simp,λk _ h2 _=>World.putObj_heap_other h2,λo ho=>by
  rw[World.putObj_heap_other (by omega),hk]at ho;cases ho;rfl,λo ho=>by
  rw[World.putObj_heap_same (ap.1 hl).1]at ho;cases ho;rfl⟩
def Fv(H:Nat)(A B:zc):Prop:=B.heap[H]?=A.heap[H]?/\B.heap[H+1]?=A.heap[H+1]?
def zrv{α:Type}(H:Nat)(T:List Nat)(I:List α->zc->Prop)(Ix:Code->List α->zc->Prop)(s:List α)(W:zc):Exit->Act->zc->Prop
 |.normal,_,W'=>Fv H W W'/\(∀k∈T,W'.heap[k]?=W.heap[k]?)/\I s W'
 |.ret,_,W'=>Fv H W W'/\Ix .ret s W'
 |.exit id,_,W'=>Fv H W W'/\Ix (.exit id) s W'
 |.goto t,_,W'=>Fv H W W'/\Ix (.goto t) s W'
 |.panic _,_,_=>False
 |.outgrown,_,_=>False
def YT{α:Type}(n:Nat)(P:Program)(g:Nat)(fb lb:Array zg)(ur:α->Array zg)(T:List Nat)(S Sp:List α->Prop)(Nx:List α->α->Prop)(w:zc):Prop:=
 ∀(l:Nat) (J Jx:List α->zc->Prop) (W:zc),(∀k∈T,W.heap[k]?=w.heap[k]?)->
  (∀pre x W1,J pre W1->Nx pre x->YieldAt Fence.wide (n-1) P l (ur x) W1 λe W'=>
   (e=.returned (.bool true)/\J (pre++[x]) W'/\∀k∈T,W'.heap[k]?=W1.heap[k]?)\/(e=.returned (.bool false)/\Jx (pre++[x]) W'))->
  J [] W->
  CallsIn Fence.wide n P g (fb++#[.func (.yield l) #[] #[]]++lb) W λe W'=>(∃v,e=.returned v)/\((∃xs,S xs/\J xs W')\/(∃pre,Sp pre/\Jx pre W'))
theorem zlX{α:Type}{n:Nat}{P:Program}{g:Operand}{ps:Array Tmp}{assign body:Code}{Q:Exit->Act->zc->Prop}{a:Act}{w:zc}(h1:1<=n)
  {gf:Nat} {fb lb:Array zg} (hg:a.eval g=.func (.func gf) fb lb) (eg:∀args w,(callFunc gf args).run P w=.ok (.enter gf args) w)
  {ur:α->Array zg} {T:List Nat} {S Sp:List α->Prop} {Nx:List α->α->Prop} (hT:∀k∈T,k<w.heap.size) (GX:YT (n-1) P gf fb lb ur T S Sp Nx w) (vS:∀x,(ur x).size=ps.size)
  (I:List α->zc->Prop) (Ix:Code->List α->zc->Prop) (hI:∀s A B,I s A->tT w.heap.size A B->I s B) (Ap:∀c s A B,Ix c s A->tT w.heap.size A B->Ix c s B) (h0:I [] w) (V:α->zc->zc) (hV:∀x W,zk W.heap.size W (V x W)) (a₁:α->zc->Act)
  (Sh:∀(l:Nat) (x:α) (W:zc) (K:Act->zc->Prop),K (a₁ x W) (V x W)->
   assign.wpIn (Fence.wide.inRound l) (n-1-1) P (Exit.then K (λ_ _ _=>False)) {tmps:=(ps.zip (ur x)).foldl (λt (p,v)=>t.setIfInBounds p v) a.tmps,defers:=[]} W)
  (Sr:∀(l:Nat) (pre:List α) (x:α) (W0 W:zc),w.heap.size+1<W0.heap.size->I pre W0->tT w.heap.size (V x W0) W->Nx pre x->body.wpIn (Fence.wide.inRound l) (n-1-1) P (zrv w.heap.size T I Ix (pre++[x]) W) (a₁ x W0) W)
  (hdone:∀(D:Nat) (xs:List α) (W:zc),w.heap.size=D->S xs->I xs W->W.heap[D]?=za (.deferred (za []))->Q .normal {a with defers:={target:=.collected D,args:=#[]} :: a.defers} W)
  (KI:∀(D:Nat) (c:Code) (pre:List α) (W:zc),w.heap.size=D->Sp pre->Ix c pre W->W.heap[D]?=za (.deferred (za []))->c.wpIn Fence.wide n P Q {a with defers:={target:=.collected D,args:=#[]} :: a.defers} W):
  (Code.rangeFunc g ps assign body).wpIn Fence.wide n P Q a w:=by
 refine wpIn_rangeFunc λfn vJ=>?_
 let rc:LoopState->Option Code->Loop:=λst pe=>{state:=st,pending:=pe,fn,tmps:=a.tmps,params:=ps,assign,body,defers:=w.heap.size}
 obtain⟨W1,cC⟩:∃W1,(w.alloc (.deferred (za []))).alloc (.loop (rc .ready zb))=W1:=⟨_,rfl⟩;have t1:tT w.heap.size w W1:=by
  rw[<-cC];refine⟨rfl,rfl,rfl,by simp;omega,λk _ _ hlt=>?_,λo ho=>?_,λo ho=>?_⟩
  ·rw[Below.heap_alloc _ _ k (by simp;omega),Below.heap_alloc _ _ k hlt]
  ·rw[Below.heap_alloc _ _ _ (by simp),World.alloc_heap_new]at ho;cases ho;rfl
  ·have:=World.alloc_heap_new (w.alloc (.deferred (za []))) (.loop (rc .ready zb));rw[World.size_alloc]at this;rw[this]at ho;cases ho;rfl
 have UD:W1.heap[w.heap.size+1]?=za (.loop (rc .ready zb)):=by
  rw[<-cC];have:=World.alloc_heap_new (w.alloc (.deferred (za []))) (.loop (rc .ready zb));rwa[World.size_alloc]at this
 have Rz:W1.heap[w.heap.size]?=za (.deferred (za [])):=by rw[<-cC,Below.heap_alloc _ _ _ (by simp),World.alloc_heap_new]
 refine⟨w.heap.size+1,[{target:=.collected w.heap.size,args:=#[]}],W1,{target:=.fn (.func gf) lb,args:=fb++#[.func (.yield (w.heap.size+1)) #[] #[]]},W1,gf,
  fb++#[.func (.yield (w.heap.size+1)) #[] #[]]++lb,W1,?_,?_,λ_ _=>trivial,?_,λ_=>h1,?_⟩
 ·rw[<-cC];exact run_enterLoop_outer _ _ _ _ _
 ·simp only[resolve,hg];simp[go_sem]
 ·simp[invoke,go_sem,eg]
 refine(GX (w.heap.size+1)
  (λpre W=>I pre W/\W.heap[w.heap.size+1]?=za (.loop (rc .ready zb))/\W.heap[w.heap.size]?=za (.deferred (za [])))
  (λpre W=>∃c,Ix c pre W/\W.heap[w.heap.size+1]?=za (.loop (rc .done (za c)))/\W.heap[w.heap.size]?=za (.deferred (za [])))
  W1 ?_ ?_ ⟨hI _ _ _ h0 t1,UD,Rz⟩).mono ?_
 ·intro k hk;have:=hT k hk;rw[<-cC,Below.heap_alloc _ _ k (by simp;omega),Below.heap_alloc _ _ k this]
 ·rintro pre x Wb ⟨hi,uD,im⟩ hlen;have zvZ:=(ap.1 uD).1;obtain⟨W,hW⟩:∃W,V x Wb=W:=⟨_,rfl⟩;have pH:zk Wb.heap.size Wb W:=hW ▸ hV x Wb;have hl:W.heap[w.heap.size+1]?=za (.loop (rc .ready zb)):=(pH.block _ zvZ).trans uD;have hk:W.heap[w.heap.size]?=za (.deferred (za [])):=(pH.block _ (by omega)).trans im;have hlt:=(ap.1 hl).1;refine⟨fn,_,assign,body,run_yield (P:=P) (args:=ur x) uD (vS x),roundIn_of_wpIn vJ (Sh _ x Wb _ ⟨_,by rw[hW];exact run_beginRound hl rfl,?_⟩)⟩;have busy:(W.putObj (w.heap.size+1) (.loop (rc .busy zb))).heap[w.heap.size+1]?=za (.loop (rc .busy zb)):=World.putObj_heap_same hlt;have held:(W.putObj (w.heap.size+1) (.loop (rc .busy zb))).heap[w.heap.size]?=za (.deferred (za [])):=(World.putObj_heap_other (by omega)).trans hk;refine wpIn_mono (Sr _ pre x Wb _ zvZ hi (by rw[hW];exact tT.put hl hk _) hlen) ?_;have fin:∀(jump:Option Code) (W3:zc),Fv w.heap.size (W.putObj (w.heap.size+1) (.loop (rc .busy zb))) W3->
    (Instr.endRound (w.heap.size+1) jump).run P W3=.ok (.bool jump.isNone) (W3.putObj (w.heap.size+1) (.loop (rc (if jump.isNone then .ready else .done) jump)))/\
    W3.heap[w.heap.size+1]?=za (.loop (rc .busy zb))/\
    (W3.putObj (w.heap.size+1) (.loop (rc (if jump.isNone then .ready else .done) jump))).heap[w.heap.size+1]?=za (.loop (rc (if jump.isNone then .ready else .done) jump))/\
    (W3.putObj (w.heap.size+1) (.loop (rc (if jump.isNone then .ready else .done) jump))).heap[w.heap.size]?=za (.deferred (za [])):=λjump W3 k3=>by
   have l3:=k3.2.trans busy;exact⟨run_endRound (P:=P) jump l3,l3,World.putObj_heap_same (ap.1 l3).1,(World.putObj_heap_other (by omega)).trans (k3.1.trans held)⟩
  have bk:∀(A:zc) (o:Obj) (k:Nat),k∈T->(A.putObj (w.heap.size+1) o).heap[k]?=A.heap[k]?:=λA o k hk=>World.putObj_heap_other (by have:=hT k hk;omega)
  have bT:∀k,k∈T->W.heap[k]?=Wb.heap[k]?:=λk hk=>pH.block k (by have:=hT k hk;omega)
  rintro e a3 W3 hp;cases e with
  |normal=>
   obtain⟨k3,b3,i3⟩:=hp;obtain⟨r,l3,l4,d4⟩:=fin zb W3 k3;exact⟨_,_,r,.inl ⟨rfl,⟨hI _ _ _ i3 (tT.put l3 (k3.1.trans held) _),l4,d4⟩,λk hk=>by rw[bk _ _ k hk,b3 k hk,bk _ _ k hk,bT k hk]⟩⟩
  |ret=>
   obtain⟨k3,i3⟩:=hp;obtain⟨r,l3,l4,d4⟩:=fin (za .ret) W3 k3;exact⟨_,_,r,.inr ⟨rfl,.ret,Ap _ _ _ _ i3 (tT.put l3 (k3.1.trans held) _),l4,d4⟩⟩
  |exit id=>
   obtain⟨k3,i3⟩:=hp;obtain⟨r,l3,l4,d4⟩:=fin (za (.exit id)) W3 k3;exact⟨_,_,r,.inr ⟨rfl,.exit id,Ap _ _ _ _ i3 (tT.put l3 (k3.1.trans held) _),l4,d4⟩⟩
  |goto t=>
   obtain⟨k3,i3⟩:=hp;obtain⟨r,l3,l4,d4⟩:=fin (za (.goto t)) W3 k3;exact⟨_,_,r,.inr ⟨rfl,.goto t,Ap _ _ _ _ i3 (tT.put l3 (k3.1.trans held) _),l4,d4⟩⟩
  |panic ch=>exact hp.elim
  |outgrown=>exact hp.elim
 ·rintro e W2 ⟨⟨v,rfl⟩,(⟨xs,hS,hi,hl,hk⟩|⟨pre,R5,c,hi,hl,hk⟩)⟩
  ·exact⟨zb,_,run_endLoop (P:=P) hl (by simp[rc]),hdone _ xs _ rfl hS (hI _ _ _ hi (tT.put hl hk _)) ((World.putObj_heap_other (by omega)).trans hk)⟩
  ·exact⟨za c,_,run_endLoop (P:=P) hl (by simp[rc]),KI _ c pre _ rfl R5 (Ap _ _ _ _ hi (tT.put hl hk _)) ((World.putObj_heap_other (by omega)).trans hk)⟩
attribute [local go_sem] Oper.semAt_some
def Nq{n:Nat}(pa:Nat->Nat)(po:Nat->Bool)(k:oF n):Array zg:=#[zj .i64 (k.1:Int),.agg #[ze (za ⟨pa k.1,0,zb⟩),.bool (po k.1)]]
theorem zqC(m l n g cap bx:Nat)(pa:Nat->Nat)(po:Nat->Bool)(hm:1<=m)(hn:n<=100000)(J Jx:List (oF n)->zc->Prop)(W:zc)
  (hY:∀pre x W1,J pre W1->x.1+pre.length+1=n->YieldAt Fence.wide (m-1) prog l (Nq pa po x) W1 λe W'=>
   (e=.returned (.bool true)/\J (pre++[x]) W'/\∀k∈[bx,g],W'.heap[k]?=W1.heap[k]?)\/(e=.returned (.bool false)/\Jx (pre++[x]) W'))
  (hb:W.heap[bx]?=za (aa #[zd (za ⟨g,0,zb⟩) n cap] 300 (0,0))) (hT:∀i,i<n->W.cell? ⟨g,i*2,zb⟩=za (ze (za ⟨pa i,0,zb⟩))/\W.cell? ⟨g,i*2+1,zb⟩=za (.bool (po i))) (h0:J [] W):
  CallsIn Fence.wide m prog 232 #[.func (.yield l) #[] #[],ze (za ⟨bx,0,zb⟩)] W λe W'=>(∃v,e=.returned v)/\
   ((∃ys,ys.length=n/\J ys W')\/(∃pre,(0<pre.length/\pre.length<=n)/\Jx pre W')):=by
 refine callsIn_of_wp func232 rfl trivial ?_ rfl;simp only[ntmps232,yh,qg,oA,Nat.reduceAdd,Nat.reduceSub,Bl,Bm,Br,Bs,wJ,Bt];have c0:W.cell? ⟨bx,0,zb⟩=za (zd (za ⟨g,0,zb⟩) n cap):=(aO _ _ _ _ _ _ hb:W.cell? ⟨bx,0,zb⟩=_);have HT:=aC hT;clear hT
 gi_wp2
 clear c0
 gi_loopw [3] (λi wr=>∃(j:Nat) (pre:List (oF n)),zf (pre.length=j)/\j<=n/\i=zj .i64 ((n:Int)-1-j)/\J pre wr/\wr.heap[bx]?=za (aa #[zd (za ⟨g,0,zb⟩) n cap] 300 (0,0))/\zf (∀i,i<n->wr.cell? ⟨g,i*2,zb⟩=za (ze (za ⟨pa i,0,zb⟩))/\wr.cell? ⟨g,i*2+1,zb⟩=za (.bool (po i))))
  (λi _=>(intOf i+1).toNat)
 case atStart=>exact⟨0,[],rfl,aZ _,by simp,h0,hb,HT⟩
 case round=>
  clear hb HT h0;obtain⟨j,pre,Hp,hj,rfl,hJ,hb,HT⟩:=hrel
  by_cases hlt:j<n
  case neg=>
   obtain rfl:j=n:=by omega
   have hd:¬(0:Int)<=(j:Int)-1-(j:Int):=by omega
   have lz:decide ((0:Int)<=(j:Int)-1-(j:Int))=false:=by simp;omega
   gi_wp2
   go_end0
   exact⟨⟨_,rfl⟩,.inl ⟨pre,Hp.out,hJ⟩⟩
  have c0:wr.cell? ⟨bx,0,zb⟩=za (zd (za ⟨g,0,zb⟩) n cap):=(aO _ _ _ _ _ _ hb:wr.cell? ⟨bx,0,zb⟩=_);obtain⟨k,hk⟩:∃k:Nat,(n:Int)-1-j=k:=⟨n-1-j,by omega⟩;have ke:k<n:=by omega
  obtain⟨c1,c2⟩:=HT.out k ke;have dO:(0:Int)<=(k:Int):=by omega
  have dh:(k:Int)<(n:Int):=by omega
  obtain⟨fn,tmps,assign,body,hy,hR⟩:=hY pre ⟨k,ke⟩ wr hJ (by have:=Hp.out;show k+pre.length+1=n;omega);have Hk:zf ((n:Int)-1-j=k):=hk;rw[hk];unfold Nq at hy;clear hY hk
  gi_wp2
  refine hR.mono ?_;rintro e W3 (⟨rfl,JN,nW⟩|⟨rfl,JO⟩)
  ·have wR:zf (∀i,i<n->W3.cell? ⟨g,i*2,zb⟩=za (ze (za ⟨pa i,0,zb⟩))/\W3.cell? ⟨g,i*2+1,zb⟩=za (.bool (po i))):=λi hi=>⟨(World.cell?_of_block (nW g (by simp))).trans (HT.out i hi).1,(World.cell?_of_block (nW g (by simp))).trans (HT.out i hi).2⟩
   have ay:=(nW bx (by simp)).trans hb
   gi_wp2
   go_roundw
   case rel=>exact⟨j+1,pre++[⟨k,ke⟩],by show _=_;rw[pz,Hp.out];rfl,by omega,by congr 1;have:=Hk.out;omega,JN,ay,wR⟩
   case measure=>first|(simp[intOf];done)|(simp[intOf];omega)
  ·gi_wp2
   refine bD (results_none rfl _ _ _) rfl ?_;exact⟨⟨_,rfl⟩,.inr ⟨_,⟨by simp,by rw[pz,Hp.out];simp;omega⟩,JO⟩⟩
theorem zmY(m n g cap bx:Nat)(pa:Nat->Nat)(po:Nat->Bool)(hm:1<=m)(hn:n<=100000)(w:zc)(hb:w.heap[bx]?=za (aa #[zd (za ⟨g,0,zb⟩) n cap] 300 (0,0)))(hT:∀i,i<n->w.cell? ⟨g,i*2,zb⟩=za (ze (za ⟨pa i,0,zb⟩))/\w.cell? ⟨g,i*2+1,zb⟩=za (.bool (po i))):
  YT m prog 232 #[] #[ze (za ⟨bx,0,zb⟩)] (Nq (n:=n) pa po) [bx,g] (λys:List (oF n)=>ys.length=n) (λpre:List (oF n)=>0<pre.length/\pre.length<=n) (λpre x=>x.1+pre.length+1=n) w:=
 λl J Jx W hW hY h0=>zqC m l n g cap bx pa po hm hn J Jx W hY ((hW bx (by simp)).trans hb) (λi hi=>⟨(World.cell?_of_block (hW g (by simp))).trans (hT i hi).1,(World.cell?_of_block (hW g (by simp))).trans (hT i hi).2⟩) h0
theorem zoh(g n cap:Nat)(w:zc):
  zl prog 230 #[zd (za ⟨g,0,zb⟩) n cap] w λe w'=>e=.returned (.func (.func 232) #[] #[ze (za ⟨w.heap.size,0,zb⟩)])/\w'=w.alloc (aa #[zd (za ⟨g,0,zb⟩) n cap] 300):=by
 go_enter func230,ntmps230
 go_wp2;go_ret;exact⟨rfl,rfl⟩
end Go.Proofs.YtdimhpfiieepiaaGreatDoor
