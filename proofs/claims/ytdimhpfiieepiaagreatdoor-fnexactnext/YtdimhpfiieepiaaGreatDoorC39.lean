import Derived.Test.YtdimhpfiieepiaaGreatDoorC38
import Derived.WalkSpells
namespace Go.Proofs.YtdimhpfiieepiaaGreatDoor
set_option maxHeartbeats 4000000
set_option maxRecDepth 100000
open Go.RowKit
section
variable{bs:List zah}{w W:World}{vs:List Value}{rs:List zaG}
attribute [local go_sem ↓] Go.wp_at_zero Go.wp_at_succ
theorem zlB{st:List Int}(hl:za8 bs=some st)(hle:zbo st<=2000):zbo st=zcG bs:=by
 cases ha:allB bs
 ·rw[zfK bs ha] at hl;cases hl
 ·rw[zfL bs ha] at hl;cases hl;unfold zbo at hle ⊢;rw[ziY _ 0 (by omega) (by omega) (by
   intro x hx;obtain⟨b,hb,rfl⟩:=zvs.1 hx;have:=zuP.1 ha b hb;rw[zuK] at this;have:=zgv this.1 (ze6 this.1) this.2;omega),<-zhn,Int.zero_add] at hle ⊢
  unfold capW at hle ⊢;split
  ·rfl
  ·rw[zv2 (by assumption)] at hle;omega
def zex(w:World)(v:Value)(bs:List zah):Prop:=∃(g sc:Nat) (st:List Int) (xs:List Value),v=.slice (some ⟨g,0,none⟩) bs.length sc/\g<w.heap.size/\st.length=bs.length/\zbo st=zcG bs/\zbo st<=2000/\(∀j,j<bs.length->w.cell? ⟨g,j,none⟩=xs[j]?)/\zbY w xs st (zcY bs)
theorem zex.keep{v:Value}(h:zex w v bs)(hs:w.heap.size<=W.heap.size)(hk:∀(k:Nat) (cs:Array Value) (t:TypeId),w.heap[k]?=some (.cells cs t (0,0))->t=184\/t=293->W.heap[k]?=some (.cells cs t (0,0)))(hp:∀g sc,v=.slice (some ⟨g,0,none⟩) bs.length sc->∃cs,w.heap[g]?=some (.cells cs 184 (0,0))):zex W v bs:=by
 obtain⟨g,sc,st,xs,e,h1,h2,h3,h4,h5,h6⟩:=h;obtain⟨cs,hc⟩:=hp g sc e;have hW:=hk _ _ _ hc (.inl rfl);refine⟨g,sc,st,xs,e,by omega,h2,h3,h4,fun j hj=>?_,h6.keep fun mg f hm=>hk _ _ _ hm (.inr rfl)⟩;rw[zvW _ _ _ _ _ _ hW,<-zvW _ _ _ _ _ _ hc];exact h5 j hj
structure zdf(w:World)(vs:List Value)(rs:List zaG):Prop where
 len:vs.length=rs.length
 at_:∀i,i<rs.length->∃(g sc:Nat) (cs:Array Value),vs[i]?=some (.slice (some ⟨g,0,none⟩) (rs.getD i .zero).branches.length sc)/\w.heap[g]?=some (.cells cs 184 (0,0))/\zex w (.slice (some ⟨g,0,none⟩) (rs.getD i .zero).branches.length sc) (rs.getD i .zero).branches
theorem zdf.keep(h:zdf w vs rs)(hs:w.heap.size<=W.heap.size)(hk:∀(k:Nat) (cs:Array Value) (t:TypeId),w.heap[k]?=some (.cells cs t (0,0))->t=184\/t=293->W.heap[k]?=some (.cells cs t (0,0))):zdf W vs rs:=
 ⟨h.len,fun i hi=>by
  obtain⟨g,sc,cs,h1,h2,h3⟩:=h.at_ i hi;exact⟨g,sc,cs,h1,hk _ _ _ h2 (.inl rfl),h3.keep hs hk (fun g' sc' e=>by cases e;exact⟨cs,h2⟩)⟩⟩
theorem zdf.below(h:zdf w vs rs)(hb:Below w.heap.size w W):zdf W vs rs:=
 h.keep hb.size fun k _ _ e _=>(hb.block k (zuH.1 e).1).trans e
theorem zdf.snoc{k g sc:Nat}{cs:Array Value}(h:zdf w vs (rs.take k))(hk:k<rs.length)(hc:w.heap[g]?=some (.cells cs 184 (0,0)))(hp:zex w (.slice (some ⟨g,0,none⟩) (rs.getD k .zero).branches.length sc) (rs.getD k .zero).branches):zdf w (vs++[.slice (some ⟨g,0,none⟩) (rs.getD k .zero).branches.length sc]) (rs.take (k+1)):=by
 have hl:=h.len;rw[List.length_take,zvO (by omega)] at hl;refine⟨by simp[hl];omega,fun i hi=>?_⟩;rw[List.length_take,zvO (by omega)] at hi;have e:∀m,i<m->(rs.take m).getD i .zero=rs.getD i .zero:=fun m hm=>by simp[List.getD,hm]
 rw[e (k+1) hi]
 by_cases hik:i=k
 ·subst hik;exact⟨g,sc,cs,by rw[zu6 (by omega),hl];simp,hc,hp⟩
 ·obtain⟨g',sc',cs',h1,h2,h3⟩:=h.at_ i (by rw[List.length_take,zvO (by omega)];omega);rw[e k (by omega)] at h1 h3;exact⟨g',sc',cs',by rw[zu5 (by omega)];exact h1,h2,h3⟩
def zuA(w:World)(rs:List zaG)(e:Ending)(W:World):Prop:=
 Below w.heap.size w W/\((zc2 rs=false/\∃a b,e=.returned (.tuple #[a,b,.bool false]))\/(zc2 rs=true/\∃(g cap:Nat) (vs:List Value),e=.returned (.tuple #[.slice (some ⟨g,0,none⟩) rs.length cap,.int .i64 (wSum rs),.bool true])/\W.ownsRow w.heap.size 155 1 (.slice (some ⟨g,0,none⟩) rs.length cap) rs.length vs/\zdf W vs rs))
theorem Tryz.infoParts:(Tryz.prog.info? 155).map (fun i=>(i.zero,i.size,i.bytes))=some (some (.slice none 0 0),1,24):=by kernel_rfl
theorem zlA{lo:Nat}(v:Value)(rs:List zaG)(w:World)(hs:zaY lo w v rs)(hsm:zcL rs):
  Calls Tryz.prog 70 #[v] w fun e W=>zuA w rs e W:=by
 obtain⟨ao,cap,rfl,hm,hc⟩:=hs;have hl:=hsm.1;obtain⟨i0,hi,hz0,hz1,hz2⟩:=info_parts Tryz.infoParts
 by_cases hbig:rs.length<=100
 ·have hb1:¬(100:Int)<(rs.length:Int):=by omega
  have HC:=hidF hc;have HSM:=hidF hsm;clear hc hsm hl
  go_enter Tryz.func70,Tryz.ntmps70
  go_wp2_with fail
  go_loopw [5,6,17] (fun s sv i wr=>∃(k g cap:Nat) (vs:List Value),k<=rs.length/\i=.int .i64 k/\s=.slice (some ⟨g,0,none⟩) k cap/\sv=.int .i64 (wSum (rs.take k))/\Below w.heap.size w wr/\wr.ownsRow w.heap.size 155 1 (.slice (some ⟨g,0,none⟩) k cap) k vs/\zdf wr vs (rs.take k)/\Hid ((rs.take k).all okR=true)/\0<=wSum (rs.take k)/\wSum (rs.take k)<=2000*k) (fun _ _ i _=>rs.length-(intOf i).toNat)
  case atStart=>exact⟨0,w.heap.size,0,[],zvT _,rfl,rfl,by simp[wSum],(Below.refl _ _).alloc (zvJ _) _,zcw w _ _ _ (zvJ _) rfl,⟨rfl,fun i hi=>absurd hi (zvQ _)⟩,rfl,by simp[wSum],by simp[wSum]⟩
  case round=>
   obtain⟨k,g,cap2,vs,hk,rfl,rfl,rfl,hb,hown,hP,hall,hw0,hw1⟩:=hrel
   by_cases hlt:k<rs.length
   ·obtain⟨b,o,bv,rd,rfl,Hrd,hbl,c0,c1,hbs⟩:=HC.out.elem hb hlt;have hwt:=zkV rs k hlt;rw[Hrd.out] at hwt;have hsmk:=HSM.out.2 k hlt;rw[Hrd.out] at hsmk;obtain⟨bo,bc,rfl,hbm,hbc⟩:=hbs;have hi0:(0:Int)<=(k:Int):=by omega
    have hi1:(k:Int)<(rs.length:Int):=by omega
    have hB0:zao lo w (.slice bo rd.branches.length bc) rd.branches:=⟨bo,bc,rfl,hbm,hbc⟩;obtain⟨W2,hW2⟩:∃W2,wr.alloc (.cells #[.slice bo rd.branches.length bc,.int .i64 rd.groups] 69)=W2:=⟨_,rfl⟩;have b2:Below wr.heap.size wr W2:=by rw[<-hW2];exact(Below.refl _ _).alloc (zvJ _) _
    have x2:W2.heap[wr.heap.size]?=some (.cells #[.slice bo rd.branches.length bc,.int .i64 rd.groups] 69 (0,0)):=by rw[<-hW2];exact zvZ _ _
    have bl2:=zaa hb hb.size b2;have cr:=zkc rd.groups (.slice bo rd.branches.length bc) rd.branches W2 (hB0.below bl2) hsmk;obtain⟨q0,q1⟩:=zaO x2;have hall2:(rs.take (k+1)).all okR=okR rd:=by
     rw[List.take_add_one,List.all_append,hall.out,zva hlt,<-Hrd.out];simp[List.getD,hlt]
    have hno:okR rd=false->zc2 rs=false:=fun h=>by
     have:rs.all okR=false:=by
      rw[Bool.eq_false_iff];intro h2;have h3:=zuP.1 h2 rd (by rw[<-Hrd.out];simp[List.getD,hlt]);rw[h] at h3;cases h3
     unfold zc2;rw[this];simp
    have hok2:okR rd=zdY rd.groups rd.branches:=(zqz _ _).symm;have HOK:=hidF hok2;have HNO:=hidF hno;have HAL:=hidF hall2;have HW2:=hidF hW2;have HWT:=hidF hwt;have HBL:=hidF bl2;have HB2:=hidF b2;have HOW:=hidF hown;have HP:=hidF hP;have HRB:=hidF (zp1 (r:=rd));clear hbc hB0 hW2 x2 hwt bl2 b2 hb hall hall2 hno hok2 hsmk hbm hown hP
    go_upto_region 8 with fail
    rw[HW2.out];clear HW2 c0 c1
    go_wp2_with fail
    refine cr.mono ?_;rintro e W3 ⟨b3,⟨hi,pv,rfl⟩|⟨hi,st,xs,B0,g3,sc3,hst,hstl,hsum,rfl,hown3,htr⟩⟩
    ·have Hi:=hidF hi;clear hi cr;go_wp2;exact zvV (v:=.tuple #[.slice none 0 0,.int .i64 0,.bool false]) (by simp[results,Tryz.results70,go_sem]) rfl ⟨zaa HBL.out HBL.out.size b3,.inl ⟨HNO.out (by rw[HOK.out];exact Hi.out),_,_,rfl⟩⟩
    ·have Hi:=hidF hi;have Hst:=hidF hst;have Hstl:=hidF hstl;have bl3:=zaa HBL.out HBL.out.size b3;have hwr3:Below wr.heap.size wr W3:=HB2.out.trans (b3.mono HB2.out.size);have own3:=zac HOW.out hwr3;have HP3:=hidF (HP.out.below hwr3);have HWE:=hidF (zlB hst hsum);have Hsum:=hidF hsum;have HTR:=hidF htr;have HO3:=hidF hown3;obtain⟨N,hparts⟩:=htr.parts;have HPN:=hidF hparts;have hsl:st.length<=2000000:=by have:=(HSM.out.2 k hlt).1;rw[Hrd.out] at this;omega
     clear hi hst hstl hsum hown3 htr hparts cr q0 q1
     go_wp2_with (at_builtin;refine zau W3 rfl (.tmp 28) (.tmp 30) 123 rfl w.heap.size 155 i0 _ 24 Tryz.underlying123 hi hz0 hz1 hz2 rfl g cap2 k vs _ rfl own3 rfl rfl (by omega) (by omega) bl3.size ?_;intro g' cap' w5 hown5 hgrow5 hat)
     obtain⟨cur3,hcur3⟩:=zjj own3;have hkeep:∀(b:Nat) (cs:Array Value) (t:TypeId),W3.heap[b]?=some (.cells cs t (0,0))->t≠155->w5.heap[b]?=some (.cells cs t (0,0)):=fun b cs t e ht=>(hgrow5.block b (zuH.1 e).1 (fun e2=>by cases e2;rw[hcur3] at e;injection e with e;injection e with e1 e2;exact ht e2.symm)).trans e
     have hO5:=zaw HO3.out (W:=w5) fun b cs e=>hkeep b cs _ e (by decide)
     have hwa:=zdq st xs w5 hO5 HPN.out hsl;obtain⟨sc,Hsc⟩:∃sc:Int,Hid (zbo st=sc):=⟨_,rfl⟩;rw[Hsc.out] at hwa;have hs0:0<=sc:=by have:=(zeg HPN.out st.length (zvJ _)).1;rw[zvB] at this;rw[<-Hsc.out];exact this
     have hs1:sc<=2000:=by rw[<-Hsc.out];exact Hsum.out
     have HO5:=hidF hO5;have HG5:=hidF hgrow5;have HW5:=hidF hown5;have HKE:=hidF hkeep;have hk100:(k:Int)<=100:=by omega
     have hgB:=(zbu own3).1;obtain⟨ws,Hws⟩:∃ws:Int,Hid (wSum (rs.take k)=ws):=⟨_,rfl⟩;rw[Hws.out] at hw0 hw1 ⊢;clear hO5 hgrow5 hown5 hkeep own3 hat
     go_wp2_with fail
     refine hwa.mono ?_;rintro e w6 ⟨rfl,b6⟩;clear hwa;go_wp2
     go_roundw
     case rel=>
      have b35:Below w.heap.size w w5:=bl3.grown HG5.out bl3.size (fun q e=>by cases e;exact hgB);have hwsum:wSum (rs.take (k+1))=ws+sc:=by rw[HWT.out,Hws.out,<-HWE.out,Hsc.out]
      obtain⟨cur,hcur⟩:=zjj HO5.out;have hlen:(rs.getD k .zero).branches.length=st.length:=by rw[Hrd.out];exact Hstl.out.symm
      have hT5:=HTR.out.keep (w':=w5) (fun mg f hm=>HKE.out _ _ _ hm (by decide));have hpa:zex w5 (.slice (some ⟨g3,0,none⟩) (rs.getD k .zero).branches.length sc3) (rs.getD k .zero).branches:=by
       rw[Hrd.out];refine⟨g3,sc3,st,xs,rfl,zix hcur,Hstl.out,HWE.out,Hsum.out,fun j hj=>?_,hT5⟩;have hj2:j<st.length:=by rw[Hstl.out];exact hj
       exact HO5.out.cellAt j (by omega)
      have hPL:zdf w5 (vs++[.slice (some ⟨g3,0,none⟩) (rs.getD k .zero).branches.length sc3]) (rs.take (k+1)):=(HP3.out.keep HG5.out.size fun b cs t e ht=>HKE.out b cs t e (by rcases ht with rfl|rfl<;>decide)).snoc hlt hcur hpa;rw[hlen] at hPL;refine⟨k+1,g',cap',vs++[.slice (some ⟨g3,0,none⟩) st.length sc3],by omega,by go_num,rfl,by rw[hwsum],zaa b35 b35.size b6,zac HW5.out b6,hPL.below b6,?_,by omega,by omega⟩;show _=true;rw[HAL.out,HOK.out];exact Hi.out
     case measure=>simp[intOf];omega
   ·have hkk:k=rs.length:=by omega
    have hPk:zdf wr vs rs:=by rw[hkk,zvB] at hP;exact hP
    have hak:rs.all okR=true:=by have:=hall.out;rw[hkk,zvB] at this;exact this
    have hwk:wSum (rs.take k)=wSum rs:=by rw[hkk,zvB]
    rw[hwk] at hw0 hw1 ⊢;have HLB:Hid (zc2 rs=decide (wSum rs<=4000)):=by
     show _=_;unfold zc2;rw[hak,decide_eq_true hbig];simp
    have hok:wr.ownsRow w.heap.size 155 1 (.slice (some ⟨g,0,none⟩) rs.length cap2) rs.length vs:=by rw[<-hkk];exact hown
    have HP:=hidF hPk;have HO:=hidF hok;have HKK:=hidF hkk;clear hPk hok hP hown hall hak hwk hkk
    by_cases h4:wSum rs<=4000
    ·go_wp2;refine zvV (v:=.tuple #[.slice (some ⟨g,0,none⟩) k cap2,.int .i64 (wSum rs),.bool true]) (by simp[results,Tryz.results70,go_sem]) rfl ⟨hb,.inr ⟨by rw[HLB.out];exact decide_eq_true h4,g,cap2,vs,by rw[HKK.out],HO.out,HP.out⟩⟩
    ·go_wp2;refine zvV (v:=.tuple #[.slice (some ⟨g,0,none⟩) k cap2,.int .i64 (wSum rs),.bool false]) (by simp[results,Tryz.results70,go_sem]) rfl ⟨hb,.inl ⟨by rw[HLB.out];exact decide_eq_false (by omega),_,_,rfl⟩⟩
 ·have hb1:(100:Int)<(rs.length:Int):=by omega
  have HL:=hidF (show zc2 rs=false by unfold zc2;simp;omega);clear hc hsm hl
  go_enter Tryz.func70,Tryz.ntmps70
  go_wp2;exact zvV (v:=.tuple #[.slice none 0 0,.int .i64 0,.bool false]) (by simp[results,Tryz.results70,go_sem]) rfl ⟨Below.refl _ _,.inl ⟨HL.out,_,_,rfl⟩⟩
end
section
attribute [local go_sem ↓] Go.wp_at_zero Go.wp_at_succ
def mkQ(t:TypeId)(x y:Value):Sem Value:=Instr.makeSlice t x y
theorem zja(x y:Value):Instr.makeSlice 126 x y=mkQ 126 x y:=rfl
attribute [local go_sem ↓] zja
theorem Tryz.infoPlanP:(Tryz.prog.info? 161).map (fun i=>(i.zero,i.size,i.bytes))=some (some (.pointer none),1,8):=by kernel_rfl
structure FinS(w:World)(rv cv bv fv tv ev nv kv:Value)(wd:Int)(rs:List zaG)(bf g cap gq:Nat)(vs:List Value)(W:World):Prop where
 bel:Below w.heap.size w W
 bflo:w.heap.size<=bf
 gqlo:w.heap.size<=gq
 box:W.heap[bf]?=some (.cells (finC rv cv wd bv fv tv ev nv kv (.slice (some ⟨g,0,none⟩) rs.length cap) (.slice (some ⟨gq,0,none⟩) rs.length rs.length)) 128 (0,0))
 own:W.ownsRow w.heap.size 155 1 (.slice (some ⟨g,0,none⟩) rs.length cap) rs.length vs
 prt:zdf W vs rs
 qs:W.heap[gq]?=some (.cells (Array.replicate rs.length (.pointer none)) 161 (0,0))
def NfA(w:World)(rv cv bv fv tv ev nv kv:Value)(wd:Int)(rs:List zaG)(m:Bool)(e:Ending)(W:World):Prop:=
 (m=false/\e=.returned (.tuple #[.pointer none,.bool false])/\Below w.heap.size w W)\/(m=true/\∃bf g cap gq vs,e=.returned (.tuple #[.pointer (some ⟨bf,0,none⟩),.bool true])/\FinS w rv cv bv fv tv ev nv kv wd rs bf g cap gq vs W)
theorem zrQ(n:Nat):(madeCells (Value.pointer none).cells (n*1)).toList.toArray=Array.replicate n (.pointer none):=by
 apply Array.ext_getElem?
 intro i
 by_cases h:i<n
 ·simp[madeCells,Value.cells,Nat.mod_one,h]
 ·simp[madeCells,h]
theorem zkn{lo:Nat}(ao:Option Addr)(rc:Nat)(cv bv fv tv ev nv kv:Value)(rs:List zaG)(d:TabD)(w:World)(hr:zaY lo w (.slice ao rs.length rc) rs)(hsm:zcL rs)(hs:zbe lo w cv bv fv tv ev nv kv d)(hts:zcu d):
  Calls Tryz.prog 36 #[.agg #[.slice ao rs.length rc,cv,.int .i64 d.width,bv,fv,tv,ev,nv,kv]] w fun e W=>NfA w (.slice ao rs.length rc) cv bv fv tv ev nv kv d.width rs (matB rs d) e W:=by
 obtain⟨i0,hi,hz0,hz1,hz2⟩:=info_parts Tryz.infoPlanP;obtain⟨W0,hW0⟩:∃W0,w.alloc (.cells #[.slice ao rs.length rc,cv,.int .i64 d.width,bv,fv,tv,ev,nv,kv] 41)=W0:=⟨_,rfl⟩;have hb0:Below w.heap.size w W0:=by rw[<-hW0];exact(Below.refl _ _).alloc (zvJ _) _
 have r0:W0.heap[w.heap.size]?=some (.cells #[.slice ao rs.length rc,cv,.int .i64 d.width,bv,fv,tv,ev,nv,kv] 41 (0,0)):=by rw[<-hW0];exact zvZ _ _
 have hl:=hsm.1;have c1:=zlA (.slice ao rs.length rc) rs W0 (hr.below hb0) hsm;have c2:=fun W (hb:Below w.heap.size w W)=>zhQ cv bv fv tv ev nv kv d W (hs.below hb) hts
 have c3:=fun W (hb:Below w.heap.size w W)=>zcJ (-1) ((rs.length:Int)-1) tv d.tag W (hs.below hb).tag
 have c4:=fun W (hb:Below w.heap.size w W)=>zcJ (-1) ((rs.length:Int)-1) ev d.fin W (hs.below hb).fin
 have Hm:Hid (matB rs d=(zc2 rs&&tabB d&&zaL (-1) (rs.length-1) d.tag&&zaL (-1) (rs.length-1) d.fin)):=rfl;obtain⟨q0,q1,q2,q3,q4,q5,q6,q7,q8⟩:=zbb r0;have Hl:=hidR hl;clear hr hs hl hsm;generalize tabB d=b2 at *;generalize zaL (-1) (rs.length-1) d.tag=b3 at *;generalize zaL (-1) (rs.length-1) d.fin=b4 at *
 go_enter Tryz.func36,Tryz.ntmps36
 go_wp2_with fail
 refine c1.mono ?_;rintro e w1 ⟨hb1,⟨hf,x1,x2,rfl⟩|⟨hf,g,cap,vs,rfl,own1,prt1⟩⟩
 ·have bl1:=zaa hb0 hb0.size hb1;have HF:Hid (NfA w (.slice ao rs.length rc) cv bv fv tv ev nv kv d.width rs (matB rs d) (.returned (.tuple #[.pointer none,.bool false])) w1):=.inl ⟨by rw[Hm.out,hf];rfl,rfl,bl1⟩;clear hf hb1 q0 q1 q2 q3 q4 q5 q6 q7 q8 hW0 c1 c2 c3 c4 hb0;go_wp2;exact zvV (v:=.tuple #[.pointer none,.bool false]) (by simp[results,Tryz.results36,go_sem]) rfl HF.out
 have bl1:=zaa hb0 hb0.size hb1;have r1:=zag r0 hb1;rw[hf] at Hm;have HO1:=hidR own1;have HP1:=hidR prt1;have c2:=c2 w1 bl1;clear q0 q1 q2 q3 q4 q5 q6 q7 q8 hW0 c1 own1 prt1 hf hb1;obtain⟨q0,q1,q2,q3,q4,q5,q6,q7,q8⟩:=zbb r1
 go_wp2_with fail
 refine c2.mono ?_;rintro e w2 ⟨rfl,hb2⟩;have bl2:=zaa bl1 bl1.size hb2;have r2:=zag r1 hb2;have HO2:=hidR (zac HO1.out hb2);have HP2:=hidR (HP1.out.below hb2);clear q0 q1 q2 q3 q4 q5 q6 q7 q8 c2 HO1 HP1;cases b2
 ·have HF:Hid (NfA w (.slice ao rs.length rc) cv bv fv tv ev nv kv d.width rs (matB rs d) (.returned (.tuple #[.pointer none,.bool false])) w2):=.inl ⟨by rw[Hm.out];rfl,rfl,bl2⟩;go_wp2;exact zvV (v:=.tuple #[.pointer none,.bool false]) (by simp[results,Tryz.results36,go_sem]) rfl HF.out
 obtain⟨q0,q1,q2,q3,q4,q5,q6,q7,q8⟩:=zbb r2;have c3:=c3 w2 bl2;have c4:=c4 w2 bl2;have hl1:(rs.length:Int)<=1048576:=by have:=Hl.out;omega
 have hwr:IntKind.i64.wrap ((rs.length:Int)-1)=(rs.length:Int)-1:=by rw[IntKind.wrap_i64];omega
 go_wp2_with fail
 refine c3.mono ?_;rintro e w3 ⟨rfl,hw3⟩;subst w3;cases b3
 ·have HF:Hid (NfA w (.slice ao rs.length rc) cv bv fv tv ev nv kv d.width rs (matB rs d) (.returned (.tuple #[.pointer none,.bool false])) w2):=.inl ⟨by rw[Hm.out];rfl,rfl,bl2⟩;go_wp2;exact zvV (v:=.tuple #[.pointer none,.bool false]) (by simp[results,Tryz.results36,go_sem]) rfl HF.out
 go_wp2_with fail
 refine c4.mono ?_;rintro e w4 ⟨rfl,hw4⟩;subst w4;cases b4
 ·have HF:Hid (NfA w (.slice ao rs.length rc) cv bv fv tv ev nv kv d.width rs (matB rs d) (.returned (.tuple #[.pointer none,.bool false])) w2):=.inl ⟨by rw[Hm.out];rfl,rfl,bl2⟩;go_wp2;exact zvV (v:=.tuple #[.pointer none,.bool false]) (by simp[results,Tryz.results36,go_sem]) rfl HF.out
 obtain⟨W5,hmk,hown5,hg5⟩:=run_make_full (P:=Tryz.prog) w2.drew w2.heap.size 126 161 i0 _ 1 Tryz.underlying126 hi hz0 hz1 .i64 .i64 rs.length (by rw[hz2];omega) (by unfold maxLen;omega) (zvJ _);have hmk':(mkQ 126 (.int .i64 (rs.length:Int)) (.int .i64 (rs.length:Int))).run Tryz.prog w2.drew=.ok (.slice (some ⟨w2.heap.size,0,none⟩) rs.length rs.length) W5:=hmk;have hb5:Below w2.heap.size w2 W5:=⟨hg5.os,hg5.tape,hg5.output,hg5.size,fun k hk=>hg5.block k hk (by simp)⟩;obtain⟨p0,p1,p2,p3,p4,p5,p6,p7,p8⟩:=zbb (zag r2 hb5);have hba:Below W5.heap.size W5 (W5.alloc (.cells (finC (.slice ao rs.length rc) cv d.width bv fv tv ev nv kv (.slice (some ⟨g,0,none⟩) rs.length cap) (.slice (some ⟨w2.heap.size,0,none⟩) rs.length rs.length)) 128)):=(Below.refl _ _).alloc (zvJ _) _;have hb25:Below w2.heap.size w2 (W5.alloc (.cells (finC (.slice ao rs.length rc) cv d.width bv fv tv ev nv kv (.slice (some ⟨g,0,none⟩) rs.length cap) (.slice (some ⟨w2.heap.size,0,none⟩) rs.length rs.length)) 128)):=zaa hb5 hb5.size hba;have hqs:W5.heap[w2.heap.size]?=some (.cells (Array.replicate rs.length (.pointer none)) 161 (0,0)):=by
  have:=ze9 hown5;rw[zrQ] at this;exact this
 have HF:Hid (NfA w (.slice ao rs.length rc) cv bv fv tv ev nv kv d.width rs (matB rs d) (.returned (.tuple #[.pointer (some ⟨W5.heap.size,0,none⟩),.bool true])) (W5.alloc (.cells (finC (.slice ao rs.length rc) cv d.width bv fv tv ev nv kv (.slice (some ⟨g,0,none⟩) rs.length cap) (.slice (some ⟨w2.heap.size,0,none⟩) rs.length rs.length)) 128))):=.inr ⟨by rw[Hm.out];rfl,_,g,cap,w2.heap.size,vs,rfl,zaa bl2 bl2.size hb25,zvK bl2.size hb5.size,bl2.size,zvZ _ _,zck (zac HO2.out hb25) hb0.size,HP2.out.below hb25,zag hqs hba⟩;clear c3 c4 hmk hown5 hg5 hqs hba hb25
 go_upto_region 7 with fail
 go_region
 go_wp2;exact zvV (v:=.tuple #[.pointer (some ⟨W5.heap.size,0,none⟩),.bool true]) (by simp[results,Tryz.results36,go_sem]) rfl HF.out
end
section
variable{N:Nat}{xs:List Value}{st:List Int}
theorem zne(h:znm N xs st)(k:Nat)(hk:k<st.length)(hle:zbo (st.take (k+1))<=2000):zbo (st.take (k+1))=zbo (st.take k)+st.getD k 0/\1<=st.getD k 0/\0<=zbo (st.take k):=by
 rw[zeR st k hk] at hle ⊢;obtain⟨t,x,_,hp⟩:=h.2 k hk;have h1:=zbd.facts N _ _ hp;have h2:=zeg h k (by omega);unfold capW at hle ⊢;split
 ·exact⟨rfl,h1.2.1,h2.1⟩
 ·rw[zv2 (by assumption)] at hle;omega
theorem zqG(h:znm N xs st)(hle:zbo st<=2000):∀m k,k+m=st.length->zbo (st.take k)<=zbo st
 |0,k,e=>by rw[zvC (by omega)];exact Int.le_refl _
 |m+1,k,e=>by
  have h1:=zqG h hle m (k+1) (by omega);have h2:=zne h k (by omega) (by omega);omega
theorem ztI(h:znm N xs st)(hle:zbo st<=2000)(k:Nat)(hk:k<st.length):st.getD k 0<=2000:=by
 have h0:=zqG h hle (st.length-(k+1)) (k+1) (by omega);have h1:=zne h k hk (by omega);omega
end
section
variable{u:Word}{b:Pt}
attribute [local go_sem ↓] Go.wp_at_zero Go.wp_at_succ
theorem Tryz.infoPlaced:(Tryz.prog.info? 247).map (fun i=>(i.zero,i.size,i.bytes))=some (some (.agg #[.pointer none,.int .i64 0]),2,16):=by kernel_rfl
theorem zpH{i n:Nat}{L:Laid}(h:RoR u n b i L):LayC u i n (.rep b 0 (-1)) L:=by
 show if (0:Int)=0/\(-1:Int)=-1 then RoR u n b i L else ChR u n (repL b (Int.toNat 0) (-1)) i L
 rw[zv3 ⟨rfl,rfl⟩];exact h
theorem zns{O1:Nat->Prop}{w:World}{nw nw':Nat}(hok:OkP b){E0 E:Nat->Prop}{fr high hi:Nat}(hhi:high<=hi)(h9:hi<=4096)(hE:∀x,E x->Sta u (unD b 0).star E0 x)(hnw:nw'=nw)(t ne gs B:Nat)(pv:Value)(ps:List Nat)(rb:RdV){n bt ga gl:Nat}{lv:Value}{f:Nat->Nat->Bool}{Lk:Nat->Nat->Nat}{A L:Nat->Nat}{O:Nat->Prop}
  (hbx:∀W,zam O1 w W->W.heap[t]?=some (.cells #[.pointer (some ⟨rb.r,0,none⟩),.slice (some ⟨gs,0,none⟩) ne ne,.int .i64 hi,pv] 195 (0,0))/\W.ownsRow B 3 1 pv ps.length (zdu ps)/\RdAt O W n nw' bt ga gl lv f Lk A L rb)
  (hix:∀j,j<ps.length->ps.getD j 0<rb.m/\zeE nw' (rb.Ts (ps.getD j 0)) (Back u (unD b 0).star E0 (hi-1-j))) (hof:∀i p,i+ps.length<hi->¬Back u (unD b 0).star E0 i p):zoF O1 w nw u (unD b 0) E fr high (.pointer (some ⟨t,0,none⟩)):=by
 subst hnw;refine .inr ⟨t,Back u (unD b 0).star E0,rfl,fun W hT k hk=>?_,fun k h1 h2 h3 x hx hEx hL=>?_⟩
 ·obtain⟨x1,x2,x3⟩:=hbx W hT;refine(zuC x3 t ne gs hi k B pv ps x1 x2 (fun j hj=>(hix j hj).1) (by omega) h9).mono ?_;rintro e w' ⟨⟨y1,rfl⟩|⟨y1,rfl⟩,hb⟩
  ·exact⟨_,rfl,.inl ⟨rfl,fun p hp=>hof k p (by omega) hp⟩,hb⟩
  ·obtain⟨z1,z2⟩:=hix _ y1;refine⟨_,rfl,.inr ⟨_,rb.Ts (ps.getD (hi-1-k) 0),rfl,(x3.s.set _ z1).below hb,?_⟩,hb⟩;rw[show hi-1-(hi-1-k)=k from by omega] at z2;exact z2
 ·rcases hL with ⟨e,_⟩|⟨_,q,hq,hl⟩
  ·omega
  ·obtain⟨p,p1,p2⟩:=zqt (zej b hok 0) hq hl (hE x hEx) k h1 hx;exact h3 p p1 p2
theorem zkB{w0:World}{pl:Nat}{Q:Nat->Option Pt}{Ow:Nat->Nat->Prop}(w:World)(h:PnI w0 pl Q Ow w)(lo a a':Nat)(b:Pt)(ha:Q a=some (.rep b 0 (-1)))(ha':Q a'=some b)(hp:PcAt lo w0 pl Q a' b)(t:ByteArray)(ht:t.size<=4096)(hL:Lg t.data.toList (.rep b 0 (-1)) 0 t.size):
  Calls Tryz.prog 234 #[.agg #[.pointer (some ⟨a,0,none⟩),.pointer (some ⟨a',0,none⟩)],.string t] w fun e w'=>LayA w0 pl Q Ow w lo t.data.toList t.size (.rep b 0 (-1)) e w':=by
 obtain⟨i0,hi,hz0,hz1,hz2⟩:=info_parts Tryz.infoPlaced;have hws:=h.size;have hne:a≠a':=fun e=>by rw[e,ha'] at ha;exact zuo b (Option.some.inj ha).symm
 have hul:t.data.toList.length=t.size:=by simp
 have hokb:=hidF (h.okP ha');obtain⟨W0,hW0⟩:∃W0,(w.alloc (.cells #[.pointer (some ⟨a,0,none⟩),.pointer (some ⟨a',0,none⟩)] 313)).alloc (.cells #[] 247)=W0:=⟨_,rfl⟩;have hb0:Below w.heap.size w W0:=by rw[<-hW0];exact((Below.refl _ _).alloc (zvJ _) _).alloc (by simp) _
 have x0:W0.heap[w.heap.size]?=some (.cells #[.pointer (some ⟨a,0,none⟩),.pointer (some ⟨a',0,none⟩)] 313 (0,0)):=by rw[<-hW0];exact zak (zvZ _ _)
 have own0:W0.ownsRow w.heap.size 247 2 (.slice (some ⟨w.heap.size+1,0,none⟩) 0 0) 0 []:=by rw[<-hW0];exact zcF _ _ 2 _ _ (by omega) (by simp)
 have hs0:w.heap.size+1<W0.heap.size:=by rw[<-hW0];simp
 have hst:=zdC a _ W0 (h.below hb0) ha;have HT0:=hidF (PnT.of_below h hb0);have hfr:∀k,w.heap.size<=k->∀c,¬Ow k c:=fun k hk c ho=>by have:=(h.ow _ c ho).2;omega
 have c0:=(zaO x0).1;have HL:=hidF hL;have Hp:=hidF hp;have Hx0:=hidF x0;have Ho0:=hidF own0;clear h hL hp x0 own0 hb0
 go_enter Tryz.func234,Tryz.ntmps234
 go_wp2_with fail
 refine hst.mono ?_;rintro e w1 ⟨s,Ow1,X1,v1,ra1,rb1,O1,O2,rfl,hso,hma,hmb,hch⟩;have hon:=zgs t.size w1 ht;have Hso:=hidF hso;have Hch:=hidF hch;clear hst hso hch c0 hW0
 go_wp2_with fail
 refine hon.mono ?_;rintro e w2 ⟨U,rfl,hU,hUb,hb2⟩;have hs2:=Hso.out.below (Hso.out.inv.below hb2) hb2;have hc2:=hidF (Hch.out.below hb2);have hbk:=zdg hs2 (by omega) (by omega) t ht (t.size/64+1) w1.heap.size (t.size/64+1) U hU (by omega) (fun hx=>by have:=(Hso.out.x0 _ hx).2;omega) ⟨t.size,by omega,(hUb _).2 rfl⟩ (fun q _ hb=>by have:=(hUb q).1 hb;omega);have HUb:=hidF hUb;have Hs2:=hidF hs2;obtain⟨ne,hne2⟩:∃ne,t.size/64+1=ne:=⟨_,rfl⟩;have hne9:ne<=100:=by omega
 have hnt:t.size<64*ne:=by omega
 rw[hne2] at hbk ⊢;clear hon hU hUb hs2 hne2
 go_wp2_with fail
 refine hbk.mono ?_;rintro e w3 ⟨Ow3,X3,high,tt,gs,b3,O3,S,pv,ps,rfl,h3,hc3,hox,hxo,T,hh⟩;have hc3':=hc3 _ _ hc2.out;have pt3:=HT0.out.trans (h3.plT hc3');have hhe:high=t.size:=(HUb.out high).1 hh.2;subst hhe;have HE0:Hid ((fun q=>q<64*ne/\zai U q=true)=fun q=>q=t.size):=funext fun q=>propext ⟨fun x=>(HUb.out q).1 x.2,fun x=>by subst x;exact⟨hnt,(HUb.out _).2 rfl⟩⟩
 have ht3:∀k,w.heap.size<=k->k<W0.heap.size->w3.heap[k]?=W0.heap[k]?/\∀c,¬Ow3 k c:=fun k h1 h2=>by
  have:=(h3.plT hc3').fre k (by omega) h2 (hfr k h1);exact this
 have hs20:W0.heap.size<=w2.heap.size:=zvK Hch.out.tc.size hb2.size;have hst2:=zdC a' b w3 h3.inv ha';have c1:=(zaO ((ht3 w.heap.size (zvJ _) (by omega)).1.trans Hx0.out)).2;have H3:=hidF h3;have HT:=hidF T;have Hpt3:=hidF pt3;have Ht3:=hidF ht3;have Hox:=hidF hox;have Hxo:=hidF hxo;have Hc3:=hidF hc3';clear hbk h3 T pt3 ht3 hox hxo hc3 hc3' hh
 go_wp2_with fail
 refine hst2.mono ?_;rintro e w4 ⟨s2,Ow4,X4,v4,ra4,rb4,O14,O24,rfl,so4,hma4,hmb4,ch4⟩;obtain⟨Pr,HPr⟩:∃Pr:Nat->Prop,Hid (∀k,Pr k↔X3 k\/k=tt\/k=gs\/pv.ownBlock=some k\/k=w.heap.size):=⟨_,fun _=>Iff.rfl⟩;have hpvb:∀k,pv.ownBlock=some k->w2.heap.size<=k/\k<w3.heap.size:=fun k e=>by
  obtain⟨q1,cur,q2⟩:=zaZ HT.out.pa e;exact⟨q1,(zuH.1 q2).1⟩
 have htl:tt<w3.heap.size:=(zuH.1 HT.out.box).1;have hgl:gs<w3.heap.size:=HT.out.sp.glt;have ht2:=HT.out.tw;have hg2:=HT.out.gw;have hs30:=Hc3.out.tc.size;have hs34:=ch4.tc.size;have hww:w.heap.size<=w4.heap.size:=by omega
 have hPO:∀k,Pr k->w0.heap.size<=k/\k<w3.heap.size/\¬Ow3 k a':=fun k hk=>by
  rcases(HPr.out k).1 hk with e|e|e|e|e
  ·refine⟨(H3.out.x0 k e).1,(H3.out.x0 k e).2,fun ho=>?_⟩;rcases H3.out.x1 with ⟨f1,_⟩|f1
   ·exact hne (H3.out.inv.dj k a a' ((f1 k).1 e) ho)
   ·exact f1 k a' e ho
  ·subst e;exact⟨by omega,htl,(zgm Hs2.out Hox.out Hxo.out ht2 HT.out.nt).1 a'⟩
  ·subst e;exact⟨by omega,hgl,(zgm Hs2.out Hox.out Hxo.out hg2 HT.out.ng).1 a'⟩
  ·obtain⟨q1,q2⟩:=hpvb k e;exact⟨by omega,q2,(zgm Hs2.out Hox.out Hxo.out q1 (HT.out.np k e)).1 a'⟩
  ·subst e;exact⟨hws,by omega,(Ht3.out w.heap.size (zvJ _) (by omega)).2 a'⟩
 have hP:∀k,Pr k->k<w4.heap.size/\¬X4 k:=fun k hk=>by
  obtain⟨q1,q2,q3⟩:=hPO k hk;exact⟨by omega,fun e=>(ch4.xs k e).elim q3 fun e=>by omega⟩
 have hP34:∀k,Pr k->w4.heap[k]?=w3.heap[k]?:=fun k hk=>by
  obtain⟨q1,q2,q3⟩:=hPO k hk;have:=H3.out.inv.pl0;have:=H3.out.inv.alt ha';refine ch4.tc.same k q2 ?_;rintro (e|e|e)
  ·omega
  ·omega
  ·exact q3 e
 have hX4:∀k,w0.heap.size<=k->k<w.heap.size->(∀c,¬Ow k c)->¬X4 k:=fun k h1 h2 h3 e=>by
  rcases ch4.xs k e with f|f
  ·exact(Hpt3.out.fre k h1 h2 h3).2 a' f
  ·omega
 have hlst:w4.heap[w.heap.size+1]?=W0.heap[w.heap.size+1]?/\(∀c,¬Ow4 (w.heap.size+1) c)/\¬X4 (w.heap.size+1)/\¬Pr (w.heap.size+1):=by
  obtain⟨f1,f2⟩:=Ht3.out (w.heap.size+1) (by omega) hs0;obtain⟨g1,g2⟩:=(so4.plT ch4).fre (w.heap.size+1) (by omega) (by omega) f2;refine⟨g1.trans f1,g2,fun e=>(ch4.xs _ e).elim (f2 a') fun e=>by omega,fun e=>?_⟩;rcases(HPr.out _).1 e with e|e|e|e|e
  ·exact(Hc3.out.xs _ e).elim (hfr _ (by omega) a) fun e=>by omega
  ·omega
  ·omega
  ·have:=hpvb _ e;omega
  ·omega
 have HS0:Hid (RnS w0 pl Q a' b Ow w w4 X4 Pr s2 v4 rb4 O24 Ow4 w4 X4 ra4 O14):=⟨so4,Hpt3.out.trans (so4.plT ch4),fun _ e=>.inl e,fun _ _=>rfl,zvJ _⟩;have own4:=hidF (show w4.ownsRow w.heap.size 247 2 (.slice (some ⟨w.heap.size+1,0,none⟩) 0 0) 0 [] from zav Ho0.out fun k e=>by
  have e:w.heap.size+1=k:=by simpa [Value.ownBlock] using e
  subst e;exact hlst.1)
 have Hlst:=hidF hlst;have HP:=hidF hP;have HX4:=hidF hX4;have hnwe:v1.nw=v4.nw:=by
  rw[H3.out.st.nwe,so4.st.nwe];obtain⟨_,_,_,_,_,_,hw,_⟩:=H3.out.inv.pc a' b ha';rw[znj hw]
 -- what lies along,in any world in which the trail stands
 have HRd:Hid (∀W:World,(∀k,Pr k->W.heap[k]?=w4.heap[k]?)->W.heap[tt]?=some (.cells #[.pointer (some ⟨b3.r,0,none⟩),.slice (some ⟨gs,0,none⟩) ne ne,.int .i64 (t.size:Int),pv] 195 (0,0))/\zar W ne gs S/\W.ownsRow w2.heap.size 3 1 pv ps.length (zdu ps)/\RdAt O3 W v1.n v1.nw v1.bt v1.gl v1.ga (.slice v1.ba v1.n v1.bc) v1.f v1.G v1.L v1.A b3/\W.cell? ⟨w.heap.size,1,none⟩=some (.pointer (some ⟨a',0,none⟩))):=fun W hW=>by
  have hk:∀k,Pr k->W.heap[k]?=w3.heap[k]?:=fun k hk=>(hW k hk).trans (hP34 k hk)
  refine⟨(hk tt ((HPr.out _).2 (.inr (.inl rfl)))).trans HT.out.box,⟨(hk gs ((HPr.out _).2 (.inr (.inr (.inl rfl))))).trans HT.out.sp.row,HT.out.sp.lt⟩,zav HT.out.pa fun k e=>hk k ((HPr.out _).2 (.inr (.inr (.inr (.inl e))))),H3.out.st.st.rb.keep fun k e _=>hk k ((HPr.out _).2 (.inl (H3.out.st.x2 k e))),?_⟩;exact(zaO ((hk _ ((HPr.out _).2 (.inr (.inr (.inr (.inr rfl)))))).trans ((Ht3.out w.heap.size (zvJ _) (by omega)).1.trans Hx0.out))).2
 have HSt:Hid (∀m,zai S m=true↔Lg t.data.toList (.rep b 0 (-1)) m t.size):=fun m=>by
  rw[zdk Hs2.out.inv ha HT.out (fun m hm=>by rw[hul,(HUb.out m).1 hm.2];omega) m];constructor
  ·rintro ⟨e,h1,h2⟩;rw[(HUb.out e).1 h1.2] at h2;exact h2
  ·intro h1;exact⟨t.size,⟨hnt,(HUb.out _).2 rfl⟩,h1⟩
 have HSs:=hidF HT.out.ss;have Hix:=hidF HT.out.ix;have Hof:=hidF HT.out.off;rw[zsC] at HSs Hix Hof;clear hst2 so4 ch4 hlst hPO hP hP34 hX4 hpvb Ht3 Hc3 Hox Hxo Hpt3 HT Hs2 Hso Hch hc2 HUb Hx0 Ho0 HT0 c1;go_wp2
 go_loopw [5,8] (fun lv av wr=>∃(k:Nat) (ys:List Pld) (vL:Value) (OwW:Nat->Nat->Prop) (XW:Nat->Prop) (raW:RdV) (OW:Nat->Prop),lv=vL/\av=.int .i64 k/\k<=t.size/\ys.length<=k/\Hid (RnS w0 pl Q a' b Ow w w4 X4 Pr s2 v4 rb4 O24 OwW wr XW raW OW)/\Hid (raW.m<=8192+4096*k)/\Hid (Lg t.data.toList (.rep b 0 (-1)) k t.size)/\Hid (∀L,RoR t.data.toList t.size b k L->RoR t.data.toList t.size b 0 (lyL ys++L))/\Hid (wr.ownsRow w.heap.size 247 2 vL ys.length (pdL ys))/\Hid (∀k,vL.ownBlock=some k->(∀c,¬OwW k c)/\¬XW k/\¬Pr k)/\Hid (∀y,y∈ys->PcAt lo w0 pl Q y.1 y.2.1))
  (fun _ av _=>t.size-(intOf av).toNat)
 case atStart=>exact⟨0,[],_,Ow4,X4,ra4,O14,rfl,rfl,zvT _,zvJ _,HS0,by show _<=_;omega,HL,fun L hL=>hL,own4,fun k e=>by
   have e:w.heap.size+1=k:=by simpa [Value.ownBlock] using e
   subst e;exact⟨Hlst.out.2.1,Hlst.out.2.2.1,Hlst.out.2.2.2⟩,fun y hy=>by cases hy⟩
 case round=>
  clear HS0 own4 Hlst HL;obtain⟨k,ys,vL,OwW,XW,raW,OW,hlv,rfl,hkn,hyk,HS,Hm,HLk,HRo,HO,Hob,HPc⟩:=hrel;have hlv':=hlv.symm;subst hlv'
  by_cases hlt:k<t.size
  ·have hd:decide ((k:Int)<(t.size:Int))=true:=by simp;omega
   obtain⟨r1,r2,-,-,-⟩:=HRd.out wr HS.out.sm;have k1:=(zbg r1).2.1;have hgsX:¬XW gs:=fun e=>by
    have hpg:=(HPr.out gs).2 (.inr (.inr (.inl rfl)));have:=HP.out gs hpg;rcases HS.out.xs gs e with f|f
    ·exact this.2 f
    ·omega
   have hfu:=zf2 HS.out.so (by have:=Hm.out;omega) (by omega) t ht ne gs ne k S r2 hne9 hgsX ⟨k,by omega,(HSt.out k).2 HLk.out⟩ (fun q _ hb=>by have:=((HSt.out q).1 hb).1;omega) (by omega) (by omega) (.pointer (some ⟨tt,0,none⟩)) (fun hg1 hg2 _=>zns hokb.out (hi:=t.size) (by have:=((HSt.out hg1).1 hg2.2).1;exact this) ht (E0:=fun q=>q<64*ne/\zai U q=true) (fun x hx=>(HSs.out x).1 hx.2) hnwe tt ne gs w2.heap.size pv ps b3 (O:=O3) (fun W hT=>by
    have hW:∀k,Pr k->W.heap[k]?=w4.heap[k]?:=fun k hk=>(hT.same k (by have:=(HP.out k hk).1;have:=HS.out.sz;omega) (fun e=>by
     rcases HS.out.xs k (HS.out.so.st.x1 k e) with f|f
     ·exact(HP.out k hk).2 f
     ·have:=(HP.out k hk).1;omega)).trans (HS.out.sm k hk)
    obtain⟨q1,q2,q3,q4,q5⟩:=HRd.out W hW;exact⟨q1,q3,q4⟩) Hix.out Hof.out)
   clear r1 r2
   go_wp2_with fail
   refine hfu.mono ?_;rintro e W2 ⟨Ow2,X2,a2,O2',end',ok,rfl,so2,-,hox2,hxx2,hm2,tc2,hR⟩;have HS2:=hidF (HS.out.step HP.out HX4.out hww so2 hox2 hxx2 tc2);obtain⟨k0,j1,j2,j3⟩:=znd hlt HLk.out;have Hk0:Hid (∀x,(x<64*ne/\zai S x=true)↔Lg t.data.toList (.rep b 0 (-1)) x t.size):=fun x=>⟨fun z=>(HSt.out x).1 z.2,fun z=>⟨by have:=z.1;omega,(HSt.out x).2 z⟩⟩
   have hres:Lg t.data.toList b k end'/\Lg t.data.toList (.rep b 0 (-1)) end' t.size/\k<end'/\∀x,Lg t.data.toList b k x->Lg t.data.toList (.rep b 0 (-1)) x t.size->x<=end':=by
    rcases hR with ⟨-,b2,b3,b4⟩|⟨-,-,b3⟩
    ·refine⟨b3,(Hk0.out _).1 b2,?_,fun x h1 h2=>b4 x ((Hk0.out x).2 h2) h1⟩;have:=b4 k0 ((Hk0.out k0).2 j3) j2;omega
    ·exact absurd j2 (b3 k0 ((Hk0.out k0).2 j3))
   have hen:end'<=t.size:=hres.2.1.1;have hke:=hres.2.2.1;have HRo2:Hid (∀L,RoR t.data.toList t.size b end' L->RoR t.data.toList t.size b 0 (lyL (ys++[(a',b,end')])++L)):=fun L hL=>by
    have:=HRo.out ((b,end')::L) (.more k end' L hlt ⟨by omega,hen,⟨hres.1,hres.2.1⟩,fun m h1 h2 h3=>by have:=hres.2.2.2 m h3.1 h3.2;omega⟩ hL)
    simpa [lyL] using this
   have HLe:=hidF hres.2.1;have Hm2:Hid (a2.m<=8192+4096*end'):=by show _<=_;have:=Hm.out;omega
   have own2:W2.ownsRow w.heap.size 247 2 vL ys.length (pdL ys):=zav HO.out fun k e=>by
    obtain⟨-,cur,e4⟩:=zaD HO.out e;exact tc2.same k (zuH.1 e4).1 (Hob.out k e).2.1
   have Hob2:Hid (∀k,vL.ownBlock=some k->w.heap.size<=k/\(∀c,¬Ow2 k c)/\¬X2 k/\¬Pr k/\∃cur,W2.heap[k]?=some (.cells cur 247 (0,0))):=fun k e=>by
    obtain⟨e3,cur,e4⟩:=zaD HO.out e;have hkl:=(zuH.1 e4).1;obtain⟨f1,f2,f3⟩:=Hob.out k e;have hx2:¬X2 k:=fun z=>(hxx2 k z).elim f2 fun z=>by omega
    refine⟨e3,fun c hc=>(hox2 k c hc).elim (f1 c) hx2,hx2,f3,cur,(tc2.same k hkl f2).trans e4⟩
   obtain⟨-,-,-,-,c1⟩:=HRd.out W2 HS2.out.sm;have hys:ys.length<=2000000:=by omega
   have hbs:w.heap.size<=W2.heap.size:=HS2.out.pt.size;obtain⟨va,vn,vc,hvf⟩:∃(va:Option Addr) (vn vc:Nat),vL=.slice va vn vc:=by
    rcases own2.2 with ⟨e,_⟩|⟨g,c,_,e,_⟩
    ·exact⟨_,_,_,e⟩
    ·exact⟨_,_,_,e⟩
   subst hvf;clear hfu HS Hm HLk HRo HO Hob hR so2 hox2 hxx2 tc2 hm2 hres j2 j3 k1 hgsX
   go_wp2_with (at_builtin;refine za9 rfl (.tmp 37) (.tmp 42) 244 rfl W2 #[.pointer (some ⟨a',0,none⟩),.int .i64 (end':Int)] 247 rfl W2.heap.size rfl w.heap.size i0 _ 2 16 Tryz.underlying244 hi hz0 hz1 hz2 rfl (by omega) (.slice va vn vc) ys.length (pdL ys) rfl own2 rfl rfl (by intro u hu;simp at hu;rcases hu with rfl|rfl<;>rfl) hys (by omega) hbs ?_;intro g7 cap7 W7 own7 grow7 at7)
   have HS7:=hidF (HS2.out.row (fun k hk=>(HP.out k hk).1) grow7 hws Hob2.out)
   go_roundw
   case rel=>exact⟨end',ys++[(a',b,end')],_,Ow2,X2,a2,O2',rfl,rfl,hen,by simp;omega,HS7,Hm2,HLe,HRo2,by show World.ownsRow _ _ _ _ _ _ _;rw[zvh,zfP];exact own7,fun k e=>by
     have e:g7=k:=by simpa [Value.ownBlock] using e
     subst e;rcases at7 with f|f
     ·obtain⟨z1,z2,z3,z4,_⟩:=Hob2.out g7 f;exact⟨z2,z3,z4⟩
     ·refine⟨fun c hc=>by have:=(HS2.out.so.inv.ow _ c hc).2;omega,fun hc=>by have:=(HS2.out.so.x0 _ hc).2;omega,fun hc=>?_⟩;have:=(HP.out _ hc).1;have:=HS2.out.sz;omega,fun y hy=>by
     rcases zvo.1 hy with hy|hy
     ·exact HPc.out y hy
     ·rw[zvv.1 hy];exact Hp.out⟩
   case measure=>simp[intOf];omega
  ·obtain rfl:k=t.size:=by omega
   have hd:decide ((t.size:Int)<(t.size:Int))=false:=by simp
   have HF:Hid (LayA w0 pl Q Ow w lo t.data.toList t.size (.rep b 0 (-1)) (.returned vL) wr):=by
    refine⟨OwW,ys,vL,rfl,HS.out.pt,HO.out,fun k e=>(Hob.out k e).1,?_,HPc.out⟩;have:=HRo.out [] .done;rw[zuS] at this;exact zpH this
   clear HS HRo HO Hob HPc Hm HLk;go_wp2;go_ret;exact HF.out
end
structure zeX(H:Nat)(A B:World):Prop where
 os:B.os=A.os
 tape:B.tape=A.tape
 output:B.output=A.output
 size:A.heap.size<=B.heap.size
 same:∀k,k≠H->k≠H+1->k<A.heap.size->B.heap[k]?=A.heap[k]?
 nc:(∀o,B.heap[H]?=some o->o.isCells=false)/\∀o,B.heap[H+1]?=some o->o.isCells=false
theorem zeX.put{H:Nat}{A:World}{x:Option (List Deferred)}{o:Obj}(hl:A.heap[H+1]?=some o)(hk:A.heap[H]?=some (.deferred x))(r:Loop):zeX H A (A.putObj (H+1) (.loop r)):=
 ⟨rfl,rfl,rfl,by simp,fun k _ h2 _=>World.putObj_heap_other h2,fun o ho=>by
  rw[World.putObj_heap_other (by omega),hk] at ho;cases ho;rfl,fun o ho=>by
  rw[World.putObj_heap_same (zuH.1 hl).1] at ho;cases ho;rfl⟩
def zk3(H:Nat)(A B:World):Prop:=B.heap[H]?=A.heap[H]?/\B.heap[H+1]?=A.heap[H+1]?
def zr1{α:Type}(H:Nat)(T:List Nat)(I:List α->World->Prop)(Ix:Code->List α->World->Prop)(s:List α)(W:World):Exit->Act->World->Prop
 |.normal,_,W'=>zk3 H W W'/\(∀k∈T,W'.heap[k]?=W.heap[k]?)/\I s W'
 |.ret,_,W'=>zk3 H W W'/\Ix .ret s W'
 |.exit id,_,W'=>zk3 H W W'/\Ix (.exit id) s W'
 |.goto t,_,W'=>zk3 H W W'/\Ix (.goto t) s W'
 |.panic _,_,_=>False
 |.outgrown,_,_=>False
def SeqS{α:Type}(n:Nat)(P:Program)(g:Nat)(fb lb:Array Value)(encs:α->Array Value)(T:List Nat)(S Sp:List α->Prop)(Nx:List α->α->Prop)(w:World):Prop:=
 ∀(l:Nat) (J Jx:List α->World->Prop) (W:World),(∀k∈T,W.heap[k]?=w.heap[k]?)->
  (∀pre x W1,J pre W1->Nx pre x->YieldAt Fence.wide (n-1) P l (encs x) W1 fun e W'=>
   (e=.returned (.bool true)/\J (pre++[x]) W'/\∀k∈T,W'.heap[k]?=W1.heap[k]?)\/(e=.returned (.bool false)/\Jx (pre++[x]) W'))->
  J [] W->
  CallsIn Fence.wide n P g (fb++#[.func (.yield l) #[] #[]]++lb) W fun e W'=>(∃v,e=.returned v)/\((∃xs,S xs/\J xs W')\/(∃pre,Sp pre/\Jx pre W'))
theorem zms{α:Type}{n:Nat}{P:Program}{g:Operand}{ps:Array Tmp}{assign body:Code}{Q:Exit->Act->World->Prop}{a:Act}{w:World}(h1:1<=n)
  {gf:Nat} {fb lb:Array Value} (hg:a.eval g=.func (.func gf) fb lb) (eg:∀args w,(callFunc gf args).run P w=.ok (.enter gf args) w)
  {encs:α->Array Value} {T:List Nat} {S Sp:List α->Prop} {Nx:List α->α->Prop} (hT:∀k∈T,k<w.heap.size) (hseq:SeqS (n-1) P gf fb lb encs T S Sp Nx w) (hps:∀x,(encs x).size=ps.size)
  (I:List α->World->Prop) (Ix:Code->List α->World->Prop) (hI:∀s A B,I s A->zeX w.heap.size A B->I s B) (hIx:∀c s A B,Ix c s A->zeX w.heap.size A B->Ix c s B) (h0:I [] w) (V:α->World->World) (hV:∀x W,Below W.heap.size W (V x W)) (a₁:α->World->Act)
  (hassign:∀(l:Nat) (x:α) (W:World) (K:Act->World->Prop),K (a₁ x W) (V x W)->
   assign.wpIn (Fence.wide.inRound l) (n-1-1) P (Exit.then K (fun _ _ _=>False)) {tmps:=(ps.zip (encs x)).foldl (fun t (p,v)=>t.setIfInBounds p v) a.tmps,defers:=[]} W)
  (hbody:∀(l:Nat) (pre:List α) (x:α) (W0 W:World),w.heap.size+1<W0.heap.size->I pre W0->zeX w.heap.size (V x W0) W->Nx pre x->body.wpIn (Fence.wide.inRound l) (n-1-1) P (zr1 w.heap.size T I Ix (pre++[x]) W) (a₁ x W0) W)
  (hdone:∀(D:Nat) (xs:List α) (W:World),w.heap.size=D->S xs->I xs W->W.heap[D]?=some (.deferred (some []))->Q .normal {a with defers:={target:=.collected D,args:=#[]} :: a.defers} W)
  (hstop:∀(D:Nat) (c:Code) (pre:List α) (W:World),w.heap.size=D->Sp pre->Ix c pre W->W.heap[D]?=some (.deferred (some []))->c.wpIn Fence.wide n P Q {a with defers:={target:=.collected D,args:=#[]} :: a.defers} W):
  (Code.rangeFunc g ps assign body).wpIn Fence.wide n P Q a w:=by
 refine wpIn_rangeFunc fun fn hfn=>?_
 let rc:LoopState->Option Code->Loop:=fun st pe=>{state:=st,pending:=pe,fn,tmps:=a.tmps,params:=ps,assign,body,defers:=w.heap.size}
 obtain⟨W1,hW1⟩:∃W1,(w.alloc (.deferred (some []))).alloc (.loop (rc .ready none))=W1:=⟨_,rfl⟩;have t1:zeX w.heap.size w W1:=by
  rw[<-hW1];refine⟨rfl,rfl,rfl,by simp;omega,fun k _ _ hlt=>?_,fun o ho=>?_,fun o ho=>?_⟩
  ·rw[Below.heap_alloc _ _ k (by simp;omega),Below.heap_alloc _ _ k hlt]
  ·rw[Below.heap_alloc _ _ _ (by simp),World.alloc_heap_new] at ho;cases ho;rfl
  ·have:=World.alloc_heap_new (w.alloc (.deferred (some []))) (.loop (rc .ready none));rw[World.size_alloc] at this;rw[this] at ho;cases ho;rfl
 have rec1:W1.heap[w.heap.size+1]?=some (.loop (rc .ready none)):=by
  rw[<-hW1];have:=World.alloc_heap_new (w.alloc (.deferred (some []))) (.loop (rc .ready none));rwa[World.size_alloc] at this
 have def1:W1.heap[w.heap.size]?=some (.deferred (some [])):=by rw[<-hW1,Below.heap_alloc _ _ _ (by simp),World.alloc_heap_new]
 refine⟨w.heap.size+1,[{target:=.collected w.heap.size,args:=#[]}],W1,{target:=.fn (.func gf) lb,args:=fb++#[.func (.yield (w.heap.size+1)) #[] #[]]},W1,gf,
  fb++#[.func (.yield (w.heap.size+1)) #[] #[]]++lb,W1,?_,?_,fun _ _=>trivial,?_,fun _=>h1,?_⟩
 ·rw[<-hW1];exact run_enterLoop_outer _ _ _ _ _
 ·simp only[resolve,hg];simp[go_sem]
 ·simp[invoke,go_sem,eg]
 refine(hseq (w.heap.size+1)
  (fun pre W=>I pre W/\W.heap[w.heap.size+1]?=some (.loop (rc .ready none))/\W.heap[w.heap.size]?=some (.deferred (some [])))
  (fun pre W=>∃c,Ix c pre W/\W.heap[w.heap.size+1]?=some (.loop (rc .done (some c)))/\W.heap[w.heap.size]?=some (.deferred (some [])))
  W1 ?_ ?_ ⟨hI _ _ _ h0 t1,rec1,def1⟩).mono ?_
 ·intro k hk;have:=hT k hk;rw[<-hW1,Below.heap_alloc _ _ k (by simp;omega),Below.heap_alloc _ _ k this]
 ·rintro pre x Wb ⟨hi,hlb,hkb⟩ hlen;have hltb:=(zuH.1 hlb).1;obtain⟨W,hW⟩:∃W,V x Wb=W:=⟨_,rfl⟩;have hbW:Below Wb.heap.size Wb W:=hW ▸ hV x Wb;have hl:W.heap[w.heap.size+1]?=some (.loop (rc .ready none)):=(hbW.block _ hltb).trans hlb;have hk:W.heap[w.heap.size]?=some (.deferred (some [])):=(hbW.block _ (by omega)).trans hkb;have hlt:=(zuH.1 hl).1;refine⟨fn,_,assign,body,run_yield (P:=P) (args:=encs x) hlb (hps x),roundIn_of_wpIn hfn (hassign _ x Wb _ ⟨_,by rw[hW];exact run_beginRound hl rfl,?_⟩)⟩;have busy:(W.putObj (w.heap.size+1) (.loop (rc .busy none))).heap[w.heap.size+1]?=some (.loop (rc .busy none)):=World.putObj_heap_same hlt;have held:(W.putObj (w.heap.size+1) (.loop (rc .busy none))).heap[w.heap.size]?=some (.deferred (some [])):=(World.putObj_heap_other (by omega)).trans hk;refine wpIn_mono (hbody _ pre x Wb _ hltb hi (by rw[hW];exact zeX.put hl hk _) hlen) ?_;have fin:∀(jump:Option Code) (W3:World),zk3 w.heap.size (W.putObj (w.heap.size+1) (.loop (rc .busy none))) W3->
    (Instr.endRound (w.heap.size+1) jump).run P W3=.ok (.bool jump.isNone) (W3.putObj (w.heap.size+1) (.loop (rc (if jump.isNone then .ready else .done) jump)))/\
    W3.heap[w.heap.size+1]?=some (.loop (rc .busy none))/\
    (W3.putObj (w.heap.size+1) (.loop (rc (if jump.isNone then .ready else .done) jump))).heap[w.heap.size+1]?=some (.loop (rc (if jump.isNone then .ready else .done) jump))/\
    (W3.putObj (w.heap.size+1) (.loop (rc (if jump.isNone then .ready else .done) jump))).heap[w.heap.size]?=some (.deferred (some [])):=fun jump W3 k3=>by
   have l3:=k3.2.trans busy;exact⟨run_endRound (P:=P) jump l3,l3,World.putObj_heap_same (zuH.1 l3).1,(World.putObj_heap_other (by omega)).trans (k3.1.trans held)⟩
  have bk:∀(A:World) (o:Obj) (k:Nat),k∈T->(A.putObj (w.heap.size+1) o).heap[k]?=A.heap[k]?:=fun A o k hk=>World.putObj_heap_other (by have:=hT k hk;omega)
  have bT:∀k,k∈T->W.heap[k]?=Wb.heap[k]?:=fun k hk=>hbW.block k (by have:=hT k hk;omega)
  rintro e a3 W3 hp;cases e with
  |normal=>
   obtain⟨k3,b3,i3⟩:=hp;obtain⟨r,l3,l4,d4⟩:=fin none W3 k3;exact⟨_,_,r,.inl ⟨rfl,⟨hI _ _ _ i3 (zeX.put l3 (k3.1.trans held) _),l4,d4⟩,fun k hk=>by rw[bk _ _ k hk,b3 k hk,bk _ _ k hk,bT k hk]⟩⟩
  |ret=>
   obtain⟨k3,i3⟩:=hp;obtain⟨r,l3,l4,d4⟩:=fin (some .ret) W3 k3;exact⟨_,_,r,.inr ⟨rfl,.ret,hIx _ _ _ _ i3 (zeX.put l3 (k3.1.trans held) _),l4,d4⟩⟩
  |exit id=>
   obtain⟨k3,i3⟩:=hp;obtain⟨r,l3,l4,d4⟩:=fin (some (.exit id)) W3 k3;exact⟨_,_,r,.inr ⟨rfl,.exit id,hIx _ _ _ _ i3 (zeX.put l3 (k3.1.trans held) _),l4,d4⟩⟩
  |goto t=>
   obtain⟨k3,i3⟩:=hp;obtain⟨r,l3,l4,d4⟩:=fin (some (.goto t)) W3 k3;exact⟨_,_,r,.inr ⟨rfl,.goto t,hIx _ _ _ _ i3 (zeX.put l3 (k3.1.trans held) _),l4,d4⟩⟩
  |panic ch=>exact hp.elim
  |outgrown=>exact hp.elim
 ·rintro e W2 ⟨⟨v,rfl⟩,(⟨xs,hS,hi,hl,hk⟩|⟨pre,hSp,c,hi,hl,hk⟩)⟩
  ·exact⟨none,_,run_endLoop (P:=P) hl (by simp[rc]),hdone _ xs _ rfl hS (hI _ _ _ hi (zeX.put hl hk _)) ((World.putObj_heap_other (by omega)).trans hk)⟩
  ·exact⟨some c,_,run_endLoop (P:=P) hl (by simp[rc]),hstop _ c pre _ rfl hSp (hIx _ _ _ _ hi (zeX.put hl hk _)) ((World.putObj_heap_other (by omega)).trans hk)⟩
attribute [local go_sem] Oper.semAt_some
def encL{n:Nat}(pa:Nat->Nat)(po:Nat->Bool)(k:BelN n):Array Value:=#[.int .i64 (k.1:Int),.agg #[.pointer (some ⟨pa k.1,0,none⟩),.bool (po k.1)]]
theorem zq7(m l n g cap bx:Nat)(pa:Nat->Nat)(po:Nat->Bool)(hm:1<=m)(hn:n<=100000)(J Jx:List (BelN n)->World->Prop)(W:World)
  (hY:∀pre x W1,J pre W1->x.1+pre.length+1=n->YieldAt Fence.wide (m-1) Tryz.prog l (encL pa po x) W1 fun e W'=>
   (e=.returned (.bool true)/\J (pre++[x]) W'/\∀k∈[bx,g],W'.heap[k]?=W1.heap[k]?)\/(e=.returned (.bool false)/\Jx (pre++[x]) W'))
  (hb:W.heap[bx]?=some (.cells #[.slice (some ⟨g,0,none⟩) n cap] 300 (0,0))) (hT:∀i,i<n->W.cell? ⟨g,i*2,none⟩=some (.pointer (some ⟨pa i,0,none⟩))/\W.cell? ⟨g,i*2+1,none⟩=some (.bool (po i))) (h0:J [] W):
  CallsIn Fence.wide m Tryz.prog 232 #[.func (.yield l) #[] #[],.pointer (some ⟨bx,0,none⟩)] W fun e W'=>(∃v,e=.returned v)/\
   ((∃ys,ys.length=n/\J ys W')\/(∃pre,(0<pre.length/\pre.length<=n)/\Jx pre W')):=by
 refine callsIn_of_wp Tryz.func232 rfl trivial ?_ rfl;simp only[Tryz.ntmps232,zvA,zvi,zvk,Nat.reduceAdd,Nat.reduceSub,zuI,zuJ,zvx,zuT,zvw,zuU];have c0:W.cell? ⟨bx,0,none⟩=some (.slice (some ⟨g,0,none⟩) n cap):=(zvW _ _ _ _ _ _ hb:W.cell? ⟨bx,0,none⟩=_);have HT:=hidF hT;clear hT
 gi_wp2
 clear c0
 gi_loopw [3] (fun i wr=>∃(j:Nat) (pre:List (BelN n)),Hid (pre.length=j)/\j<=n/\i=.int .i64 ((n:Int)-1-j)/\J pre wr/\wr.heap[bx]?=some (.cells #[.slice (some ⟨g,0,none⟩) n cap] 300 (0,0))/\Hid (∀i,i<n->wr.cell? ⟨g,i*2,none⟩=some (.pointer (some ⟨pa i,0,none⟩))/\wr.cell? ⟨g,i*2+1,none⟩=some (.bool (po i))))
  (fun i _=>(intOf i+1).toNat)
 case atStart=>exact⟨0,[],rfl,zvT _,by simp,h0,hb,HT⟩
 case round=>
  clear hb HT h0;obtain⟨j,pre,Hp,hj,rfl,hJ,hb,HT⟩:=hrel
  by_cases hlt:j<n
  case neg=>
   obtain rfl:j=n:=by omega
   have hd:¬(0:Int)<=(j:Int)-1-(j:Int):=by omega
   have hd2:decide ((0:Int)<=(j:Int)-1-(j:Int))=false:=by simp;omega
   gi_wp2
   go_end0
   exact⟨⟨_,rfl⟩,.inl ⟨pre,Hp.out,hJ⟩⟩
  have c0:wr.cell? ⟨bx,0,none⟩=some (.slice (some ⟨g,0,none⟩) n cap):=(zvW _ _ _ _ _ _ hb:wr.cell? ⟨bx,0,none⟩=_);obtain⟨k,hk⟩:∃k:Nat,(n:Int)-1-j=k:=⟨n-1-j,by omega⟩;have hkn:k<n:=by omega
  obtain⟨c1,c2⟩:=HT.out k hkn;have hi0:(0:Int)<=(k:Int):=by omega
  have hi1:(k:Int)<(n:Int):=by omega
  obtain⟨fn,tmps,assign,body,hy,hR⟩:=hY pre ⟨k,hkn⟩ wr hJ (by have:=Hp.out;show k+pre.length+1=n;omega);have Hk:Hid ((n:Int)-1-j=k):=hk;rw[hk];unfold encL at hy;clear hY hk
  gi_wp2
  refine hR.mono ?_;rintro e W3 (⟨rfl,hJ3,hk3⟩|⟨rfl,hJx3⟩)
  ·have HT3:Hid (∀i,i<n->W3.cell? ⟨g,i*2,none⟩=some (.pointer (some ⟨pa i,0,none⟩))/\W3.cell? ⟨g,i*2+1,none⟩=some (.bool (po i))):=fun i hi=>⟨(World.cell?_of_block (hk3 g (by simp))).trans (HT.out i hi).1,(World.cell?_of_block (hk3 g (by simp))).trans (HT.out i hi).2⟩
   have hb3:=(hk3 bx (by simp)).trans hb
   gi_wp2
   go_roundw
   case rel=>exact⟨j+1,pre++[⟨k,hkn⟩],by show _=_;rw[zvh,Hp.out];rfl,by omega,by congr 1;have:=Hk.out;omega,hJ3,hb3,HT3⟩
   case measure=>first|(simp[intOf];done)|(simp[intOf];omega)
  ·gi_wp2
   refine zvV (results_none rfl _ _ _) rfl ?_;exact⟨⟨_,rfl⟩,.inr ⟨_,⟨by simp,by rw[zvh,Hp.out];simp;omega⟩,hJx3⟩⟩
theorem znu(m n g cap bx:Nat)(pa:Nat->Nat)(po:Nat->Bool)(hm:1<=m)(hn:n<=100000)(w:World)(hb:w.heap[bx]?=some (.cells #[.slice (some ⟨g,0,none⟩) n cap] 300 (0,0)))(hT:∀i,i<n->w.cell? ⟨g,i*2,none⟩=some (.pointer (some ⟨pa i,0,none⟩))/\w.cell? ⟨g,i*2+1,none⟩=some (.bool (po i))):
  SeqS m Tryz.prog 232 #[] #[.pointer (some ⟨bx,0,none⟩)] (encL (n:=n) pa po) [bx,g] (fun ys:List (BelN n)=>ys.length=n) (fun pre:List (BelN n)=>0<pre.length/\pre.length<=n) (fun pre x=>x.1+pre.length+1=n) w:=
 fun l J Jx W hW hY h0=>zq7 m l n g cap bx pa po hm hn J Jx W hY ((hW bx (by simp)).trans hb) (fun i hi=>⟨(World.cell?_of_block (hW g (by simp))).trans (hT i hi).1,(World.cell?_of_block (hW g (by simp))).trans (hT i hi).2⟩) h0
theorem zoN(g n cap:Nat)(w:World):
  Calls Tryz.prog 230 #[.slice (some ⟨g,0,none⟩) n cap] w fun e w'=>e=.returned (.func (.func 232) #[] #[.pointer (some ⟨w.heap.size,0,none⟩)])/\w'=w.alloc (.cells #[.slice (some ⟨g,0,none⟩) n cap] 300):=by
 go_enter Tryz.func230,Tryz.ntmps230
 go_wp2;go_ret;exact⟨rfl,rfl⟩
end Go.Proofs.YtdimhpfiieepiaaGreatDoor
