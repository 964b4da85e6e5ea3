import Derived.Test.YthddplbodacjgaaGreatDoorC27
import Derived.Deep.WholeRow
import Derived.Laws.Tables
namespace Go.Proofs.YthddplbodacjgaaGreatDoor
set_option maxHeartbeats 4000000
set_option maxRecDepth 100000
open Go.RowKit
section
variable {A:Nat -> List (Nat×Nat)}{B gI n:Nat}{W W':World}{v:Nat -> Value}
attribute [local go_sem] Oper.semAt_some
theorem Tryz.zeroMarksR(w:World):(zeroValue 213).run Tryz.prog w=.ok (.agg (zbV 256 fun _=>false)) w:=by
 simp[zeroValue,typeInfo]
 kernel_rfl
theorem Tryz.infoArrows:(Tryz.prog.info? 188).map (fun i=>(i.zero,i.size,i.bytes))=some (some (.slice none 0 0),1,24):=by kernel_rfl
def KpA(W W':World):Prop:=∀(b:Nat) (o:Obj),W.heap[b]?=some o->(∀cs,o≠.cells cs 190 (0,0))->(∀cs,o≠.cells cs 188 (0,0))->W'.heap[b]?=some o
theorem KpA.refl(W:World):KpA W W:=fun _ _ h _ _=>h
theorem KpA.trans{A B C:World}(h:KpA A B)(k:KpA B C):KpA A C:=fun b o hb h1 h2=>k b o (h b o hb h1 h2) h1 h2
theorem ArS.kept(S:ArS B W gI n v A){i:Nat}(hi:i<n)(hg:W.grownBy W' (v i).ownBlock)(u:Value):KpA W (W'.setCell ⟨gI,i,none⟩ u):=fun b o hb h1 h2=>by
 have hlt:=(ztp.1 hb).1;have hb1:W'.heap[b]?=some o:=(hg.block b hlt (fun e=>by
  obtain⟨_,cur,hc⟩:=zbK (S.rows i hi) e.symm;rw[hc] at hb;exact h1 cur (Option.some.inj hb).symm)).trans hb
 refine(zuS _ _ _ _ (fun e=>?_)).trans hb1;have e2:b=gI:=e;obtain⟨_,cur,hc⟩:=zbK S.out (k:=gI) rfl;rw[e2,hc] at hb;exact h2 cur (Option.some.inj hb).symm
theorem ArS.lower{w:World}(S:ArS B W gI n v A)(hB:B<=W.heap.size){i:Nat}(hi:i<n)(hg:W.grownBy W' (v i).ownBlock)(u:Value)(h:Below B w W):Below B w (W'.setCell ⟨gI,i,none⟩ u):=
 (h.grown hg hB (fun _ hb=>(zbK (S.rows i hi) hb).1)).setCell (p:=⟨gI,i,none⟩) (zbK S.out (k:=gI) rfl).1 u
theorem zg4{sz:Nat}{e:TypeId}{v:Value}{xs:List Value}(h:W.ownsRow B e sz v n xs):∃p:Option Addr×Nat,v=.slice p.1 n p.2:=by
 rcases h.2 with ⟨rfl,h0⟩|⟨g,cap,_,rfl,_⟩
 ·exact⟨(none,0),by rw[h0]⟩
 ·exact⟨(some ⟨g,0,none⟩,cap),rfl⟩
theorem ArS.cells(S:ArS B W gI n v A)(h:∀(b:Nat) (cs:Array Value) (t:TypeId),W.heap[b]?=some (.cells cs t (0,0))->W'.heap[b]?=some (.cells cs t (0,0))):ArS B W' gI n v A:=
 ⟨za6 S.out fun b cs hb=>h b cs _ hb,fun s hs=>za6 (S.rows s hs) fun b cs hb=>h b cs _ hb,S.apart⟩
theorem ArS.start(h:W.ownsRow B 188 1 (.slice (some ⟨gI,0,none⟩) n n) n (rowV (fun _=>.slice none 0 0) n)):ArS B W gI n (fun _=>.slice none 0 0) (fun _=>[]):=
 ⟨h,fun _ _=>⟨rfl,.inl ⟨rfl,rfl⟩⟩,fun _ _ _ _ _ b hb=>by simp[Value.ownBlock] at hb⟩
theorem zoN(n:Nat):(madeCells (Value.slice none 0 0).cells (n*1)).toList=rowV (fun _=>.slice none 0 0) n:=by
 apply ztL
 intro i
 by_cases h:i<n
 ·rw[zeE _ h];simp[madeCells,Value.cells,Nat.mod_one,h]
 ·rw[ztU (by simp[madeCells];omega),ztU (by simp[rowV];omega)]
def ArR(w:World)(d:DfaD)(e:Ending)(w':World):Prop:=∃(gI:Nat) (v:Nat->Value) (A:Nat->List (Nat×Nat)),e=.returned (.slice (some ⟨gI,0,none⟩) d.tag.length d.tag.length)/\ArS w.heap.size w' gI d.tag.length v A/\ArI d A d.tag.length 0/\Below w.heap.size w w'
theorem zn3(cv nv tv ev:Value)(d:DfaD)(w:World)(hs:zbU 0 w cv nv tv ev d)(hf:zaE d):
  Calls Tryz.prog 90 #[.agg #[cv,.int .i64 d.width,nv,tv,ev]] w (ArR w d):=by
 have hzm:=Tryz.zeroMarksR;obtain⟨iA,hjA,hyA0,hyA1,hyA2⟩:=info_parts Tryz.infoArrows;obtain⟨⟨ca,cc,rfl,cm,cx⟩,⟨na,nc,rfl,nm,nx⟩,⟨ta,tc,rfl,tm,tx⟩,⟨ea,ec,rfl,em,ex⟩⟩:=hs;have hn1:=hf.n1;have hn2:=hf.n2;obtain⟨cb,co,rfl,_,cl,cq⟩:=cx (by have:=hf.cl;omega);obtain⟨nb,no,rfl,_,nl,nq⟩:=nx (by have:=hf.wd;have:=hf.nidx (s:=0) (c:=0) (by omega) (by omega);omega);obtain⟨WD,hWD⟩:∃WD,w.alloc (.cells #[.slice (some ⟨cb,co,none⟩) d.classes.length cc,.int .i64 d.width,.slice (some ⟨nb,no,none⟩) d.next.length nc,.slice ta d.tag.length tc,.slice ea d.fin.length ec] 26)=WD:=⟨_,rfl⟩;have hWs:WD.heap.size=w.heap.size+1:=by rw[<-hWD];simp
 have xD:WD.heap[w.heap.size]?=some (.cells #[.slice (some ⟨cb,co,none⟩) d.classes.length cc,.int .i64 d.width,.slice (some ⟨nb,no,none⟩) d.next.length nc,.slice ta d.tag.length tc,.slice ea d.fin.length ec] 26 (0,0)):=by rw[<-hWD];exact zuR _ _
 have bD:Below w.heap.size w WD:=by rw[<-hWD];exact(Below.refl _ _).alloc (zuz _) _
 have hsto:(storeCells ⟨w.heap.size+1,0,none⟩ (zbV 256 fun _=>false).toList).run Tryz.prog (WD.alloc (.cells (zbV 256 fun _=>false) 213))=.ok () (WD.alloc (.cells (zbV 256 fun _=>false) 213)):=by
  have:=run_storeCells_new (P:=Tryz.prog) WD 213 (zbV 256 fun _=>false) (zbV 256 fun _=>false) (by kernel_rfl) rfl (by kernel_rfl);rw[hWs] at this
  simpa using this
 refine(callsIn_wide (n:=5)).1 ?_;refine callsIn_of_wp_marks Tryz.func90 rfl trivial ?_ rfl;simp only[Tryz.ntmps90,zuo,zt2,zt4,Nat.reduceAdd,Nat.reduceSub,ztr,zts,zum,ztE,zuj,ztF]
 gi_wp2
 rename_i K hK
 have bM:Below WD.heap.size WD (WD.alloc (.cells (zbV 256 fun _=>false) 213)):=(Below.refl _ _).alloc (zuz _) _;have hsz:(WD.alloc (.cells (zbV 256 fun _=>false) 213)).heap.size=w.heap.size+2:=by simp;omega
 have xM:(WD.alloc (.cells (zbV 256 fun _=>false) 213)).heap[w.heap.size+1]?=some (.cells (zbV 256 (useF d 0)) 213 (0,0)):=by rw[<-hWs];exact zuR _ _
 refine zfr (encs:=zhw) (N:=256) (gf:=63)
  (I:=fun k W=>W.heap[w.heap.size]?=some (.cells #[.slice (some ⟨cb,co,none⟩) d.classes.length cc,.int .i64 d.width,.slice (some ⟨nb,no,none⟩) d.next.length nc,.slice ta d.tag.length tc,.slice ea d.fin.length ec] 26 (0,0))/\W.heap[w.heap.size+1]?=some (.cells (zbV 256 (useF d k)) 213 (0,0))/\Below w.heap.size w W)
  (a₁:=fun k=>{tmps:=#[.agg #[.slice (some ⟨cb,co,none⟩) d.classes.length cc,.int .i64 d.width,.slice (some ⟨nb,no,none⟩) d.next.length nc,.slice ta d.tag.length tc,.slice ea d.fin.length ec],.pointer (some ⟨w.heap.size,0,none⟩),.slice none 0 0,.pointer (some ⟨w.heap.size+1,0,none⟩),.int .i64 (k:Int),undef,undef,undef,undef,.agg (zbV 256 fun _=>false),.int .i64 (k:Int),undef,undef,undef,undef,undef,undef,undef,undef,undef,undef,undef,undef,undef,undef,undef,undef,undef,undef,undef,undef,undef,undef,undef,undef,undef,undef,undef,undef,undef,undef,undef,undef,undef,undef,undef,undef,undef,undef,undef,undef,undef,undef,undef,undef,undef,undef,undef,undef,undef],defers:=[]})
  ?h1 ?hg ?eg ?hseq ?hps ?hI ?h0 ?assign ?body ?done
 case h1=>omega
 case hg=>rfl
 case eg=>exact enters_of Tryz.func63 (by kernel_rfl) rfl
 case hseq=>exact zdn 4 (by omega)
 case hps=>exact fun _=>rfl
 case hI=>exact OwnFrom.and (Own.from (zgH _ _ _) _) (OwnFrom.and (Own.from (zgH _ (fun k=>zbV 256 (useF d k)) _) _) (ownFrom_below (zuz _) (by omega)))
 case h0=>exact⟨zab xD bM,xM,bD.trans (bM.mono bD.size)⟩
 case assign=>
  intro l k W K hK;unfold zhw
  gi_wp2
  exact hK
 case body=>
  rintro l k W hl ⟨h1,h2,h3⟩ hk;obtain⟨q0,q1,q2,q3,q4⟩:=zaq h1;have hcc:=hf.clc hk;have hcw:=hcc.2;have c1:W.cell? ⟨cb,co+k,none⟩=some (.int .i64 (clN d k:Int)):=by rw[h3.cell (p:=⟨cb,co+k,none⟩) cl,cq k (by have:=hf.cl;omega),hcc.1]
  have c2:W.cell? ⟨w.heap.size+1,clN d k,none⟩=some (.bool (useF d k (clN d k))):=by rw[zuO _ _ _ _ _ _ h2,zc9 _ _ (by have:=hf.wd;omega)]
  have f2:=zuQ _ _ (clN d k) _ _ h2;have hs2:=zuT W (w.heap.size+1) (clN d k) _ _ (.bool true) h2;rw[zgs,zpV] at hs2;have HN:Hid _:=hs2;have H1:Hid _:=h1;have hi1:(k:Int)<(d.classes.length:Int):=by have:=hf.cl;omega
  have hi2:((clN d k:Nat):Int)<256:=by have:=hf.wd;omega
  clear hs2 h1 h2 hcc hzm hsto cq nq hK;generalize hcN:clN d k=c at *
  gi_wp2
  refine⟨(KeepsOthers.setCell _ _ _).from _,(zuS _ _ _ _ (by simp)).trans H1.out,HN.out,h3.setCell (p:=⟨w.heap.size+1,c,none⟩) (by simp) _⟩
 case done=>
  rintro D W hDe ⟨h1,h2,h3⟩ hD;have hDw:w.heap.size<=D:=by omega
  clear hDe;refine hK _ _ (wpIn_wide.2 ?_);dsimp only;have hsW:=h3.size;obtain⟨q0,q1,q2,q3,q4⟩:=zaq h1;have HF:Hid (zaE d):=hf;have H1:Hid _:=h1;have H2:Hid _:=h2;have H3:Hid _:=h3;have HD:Hid _:=hD;clear h1 h2 h3 hD hf hzm hsto hK xD bD bM xM hWD hWs hsz WD
  go_wp2_with (refine wpList_make_full _ rfl _ _ 181 rfl w.heap.size 188 iA _ 1 Tryz.underlying181 hjA hyA0 hyA1 _ _ _ _ d.tag.length rfl rfl rfl rfl (by rw[hyA2];omega) (by unfold maxLen;omega) hsW ?_;intro w1 hown1 hgrow1;have hb1:Below W.heap.size W w1:=(Below.refl _ _).grown hgrow1 (zuz _) (by intro k h;cases h);obtain⟨r0,r1,r2,r3,r4⟩:=zaq (zab H1.out hb1))
  rw[zoN] at hown1;have HS1:Hid _:=ArS.start hown1;have B1:=zab H1.out hb1;have B2:=zab H2.out hb1;have BD:w1.heap[D]?=some (.deferred (some [])):=(hb1.block D (ztp.1 HD.out).1).trans HD.out;have HB1:Hid (Below w.heap.size w w1):=H3.out.trans (hb1.mono hsW);have hsz1:=HB1.out.size;have HQ:Hid (∀W',KpA w1 W'->W'.heap[w.heap.size]?=some (.cells #[.slice (some ⟨cb,co,none⟩) d.classes.length cc,.int .i64 d.width,.slice (some ⟨nb,no,none⟩) d.next.length nc,.slice ta d.tag.length tc,.slice ea d.fin.length ec] 26 (0,0))/\W'.heap[w.heap.size+1]?=some (.cells (zbV 256 (useF d 256)) 213 (0,0))/\W'.heap[D]?=some (.deferred (some []))):=fun W' k=>
   ⟨k _ _ B1 (fun cs e=>absurd (zap (congrArg some e)) (by decide)) (fun cs e=>absurd (zap (congrArg some e)) (by decide)),k _ _ B2 (fun cs e=>absurd (zap (congrArg some e)) (by decide)) (fun cs e=>absurd (zap (congrArg some e)) (by decide)),k _ _ BD (fun cs e=>by cases e) (fun cs e=>by cases e)⟩
  have Hnq:Hid (∀i:Nat,i<d.next.length->w.cell? ⟨nb,no+i,none⟩=some (.int .i64 (d.next.getD i 0))):=nq;clear hown1 hgrow1 B1 B2 BD H1 H2 HD q0 q1 q2 q3 q4 r0 r1 r2 r3 r4 hb1 nq cq
  go_loopw [24] (fun i wr=>∃(k:Nat) (v:Nat->Value) (A:Nat->List (Nat×Nat)),k<=d.tag.length/\i=.int .i64 k/\Hid (ArS w.heap.size wr W.heap.size d.tag.length v A)/\Hid (ArI d A k 0)/\Hid (KpA w1 wr)/\Hid (Below w.heap.size w wr))
   (fun i _=>d.tag.length-(intOf i).toNat)
  case atStart=>exact⟨0,_,_,zuL _,rfl,HS1.out,ArI.start d,KpA.refl _,HB1.out⟩
  case round=>
   clear HS1;obtain⟨k,v,A,hk,rfl,HS,HI,HK,HB⟩:=hrel
   by_cases hk2:k<d.tag.length
   ·obtain⟨q0,q1,q2,q3,q4⟩:=zaq (HQ.out wr HK.out).1;have hi1:(k:Int)<(d.tag.length:Int):=by omega
    go_wp2;clear q0 q1 q2 q3 q4
    go_loopw [29] (fun i wr=>∃(c:Nat) (v:Nat->Value) (A:Nat->List (Nat×Nat)),c<=wdN d/\i=.int .i64 c/\Hid (ArS w.heap.size wr W.heap.size d.tag.length v A)/\Hid (ArI d A k c)/\Hid (KpA w1 wr)/\Hid (Below w.heap.size w wr))
     (fun i _=>wdN d-(intOf i).toNat)
    case atStart=>exact⟨0,v,A,zuL _,rfl,HS,HI,HK,HB⟩
    case round=>
     clear HS HI HK HB;obtain⟨c,v,A,hc,rfl,HS,HI,HK,HB⟩:=hrel;have hwd:=HF.out.wd;have hw2:=hwd.2.2
     by_cases hc2:c<wdN d
     ·obtain⟨hX1,hX2,hX3⟩:=HQ.out wr HK.out;obtain⟨q0,q1,q2,q3,q4⟩:=zaq hX1;have u1:wr.cell? ⟨w.heap.size+1,c,none⟩=some (.bool (useF d 256 c)):=by rw[zuO _ _ _ _ _ _ hX2,zc9 _ _ (by omega)]
      have hi2:(c:Int)<d.width:=by rw[hwd.1];omega
      have hi3:(c:Int)<256:=by omega
      clear hX1 hX2 hX3
      by_cases hu:useF d 256 c=true
      ·have hcu:=(zmD HF.out hc2).1 hu;have hnx:=HF.out.nx hk2 hc2;have htn:=hnx.2;have hidx:=HF.out.nidx hk2 hc2;have hmul:k*wdN d<=4000*256:=zuG (by omega) hw2;have c2:=(HB.out.cell (p:=⟨nb,no+(k*wdN d+c),none⟩) nl).trans (Hnq.out _ hidx);rw[hnx.1] at c2;have hjn:((k:Int)*d.width+(c:Int))=((k*wdN d+c:Nat):Int):=by rw[hwd.1];simp
       have hj0:(0:Int)<=(k:Int)*d.width:=by rw[hwd.1];exact Int.mul_nonneg (by omega) (by omega)
       have hj1:(k:Int)*d.width<=1024000:=by
        rw[hwd.1];have:((k*wdN d:Nat):Int)<=((4000*256:Nat):Int):=by exact_mod_cast hmul
        simpa using this
       have hj2:(k:Int)*d.width+(c:Int)<(d.next.length:Int):=by rw[hjn];exact_mod_cast hidx
       have htn2:((k:Int)*d.width+(c:Int)).toNat=k*wdN d+c:=by rw[hjn];exact ztB _
       rw[<-htn2] at c2;have hx0:0<=(k:Int)*d.width+(c:Int):=by omega
       have hx1:(k:Int)*d.width+(c:Int)<=2000000:=by omega
       have hA1:=HI.out.len (nxN d k c);have HA:Hid _:=HI.out.add hcu rfl;generalize nxN d k c=t at *;obtain⟨⟨pa,pc⟩,hv⟩:=zg4 (HS.out.rows t htn);have o1:=HS.out.out.cellAt t (by omega);rw[zeE v htn,hv] at o1;have hsr:=HB.out.size;have Hv:Hid _:=hv;have hi4:(t:Int)<(d.tag.length:Int):=by omega
       have hA2:(A t).length<=2000000:=by omega
       clear htn2 hjn hidx hmul hnx hv hwd hA1;obtain⟨P,hP⟩:∃P,(k:Int)*d.width=P:=⟨_,rfl⟩;rw[hP] at hj0 hj1 hj2 c2 hx0 hx1;have HX:Hid (∀g cap W',W'.ownsRow w.heap.size 190 2 (.slice (some ⟨g,0,none⟩) ((A t).length+1) cap) ((A t).length+1) (zf4 (A t++[(k,c)]))->wr.grownBy W' (v t).ownBlock->((v t).ownBlock=some g\/wr.heap.size<=g)->
         W'.cell? ⟨W.heap.size,t,none⟩=some (.slice pa (A t).length pc)/\W'.frozen? ⟨W.heap.size,t,none⟩=false/\Hid (ArS w.heap.size (W'.setCell ⟨W.heap.size,t,none⟩ (.slice (some ⟨g,0,none⟩) ((A t).length+1) cap)) W.heap.size d.tag.length (upd v t (.slice (some ⟨g,0,none⟩) ((A t).length+1) cap)) (fun j=>if j=t then A t++[(k,c)] else A j)/\KpA w1 (W'.setCell ⟨W.heap.size,t,none⟩ (.slice (some ⟨g,0,none⟩) ((A t).length+1) cap))/\Below w.heap.size w (W'.setCell ⟨W.heap.size,t,none⟩ (.slice (some ⟨g,0,none⟩) ((A t).length+1) cap)))):=fun g cap W' ho hg hat=>by
        obtain⟨a1,a2,a3⟩:=HS.out.app htn ho hg hat;rw[Hv.out] at a1;exact⟨a1,a2,a3,HK.out.trans (HS.out.kept htn hg _),HS.out.lower hsr htn hg _ HB.out⟩
       generalize hAl:(A t).length=m at *
       go_wp2_with (at_builtin;refine zp3 HS.out _ rfl rfl (.tmp 50) (.tmp 54) rfl t htn m hAl (by exact Hv.out.symm) k c rfl hA2 hsr ?_;intro g' cap' w5 ho5 hg5 hat5;obtain⟨b1,b2,HY⟩:=HX.out g' cap' w5 ho5 hg5 hat5;clear ho5 hg5 hat5)
       go_roundw
       case rel=>exact⟨c+1,_,_,by omega,by go_num,HY.out.1,HA.out,HY.out.2.1,HY.out.2.2⟩
       case measure=>simp[intOf];omega
      ·have hcu:c∉zbu d (wdN d):=fun h=>hu ((zmD HF.out hc2).2 h)
       have hub:useF d 256 c=false:=by simpa using hu
       rw[hub] at u1;have HA:Hid _:=HI.out.skip hcu;clear hwd hu;go_wp2
       go_roundw
       case rel=>exact⟨c+1,v,A,by omega,by go_num,HS,HA,HK,HB⟩
       case measure=>simp[intOf];omega
     ·have hcc:c=wdN d:=by omega
      have hi2:¬(c:Int)<d.width:=by rw[hwd.1];omega
      have HA:Hid (ArI d A (k+1) 0):=by
       have:=HI.out;rw[hcc] at this;exact this.row HF.out
      clear hwd hcc;go_wp2
      go_roundw
      case rel=>exact⟨k+1,v,A,by omega,by go_num,HS,HA,HK,HB⟩
      case measure=>simp[intOf];omega
   ·have hkk:k=d.tag.length:=by omega
    have hi2:¬(k:Int)<(d.tag.length:Int):=by omega
    have hX3:=(HQ.out wr HK.out).2.2;have HA:Hid (ArI d A d.tag.length 0):=by rw[<-hkk];exact HI.out
    clear hkk;go_wp2;have hcell:∀(b:Nat) (cs:Array Value) (t:TypeId),wr.heap[b]?=some (.cells cs t (0,0))->(wr.putObj D (.deferred none)).heap[b]?=some (.cells cs t (0,0)):=fun b cs t hb=>(World.putObj_heap_other (fun e:b=D=>by rw[e,hX3] at hb;cases hb)).trans hb
    refine⟨by simp,.inl ⟨_,_,rfl,run_takeDeferred hX3,?_⟩⟩;exact⟨.slice (some ⟨W.heap.size,0,none⟩) d.tag.length d.tag.length,by simp[results,Tryz.results90,go_sem],W.heap.size,v,A,rfl,HS.out.cells hcell,HA.out,HB.out.grown (grownBy_putObj' _ D _) HB.out.size (fun q e=>by cases e;exact hDw)⟩
end
variable {g n:Nat}
attribute [local go_sem ↓] Go.wp_at_zero Go.wp_at_succ
theorem zjY{w:World}{base:Nat}{e:TypeId}{sz:Nat}{xs:List Value}(h:w.ownsRow base e sz (.slice (some ⟨g,0,none⟩) n n) n xs):w.heap[g]?=some (.cells xs.toArray e (0,0)):=by
 rcases h.2 with ⟨h,_⟩|⟨g',cap,cr,h,_,hrow,_,_,hsz,htk⟩
 ·cases h
 ·cases h
  rw[hrow]
  congr 2
  apply Array.ext'
  rw[zur (by simp[hsz])] at htk;rw[htk]
theorem Tryz.buildTr(a b:Int)(w:World):(Instr.build 192 #[(1,.int .u64 a),(2,.int .u64 b)]).run Tryz.prog w=.ok (.agg #[.int .u64 0,.int .u64 a,.int .u64 b,.int .u64 0,.int .u64 0]) w:=run_build w 192 _ _ (by kernel_rfl)
attribute [local go_sem] Tryz.buildTr
def ansT(d:DfaD)(s:Nat):Tr:=(0,(d.tag.getD s 0+1).toNat,(d.fin.getD s 0+1).toNat,0,0)
def stP(n k:Nat):List Nat:=(List.range n).map fun j=>if j<k then j else 0
theorem zro(n:Nat):stP n 0=List.replicate n 0:=by
 apply ztL
 intro i
 by_cases h:i<n
 ·simp[stP,h]
 ·simp[stP,h]
theorem zsF(n:Nat):stP n n=List.range n:=by
 apply ztL
 intro i
 by_cases h:i<n
 ·simp[stP,h]
 ·simp[stP,h]
theorem zsG{k:Nat}(hk:k<n):(stP n k).set k k=stP n (k+1):=by
 apply ztL
 intro i;rw[ztX]
 by_cases h:i<n
 ·by_cases e:k=i
  ·subst e;simp[stP,h]
  ·rw[zuU e];simp only[stP,ztW,List.getElem?_range h,Option.map_some]
   congr 1
   by_cases h2:i<k
   ·rw[zuV h2,zuV (by omega)]
   ·rw[zuU h2,zuU (by omega)]
 ·by_cases e:k=i
  ·omega
  ·rw[zuU e];simp[stP,h]
def trP(d:DfaD)(k:Nat):Nat->Tr:=fun s=>if s<k then ansT d s else kz
theorem zsK(d:DfaD)(k:Nat):updT (trP d k) k (ansT d k)=trP d (k+1):=by
 funext j
 unfold updT trP
 by_cases e:j=k
 ·subst e;rw[zuV rfl,zuV (by omega)]
 ·rw[zuU e]
  by_cases h:j<k
  ·rw[zuV h,zuV (by omega)]
  ·rw[zuU h,zuU (by omega)]
theorem zqI(l:List Nat):(zav l).map intV=natL l:=by simp[zav,natL,intV]
theorem zmo{B c:Nat}{W:World}{l:List Nat}(h:W.ownsRow B 3 1 (.slice (some ⟨g,0,none⟩) n c) n (natL l))(hl:l.length=n):Owns B W (.slice (some ⟨g,0,none⟩) n c) (zav l):=by
 unfold Owns;rw[zqI,zag,hl];exact h
def v3(gO gW gS n:Nat):Nat->Value:=fun i=>if i=0 then .slice (some ⟨gO,0,none⟩) n n else if i=1 then .slice (some ⟨gW,0,none⟩) 1 1 else .slice (some ⟨gS,0,none⟩) n n
def l3(n:Nat):Nat->List Int:=fun i=>if i=0 then zav (List.replicate n 0) else if i=1 then zav [0] else zav (List.range n)
theorem PtS.start{gt:Nat}{w5:World}{gO gS:Nat}(hO:w5.ownsRow (gt+1) 3 1 (.slice (some ⟨gO,0,none⟩) n n) n (natL (List.replicate n 0)))(hS:w5.ownsRow (gt+1) 3 1 (.slice (some ⟨gS,0,none⟩) n n) n (natL (List.range n)))(hne:gO≠gS)(hs:gt+1<=w5.heap.size):
  PtS gt (((w5.alloc (.cells #[.slice (some ⟨gS,0,none⟩) n n] 24)).alloc (.cells #[.int .i64 0] 3)).alloc (.cells #[.slice (some ⟨gO,0,none⟩) n n,.slice (some ⟨w5.heap.size,0,none⟩) 1 1,.slice (some ⟨w5.heap.size+1,0,none⟩) 1 1] 187)) (w5.heap.size+1+1) (.slice (some ⟨w5.heap.size,0,none⟩) 1 1) 1 (fun _=>2) (v3 gO (w5.heap.size+1) gS n) (l3 n) 3 (List.replicate n 0) [0] (fun _=>List.range n):=by
 have hb1:Below w5.heap.size w5 (w5.alloc (.cells #[.slice (some ⟨gS,0,none⟩) n n] 24)):=(Below.refl _ _).alloc (zuz _) _;have e1:(w5.alloc (.cells #[.slice (some ⟨gS,0,none⟩) n n] 24)).heap.size=w5.heap.size+1:=by simp
 have n1:=zuR w5 (.cells #[.slice (some ⟨gS,0,none⟩) n n] 24);generalize w5.alloc (.cells #[.slice (some ⟨gS,0,none⟩) n n] 24)=A1 at *;have hb2:Below A1.heap.size A1 (A1.alloc (.cells #[.int .i64 0] 3)):=(Below.refl _ _).alloc (zuz _) _;have e2:(A1.alloc (.cells #[.int .i64 0] 3)).heap.size=w5.heap.size+1+1:=by simp[e1]
 have n2:=zuR A1 (.cells #[.int .i64 0] 3);rw[e1] at n2;generalize A1.alloc (.cells #[.int .i64 0] 3)=A2 at *;have hb3:Below A2.heap.size A2 (A2.alloc (.cells #[.slice (some ⟨gO,0,none⟩) n n,.slice (some ⟨w5.heap.size,0,none⟩) 1 1,.slice (some ⟨w5.heap.size+1,0,none⟩) 1 1] 187)):=(Below.refl _ _).alloc (zuz _) _;have n3:=zuR A2 (.cells #[.slice (some ⟨gO,0,none⟩) n n,.slice (some ⟨w5.heap.size,0,none⟩) 1 1,.slice (some ⟨w5.heap.size+1,0,none⟩) 1 1] 187);rw[e2] at n3;generalize A2.alloc (.cells #[.slice (some ⟨gO,0,none⟩) n n,.slice (some ⟨w5.heap.size,0,none⟩) 1 1,.slice (some ⟨w5.heap.size+1,0,none⟩) 1 1] 187)=A3 at *;have h1:=zab (zab n1 hb2) hb3;have h2:=zab n2 hb3;have hO3:=zad (zad (zad hO hb1) hb2) hb3;have hS3:=zad (zad (zad hS hb1) hb2) hb3;have lO:=zcj hO;have lS:=zcj hS;refine⟨⟨fun i hi=>?_,fun i j hi hj hij b hbi=>?_⟩,by omega,n3,by omega,?_,fun _ _=>⟨by omega,by omega⟩,rfl,rfl,fun _ _=>rfl⟩
 ·match i,hi with
  |0,_=>exact zmo hO3 (by simp)
  |1,_=>exact ziM h2 (by omega)
  |2,_=>exact zmo hS3 (by simp)
 ·match i,hi,j,hj with
  |0,_,0,_=>omega
  |0,_,1,_=>simp[v3,Value.ownBlock] at hbi ⊢;omega
  |0,_,2,_=>simp[v3,Value.ownBlock] at hbi ⊢;omega
  |1,_,0,_=>simp[v3,Value.ownBlock] at hbi ⊢;omega
  |1,_,1,_=>omega
  |1,_,2,_=>simp[v3,Value.ownBlock] at hbi ⊢;omega
  |2,_,0,_=>simp[v3,Value.ownBlock] at hbi ⊢;omega
  |2,_,1,_=>simp[v3,Value.ownBlock] at hbi ⊢;omega
  |2,_,2,_=>omega
 ·exact⟨rfl,.inr ⟨w5.heap.size,1,_,rfl,hs,h1,zuz _,by unfold maxLen;omega,rfl,rfl⟩⟩
theorem PtM.start(hn:0<n):PtM n 1 (List.replicate n 0) [0] (fun _=>List.range n):=by
 have h0:∀s,s<n->(List.replicate n 0).getD s 0=0:=fun s hs=>by simp[List.getD,hs]
 refine⟨by simp,fun s hs=>by rw[h0 s hs];omega,fun x hx s=>?_,fun _ _=>List.nodup_range,fun _ _=>by simpa using hn,fun b hb=>by simp at hb;omega⟩;rw[zuh];exact⟨fun h=>⟨h,by rw[h0 s h];omega⟩,fun h=>h.1⟩
def PaR(w:World)(d:DfaD)(e:Ending)(w':World):Prop:=
 ∃(p g' c' m':Nat) (mi':Nat->Nat) (v':Nat->Value) (l':Nat->List Int) (N':Nat) (o' wk':List Nat) (mem':Nat->List Nat),e=.returned (.pointer (some ⟨p,0,none⟩))/\PtS w.heap.size w' p (.slice (some ⟨g',0,none⟩) m' c') m' mi' v' l' N' o' wk' mem'/\PtM d.tag.length m' o' wk' mem'/\
  (∀s t,s<d.tag.length->t<d.tag.length->(o'.getD s 0=o'.getD t 0↔anN d s=anN d t))/\(∀s,s<d.tag.length->o'.getD s 0∈wk')/\wk'.length=m'/\Below w.heap.size w w'
theorem zm1{d:DfaD}(hf:zaE d){s t:Nat}(hs:s<d.tag.length)(ht:t<d.tag.length):(∀g∈(List.range (zaL (List.replicate d.tag.length 0) (trP d d.tag.length) (List.range d.tag.length)).length).map (grpJ (List.replicate d.tag.length 0) (trP d d.tag.length) (List.range d.tag.length)),(s∈g↔t∈g))↔anN d s=anN d t:=by
 have hk:∀x,x<d.tag.length->zbL (List.replicate d.tag.length 0) (trP d d.tag.length) x=ansT d x:=fun x hx=>by
  unfold zbL trP;rw[zuV hx];simp[ansT,List.getD,hx]
 have hk2:ansT d s=ansT d t↔anN d s=anN d t:=by
  have s1:=zcZ hf.ts (k:=s) (by omega);have s2:=zcZ hf.es (k:=s) (by have:=hf.fl;omega);have t1:=zcZ hf.ts (k:=t) (by omega);have t2:=zcZ hf.es (k:=t) (by have:=hf.fl;omega);unfold ansT anN;simp only[Prod.mk.injEq,true_and,and_true];constructor
  ·rintro ⟨a,b⟩;exact⟨by omega,by omega⟩
  ·rintro ⟨a,b⟩;exact⟨by rw[a],by rw[b]⟩
 rw[<-hk2,<-hk s hs,<-hk t ht];constructor
 ·intro h;have hm:zbL (List.replicate d.tag.length 0) (trP d d.tag.length) s∈zaL (List.replicate d.tag.length 0) (trP d d.tag.length) (List.range d.tag.length):=zez.2 ⟨s,by simpa using hs,rfl⟩;have:=(h _ (zug.2 ⟨idxR _ _,by simpa using zcr.2 hm,rfl⟩)).1 (by unfold grpJ;rw[zej hm];exact zbI.2 ⟨by simpa using hs,rfl⟩);unfold grpJ at this;rw[zej hm] at this;exact(zbI.1 this).2.symm
 ·intro h g hg;obtain⟨j,_,rfl⟩:=zug.1 hg;unfold grpJ;rw[zbI,zbI,h];simp[hs,ht]
theorem zo6(cv nv tv ev:Value)(d:DfaD)(w:World)(hs:zbU 0 w cv nv tv ev d)(hf:zaE d):
  Calls Tryz.prog 91 #[.agg #[cv,.int .i64 d.width,nv,tv,ev]] w (PaR w d):=by
 have hmix:Tryz.prog.follows .mixedOrders=true:=by kernel_rfl
 obtain⟨i0,hi,hz0,hz1,hz2⟩:=info_parts Tryz.infoInt;obtain⟨iT,hjT,hyT0,hyT1,hyT2⟩:=info_parts Tryz.infoTrait;have hn1:=hf.n1;have hn2:=hf.n2;obtain⟨⟨ca,cc,rfl,cm,cx⟩,⟨na,nc,rfl,nm,nx⟩,⟨ta,tc,rfl,tm,tx⟩,⟨ea,ec,rfl,em,ex⟩⟩:=hs;obtain⟨tb,to2,rfl,_,tl,tq⟩:=tx (by omega);obtain⟨eb,eo2,rfl,_,el,eq⟩:=ex (by have:=hf.fl;omega);generalize Value.slice ca d.classes.length cc=cv at *;generalize Value.slice na d.next.length nc=nv at *;obtain⟨W0,hW0⟩:∃W0,w.alloc (.cells #[cv,.int .i64 d.width,nv,.slice (some ⟨tb,to2,none⟩) d.tag.length tc,.slice (some ⟨eb,eo2,none⟩) d.fin.length ec] 26)=W0:=⟨_,rfl⟩;have hb0:Below w.heap.size w W0:=by rw[<-hW0];exact(Below.refl _ _).alloc (zuz _) _
 have x0:W0.heap[w.heap.size]?=some (.cells #[cv,.int .i64 d.width,nv,.slice (some ⟨tb,to2,none⟩) d.tag.length tc,.slice (some ⟨eb,eo2,none⟩) d.fin.length ec] 26 (0,0)):=by rw[<-hW0];exact zuR _ _
 have hl0:w.heap.size<W0.heap.size:=zae x0;have Hsz:Hid (W0.heap.size=w.heap.size+1):=by show _=_;rw[<-hW0];simp
 have Hb0:Hid _:=hb0;obtain⟨q0,q1,q2,q3,q4⟩:=zaq x0
 go_enter Tryz.func91,Tryz.ntmps91
 go_wp2_with (first|(refine wpList_make_full _ rfl _ _ 24 rfl W0.heap.size 3 i0 _ 1 Tryz.underlying24 hi hz0 hz1 _ _ _ _ d.tag.length rfl rfl rfl rfl (by rw[hz2];omega) (by unfold maxLen;omega) (zuz _) ?_;intro w1 hown1 hgrow1)|(refine wpList_make_full _ rfl _ _ 185 rfl w1.heap.size 192 iT _ 5 Tryz.underlying185 hjT hyT0 hyT1 _ _ _ _ d.tag.length rfl rfl rfl rfl (by rw[hyT2];omega) (by unfold maxLen;omega) (zuz _) ?_;intro w2 hown2 hgrow2))
 have hb1:Below W0.heap.size W0 w1:=(Below.refl _ _).grown hgrow1 (zuz _) (by intro k h;cases h);have hb2:Below w1.heap.size w1 w2:=(Below.refl _ _).grown hgrow2 (zuz _) (by intro k h;cases h);have hg1:=zcj hown1;have r1:=zad hown1 hb2;rw[ze5,<-zro] at r1;have r2:=zjY hown2;rw[zgQ] at r2;have r3:w2.heap[w1.heap.size]?=some (.cells (zcR d.tag.length (trP d 0)) 192 (0,0)):=r2;have hb02:Below W0.heap.size W0 w2:=hb1.trans (hb2.mono hb1.size);have hs01:=hb1.size;have HF:Hid (zaE d):=hf;have Htq:Hid (∀W,Below W0.heap.size W0 W->∀s,s<d.tag.length->W.cell? ⟨tb,to2+s,none⟩=some (.int .i64 (d.tag.getD s 0))/\W.cell? ⟨eb,eo2+s,none⟩=some (.int .i64 (d.fin.getD s 0))):=fun W hW s hs=>by
  have hBW:Below w.heap.size w W:=hb0.trans (hW.mono hb0.size);exact⟨by rw[hBW.cell (p:=⟨tb,to2+s,none⟩) tl];exact tq s hs,by rw[hBW.cell (p:=⟨eb,eo2+s,none⟩) el];exact eq s (by have:=hf.fl;omega)⟩
 clear hgrow1 hgrow2 hown1 hown2 r2 q0 q1 q2 q3 q4 tq eq hf hW0
 go_loopw [17] (fun i wr=>∃k:Nat,k<=d.tag.length/\i=.int .i64 k/\wr.ownsRow W0.heap.size 3 1 (.slice (some ⟨W0.heap.size,0,none⟩) d.tag.length d.tag.length) d.tag.length (natL (stP d.tag.length k))/\wr.heap[w1.heap.size]?=some (.cells (zcR d.tag.length (trP d k)) 192 (0,0))/\Below W0.heap.size W0 wr)
  (fun i _=>d.tag.length-(intOf i).toNat)
 case atStart=>exact⟨0,zuL _,rfl,r1,r3,hb02⟩
 case round=>
  clear r1 r3 hb02;obtain⟨k,hk,rfl,hown,hrow,hb⟩:=hrel
  by_cases hlt:k<d.tag.length
  ·obtain⟨u0,d0⟩:=zbN hown (j:=k) (by omega);have f0:=hown.frozenAt k;have hst:=(hown.stored k (.int .i64 (k:Int))).1;rw[ziH,zsG hlt] at hst;have hi1:(k:Int)<(d.tag.length:Int):=by omega
   have hif:(k:Int)<(d.fin.length:Int):=by have:=HF.out.fl;omega
   have ht1:=zcZ HF.out.ts (k:=k) (by omega);have ht2:=zcZ HF.out.es (k:=k) (by have:=HF.out.fl;omega);obtain⟨Wx,hWx⟩:∃Wx,wr.setCell ⟨W0.heap.size,k,none⟩ (.int .i64 (k:Int))=Wx:=⟨_,rfl⟩;rw[hWx] at hst;have hbx:Below W0.heap.size W0 Wx:=by rw[<-hWx];exact hb.setCell (zuz _) _
   have hrx:Wx.heap[w1.heap.size]?=some (.cells (zcR d.tag.length (trP d k)) 192 (0,0)):=by
    rw[<-hWx];exact(zuS _ _ _ _ (by simp;omega)).trans hrow
   obtain⟨q0,q1,q2,q3,q4⟩:=zaq ((hbx.block _ hl0).trans x0);obtain⟨c1,c2⟩:=Htq.out Wx hbx k hlt;obtain⟨z0,z1,z2,z3,z4⟩:=zfk hrx hlt;have fz:∀o,Wx.frozen? ⟨w1.heap.size,o,none⟩=false:=fun _=>zuQ _ _ _ _ _ hrx
   have hset:=zj7 hrx k (ansT d k);rw[zsK] at hset;have e1:(((d.tag.getD k 0+1).toNat:Nat):Int)=d.tag.getD k 0+1:=Int.toNat_of_nonneg (by have:=ht1;omega);have e2:(((d.fin.getD k 0+1).toNat:Nat):Int)=d.fin.getD k 0+1:=Int.toNat_of_nonneg (by have:=ht2;omega);unfold ansT at hset;simp only[e1,e2] at hset;have HN:Hid _:=hset;have Hst:Hid _:=hst;have Hbx:Hid _:=hbx;have Hrx:Hid _:=hrx;clear hset hst hrow hrx e1 e2 hbx hb hown;generalize d.tag.getD k 0=t1 at *;generalize d.fin.getD k 0=t2 at *;have HX:Hid (∀nq:Nat,((((((Wx.drewN nq).setCell ⟨w1.heap.size,k*5,none⟩ (.int .u64 0)).setCell ⟨w1.heap.size,k*5+1,none⟩ (.int .u64 (t1+1))).setCell ⟨w1.heap.size,k*5+2,none⟩ (.int .u64 (t2+1))).setCell ⟨w1.heap.size,k*5+3,none⟩ (.int .u64 0)).setCell ⟨w1.heap.size,k*5+4,none⟩ (.int .u64 0)).ownsRow W0.heap.size 3 1 (.slice (some ⟨W0.heap.size,0,none⟩) d.tag.length d.tag.length) d.tag.length (natL (stP d.tag.length (k+1)))/\
     ((((((Wx.drewN nq).setCell ⟨w1.heap.size,k*5,none⟩ (.int .u64 0)).setCell ⟨w1.heap.size,k*5+1,none⟩ (.int .u64 (t1+1))).setCell ⟨w1.heap.size,k*5+2,none⟩ (.int .u64 (t2+1))).setCell ⟨w1.heap.size,k*5+3,none⟩ (.int .u64 0)).setCell ⟨w1.heap.size,k*5+4,none⟩ (.int .u64 0)).heap[w1.heap.size]?=some (.cells (zcR d.tag.length (trP d (k+1))) 192 (0,0))/\
     Below W0.heap.size W0 ((((((Wx.drewN nq).setCell ⟨w1.heap.size,k*5,none⟩ (.int .u64 0)).setCell ⟨w1.heap.size,k*5+1,none⟩ (.int .u64 (t1+1))).setCell ⟨w1.heap.size,k*5+2,none⟩ (.int .u64 (t2+1))).setCell ⟨w1.heap.size,k*5+3,none⟩ (.int .u64 0)).setCell ⟨w1.heap.size,k*5+4,none⟩ (.int .u64 0))):=fun nq=>by
    have hle:W0.heap.size<=w1.heap.size:=hs01;refine⟨za6 Hst.out fun b cs hb=>?_,HN.out,((((((below_drewN Hbx.out nq).setCell hle _).setCell hle _).setCell hle _).setCell hle _).setCell hle _)⟩;have hne:b≠w1.heap.size:=fun e=>by
     rw[e,Hrx.out] at hb;exact absurd (zap hb) (by decide)
    rw[zuS _ _ _ _ (by exact hne),zuS _ _ _ _ (by exact hne),zuS _ _ _ _ (by exact hne),zuS _ _ _ _ (by exact hne),zuS _ _ _ _ (by exact hne)];exact hb
   have hw1:IntKind.u64.wrap (t1+1)=t1+1:=by
    unfold IntKind.wrap;simp[IntKind.signed,IntKind.bits];omega
   have hw2':IntKind.u64.wrap (t2+1)=t2+1:=by
    unfold IntKind.wrap;simp[IntKind.signed,IntKind.bits];omega
   go_wp2;refine zcy 18 hmix (by kernel_rfl) rfl rfl rfl ?_;intro os hos;simp only[zus,zuu] at hos;subst hos
   repeat (go_big_quiet_step (fail))
   refine wpQuiet_nil ?_;intro w' hw' K hK;obtain⟨nq,rfl⟩:=hw'
   first|go_big_move|go_big_op
   refine hK _ _ ?_;go_wp2
   go_roundw
   case rel=>
    obtain⟨a1,a2,a3⟩:=HX.out nq;exact⟨k+1,by omega,by go_num,a1,a2,a3⟩
   case measure=>simp[intOf];omega
  ·have hkk:k=d.tag.length:=by omega
   subst hkk;rw[zsF] at hown;obtain⟨W4,hW4⟩:∃W4,W4=wr:=⟨_,rfl⟩;subst hW4;have hb4:=hb.size;have hbp:Tryz.prog.built 187 [(0,.slice (some ⟨W4.heap.size,0,none⟩) d.tag.length d.tag.length),(1,.slice (some ⟨W4.heap.size+1,0,none⟩) 1 1),(2,.slice (some ⟨W4.heap.size+2,0,none⟩) 1 1)]=some #[.slice (some ⟨W4.heap.size,0,none⟩) d.tag.length d.tag.length,.slice (some ⟨W4.heap.size+1,0,none⟩) 1 1,.slice (some ⟨W4.heap.size+2,0,none⟩) 1 1]:=by kernel_rfl
   go_wp2_with (first|(refine wpList_make_full _ rfl _ _ 24 rfl W4.heap.size 3 i0 _ 1 Tryz.underlying24 hi hz0 hz1 _ _ _ _ d.tag.length rfl rfl rfl rfl (by rw[hz2];omega) (by unfold maxLen;omega) (zuz _) ?_;intro w5 hown5 hgrow5))
   have hb5:Below W4.heap.size W4 w5:=(Below.refl _ _).grown hgrow5 (zuz _) (by intro k h;cases h);rw[ze5] at hown5;have hgt:w.heap.size+1=W0.heap.size:=Hsz.out.symm;have hPS:=PtS.start (gt:=w.heap.size) (zcO hown5 (by omega)) (by rw[hgt];exact zad hown hb5) (by have:=zcj hown;omega) (by have:=hb5.size;omega);have hbA:Below w5.heap.size w5 (((w5.alloc (.cells #[.slice (some ⟨W0.heap.size,0,none⟩) d.tag.length d.tag.length] 24)).alloc (.cells #[.int .i64 0] 3)).alloc (.cells #[.slice (some ⟨W4.heap.size,0,none⟩) d.tag.length d.tag.length,.slice (some ⟨w5.heap.size,0,none⟩) 1 1,.slice (some ⟨w5.heap.size+1,0,none⟩) 1 1] 187)):=(((Below.refl _ _).alloc (zuz _) _).alloc (by simp) _).alloc (by simp;omega) _;have hrA:=zab (zab hrow hb5) hbA;have hcut:=zrA 2 (List.range d.tag.length) w1.heap.size d.tag.length (trP d d.tag.length) _ hPS (PtM.start (by omega)) ⟨by omega,by omega⟩ rfl List.nodup_range (fun s hs=>by simpa using hs) (by omega) (by omega) (by simp) hrA;refine hcut.mono ?_;rintro e w6 ⟨rfl,g',c',m',mi',v',l',N',o',wk',mem',Y1,Y2,Y3,Y4,Y5,Y6,Y7,Y8,Y9,Y10⟩;have HY:Hid (PaR w d (.returned (.pointer (some ⟨w5.heap.size+1+1,0,none⟩))) w6):=by
    refine⟨_,g',c',m',mi',v',l',N',o',wk',mem',rfl,Y1,Y2,fun s t hs ht=>?_,fun s hs=>?_,by simp at Y5;omega,?_⟩
    ·rw[Y3.iff s t hs ht,zm1 HF.out hs ht];simp[List.getD,hs,ht]
    ·rcases Y3.num s hs with k|k
     ·rw[k];simp only[List.getD,List.getElem?_replicate_of_lt hs,Option.getD_some];exact Y3.up 0 (by simp)
     ·exact k
    ·have B1:=Hb0.out.trans (hb.mono Hb0.out.size);have B2:=B1.trans (hb5.mono B1.size);have B3:=B2.trans (hbA.mono B2.size);exact B3.trans (Y8.mono (by omega))
   clear Y1 Y2 Y3 Y4 Y5 Y6 Y7 Y8 Y9 Y10 hcut hrA hPS hbA;go_wp2;refine zuN (v:=.pointer (some ⟨w5.heap.size+1+1,0,none⟩)) (by simp[results,Tryz.results91,go_sem]) rfl HY.out
end Go.Proofs.YthddplbodacjgaaGreatDoor
