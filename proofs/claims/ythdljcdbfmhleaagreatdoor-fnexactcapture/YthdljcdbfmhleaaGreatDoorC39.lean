import Derived.Test.YthdljcdbfmhleaaGreatDoorC38
import Derived.Deep.RegionHeld3
import Derived.Deep.DrawnRows
import Derived.Deep.QuietTactic
import Derived.BigQuiet
namespace Go.Proofs.YthdljcdbfmhleaaGreatDoor
set_option maxHeartbeats 4000000
set_option maxRecDepth 100000
open Go.RowKit
attribute [local go_sem ↓] Go.wp_at_zero Go.wp_at_succ
abbrev BoxB(ao:Option Addr)(ns:List zak)(c gl cl gr cr:Nat)(t:ByteArray):Obj:=.cells #[.slice ao ns.length c,.slice (some ⟨gl,0,none⟩) ns.length cl,.slice (some ⟨gr,0,none⟩) ns.length cr,.string t] 46 (0,0)
theorem zmA{u:Word}{p:Pt}{i j:Nat}{S:List Bool}{n:Nat}(h:zcn n S (zaU u (In p) (· = i))):S.getD j false=true↔Lg u p i j:=(h.iff j).trans zm5.symm
theorem zeP(ns:List zak)(n:Nat)(hE:zbO ns n)(w:World)(ao:Option Addr)(c gl cl gr cr:Nat)(t:ByteArray)(i j:Nat)(hbr:BrAt w ns (.slice ao ns.length c) gl gr)(hi:i<=t.size)(hj:j<=t.size)(ht:t.size<=4096):
  Calls Tryz.prog 32 #[.agg #[.slice ao ns.length c,.slice (some ⟨gl,0,none⟩) ns.length cl,.slice (some ⟨gr,0,none⟩) ns.length cr,.string t],.int .i64 n,.int .i64 i,.int .i64 j] w fun e w'=>zpM w (Lg t.data.toList (tOf ns n) i j) e w':=by
 have hb0:Below w.heap.size w (w.alloc (.cells #[.slice ao ns.length c,.slice (some ⟨gl,0,none⟩) ns.length cl,.slice (some ⟨gr,0,none⟩) ns.length cr,.string t] 46)):=(Below.refl _ _).alloc (zsa _) _;have k0:(w.alloc (.cells #[.slice ao ns.length c,.slice (some ⟨gl,0,none⟩) ns.length cl,.slice (some ⟨gr,0,none⟩) ns.length cr,.string t] 46)).heap[w.heap.size]?=some (BoxB ao ns c gl cl gr cr t):=zsp _ _;have hOnly:=fun(W:World)=>zjO t.size i W hi (by omega)
 have hEnds:∀(W:World) (g:Nat),Below w.heap.size w W->zbe W g (zdu t.size i)->
   Calls Tryz.prog 30 #[.agg #[.slice ao ns.length c,.slice (some ⟨gl,0,none⟩) ns.length cl,.slice (some ⟨gr,0,none⟩) ns.length cr,.string t],.int .i64 n,.slice (some ⟨g,0,none⟩) (t.size+1) (t.size+1)] W fun r w'=>zl7 W t (t.size+1) (zaU t.data.toList (In (tOf ns n)) (· = i)) r w':=fun W g h1 h2=>
  hE W ao c gl cl gr cr t g (t.size+1) (t.size+1) (zdu t.size i) _ (hbr.below h1) h2 (by simp[zdu]) (zeA t.size i hi) ht
 clear hE hbr;generalize hT:tOf ns n=T at *;generalize hU:t.data.toList=u at *;obtain⟨q0,q1,q2,q3⟩:=zaC k0;obtain⟨W0,hW0⟩:∃W0,w.alloc (.cells #[.slice ao ns.length c,.slice (some ⟨gl,0,none⟩) ns.length cl,.slice (some ⟨gr,0,none⟩) ns.length cr,.string t] 46)=W0:=⟨_,rfl⟩;rw[hW0] at hb0 k0 q0 q1 q2 q3;have hl0:=zbQ k0;have bl0:=hb0.drew;have hi0:(0:Int)<=(j:Int):=by omega
 have hi1:(j:Int)<(t.size:Int)+1:=by omega
 clear k0
 go_enter Tryz.func32,Tryz.ntmps32
 go_wp2;clear hW0
 go_region_with (first|(go_at_call 31;refine(hOnly _).mono ?_;rintro r w3 ⟨rfl,hB3,hb3⟩;have bl3:=hb3.size;have z0:=(hb3.cell (p:=⟨w.heap.size,0,none⟩) hl0).trans q0;have z1:=(hb3.cell (p:=⟨w.heap.size,1,none⟩) hl0).trans q1;have z2:=(hb3.cell (p:=⟨w.heap.size,2,none⟩) hl0).trans q2;have z3:=(hb3.cell (p:=⟨w.heap.size,3,none⟩) hl0).trans q3)|(go_at_call 30;refine(hEnds _ _ (zaa bl0 bl0.size hb3) hB3).mono ?_;rintro r w4 ⟨g4,c4,S4,rfl,hB4,hl4,hs4,hb4⟩;have hcell:=hB4.2 j (by omega);obtain⟨q,hq⟩:∃q,S4.getD j false=q:=⟨_,rfl⟩;rw[hq] at hcell;have Hq:Hid _:=hq;clear hq))
 all_goals
  have bel:=zaa (zaa bl0 bl0.size hb3) (zaa bl0 bl0.size hb3).size hb4;have hiff:q=true↔Lg u T i j:=by rw[<-Hq.out];exact zmA hs4
  go_wp2;go_ret;exact⟨q,rfl,hiff,bel⟩
theorem Tryz.infoPair:(Tryz.prog.info? 50).map (fun i=>(i.zero,i.size,i.bytes))=some (some (.agg #[.int .i64 0,.int .i64 0]),2,16):=by kernel_rfl
theorem zmE(lo hi:Int)(w:World):
  Calls Tryz.prog 24 #[.agg #[.int .i64 lo,.int .i64 hi],.agg #[.int .i64 lo,.int .i64 hi]] w fun e w'=>e=.returned (.bool true)/\Below w.heap.size w w':=by
 go_enter Tryz.func24,Tryz.ntmps24
 go_wp2;go_ret;exact⟨rfl,((Below.refl _ _).alloc (zsa _) _).alloc (by simp) _⟩
theorem zex{l1 l2:Nat}(v v2:Value)(rs:List (Int×Int))(w:World)(hs:zag l1 w v rs)(hs2:zag l2 w v2 rs):
  Calls Tryz.prog 8 #[v,v2] w fun e w'=>e=.returned (.bool true)/\Below w.heap.size w w':=by
 obtain⟨ao,cap,rfl,hm,hc⟩:=hs;obtain⟨ao2,cap2,rfl,_,hc2⟩:=hs2
 go_enter Tryz.func8,Tryz.ntmps8
 go_wp2
 go_loopw [5] (fun i wr=>∃k:Nat,k<=rs.length/\i=.int .i64 k/\Below w.heap.size w wr)
  (fun i _=>rs.length-(intOf i).toNat)
 case atStart=>exact⟨0,zsj _,rfl,Below.refl _ _⟩
 case round=>
  obtain⟨k,hk,rfl,hb⟩:=hrel
  by_cases hlt:k<rs.length
  ·obtain⟨b,o,lo,hi,rfl,Hn,hbl,c0,c1⟩:=hc.elem hb hlt;obtain⟨b2,o2,lo2,hi2,rfl,Hn2,hbl2,d0,d1⟩:=hc2.elem hb hlt;have hee:=Hn.out.symm.trans Hn2.out;simp only[Prod.mk.injEq] at hee;obtain⟨rfl,rfl⟩:=hee;have hbr:b<wr.heap.size:=zsc hbl hb.size;have hbr2:b2<wr.heap.size:=zsc hbl2 hb.size;have hi0:(0:Int)<=(k:Int):=by omega
   have hi1:(k:Int)<(rs.length:Int):=by omega
   go_wp2
   go_region_held3 (fun w'=>w'.cell? ⟨b,o+k*2,none⟩=some (.int .i64 lo)/\w'.cell? ⟨b,o+k*2+1,none⟩=some (.int .i64 hi)/\w'.cell? ⟨b2,o2+k*2,none⟩=some (.int .i64 lo)/\w'.cell? ⟨b2,o2+k*2+1,none⟩=some (.int .i64 hi)) ((first|go_keep|exact⟨(hcc _ _ hbr).trans c0,(hcc _ _ hbr).trans c1,(hcc _ _ hbr2).trans d0,(hcc _ _ hbr2).trans d1⟩)) ((go_at_call 24;refine(zmE _ _ _).mono ?_;rintro e w2 ⟨rfl,hb2⟩;obtain⟨hcc,_⟩:=zdI hb2))
   go_wp2
   go_roundw
   case rel=>exact⟨k+1,by omega,by go_num,zaa hb.drew hb.size hb2⟩
   case measure=>simp[intOf];omega
  ·go_wp2;go_ret;exact⟨rfl,hb⟩
theorem zcs(w:World)(a b:Obj):((w.alloc a).alloc b).heap[w.heap.size+1]?=some b:=by have:=zsp (w.alloc a) b;simpa using this
def pvF(sp:List (Int×Int))(k:Nat):List Value:=[.int .i64 (sp.getD k (0,0)).1,.int .i64 (sp.getD k (0,0)).2]
def pv(sp:List (Int×Int)):List Value:=(List.range sp.length).flatMap (pvF sp)
theorem zea(sp:List (Int×Int)):(pv sp).length=sp.length*2:=zfa (f:=pvF sp) (sz:=2) (fun _=>rfl) _
theorem zkM(sp:List (Int×Int)){k j:Nat}(hk:k<sp.length)(hj:j<2):(pv sp)[k*2+j]?=(pvF sp k)[j]?:=zoq (f:=pvF sp) (sz:=2) (fun _=>rfl) _ _ _ hk hj
theorem zqU(sp:List (Int×Int)):∀u∈pv sp,u.oneCell'=true:=by
 intro u hu;obtain⟨k,-,h⟩:=List.mem_flatMap.1 hu;simp only[pvF,zrS,List.not_mem_nil,or_false] at h;rcases h with rfl|rfl<;>rfl
theorem zcR{w:World}{B g m cap:Nat}{e:TypeId}{sz:Nat}{xs:List Value}(h:w.ownsRow B e sz (.slice (some ⟨g,0,none⟩) m cap) m xs):∀j u,xs[j]?=some u->w.cell? ((⟨g,0,none⟩:Addr).add j)=some u:=by
 intro j u hu;have hj:=(zrF.1 hu).1;have e:(⟨g,0,none⟩:Addr).add j=⟨g,j,none⟩:=by unfold Addr.add;split<;>simp_all
 rw[e,h.cellAt j (by rw[<-h.1];exact hj),hu]
theorem znA(sp:List (Int×Int))(k:Nat)(a b:Int)(hk:k<sp.length):((pv sp).set (k*2) (.int .i64 a)).set (k*2+1) (.int .i64 b)=pv (sp.set k (a,b)):=by
 apply zrt
 intro x
 by_cases hx:x<sp.length*2
 ·obtain⟨q,r,rfl,hr⟩:∃q r,x=q*2+r/\r<2:=⟨x/2,x%2,by omega,by omega⟩;have hq:q<sp.length:=by omega
  rw[zkM (sp.set k (a,b)) (by rw[List.length_set];exact hq) hr,zrH,zrH,zkM sp hq hr];have hl:(pv sp).length=sp.length*2:=zea sp;rw[List.length_set,hl]
  by_cases e:q=k
  ·subst e;obtain rfl|rfl:r=0\/r=1:=by omega
   ·rw[zss (by omega),zst (by omega),zst (by omega)];simp[pvF,List.getD_eq_getElem?_getD,hq]
   ·rw[zst rfl,zst (by omega)];simp[pvF,List.getD_eq_getElem?_getD,hq]
  ·rw[zss (by omega),zss (by omega)];unfold pvF;rw[zrw,zrw,List.getElem?_set_ne (by omega)]
 ·rw[zrE (by simp[zea];omega),zrE (by simp[zea];omega)]
def upG(sp:List (Int×Int))(l:List Up):List (Int×Int):=l.foldl (fun s x=>s.set x.1.toNat ((x.2.1:Int),(x.2.2:Int))) sp
theorem zcy(l:List Up):∀sp,(upG sp l).length=sp.length:=by
 induction l with
 |nil=>intro sp;rfl
 |cons x l ih=>intro sp;show (upG (sp.set _ _) l).length=_;rw[ih,List.length_set]
theorem zeG(sp:List (Int×Int))(l m:List Up):upG sp (l++m)=upG (upG sp l) m:=List.foldl_append
def PlcR(B:Nat)(w:World)(m:Nat)(sp:List (Int×Int))(e:Ending)(w':World):Prop:=
 ∃g cap,e=.returned (.slice (some ⟨g,0,none⟩) m cap)/\w'.ownsRow B 50 2 (.slice (some ⟨g,0,none⟩) m cap) m (pv sp)/\Below w.heap.size w w'
def PlcC(ns:List zak)(n:Nat):Prop:=
 ∀(w:World) (ao:Option Addr) (c gl cl gr cr:Nat) (t:ByteArray) (B i j g cap m:Nat) (sp:List (Int×Int)) (l:List Up),BrAt w ns (.slice ao ns.length c) gl gr->w.ownsRow B 50 2 (.slice (some ⟨g,0,none⟩) m cap) m (pv sp)->sp.length=m->B<=w.heap.size->0<m->m<=1048576->i<=j->j<=t.size->t.size<=4096->(∀x∈l,1<=x.1/\x.1<(m:Int))->Pl t.data.toList (tOf ns n) i j l->
  Calls Tryz.prog 16 #[.agg #[.slice ao ns.length c,.slice (some ⟨gl,0,none⟩) ns.length cl,.slice (some ⟨gr,0,none⟩) ns.length cr,.string t],.int .i64 n,.int .i64 i,.int .i64 j,.slice (some ⟨g,0,none⟩) m cap] w fun e w'=>PlcR B w m (upG sp l) e w'
theorem zo5(ns:List zak)(n:Nat)(hn:n<ns.length)(hk:zap ns n=1)(hT:tOf ns n=.set (hasF (ns.getD n .zero).set)):PlcC ns n:=by
 intro w ao c gl cl gr cr t B i j g cap m sp l hbr hown hsm hB hm0 hm1 hij hjt ht hg hpl;rw[hT] at hpl;obtain⟨ao2,cap2,hv,hml,hc⟩:=hbr.nodes;cases hv;obtain⟨b,o,sv,nd,rfl,Hn,hbl,c0,c1,c2,c3,c4,hsv⟩:=hc.elem (Below.refl _ _) hn;have hk1:nd.kind=1:=by rw[<-hk];unfold zap;rw[Hn.out]
 rw[hk1] at c0;obtain⟨sao,scp,rfl,hsm2,hsc⟩:=hsv;have hi0:(0:Int)<=(n:Int):=by omega
 have hi1:(n:Int)<(ns.length:Int):=by omega
 obtain⟨W0,hW0⟩:∃W0,(w.alloc (.cells #[.slice (some ⟨b,o,none⟩) ns.length c,.slice (some ⟨gl,0,none⟩) ns.length cl,.slice (some ⟨gr,0,none⟩) ns.length cr,.string t] 46)).alloc (.cells #[.int .i64 1,.slice sao nd.set.length scp,.int .i64 nd.min,.int .i64 nd.max,.int .i64 nd.group] 72)=W0:=⟨_,rfl⟩;have hb0:Below w.heap.size w W0:=by rw[<-hW0];exact((Below.refl _ _).alloc (zsa _) _).alloc (by simp) _
 have k1:W0.heap[w.heap.size]?=some (.cells #[.slice (some ⟨b,o,none⟩) ns.length c,.slice (some ⟨gl,0,none⟩) ns.length cl,.slice (some ⟨gr,0,none⟩) ns.length cr,.string t] 46 (0,0)):=by rw[<-hW0];exact zah (zsp _ _)
 have k2:W0.heap[w.heap.size+1]?=some (.cells #[.int .i64 1,.slice sao nd.set.length scp,.int .i64 nd.min,.int .i64 nd.max,.int .i64 nd.group] 72 (0,0)):=by rw[<-hW0];exact zcs _ _ _
 obtain⟨p0,p1,p2,p3⟩:=zaC k1;obtain⟨q0,q1,q2,q3,q4⟩:=zbw k2;have hs0:w.heap.size+1<W0.heap.size:=zbQ k2;have hpl:l=[]:=hpl;subst hpl;clear hT hk hk1 hc hsc hbr k1 k2
 go_enter Tryz.func16,Tryz.ntmps16
 go_wp2;refine zsl (v:=.slice (some ⟨g,0,none⟩) m cap) (by simp[results,Tryz.results16,go_sem]) rfl ⟨g,cap,rfl,?_,?_⟩
 ·exact zab hown hb0
 ·exact hb0
theorem zo2(ns:List zak)(n x:Nat)(hn:n<ns.length)(hk:zap ns n=5)(hT:tOf ns n=.grp (tOf ns x) (ns.getD n .zero).group)(hL:zbn ns n=x)(hX:PlcC ns x):PlcC ns n:=by
 intro w ao c gl cl gr cr t B i j g cap m sp l hbr hown hsm hB hm0 hm1 hij hjt ht hg hpl;rw[hT] at hpl;obtain⟨ao2,cap2,hv,hml,hc⟩:=hbr.nodes;cases hv;obtain⟨b,o,sv,nd,rfl,Hn,hbl,c0,c1,c2,c3,c4,hsv⟩:=hc.elem (Below.refl _ _) hn;have hk1:nd.kind=5:=by rw[<-hk];unfold zap;rw[Hn.out]
 rw[hk1] at c0;obtain⟨sao,scp,rfl,hsm2,hsc⟩:=hsv;have l0:=hbr.left n hn;rw[hL] at l0;have r0:=hbr.right n hn;obtain⟨ri,hri⟩:∃ri,zbf ns n=ri:=⟨_,rfl⟩;rw[hri] at r0;have hlt:=hbr.ltl;have hrt:=hbr.ltr;have hi0:(0:Int)<=(n:Int):=by omega
 have hi1:(n:Int)<(ns.length:Int):=by omega
 obtain⟨W0,hW0⟩:∃W0,(w.alloc (.cells #[.slice (some ⟨b,o,none⟩) ns.length c,.slice (some ⟨gl,0,none⟩) ns.length cl,.slice (some ⟨gr,0,none⟩) ns.length cr,.string t] 46)).alloc (.cells #[.int .i64 5,.slice sao nd.set.length scp,.int .i64 nd.min,.int .i64 nd.max,.int .i64 nd.group] 72)=W0:=⟨_,rfl⟩;have hb0:Below w.heap.size w W0:=by rw[<-hW0];exact((Below.refl _ _).alloc (zsa _) _).alloc (by simp) _
 have k1:W0.heap[w.heap.size]?=some (.cells #[.slice (some ⟨b,o,none⟩) ns.length c,.slice (some ⟨gl,0,none⟩) ns.length cl,.slice (some ⟨gr,0,none⟩) ns.length cr,.string t] 46 (0,0)):=by rw[<-hW0];exact zah (zsp _ _)
 have k2:W0.heap[w.heap.size+1]?=some (.cells #[.int .i64 5,.slice sao nd.set.length scp,.int .i64 nd.min,.int .i64 nd.max,.int .i64 nd.group] 72 (0,0)):=by rw[<-hW0];exact zcs _ _ _
 obtain⟨p0,p1,p2,p3⟩:=zaC k1;obtain⟨q0,q1,q2,q3,q4⟩:=zbw k2;have hs0:w.heap.size+1<W0.heap.size:=zbQ k2;obtain⟨l',rfl,hpl⟩:=hpl;rw[Hn.out] at hg ⊢;have hg1:=hg (nd.group,i,j) (by simp);obtain⟨gi,hgi⟩:∃gi:Nat,nd.group=gi:=⟨nd.group.toNat,by omega⟩;have hX':=fun(W:World) (hb:Below w.heap.size w W) (g' cap':Nat) (h1:W.ownsRow B 50 2 (.slice (some ⟨g',0,none⟩) m cap') m (pv (sp.set gi ((i:Int),(j:Int))))) (h2:B<=W.heap.size)=>hX W (some ⟨b,o,none⟩) c gl cl gr cr t B i j g' cap' m (sp.set gi ((i:Int),(j:Int))) l' (hbr.below hb) h1 (by rw[List.length_set];exact hsm) h2 hm0 hm1 hij hjt ht (fun x hx=>hg x (by simp[hx])) hpl
 have H0:EndH w (.slice (some ⟨b,o,none⟩) ns.length c) (.slice (some ⟨gl,0,none⟩) ns.length cl) (.slice (some ⟨gr,0,none⟩) ns.length cr) (.string t) (.int .i64 5) (.slice sao nd.set.length scp) (.int .i64 nd.min) (.int .i64 nd.max) (.int .i64 nd.group) gl gr n (.int .i64 x) (.int .i64 ri) W0:=⟨hb0,hs0,p0,p1,p2,p3,q0,q1,q2,q3,q4,(hb0.cell (p:=⟨gl,n,none⟩) hlt).trans l0,(hb0.cell (p:=⟨gr,n,none⟩) hrt).trans r0,hlt,hrt⟩;rw[hgi] at hg1 q4 c4 hW0;have hsz:W0.heap.size=w.heap.size+1+1:=by rw[<-hW0];simp
 have hgm:gi<m:=by have:=hg1.2;omega
 have hg0:(0:Int)<=(gi:Int):=by omega
 have hg2:(gi:Int)<(m:Int):=by omega
 have Hu:Hid (upG sp ((nd.group,i,j)::l')=upG (sp.set gi ((i:Int),(j:Int))) l'):=by show upG (sp.set nd.group.toNat _) l'=_;rw[hgi,zri]
 have HB:Hid (B<=w.heap.size):=hB;have Hsm:Hid (sp.length=m):=hsm;clear hT hk hk1 hc hsc hbr hX hpl hg hg1 hri k1 k2 p0 p1 p2 p3 q1 q2 q3 l0 r0 hB hsm;obtain⟨i0,hi,hz0,hz1,hz2⟩:=info_parts Tryz.infoPair;have own0:=zab hown hb0;rw[hgi] at H0
 go_enter Tryz.func16,Tryz.ntmps16
 go_wp2_with (refine wpList_append_lies _ rfl (.tmp 26) (.tmp 27) 26 rfl B 50 i0 _ 2 16 Tryz.underlying26 hi hz0 hz1 hz2 rfl (by omega) (.slice (some ⟨w.heap.size+1+1,0,none⟩) 0 0) 0 [] rfl (zbD W0 50 2 B (w.heap.size+1+1) (by have:=HB.out;omega) hsz) ⟨g,0,none⟩ m cap (pv sp) rfl (by rw[zea,Hsm.out]) (zcR (zab own0 ((Below.refl _ _).alloc (zsa _) _))) (zqU sp) (by omega) (by unfold maxLen;omega) (by omega) (by have:=HB.out;simp;omega) (w.heap.size+1+1+1) (by simp;omega) ?_;intro g1 cap1 w1 own1 grow1 at1 lt1;simp only[zsi,zrZ] at own1;obtain⟨u0,u1,y0,y1,f0,f1⟩:=zfS own1 hgm;have hb1:Below W0.heap.size W0 w1:=((Below.refl _ _).alloc (zsa _) _).grown grow1 (by simp) (by intro k h;simp[Value.ownBlock] at h;omega);have H1:=H0.call hb1;have t4:w1.cell? ⟨w.heap.size+1,4,none⟩=some (.int .i64 gi):=H1.2.2.2.2.2.2.2.2.2.2.1)
 have hg1:W0.heap.size<=g1:=by
  rcases at1 with h|h
  ·simp[Value.ownBlock] at h;omega
  ·omega
 obtain⟨W2,hW2⟩:∃W2,(w1.setCell ⟨g1,gi*2,none⟩ (.int .i64 i)).setCell ⟨g1,gi*2+1,none⟩ (.int .i64 j)=W2:=⟨_,rfl⟩;have own2:W2.ownsRow B 50 2 (.slice (some ⟨g1,0,none⟩) m cap1) m (pv (sp.set gi ((i:Int),(j:Int)))):=by
  rw[<-hW2,<-znA _ _ _ _ (by rw[Hsm.out];exact hgm)];exact((own1.stored _ _).1.stored _ _).1
 have H2:=H0.call (show Below W0.heap.size W0 W2 by rw[<-hW2];exact(hb1.setCell hg1 _).setCell hg1 _);have H3:=H2.call ((Below.refl W2.heap.size W2).drew);have own3:=zab own2 ((Below.refl W2.heap.size W2).drew);clear H1 u0 u1 y0 y1 f0 f1 t4 own1 grow1 at1 lt1 hb1 own0 hown own2 c0 c1 c2 c3 c4 q0 q4;obtain⟨hbA,hsA,a0A,a1A,a2A,a3A,d0A,d1A,d2A,d3A,d4A,lA,rA,-,-⟩:=H2;obtain⟨hbC,hsC,a0C,a1C,a2C,a3C,d0C,d1C,d2C,d3C,d4C,lC,rC,-,-⟩:=H3;rw[hW2]
 go_region_with (go_at_call 16;refine(hX' _ hbC g1 cap1 own3 (zsb HB.out hbC.size)).mono ?_;rintro e w5 ⟨g5,cap5,rfl,own5,hb5⟩)
 all_goals
  rw[<-Hu.out] at own5;go_wp2;refine zsl (v:=.slice (some ⟨g5,0,none⟩) m cap5) (by simp[results,Tryz.results16,go_sem]) rfl ⟨g5,cap5,rfl,own5,?_⟩;exact zaa hbC hbC.size hb5
theorem zo1(ns:List zak)(n x y:Nat)(hn:n<ns.length)(hk:zap ns n=3)(hT:tOf ns n=.alt (tOf ns x) (tOf ns y))(hL:zbn ns n=x)(hR:zbf ns n=y)(hE:zbO ns x)(hX:PlcC ns x)(hY:PlcC ns y):PlcC ns n:=by
 intro w ao c gl cl gr cr t B i j g cap m sp l hbr hown hsm hB hm0 hm1 hij hjt ht hg hpl;rw[hT] at hpl;obtain⟨ao2,cap2,hv,hml,hc⟩:=hbr.nodes;cases hv;obtain⟨b,o,sv,nd,rfl,Hn,hbl,c0,c1,c2,c3,c4,hsv⟩:=hc.elem (Below.refl _ _) hn;have hk1:nd.kind=3:=by rw[<-hk];unfold zap;rw[Hn.out]
 rw[hk1] at c0;obtain⟨sao,scp,rfl,hsm2,hsc⟩:=hsv;have l0:=hbr.left n hn;rw[hL] at l0;have r0:=hbr.right n hn;rw[hR] at r0;have hlt:=hbr.ltl;have hrt:=hbr.ltr;have hi0:(0:Int)<=(n:Int):=by omega
 have hi1:(n:Int)<(ns.length:Int):=by omega
 obtain⟨W0,hW0⟩:∃W0,(w.alloc (.cells #[.slice (some ⟨b,o,none⟩) ns.length c,.slice (some ⟨gl,0,none⟩) ns.length cl,.slice (some ⟨gr,0,none⟩) ns.length cr,.string t] 46)).alloc (.cells #[.int .i64 3,.slice sao nd.set.length scp,.int .i64 nd.min,.int .i64 nd.max,.int .i64 nd.group] 72)=W0:=⟨_,rfl⟩;have hb0:Below w.heap.size w W0:=by rw[<-hW0];exact((Below.refl _ _).alloc (zsa _) _).alloc (by simp) _
 have k1:W0.heap[w.heap.size]?=some (.cells #[.slice (some ⟨b,o,none⟩) ns.length c,.slice (some ⟨gl,0,none⟩) ns.length cl,.slice (some ⟨gr,0,none⟩) ns.length cr,.string t] 46 (0,0)):=by rw[<-hW0];exact zah (zsp _ _)
 have k2:W0.heap[w.heap.size+1]?=some (.cells #[.int .i64 3,.slice sao nd.set.length scp,.int .i64 nd.min,.int .i64 nd.max,.int .i64 nd.group] 72 (0,0)):=by rw[<-hW0];exact zcs _ _ _
 obtain⟨p0,p1,p2,p3⟩:=zaC k1;obtain⟨q0,q1,q2,q3,q4⟩:=zbw k2;have hs0:w.heap.size+1<W0.heap.size:=zbQ k2;have hIn:=fun(W:World) (hb:Below w.heap.size w W)=>zeP ns x hE W (some ⟨b,o,none⟩) c gl cl gr cr t i j (hbr.below hb) (by omega) hjt ht
 have hX':=fun(W:World) (hb:Below w.heap.size w W) (g' cap':Nat) (h1:W.ownsRow B 50 2 (.slice (some ⟨g',0,none⟩) m cap') m (pv (sp)))=>hX W (some ⟨b,o,none⟩) c gl cl gr cr t B i j g' cap' m (sp) l (hbr.below hb) h1 (by first|exact hsm|(rw[zcy];exact hsm)) (zsb hB hb.size) hm0 hm1 hij hjt ht
 have hY':=fun(W:World) (hb:Below w.heap.size w W) (g' cap':Nat) (h1:W.ownsRow B 50 2 (.slice (some ⟨g',0,none⟩) m cap') m (pv (sp)))=>hY W (some ⟨b,o,none⟩) c gl cl gr cr t B i j g' cap' m (sp) l (hbr.below hb) h1 (by first|exact hsm|(rw[zcy];exact hsm)) (zsb hB hb.size) hm0 hm1 hij hjt ht
 have H0:EndH w (.slice (some ⟨b,o,none⟩) ns.length c) (.slice (some ⟨gl,0,none⟩) ns.length cl) (.slice (some ⟨gr,0,none⟩) ns.length cr) (.string t) (.int .i64 3) (.slice sao nd.set.length scp) (.int .i64 nd.min) (.int .i64 nd.max) (.int .i64 nd.group) gl gr n (.int .i64 x) (.int .i64 y) W0:=⟨hb0,hs0,p0,p1,p2,p3,q0,q1,q2,q3,q4,(hb0.cell (p:=⟨gl,n,none⟩) hlt).trans l0,(hb0.cell (p:=⟨gr,n,none⟩) hrt).trans r0,hlt,hrt⟩;have H1:=H0.call ((Below.refl W0.heap.size W0).drew);have Hpl:Hid ((Lg t.data.toList (tOf ns x) i j/\Pl t.data.toList (tOf ns x) i j l)\/(¬Lg t.data.toList (tOf ns x) i j/\Pl t.data.toList (tOf ns y) i j l)):=hpl;clear hT hk hk1 hc hsc hbr hX hY hE hpl k1 k2 p0 p1 p2 p3 q1 q2 q3 q4 l0 r0;obtain⟨-,-,a0,a1,a2,a3,d0,d1,d2,d3,d4,lA,rA,-,-⟩:=H0
 go_enter Tryz.func16,Tryz.ntmps16
 go_wp2;obtain⟨hbC,hsC,a0C,a1C,a2C,a3C,d0C,d1C,d2C,d3C,d4C,lC,rC,-,-⟩:=H1
 go_region_with (go_at_call 32;refine(hIn _ hbC).mono ?_;rintro e w4 ⟨q,rfl,hq,hb4⟩)
 all_goals
  have H4:EndH w (.slice (some ⟨b,o,none⟩) ns.length c) (.slice (some ⟨gl,0,none⟩) ns.length cl) (.slice (some ⟨gr,0,none⟩) ns.length cr) (.string t) (.int .i64 3) (.slice sao nd.set.length scp) (.int .i64 nd.min) (.int .i64 nd.max) (.int .i64 nd.group) gl gr n (.int .i64 x) (.int .i64 y) w4:=EndH.call ⟨hbC,hsC,a0C,a1C,a2C,a3C,d0C,d1C,d2C,d3C,d4C,lC,rC,hlt,hrt⟩ hb4;have H5:=H4.call ((Below.refl w4.heap.size w4).drew);have own4:=zab hown H5.1;clear hbC hsC a0C a1C a2C a3C d0C d1C d2C d3C d4C lC rC a0 a1 a2 a3 d0 d1 d2 d3 d4 lA rA hb4;obtain⟨hbA,hsA,a0A,a1A,a2A,a3A,d0A,d1A,d2A,d3A,d4A,lA,rA,-,-⟩:=H4;obtain⟨hbC,hsC,a0C,a1C,a2C,a3C,d0C,d1C,d2C,d3C,d4C,lC,rC,-,-⟩:=H5;rcases Hpl.out with ⟨hL1,hp⟩|⟨hL1,hp⟩
  ·obtain rfl:q=true:=hq.2 hL1;have Hp:Hid (Pl t.data.toList (tOf ns x) i j l):=hp;clear hp hq hL1 hY';go_wp2
   go_region_with (go_at_call 16;refine(hX' _ hbC g cap own4 hg Hp.out).mono ?_;rintro e w5 ⟨g5,cap5,rfl,own5,hb5⟩)
   all_goals
    have bel:=zaa hbC hbC.size hb5;go_wp2;exact zsl (v:=.slice (some ⟨g5,0,none⟩) m cap5) (by simp[results,Tryz.results16,go_sem]) rfl ⟨g5,cap5,rfl,own5,bel⟩
  ·obtain rfl:q=false:=by
    cases q
    ·rfl
    ·exact absurd (hq.1 rfl) hL1
   have Hp:Hid (Pl t.data.toList (tOf ns y) i j l):=hp;clear hp hq hL1 hX';go_wp2
   go_region_with (go_at_call 16;refine(hY' _ hbC g cap own4 hg Hp.out).mono ?_;rintro e w5 ⟨g5,cap5,rfl,own5,hb5⟩)
   all_goals
    have bel:=zaa hbC hbC.size hb5;go_wp2;exact zsl (v:=.slice (some ⟨g5,0,none⟩) m cap5) (by simp[results,Tryz.results16,go_sem]) rfl ⟨g5,cap5,rfl,own5,bel⟩
end Go.Proofs.YthdljcdbfmhleaaGreatDoor
