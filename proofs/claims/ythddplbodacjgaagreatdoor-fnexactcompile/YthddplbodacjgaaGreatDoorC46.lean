import Derived.Test.YthddplbodacjgaaGreatDoorC45
namespace Go.Proofs.YthddplbodacjgaaGreatDoor
set_option maxHeartbeats 4000000
set_option maxRecDepth 100000
open Go.RowKit
attribute [local go_sem ↓] Go.wp_at_zero Go.wp_at_succ
section
variable {w W:World}{g:Nat}
def zcA(w:World)(code width:Int)(l:Nat->List Int)(e:Ending)(w':World):Prop:=∃(gt:Nat) (v:Nat->Value),e=.returned (.tuple #[.agg (rowD width v),.int .i64 code])/\w.heap.size<=gt/\Fam gt 4 w' v l/\Below w.heap.size w w'
theorem zcA.void{code:Int}(h:Below w.heap.size w W):zcA w code 0 (fun _=>[]) (.returned (.tuple #[.agg zbf,.int .i64 code])) W:=⟨w.heap.size,fun _=>.slice none 0 0,rfl,zuz _,Fam.nil _ _ _,h⟩
theorem zdR{t:TypeId}(h:w.heap[g]?=some (.cells zbf t (0,0))):w.cell? ⟨g,0,none⟩=some (.slice none 0 0)/\w.cell? ⟨g,1,none⟩=some (.int .i64 0)/\w.cell? ⟨g,2,none⟩=some (.slice none 0 0)/\w.cell? ⟨g,3,none⟩=some (.slice none 0 0)/\w.cell? ⟨g,4,none⟩=some (.slice none 0 0):=by
 have:∀o,w.cell? ⟨g,o,none⟩=zbf[o]?:=fun _=>zuO _ _ _ _ _ _ h
 exact⟨this 0,this 1,this 2,this 3,this 4⟩
theorem zcL{a b c d e:Value}{t:TypeId}(h:W.heap[g]?=some (.cells #[a,b,c,d,e] t (0,0))):W.frozen? ⟨g,0,none⟩=false/\W.frozen? ⟨g,1,none⟩=false/\W.frozen? ⟨g,2,none⟩=false/\W.frozen? ⟨g,3,none⟩=false/\W.frozen? ⟨g,4,none⟩=false:=
 ⟨zuQ _ _ 0 _ _ h,zuQ _ _ 1 _ _ h,zuQ _ _ 2 _ _ h,zuQ _ _ 3 _ _ h,zuQ _ _ 4 _ _ h⟩
theorem zf9(v:Value)(most:Int)(w:World)(h:¬(1<=most/\most<=4000)):
  Calls Tryz.prog 5 #[v,.int .i64 most] w (zcA w 1 0 (fun _=>[])):=by
 have hb:btw most 1 4000=false:=by unfold btw;simp;omega
 obtain⟨W0,hW0⟩:∃W0,w.alloc (.cells zbf 26)=W0:=⟨_,rfl⟩;have b0:Below w.heap.size w W0:=by rw[<-hW0];exact(Below.refl _ _).alloc (zuz _) _
 have x0:W0.heap[w.heap.size]?=some (.cells zbf 26 (0,0)):=by rw[<-hW0];exact zuR _ _
 obtain⟨p0,p1,p2,p3,p4⟩:=zdR x0;obtain⟨f0,f1,f2,f3,f4⟩:=zcL x0;have cb:=zaw most 1 4000 W0;rw[hb] at cb;unfold zbf at hW0;have HW0:=hdn hW0;have HB:=hdn b0;have HX:=hdn x0;clear hb x0 b0 h hW0
 go_enter Tryz.func5,Tryz.ntmps5
 go_upto_region 1 with fail
 rw[HW0.out];clear HW0
 go_wp2_with fail
 refine cb.mono ?_;rintro e W1 ⟨rfl,hW1⟩;subst W1;clear cb;go_wp2;refine zuN (v:=.tuple #[.agg #[.slice none 0 0,.int .i64 0,.slice none 0 0,.slice none 0 0,.slice none 0 0],.int .i64 1]) (by simp[results,Tryz.results5,go_sem,p0,p1,p2,p3,p4]) rfl ?_;exact zcA.void (zbn HB.out (zuz _) _ _ _ _ _)
theorem zf8(v:Value)(rs:List za0)(most:Int)(w:World)(hs:zaW 0 w v rs)(hsm:zdB rs)(h:1<=most/\most<=4000)(hl:zb5 rs=false):
  Calls Tryz.prog 5 #[v,.int .i64 most] w (zcA w 2 0 (fun _=>[])):=by
 have hb:btw most 1 4000=true:=zdb.2 h;obtain⟨W0,hW0⟩:∃W0,w.alloc (.cells zbf 26)=W0:=⟨_,rfl⟩;have b0:Below w.heap.size w W0:=by rw[<-hW0];exact(Below.refl _ _).alloc (zuz _) _
 have x0:W0.heap[w.heap.size]?=some (.cells zbf 26 (0,0)):=by rw[<-hW0];exact zuR _ _
 have cb:=zaw most 1 4000 W0;rw[hb] at cb;have cl:=zgN v rs W0 (hs.below b0) hsm;rw[hl] at cl;unfold zbf at hW0;have HW0:=hdn hW0;have HB:=hdn b0;have HX:=hdn x0;clear hb x0 b0 h hW0 hs hsm hl
 go_enter Tryz.func5,Tryz.ntmps5
 go_upto_region 1 with fail
 rw[HW0.out];clear HW0
 go_wp2_with fail
 refine cb.mono ?_;rintro e W1 ⟨rfl,hW1⟩;subst W1;clear cb
 go_wp2_with fail
 refine cl.mono ?_;rintro e W2 ⟨rfl,b2⟩;have x2:=(b2.block _ (zae HX.out)).trans HX.out;obtain⟨p0,p1,p2,p3,p4⟩:=zdR x2;obtain⟨f0,f1,f2,f3,f4⟩:=zcL x2;have HB2:=hdn (zaa HB.out HB.out.size b2);clear cl x2 b2;go_wp2;refine zuN (v:=.tuple #[.agg #[.slice none 0 0,.int .i64 0,.slice none 0 0,.slice none 0 0,.slice none 0 0],.int .i64 2]) (by simp[results,Tryz.results5,go_sem,p0,p1,p2,p3,p4]) rfl ?_;exact zcA.void (zbn HB2.out (zuz _) _ _ _ _ _)
end
theorem zga{lo:Nat}(cv nv tv ev:Value)(d:DfaD)(w:World)(hs:zbU lo w cv nv tv ev d)(hB:dfaB d=false):
  Calls Tryz.prog 21 #[.agg #[cv,.int .i64 d.width,nv,tv,ev]] w (zlR w 0 (fun _=>[])):=by
 obtain⟨W0,hW0⟩:∃W0,(w.alloc (.cells #[cv,.int .i64 d.width,nv,tv,ev] 26)).alloc (.cells zbf 26)=W0:=⟨_,rfl⟩;have hb0:Below w.heap.size w W0:=by rw[<-hW0];exact((Below.refl _ _).alloc (zuz _) _).alloc (by simp) _
 have x0:W0.heap[w.heap.size]?=some (.cells #[cv,.int .i64 d.width,nv,tv,ev] 26 (0,0)):=by
  rw[<-hW0];exact(Below.heap_alloc _ _ _ (by simp)).trans (zuR w _)
 have z0:W0.heap[w.heap.size+1]?=some (.cells zbf 26 (0,0)):=by
  rw[<-hW0];have:=zuR (w.alloc (.cells #[cv,.int .i64 d.width,nv,tv,ev] 26)) (.cells zbf 26)
  simpa using this
 have hT:=zfV cv nv tv ev d _ (hs.below hb0);rw[hB] at hT;unfold zbf at hW0;obtain⟨q0,q1,q2,q3,q4⟩:=zaq x0
 go_enter Tryz.func21,Tryz.ntmps21
 go_wp2_with fail
 refine hT.mono ?_;rintro e w1 ⟨rfl,hb1⟩;have z1:=zab z0 hb1;have B1:=zaa hb0 hb0.size hb1;have fz:∀o,w1.frozen? ⟨w.heap.size+1,o,none⟩=false:=fun _=>zuQ _ _ _ _ _ z1
 unfold zbf at z1;obtain⟨y0,y1,y2,y3,y4⟩:=zaq z1;clear hT x0 z0 hb0 hb1 z1 q0 q1 q2 q3 q4 hW0;go_wp2;refine zuN (v:=.agg #[.slice none 0 0,.int .i64 0,.slice none 0 0,.slice none 0 0,.slice none 0 0]) (by simp[results,Tryz.results21,go_sem,y0,y1,y2,y3,y4]) rfl ?_;exact⟨w.heap.size,fun _=>.slice none 0 0,rfl,zuz _,Fam.nil _ _ _,zbn B1 (by omega) _ _ _ _ _⟩
variable {n:Nat}{os:List Nat}{d:DfaD}
theorem znV{st:Nat->Nat->Nat}{an:Nat->Int×Int}{x:Nat}(h:os.Nodup/\∀y∈os,y<n)(hx:x<n):(addA st an os x).Nodup/\∀y∈addA st an os x,y<n:=by
 unfold addA;split
 ·exact h
 ·rename_i hn
  have hm:x∉os:=fun hm=>hn (zgI.2 ⟨x,hm,zbc.refl _ _ _⟩)
  refine⟨zuk.2 ⟨h.1,by simp,fun a ha b hb=>?_⟩,fun y hy=>?_⟩
  ·intro e;subst e;simp at hb;subst hb;exact hm ha
  ·rcases zuc.1 hy with hy|hy
   ·exact h.2 y hy
   ·simp at hy;omega
theorem zos(h:∀y∈os,y<n)(hn:0<n)(k:Nat):os.getD k 0<n:=by
 by_cases hk:k<os.length
 ·rw[ztO,ztT hk];exact h _ (zt0 hk)
 ·rw[ztO,ztU (by omega)];exact hn
theorem zhk(hf:zaE d)(hn:0<d.tag.length)(k:Nat)(h0:(zat (stN d) (anN d) k 0).Nodup/\∀y∈zat (stN d) (anN d) k 0,y<d.tag.length):∀c,c<=256->(zat (stN d) (anN d) k c).Nodup/\∀y∈zat (stN d) (anN d) k c,y<d.tag.length
 |0,_=>h0
 |c+1,hc=>by
  have ih:=zhk hf hn k h0 c (by omega);rw[zcl];exact znV ih (hf.stc (zos ih.2 hn k) (by omega))
theorem zfJ(hf:zaE d)(hn:0<d.tag.length):∀k,(zat (stN d) (anN d) k 0).Nodup/\∀y∈zat (stN d) (anN d) k 0,y<d.tag.length
 |0=>by rw[zcD];exact⟨by simp,fun y hy=>by simp at hy;omega⟩
 |k+1=>by rw[zcS];exact zhk hf hn k (zfJ hf hn k) 256 (by omega)
open Classical in
noncomputable def minK (d:DfaD):Nat:=if h:∃K,zef (stN d) (anN d) K/\(zat (stN d) (anN d) K 0).length=K then Classical.choose h else 0
theorem zoQ{K:Nat}(h1:zef (stN d) (anN d) K)(h2:(zat (stN d) (anN d) K 0).length=K):minK d=K:=by
 have h:∃K,zef (stN d) (anN d) K/\(zat (stN d) (anN d) K 0).length=K:=⟨K,h1,h2⟩;unfold minK;rw[dif_pos h];have hc:=Classical.choose_spec h;exact zov hc.1 hc.2 h1 h2
theorem zmg(hf:zaE d)(hn:0<d.tag.length):(zat (stN d) (anN d) (minK d) 0).length<=d.tag.length:=zb2 _ _ (zfJ hf hn _).1 (zfJ hf hn _).2
theorem zsq(hf:zaE d)(hn:0<d.tag.length):minK d<=d.tag.length:=by
 by_cases h:∃K,zef (stN d) (anN d) K/\(zat (stN d) (anN d) K 0).length=K
 ·obtain⟨K,h1,h2⟩:=h;have:=zmg hf hn;rw[zoQ h1 h2] at this ⊢;omega
 ·unfold minK;rw[dif_neg h];omega
noncomputable def minW (d:DfaD):Int:=if dfaB d=true then ((zah (minK d) (rwA d) 256).length:Int) else 0
noncomputable def minL (d:DfaD):Nat->List Int:=if dfaB d=true then mnL d (minK d) else fun _=>[]
theorem zjr(f:Nat->List Int)(m:Nat)(hf:∀k,(f k).length<=m):∀n,((List.range n).flatMap f).length<=n*m
 |0=>by simp
 |n+1=>by
  have:=zjr f m hf n;have:=hf n;rw[zun,List.flatMap_append,zt1,zuJ];have e:([n].flatMap f).length=(f n).length:=by simp only[List.flatMap_cons,List.flatMap_nil,List.append_nil]
  rw[e];omega
theorem zqY(d:DfaD):∀i,i<4->(minL d i).length<=1048576:=by
 intro i hi;unfold minL;cases hB:dfaB d
 ·simp
 ·have hf:=zjl hB;have hn:=hf.n1;have hn2:=hf.n2;have hk:=zsq hf (by omega);have hl:=zmg hf (by omega);have hh:=zcq (minK d) (rwA d) 256;rw[zuV rfl]
  match i,hi with
  |0,_=>simp[mnL]
  |1,_=>
   have h1:(mnL d (minK d) 1).length<=minK d*256:=by
    unfold mnL;exact zjr _ 256 (fun k=>by simp;exact hh) _
   omega
  |2,_=>simp only[mnL,zt3];omega
  |3,_=>simp only[mnL,zt3];omega
theorem zmh{w w':World}{e:Ending}(hB:dfaB d=true)(h:MinP w d e w'):zlR w (minW d) (minL d) e w':=by
 obtain⟨K,h1,h2,h3⟩:=h;unfold minW minL;rw[zuV hB,zuV hB,zoQ h1 h2];exact h3
theorem zhe{lo:Nat}(cv nv tv ev:Value)(d:DfaD)(w:World)(hs:zbU lo w cv nv tv ev d):
  Calls Tryz.prog 21 #[.agg #[cv,.int .i64 d.width,nv,tv,ev]] w (zlR w (minW d) (minL d)):=by
 cases hB:dfaB d
 ·unfold minW minL;rw[hB,zuU (by decide),zuU (by decide)];exact zga cv nv tv ev d w hs hB
 ·exact(zhE cv nv tv ev d w hs hB).mono fun e w' h=>zmh hB h
end Go.Proofs.YthddplbodacjgaaGreatDoor
