import Derived.Test.YtdimhpfiieepiaaGreatDoorC8
import Derived.Deep.RegionHeld3
import Derived.Deep.DrawnRows
namespace Go.Proofs.YtdimhpfiieepiaaGreatDoor
open Go.RowKit
def wstk(ns:List zaq):Nat->List Int
 |0=>[]
 |i+1=>zhH (wstk ns i) (ns.getD i .zero)
def wOf(ns:List zaq)(i:Nat):Int:=zcT (ns.getD i .zero) ((wstk ns i).drop ((wstk ns i).length-zaE (zat ns i)))
theorem zjw(ns:List zaq):∀i,(stk ns i).map (wOf ns)=wstk ns i
 |0=>rfl
 |i+1=>by
  have ih:=zjw ns i;have hl:(stk ns i).length=(wstk ns i).length:=by rw[<-ih,zvj]
  rw[stk,wstk,zhH,zvl,List.map_take,ih,hl]
  rfl
theorem zfj(ns:List zaq)(i:Nat):(wstk ns i).length=(stk ns i).length:=by rw[<-zjw,zvj]
theorem zgw(ns:List zaq)(i j:Nat)(h:j<(stk ns i).length):(wstk ns i).getD j 0=wOf ns ((stk ns i).getD j 0):=by
 rw[<-zjw];simp[List.getD_eq_getElem?_getD,h]
theorem zfM:∀(ns:List zaq) (st st':List Int),zdo ns st=some st'->zdx ns st.length=some st'.length/\ns.all zaB=true
 |[],st,st',h=>by cases h;exact⟨rfl,rfl⟩
 |n::ns,st,st',h=>by
  unfold zdo at h
  by_cases hc:st.length<zaE n.kind\/zaB n=false
  ·rw[zv3 hc] at h;cases h
  ·rw[zv2 hc] at h;have hl:(zhH st n).length=st.length-zaE n.kind+1:=by simp[zhH]
   obtain⟨h1,h2⟩:=zfM ns (zhH st n) st' h;refine⟨?_,?_⟩
   ·unfold zdx;rw[zv2 (fun q=>hc (.inl q)),<-hl];exact h1
   ·have:zaB n=true:=by
     cases hb:zaB n
     ·exact absurd (.inr hb) hc
     ·rfl
    simp only[List.all_cons,h2,this,Bool.and_true]
theorem zin(ns:List zaq)(ha:∀i,i<ns.length->zaE (zat ns i)<=(stk ns i).length)(hb:ns.all zaB=true):∀k,k<=ns.length->zdo ns []=zdo (ns.drop k) (wstk ns k)
 |0,_=>rfl
 |k+1,hk=>by
  rw[zin ns ha hb k (by omega),zim ns k (by omega) (wstk ns k) _ rfl,zv2]
  ·rfl
  ·have h1:=ha k (by omega);rintro (h|h)
   ·rw[zfj] at h;unfold zat at h1;omega
   ·have:zaB (ns.getD k .zero)=true:=by
     have:=zuP.1 hb (ns.getD k .zero) (by
      rw[zu3,zva (show k<ns.length by omega)];exact zvg _)
     exact this
    rw[h] at this;cases this
theorem zi9(ns:List zaq)(hk:zcA ns=true)(ha:∀i,i<ns.length->zaE (zat ns i)<=(stk ns i).length)(hb:ns.all zaB=true):0<ns.length/\ze8 ns=some (wOf ns (ns.length-1)):=by
 have h1:=zin ns ha hb ns.length (zvJ _);rw[zuW (zvJ _),zdo] at h1;have h2:=(zfM ns [] _ h1).1;have h3:(wstk ns ns.length).length=1:=by
  unfold zcA at hk;have:=eq_of_beq hk;simp only[zvk] at h2;rw[h2] at this;exact Option.some.inj this
 have hpos:0<ns.length:=by
  rcases zvI ns.length with h0|h0
  ·rw[h0] at h3;simp[wstk] at h3
  ·exact h0
 refine⟨hpos,?_⟩;obtain⟨m,hm⟩:∃m,ns.length=m+1:=⟨ns.length-1,by omega⟩;rw[hm] at h1 h3 ⊢;unfold ze8;rw[h1];have h4:=zjw ns (m+1);have h5:stk ns (m+1)=[m]:=by
  have hl:=zfj ns (m+1);rw[h3] at hl;rw[stk] at hl ⊢
  match (stk ns m).take ((stk ns m).length-zaE (zat ns m)),hl with
  |[],_=>rfl
  |_::_,hl=>simp at hl
 rw[h5] at h4;rw[<-h4]
 rfl
theorem zrL(ns:List zaq)(h:zcA ns=false\/ns.all zaB=false):ze8 ns=none:=by
 unfold ze8;cases hq:zdo ns [] with
 |none=>rfl
 |some st=>
  obtain⟨h1,h2⟩:=zfM ns [] st hq;rcases h with h|h
  ·unfold zcA at h;simp only[zvk] at h1;rw[h1] at h
   match st with
   |[]=>rfl
   |[a]=>simp at h
   |_::_::_=>rfl
  ·rw[h2] at h;cases h
theorem zfl(ns:List zaq)(ha:∀i,i<ns.length->zaE (zat ns i)<=(stk ns i).length)(hb:ns.all zaB=true):∀n i,i<n->i<ns.length->1<=wOf ns i/\wOf ns i<=2001
 |0,_,h,_=>absurd h (zvQ _)
 |n+1,i,_,hi=>by
  have hnode:zaB (ns.getD i .zero)=true:=zuP.1 hb (ns.getD i .zero) (by
   rw[zu3,zva hi];exact zvg _)
  have har:=ha i hi;have hget:∀j,j<(stk ns i).length->1<=(wstk ns i).getD j 0/\(wstk ns i).getD j 0<=2001:=by
   intro j hj;rw[zgw ns i j hj];have hmem:(stk ns i).getD j 0∈stk ns i:=by
    rw[zu3,zva hj];exact zvg _
   have hlt:=zkI ns i _ hmem;exact zfl ns ha hb n _ (by omega) (by omega)
  unfold wOf;generalize hnd:ns.getD i .zero=nd at *;obtain⟨k,rs,mn,mx,g⟩:=nd;have hkd:zat ns i=k:=by unfold zat;rw[hnd]
  rw[hkd] at har ⊢;have hdrop0:=zgn (wstk ns i) ((wstk ns i).length-zaE k);have hl:=zfj ns i;rcases zg7 hnode with rfl|rfl|rfl|rfl|rfl
  ·simp[zcT]
  ·have e:=zen (wstk ns i) ((wstk ns i).length-zaE 2);have a2:zaE 2=2:=rfl;unfold zcT;rw[zv2 (by simp),zv3 (by simp),e.1,e.2];have p:=hget ((wstk ns i).length-zaE 2) (by omega);have q:=hget ((wstk ns i).length-zaE 2+1) (by omega);exact zdF (by omega)
  ·have e:=zen (wstk ns i) ((wstk ns i).length-zaE 3);have a2:zaE 3=2:=rfl;unfold zcT;rw[zv2 (by simp),zv3 (by simp),e.1,e.2];have p:=hget ((wstk ns i).length-zaE 3) (by omega);have q:=hget ((wstk ns i).length-zaE 3+1) (by omega);exact zdF (by omega)
  ·have a2:zaE 4=1:=rfl;unfold zcT;rw[zv2 (by simp),zv2 (by simp),zv3 (by simp),hdrop0];have p:=hget ((wstk ns i).length-zaE 4) (by omega);have c:=zcZ (zg6 hnode).2.1;have hm:1*1<=(wstk ns i).getD ((wstk ns i).length-zaE 4) 0*zaV mn mx:=Int.mul_le_mul p.1 c.1 (by omega) (by omega);exact zdF (by simpa using hm)
  ·have a2:zaE 5=1:=rfl;unfold zcT;rw[zv2 (by simp),zv2 (by simp),zv2 (by simp),hdrop0];exact hget ((wstk ns i).length-zaE 5) (by omega)
variable{B gl cl gr cr g k:Nat}{w0 wr:World}{ns:List zaq}
attribute [local go_sem ↓] Go.wp_at_zero Go.wp_at_succ
structure WInv(B:Nat)(w0 wr:World)(ns:List zaq)(gl cl gr cr g k:Nat):Prop where
 below:Below B w0 wr
 left:wr.ownsRow B 3 1 (.slice (some ⟨gl,0,none⟩) ns.length cl) ns.length (rowL ns ns.length)
 right:wr.ownsRow B 3 1 (.slice (some ⟨gr,0,none⟩) ns.length cr) ns.length (rowR ns ns.length)
 wrow:∃xs,wr.ownsRow B 3 1 (.slice (some ⟨g,0,none⟩) ns.length ns.length) ns.length xs/\∀j,j<k->xs[j]?=some (.int .i64 (wOf ns j))
 lne:gl≠g
 rne:gr≠g
 base:B<=wr.heap.size
theorem WInv.same{w1:World}(h:WInv B w0 wr ns gl cl gr cr g k)(hb:Below wr.heap.size wr w1):WInv B w0 w1 ns gl cl gr cr g k:=
 ⟨zaa h.below h.base hb,zac h.left hb,zac h.right hb,by obtain⟨xs,h1,h2⟩:=h.wrow;exact⟨xs,zac h1 hb,h2⟩,h.lne,h.rne,zvK h.base hb.size⟩
theorem WInv.alloc(h:WInv B w0 wr ns gl cl gr cr g k)(o:Obj):WInv B w0 (wr.alloc o) ns gl cl gr cr g k:=h.same ((Below.refl _ _).alloc (zvJ _) _)
theorem WInv.drew(h:WInv B w0 wr ns gl cl gr cr g k):WInv B w0 wr.drew ns gl cl gr cr g k:=h.same (Below.refl _ _).drew
theorem WInv.store(h:WInv B w0 wr ns gl cl gr cr g k)(u:Value):WInv B w0 (wr.setCell ⟨g,k,none⟩ u) ns gl cl gr cr g k:=by
 obtain⟨xs,h1,h2⟩:=h.wrow;obtain⟨s1,s2⟩:=h1.stored k u;refine⟨h.below.setCell (zbu h1).1 _,zev h.left s2 h.lne,zev h.right s2 h.rne,⟨_,s1,fun j hj=>?_⟩,h.lne,h.rne,by simpa [World.setCell] using h.base⟩;rw[List.getElem?_set_ne (by omega)];exact h2 j hj
theorem WInv.put(h:WInv B w0 wr ns gl cl gr cr g k)(hk:k<ns.length){u:Int}(hu:u=wOf ns k):WInv B w0 (wr.setCell ⟨g,k,none⟩ (.int .i64 u)) ns gl cl gr cr g (k+1):=by
 subst hu;obtain⟨xs,h1,h2⟩:=h.wrow;obtain⟨s1,s2⟩:=h1.stored k (.int .i64 (wOf ns k));refine⟨h.below.setCell (zbu h1).1 _,zev h.left s2 h.lne,zev h.right s2 h.rne,⟨_,s1,fun j hj=>?_⟩,h.lne,h.rne,by simpa [World.setCell] using h.base⟩
 by_cases e:j=k
 ·subst e;rw[List.getElem?_set_self (by have:=h1.1;omega)]
 ·rw[List.getElem?_set_ne (by omega)];exact h2 j (by omega)
theorem WInv.cellW(h:WInv B w0 wr ns gl cl gr cr g k){j:Nat}(hj:j<k)(hn:j<ns.length):wr.cell? ⟨g,j,none⟩=some (.int .i64 (wOf ns j)):=by
 obtain⟨xs,h1,h2⟩:=h.wrow;rw[h1.cellAt j (by omega)];exact h2 j hj
theorem WInv.cellK(h:WInv B w0 wr ns gl cl gr cr g k)(hn:k<ns.length):(∃u,wr.cell? ⟨g,k,none⟩=some u)/\wr.frozen? ⟨g,k,none⟩=false:=by
 obtain⟨xs,h1,h2⟩:=h.wrow;exact⟨zbC h1 (by omega),h1.frozenAt k⟩
theorem WInv.cellL(h:WInv B w0 wr ns gl cl gr cr g k)(hn:k<ns.length):wr.cell? ⟨gl,k,none⟩=some (.int .i64 (zbL ns k)):=by
 rw[h.left.cellAt k (by omega)];simp[rowL,hn]
theorem WInv.cellR(h:WInv B w0 wr ns gl cl gr cr g k)(hn:k<ns.length):wr.cell? ⟨gr,k,none⟩=some (.int .i64 (zbD ns k)):=by
 rw[h.right.cellAt k (by omega)];simp[rowR,hn]
theorem WInv.lt(h:WInv B w0 wr ns gl cl gr cr g k):gl<wr.heap.size/\gr<wr.heap.size/\g<wr.heap.size:=by
 obtain⟨xs,h1,h2⟩:=h.wrow;exact⟨zcE h.left,zcE h.right,zcE h1⟩
theorem zmK(ha:zaE (zat ns k)=2)(hl:2<=(stk ns k).length):∃x y:Nat,zbL ns k=x/\zbD ns k=y/\x<k/\y<k/\(wstk ns k).drop ((wstk ns k).length-2)=[wOf ns x,wOf ns y]:=by
 have hm:∀j,j<(stk ns k).length->(stk ns k).getD j 0<k:=fun j hj=>zkI ns k _ (by
  rw[zu3,zva hj];exact zvg _)
 refine⟨(stk ns k).getD ((stk ns k).length-2) 0,(stk ns k).getD ((stk ns k).length-1) 0,?_,?_,hm _ (by omega),hm _ (by omega),?_⟩
 ·rw[zbL,ha,zv2 (by omega)]
 ·rw[zbD,zv3 ha]
 ·have hw:=zfj ns k;have e1:=zgw ns k ((stk ns k).length-2) (by omega);have e2:=zgw ns k ((stk ns k).length-1) (by omega);rw[<-e1,<-e2];apply zu0;intro i;rw[zu9]
  match i with
  |0=>rw[hw,zvH,zva (by omega)];simp[List.getD_eq_getElem?_getD,List.getElem?_eq_getElem (show (stk ns k).length-2<(wstk ns k).length by omega)]
  |1=>rw[hw,show (stk ns k).length-2+1=(stk ns k).length-1 by omega,zva (by omega)];simp[List.getD_eq_getElem?_getD,List.getElem?_eq_getElem (show (stk ns k).length-1<(wstk ns k).length by omega)]
  |i+2=>rw[zvb (by omega)];simp
theorem zmJ(ha:zaE (zat ns k)=1)(hl:1<=(stk ns k).length):∃x:Nat,zbL ns k=x/\x<k/\((wstk ns k).drop ((wstk ns k).length-1)).getD 0 0=wOf ns x:=by
 have hm:∀j,j<(stk ns k).length->(stk ns k).getD j 0<k:=fun j hj=>zkI ns k _ (by
  rw[zu3,zva hj];exact zvg _)
 refine⟨(stk ns k).getD ((stk ns k).length-1) 0,?_,hm _ (by omega),?_⟩
 ·rw[zbL,ha,zv2 (by omega)]
 ·rw[zgn,zfj];exact zgw ns k ((stk ns k).length-1) (by omega)
end Go.Proofs.YtdimhpfiieepiaaGreatDoor
