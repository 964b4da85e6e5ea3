import Derived.Test.YthddplbodacjgaaGreatDoorC6
namespace Go.Proofs.YthddplbodacjgaaGreatDoor
set_option maxHeartbeats 4000000
set_option maxRecDepth 100000
open Go.RowKit
variable {w:World}{B g2:Nat}
def zaQ(ns:List zau)(i:Nat):Int:=(ns.getD i .zero).kind
def stk(ns:List zau):Nat->List Nat
 |0=>[]
 |i+1=>(stk ns i).take ((stk ns i).length-zaI (zaQ ns i))++[i]
def zch(ns:List zau)(i:Nat):Int:=if zaI (zaQ ns i)=0 then -1 else ((stk ns i).getD ((stk ns i).length-zaI (zaQ ns i)) 0:Nat)
def zcu(ns:List zau)(i:Nat):Int:=if zaI (zaQ ns i)=2 then ((stk ns i).getD ((stk ns i).length-1) 0:Nat) else -1
def zd1:List zau->Nat->Option Nat
 |[],d=>some d
 |n::ns,d=>if d<zaI n.kind then none else zd1 ns (d-zaI n.kind+1)
def zcM(ns:List zau):Bool:=zd1 ns 0==some 1
theorem zm6(ns:List zau)(i:Nat)(hi:i<ns.length)(d:Nat)(kd:Int)(h:zaQ ns i=kd):zd1 (ns.drop i) d=if d<zaI kd then none else zd1 (ns.drop (i+1)) (d-zaI kd+1):=by
 rw[ztG hi];have:ns[i].kind=kd:=by rw[<-h];simp[zaQ,List.getD,hi]
 rw[zd1,this]
theorem zpF(ns:List zau)(i:Nat):(stk ns (i+1)).length=(stk ns i).length-zaI (zaQ ns i)+1:=by
 simp[stk]
theorem zrM(ns:List zau):∀i,(stk ns i).length<=i
 |0=>zuz _
 |i+1=>by have:=zrM ns i;rw[zpF];omega
theorem zkd(ns:List zau):∀i,∀j∈stk ns i,j<i
 |0,j,h=>by simp[stk] at h
 |i+1,j,h=>by
  unfold stk at h;rcases zuc.1 h with h|h
  ·exact Nat.lt_succ_of_lt (zkd ns i j (List.mem_of_mem_take h))
  ·simp at h;omega
def rowL(ns:List zau)(k:Nat):List Value:=(List.range k).map fun i=>.int .i64 (zch ns i)
def rowR(ns:List zau)(k:Nat):List Value:=(List.range k).map fun i=>.int .i64 (zcu ns i)
def rowS(l:List Nat):List Value:=l.map fun j:Nat=>.int .i64 (j:Int)
theorem zpq(ns:List zau)(k:Nat):rowL ns (k+1)=rowL ns k++[.int .i64 (zch ns k)]:=by simp[rowL,List.range_succ]
theorem zpr(ns:List zau)(k:Nat):rowR ns (k+1)=rowR ns k++[.int .i64 (zcu ns k)]:=by simp[rowR,List.range_succ]
theorem zg8(l:List Nat)(m:Nat):(rowS l).take m=rowS (l.take m):=by simp[rowS,List.map_take]
theorem zps(l:List Nat)(j:Nat):rowS (l++[j])=rowS l++[.int .i64 (j:Int)]:=by simp[rowS]
theorem ziS(l:List Nat)(i:Nat)(h:i<l.length):(rowS l)[i]?=some (.int .i64 ((l.getD i 0:Nat):Int)):=by simp[rowS,h,List.getD]
structure zrS(w:World)(B:Nat)(gl cl gr cr gs cs k d:Nat)(L R S:List Value):Prop where
 left:w.ownsRow B 3 1 (.slice (some ⟨gl,0,none⟩) k cl) k L
 right:w.ownsRow B 3 1 (.slice (some ⟨gr,0,none⟩) k cr) k R
 stack:w.ownsRow B 3 1 (.slice (some ⟨gs,0,none⟩) d cs) d S
 lr:gl≠gr
 ls:gl≠gs
 rs:gr≠gs
theorem zeI{w':World}{g cap n:Nat}{xs:List Value}(h:w.ownsRow B 3 1 (.slice (some ⟨g,0,none⟩) n cap) n xs)(hg:w.grownBy w' (some g2))(hne:g≠g2):w'.ownsRow B 3 1 (.slice (some ⟨g,0,none⟩) n cap) n xs:=
 h.kept hg (.inr (by simp[Value.ownBlock];exact hne))
theorem zgK{ns:List zau}{k m gl cl gr cr gs cs g1 c1 c2 g3 c3:Nat}{wr W w1 w2 w3:World}{lf rt:Int}
  (hst:stk ns (k+1)=(stk ns k).take m++[k]) (hm:m<=(stk ns k).length)
  (own1:w1.ownsRow B 3 1 (.slice (some ⟨g1,0,none⟩) (k+1) c1) (k+1) (rowL ns k++[.int .i64 lf])) (own2:w2.ownsRow B 3 1 (.slice (some ⟨g2,0,none⟩) (k+1) c2) (k+1) (rowR ns k++[.int .i64 rt]))
  (own3:w3.ownsRow B 3 1 (.slice (some ⟨g3,0,none⟩) (m+1) c3) (m+1) (rowS ((stk ns k).take m)++[.int .i64 (k:Int)]))
  (grow1:W.grownBy w1 (some gl)) (grow2:w1.grownBy w2 (some gr)) (grow3:w2.grownBy w3 (some gs)) (at1:g1=gl\/g1=W.heap.size+1) (at2:g2=gr\/g2=w1.heap.size+1) (at3:g3=gs\/g3=w2.heap.size+1)
  (hl:zch ns k=lf) (hr:zcu ns k=rt) (hba:Below w.heap.size w W) (hB:B=w.heap.size) (hrows:zrS wr B gl cl gr cr gs cs k (stk ns k).length (rowL ns k) (rowR ns k) (rowS (stk ns k))) (hgr:gr<W.heap.size) (hgs:gs<W.heap.size)
  (HS2:Hid (zd1 ns 0=zd1 (ns.drop (k+1)) (stk ns (k+1)).length)) (HA2:Hid (∀i,i<k+1->zaI (zaQ ns i)<=(stk ns i).length)) (hlt:k<ns.length):
  ∃(k' gl cl gr cr gs cs:Nat),k'<=ns.length/\Value.int .i64 ((k:Int)+1)=.int .i64 k'/\Value.slice (some ⟨g1,0,none⟩) (k+1) c1=.slice (some ⟨gl,0,none⟩) k' cl/\Value.slice (some ⟨g2,0,none⟩) (k+1) c2=.slice (some ⟨gr,0,none⟩) k' cr/\Value.slice (some ⟨g3,0,none⟩) (m+1) c3=.slice (some ⟨gs,0,none⟩) (stk ns k').length cs/\Below w.heap.size w w3/\zrS w3 w.heap.size gl cl gr cr gs cs k' (stk ns k').length (rowL ns k') (rowR ns k') (rowS (stk ns k'))/\Hid (zd1 ns 0=zd1 (ns.drop k') (stk ns k').length)/\Hid (∀i,i<k'->zaI (zaQ ns i)<=(stk ns i).length):=by
 subst hB;have hlen:(stk ns (k+1)).length=m+1:=by rw[hst];simp;omega
 obtain⟨hb1,_,_,_⟩:=zaV hrows.left;obtain⟨hb2,_,_,_⟩:=zaV hrows.right;obtain⟨hb3,_,_,_⟩:=zaV hrows.stack;have s1:=grow1.size;have s2:=grow2.size;have f1:=(zaV own1).2.1;have f2:=(zaV own2).2.1;have b1:Below w.heap.size w w1:=hba.grown grow1 hba.size (by intro q hq;cases hq;exact hb1);have b2:Below w.heap.size w w2:=b1.grown grow2 b1.size (by intro q hq;cases hq;exact hb2);have b3:Below w.heap.size w w3:=b2.grown grow3 b2.size (by intro q hq;cases hq;exact hb3);have n1r:g1≠gr:=by have:=hrows.lr;rcases at1 with h|h<;>omega
 have n1s:g1≠gs:=by have:=hrows.ls;rcases at1 with h|h<;>omega
 have n2s:g2≠gs:=by have:=hrows.rs;rcases at2 with h|h<;>omega
 have n12:g1≠g2:=by rcases at2 with h|h<;>omega
 refine⟨k+1,g1,c1,g2,c2,g3,c3,by omega,by go_num,rfl,rfl,by rw[hlen],b3,⟨?_,?_,?_,n12,?_,?_⟩,HS2,HA2⟩
 ·rw[zpq,hl];exact zeI (zeI own1 grow2 n1r) grow3 n1s
 ·rw[zpr,hr];exact zeI own2 grow3 n2s
 ·rw[hlen,hst,zps];exact own3
 ·rcases at3 with h|h<;>omega
 ·rcases at3 with h|h<;>omega
theorem zk0{lo:Nat}(v:Value)(ns:List zau)(w:World)(hs:zaP lo w v ns)(hn:ns.length<=1048576):
  Calls Tryz.prog 68 #[v] w fun e w'=>Below w.heap.size w w'/\((zcM ns=false/\∃lv rv,e=.returned (.tuple #[lv,rv,.bool false]))\/
   (zcM ns=true/\∃gl cl gr cr,e=.returned (.tuple #[.slice (some ⟨gl,0,none⟩) ns.length cl,.slice (some ⟨gr,0,none⟩) ns.length cr,.bool true])/\
    w'.ownsRow w.heap.size 3 1 (.slice (some ⟨gl,0,none⟩) ns.length cl) ns.length (rowL ns ns.length)/\w'.ownsRow w.heap.size 3 1 (.slice (some ⟨gr,0,none⟩) ns.length cr) ns.length (rowR ns ns.length)/\∀i,i<ns.length->zaI (zaQ ns i)<=(stk ns i).length)):=by
 obtain⟨ao,cap,rfl,hm,hc⟩:=hs;obtain⟨i0,hi,hz0,hz1,hz2⟩:=info_parts Tryz.infoInt
 go_enter Tryz.func68,Tryz.ntmps68
 go_wp2
 go_loopw [5,6,7,17] (fun l r s i wr=>∃(k gl cl gr cr gs cs:Nat),k<=ns.length/\i=.int .i64 k/\l=.slice (some ⟨gl,0,none⟩) k cl/\r=.slice (some ⟨gr,0,none⟩) k cr/\s=.slice (some ⟨gs,0,none⟩) (stk ns k).length cs/\Below w.heap.size w wr/\zrS wr w.heap.size gl cl gr cr gs cs k (stk ns k).length (rowL ns k) (rowR ns k) (rowS (stk ns k))/\Hid (zd1 ns 0=zd1 (ns.drop k) (stk ns k).length)/\Hid (∀i,i<k->zaI (zaQ ns i)<=(stk ns i).length))
  (fun _ _ _ i _=>ns.length-(intOf i).toNat)
 case atStart=>
  refine⟨0,_,_,_,_,_,_,zuL _,rfl,rfl,rfl,rfl,(((Below.refl _ _).alloc (zuz _) _).alloc (by simp) _).alloc (by simp;omega) _,⟨?_,?_,?_,by simp,by simp;omega,by simp⟩,rfl,fun i hi=>absurd hi (zuI _)⟩
  ·exact((zcc _ _).alloc _).alloc _
  ·exact(zcI _ _ _ _ (by omega) (by simp)).alloc _
  ·exact zcI _ _ _ _ (by omega) (by simp)
 case round=>
  obtain⟨k,gl,cl,gr,cr,gs,cs,hk,rfl,rfl,rfl,rfl,hb,hrows,HS,HAr⟩:=hrel;have hsl:=zrM ns k
  by_cases hlt:k<ns.length
  ·obtain⟨b,o,sv,nd,rfl,Hn,hbl,c0,c1,c2,c3,c4,hsv⟩:=hc.elem hb hlt;obtain⟨sao,scp,rfl,hsm,hsc⟩:=hsv;have Hkind:Hid (zaQ ns k=nd.kind):=by show _=_;unfold zaQ;rw[Hn.out]
   have HD:Hid _:=zm6 ns k hlt (stk ns k).length nd.kind Hkind.out;have HSt:Hid (stk ns (k+1)=(stk ns k).take ((stk ns k).length-zaI nd.kind)++[k]):=by show _=_;rw[stk,Hkind.out]
   have HL:Hid (zch ns k=if zaI nd.kind=0 then -1 else (((stk ns k).getD ((stk ns k).length-zaI nd.kind) 0:Nat):Int)):=by show _=_;rw[zch,Hkind.out]
   have HR:Hid (zcu ns k=if zaI nd.kind=2 then (((stk ns k).getD ((stk ns k).length-1) 0:Nat):Int) else -1):=by show _=_;rw[zcu,Hkind.out]
   have hz:=hb.size;have hba:Below w.heap.size w (wr.alloc (.cells #[.int .i64 nd.kind,.slice sao nd.set.length scp,.int .i64 nd.min,.int .i64 nd.max,.int .i64 nd.group] 144)):=hb.alloc hz _;obtain⟨hgl1,hgl2,hgl3,hgl4⟩:=zaV hrows.left;obtain⟨hgr1,hgr2,hgr3,hgr4⟩:=zaV hrows.right;obtain⟨hgs1,hgs2,hgs3,hgs4⟩:=zaV hrows.stack;unfold maxLen at hgl4 hgr4 hgs4
   by_cases har:(stk ns k).length<zaI nd.kind
   ·have hle:((stk ns k).length:Int)<(zaI nd.kind:Int):=by omega
    go_wp2_with (go_at_call 97;refine(zgd _ _).mono ?_;rintro e w2 ⟨rfl,rfl⟩)
    go_ret3
    exact⟨hba,.inl ⟨by unfold zcM;rw[HS.out,HD.out,zuV har];rfl,_,_,rfl⟩⟩
   have HS2:Hid (zd1 ns 0=zd1 (ns.drop (k+1)) (stk ns (k+1)).length):=by
    show _=_;rw[HS.out,HD.out,zuU har,HSt.out]
    congr 1
    simp
   have HA2:Hid (∀i,i<k+1->zaI (zaQ ns i)<=(stk ns i).length):=by
    intro i hi
    by_cases e:i=k
    ·subst e;rw[Hkind.out];omega
    ·exact HAr.out i (by omega)
   rcases(show zaI nd.kind=0\/zaI nd.kind=1\/zaI nd.kind=2 by have:=zlW nd.kind;omega) with ha|ha|ha
   ·obtain⟨m,hd⟩:∃m,(stk ns k).length=m+0:=⟨_,rfl⟩;have Hd:Hid _:=hd;rw[ha,hd] at HSt;rw[ha,hd] at HL;rw[ha] at HR;have hst2:∀{w1 w2:World},(wr.alloc (.cells #[.int .i64 nd.kind,.slice sao nd.set.length scp,.int .i64 nd.min,.int .i64 nd.max,.int .i64 nd.group] 144)).grownBy w1 (some gl)->w1.grownBy w2 (some gr)->w2.ownsRow w.heap.size 3 1 (.slice (some ⟨gs,0,none⟩) m cs) m (rowS ((stk ns k).take m)):=by
     intro w1 w2 hg1 hg2;have h0:=zbC (m:=m) (hrows.stack.alloc (.cells #[.int .i64 nd.kind,.slice sao nd.set.length scp,.int .i64 nd.min,.int .i64 nd.max,.int .i64 nd.group] 144)) (by have:=Hd.out;omega);rw[zg8] at h0;exact zeI (zeI h0 hg1 hrows.ls.symm) hg2 hrows.rs.symm
    rw[hd] at hgs3 hsl ⊢;have hx0:¬((m:Int)+0<0):=by omega
    clear hd
    go_wp2_with (first|(go_at_call 97;refine(zgd _ _).mono ?_;rintro e w2 ⟨rfl,rfl⟩;rw[ha])|(refine zaO (wr.alloc (.cells #[.int .i64 nd.kind,.slice sao nd.set.length scp,.int .i64 nd.min,.int .i64 nd.max,.int .i64 nd.group] 144)) (wr.heap.size+1) (by simp) rfl (.tmp 60) (.tmp 62) 24 rfl w.heap.size 3 i0 _ 8 Tryz.underlying24 hi hz0 hz1 hz2 rfl gl cl k (rowL ns k) _ rfl (hrows.left.alloc _) rfl rfl (by omega) (by omega) hba.size ?_;intro g1 c1' w1 own1 grow1 at1;have hsz1:=grow1.size)|(refine zaC w1 rfl (.tmp 64) (.tmp 66) 24 rfl w.heap.size 3 i0 _ 8 Tryz.underlying24 hi hz0 hz1 hz2 rfl gr cr k (rowR ns k) _ rfl (zeI (hrows.right.alloc _) grow1 hrows.lr.symm) rfl rfl (by omega) (by omega) (zuA hba.size hsz1) ?_;intro g2 c2' w2 own2 grow2 at2;have hsz2:=grow2.size)|(refine zaC w2 rfl (.tmp 68) (.tmp 70) 24 rfl w.heap.size 3 i0 _ 8 Tryz.underlying24 hi hz0 hz1 hz2 rfl gs cs m (rowS ((stk ns k).take m)) _ rfl (hst2 grow1 grow2) rfl rfl (by omega) (by omega) (zuA hba.size (zuA hsz1 hsz2)) ?_;intro g3 c3' w3 own3 grow3 at3))
    go_roundw
    case rel=>exact zgK (m:=m) (by simpa using HSt.out) (by have:=Hd.out;omega) own1 own2 own3 grow1 grow2 grow3 at1 at2 at3 (HL.out.trans (by simp)) (HR.out.trans (by simp)) hba rfl hrows (by simp;omega) (by simp;omega) HS2 HA2 hlt
    case measure=>simp[intOf];omega
   ·obtain⟨m,hd⟩:∃m,(stk ns k).length=m+1:=⟨(stk ns k).length-1,by omega⟩;have Hd:Hid _:=hd;obtain⟨x,hxx⟩:∃x,(stk ns k).getD m 0=x:=⟨_,rfl⟩;have q0:wr.cell? ⟨gs,m,none⟩=some (.int .i64 (x:Int)):=by rw[hrows.stack.cellAt m (by omega),ziS _ _ (by omega),hxx]
    rw[ha,hd] at HSt;rw[ha,hd] at HL;rw[ha] at HR;have hst2:∀{w1 w2:World},(wr.alloc (.cells #[.int .i64 nd.kind,.slice sao nd.set.length scp,.int .i64 nd.min,.int .i64 nd.max,.int .i64 nd.group] 144)).grownBy w1 (some gl)->w1.grownBy w2 (some gr)->w2.ownsRow w.heap.size 3 1 (.slice (some ⟨gs,0,none⟩) m cs) m (rowS ((stk ns k).take m)):=by
     intro w1 w2 hg1 hg2;have h0:=zbC (m:=m) (hrows.stack.alloc (.cells #[.int .i64 nd.kind,.slice sao nd.set.length scp,.int .i64 nd.min,.int .i64 nd.max,.int .i64 nd.group] 144)) (by have:=Hd.out;omega);rw[zg8] at h0;exact zeI (zeI h0 hg1 hrows.ls.symm) hg2 hrows.rs.symm
    rw[hd] at hgs3 hsl ⊢;have HX:Hid _:=hxx;clear hd hxx
    go_wp2_with (first|(go_at_call 97;refine(zgd _ _).mono ?_;rintro e w2 ⟨rfl,rfl⟩;rw[ha])|(refine zaO (wr.alloc (.cells #[.int .i64 nd.kind,.slice sao nd.set.length scp,.int .i64 nd.min,.int .i64 nd.max,.int .i64 nd.group] 144)) (wr.heap.size+1) (by simp) rfl (.tmp 60) (.tmp 62) 24 rfl w.heap.size 3 i0 _ 8 Tryz.underlying24 hi hz0 hz1 hz2 rfl gl cl k (rowL ns k) _ rfl (hrows.left.alloc _) rfl rfl (by omega) (by omega) hba.size ?_;intro g1 c1' w1 own1 grow1 at1;have hsz1:=grow1.size)|(refine zaC w1 rfl (.tmp 64) (.tmp 66) 24 rfl w.heap.size 3 i0 _ 8 Tryz.underlying24 hi hz0 hz1 hz2 rfl gr cr k (rowR ns k) _ rfl (zeI (hrows.right.alloc _) grow1 hrows.lr.symm) rfl rfl (by omega) (by omega) (zuA hba.size hsz1) ?_;intro g2 c2' w2 own2 grow2 at2;have hsz2:=grow2.size)|(refine zaC w2 rfl (.tmp 68) (.tmp 70) 24 rfl w.heap.size 3 i0 _ 8 Tryz.underlying24 hi hz0 hz1 hz2 rfl gs cs m (rowS ((stk ns k).take m)) _ rfl (hst2 grow1 grow2) rfl rfl (by omega) (by omega) (zuA hba.size (zuA hsz1 hsz2)) ?_;intro g3 c3' w3 own3 grow3 at3))
    go_roundw
    case rel=>exact zgK (m:=m) (by have:=HSt.out;rw[zuw] at this;exact this) (by have:=Hd.out;omega) own1 own2 own3 grow1 grow2 grow3 at1 at2 at3 (HL.out.trans (by rw[zuU (by omega),zuw,HX.out])) (HR.out.trans (by rw[zuU (by omega)])) hba rfl hrows (by simp;omega) (by simp;omega) HS2 HA2 hlt
    case measure=>simp[intOf];omega
   ·obtain⟨m,hd⟩:∃m,(stk ns k).length=m+2:=⟨(stk ns k).length-2,by omega⟩;have Hd:Hid _:=hd;obtain⟨x,hxx⟩:∃x,(stk ns k).getD m 0=x:=⟨_,rfl⟩;have q0:wr.cell? ⟨gs,m,none⟩=some (.int .i64 (x:Int)):=by rw[hrows.stack.cellAt m (by omega),ziS _ _ (by omega),hxx]
    obtain⟨y,hyy⟩:∃y,(stk ns k).getD (m+1) 0=y:=⟨_,rfl⟩;have q1:wr.cell? ⟨gs,m+1,none⟩=some (.int .i64 (y:Int)):=by rw[hrows.stack.cellAt (m+1) (by omega),ziS _ _ (by omega),hyy]
    rw[ha,hd] at HSt;rw[ha,hd] at HL;rw[ha,hd] at HR;have hst2:∀{w1 w2:World},(wr.alloc (.cells #[.int .i64 nd.kind,.slice sao nd.set.length scp,.int .i64 nd.min,.int .i64 nd.max,.int .i64 nd.group] 144)).grownBy w1 (some gl)->w1.grownBy w2 (some gr)->w2.ownsRow w.heap.size 3 1 (.slice (some ⟨gs,0,none⟩) m cs) m (rowS ((stk ns k).take m)):=by
     intro w1 w2 hg1 hg2;have h0:=zbC (m:=m) (hrows.stack.alloc (.cells #[.int .i64 nd.kind,.slice sao nd.set.length scp,.int .i64 nd.min,.int .i64 nd.max,.int .i64 nd.group] 144)) (by have:=Hd.out;omega);rw[zg8] at h0;exact zeI (zeI h0 hg1 hrows.ls.symm) hg2 hrows.rs.symm
    rw[hd] at hgs3 hsl ⊢;have HX:Hid _:=hxx;have HY:Hid _:=hyy;clear hd hxx hyy
    go_wp2_with (first|(go_at_call 97;refine(zgd _ _).mono ?_;rintro e w2 ⟨rfl,rfl⟩;rw[ha])|(refine zaO (wr.alloc (.cells #[.int .i64 nd.kind,.slice sao nd.set.length scp,.int .i64 nd.min,.int .i64 nd.max,.int .i64 nd.group] 144)) (wr.heap.size+1) (by simp) rfl (.tmp 60) (.tmp 62) 24 rfl w.heap.size 3 i0 _ 8 Tryz.underlying24 hi hz0 hz1 hz2 rfl gl cl k (rowL ns k) _ rfl (hrows.left.alloc _) rfl rfl (by omega) (by omega) hba.size ?_;intro g1 c1' w1 own1 grow1 at1;have hsz1:=grow1.size)|(refine zaC w1 rfl (.tmp 64) (.tmp 66) 24 rfl w.heap.size 3 i0 _ 8 Tryz.underlying24 hi hz0 hz1 hz2 rfl gr cr k (rowR ns k) _ rfl (zeI (hrows.right.alloc _) grow1 hrows.lr.symm) rfl rfl (by omega) (by omega) (zuA hba.size hsz1) ?_;intro g2 c2' w2 own2 grow2 at2;have hsz2:=grow2.size)|(refine zaC w2 rfl (.tmp 68) (.tmp 70) 24 rfl w.heap.size 3 i0 _ 8 Tryz.underlying24 hi hz0 hz1 hz2 rfl gs cs m (rowS ((stk ns k).take m)) _ rfl (hst2 grow1 grow2) rfl rfl (by omega) (by omega) (zuA hba.size (zuA hsz1 hsz2)) ?_;intro g3 c3' w3 own3 grow3 at3))
    go_roundw
    case rel=>exact zgK (m:=m) (by have:=HSt.out;rw[zuw] at this;exact this) (by have:=Hd.out;omega) own1 own2 own3 grow1 grow2 grow3 at1 at2 at3 (HL.out.trans (by rw[zuU (by omega),zuw,HX.out])) (HR.out.trans (by rw[zuV (by trivial),show m+2-1=m+1 by omega,HY.out])) hba rfl hrows (by simp;omega) (by simp;omega) HS2 HA2 hlt
    case measure=>simp[intOf];omega
  ·have hkk:k=ns.length:=by omega
   have hnil:ns.drop k=[]:=ztH (by omega);rw[hnil] at HS;have HKB:Hid (zcM ns=((((stk ns k).length:Nat):Int)==1)):=by
    show _=_;unfold zcM;rw[HS.out,zd1]
    by_cases h:(stk ns k).length=1
    ·rw[h];rfl
    ·have h1:((((stk ns k).length:Nat):Int)==1)=false:=zuM.2 (by omega);rw[h1];simp[h]
   have HP:Hid (∀e,e=Ending.returned (.tuple #[.slice (some ⟨gl,0,none⟩) k cl,.slice (some ⟨gr,0,none⟩) k cr,.bool ((((stk ns k).length:Nat):Int)==1)])->((zcM ns=false/\∃lv rv,e=.returned (.tuple #[lv,rv,.bool false]))\/
   (zcM ns=true/\∃gl cl gr cr,e=.returned (.tuple #[.slice (some ⟨gl,0,none⟩) ns.length cl,.slice (some ⟨gr,0,none⟩) ns.length cr,.bool true])/\
    wr.ownsRow w.heap.size 3 1 (.slice (some ⟨gl,0,none⟩) ns.length cl) ns.length (rowL ns ns.length)/\wr.ownsRow w.heap.size 3 1 (.slice (some ⟨gr,0,none⟩) ns.length cr) ns.length (rowR ns ns.length)/\∀i,i<ns.length->zaI (zaQ ns i)<=(stk ns i).length))):=by
    intro e he;cases h:((((stk ns k).length:Nat):Int)==1)
    ·rw[h] at he;exact .inl ⟨HKB.out.trans h,_,_,he⟩
    ·rw[h] at he;rw[hkk] at he hrows HAr;exact .inr ⟨by rw[HKB.out,<-h],gl,cl,gr,cr,he,hrows.left,hrows.right,HAr.out⟩
   have hge:¬k<ns.length:=by omega
   clear hkk hnil HKB hrows;go_wp2
   go_ret3
   exact⟨hb,HP.out _ rfl⟩
end Go.Proofs.YthddplbodacjgaaGreatDoor
