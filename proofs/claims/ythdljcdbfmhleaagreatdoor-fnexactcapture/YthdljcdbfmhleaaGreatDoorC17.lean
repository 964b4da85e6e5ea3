import Derived.Test.YthdljcdbfmhleaaGreatDoorC16
namespace Go.Proofs.YthdljcdbfmhleaaGreatDoor
set_option maxHeartbeats 4000000
set_option maxRecDepth 100000
open Go.RowKit
variable {w:World}{B g2:Nat}
def zap(ns:List zak)(i:Nat):Int:=(ns.getD i .zero).kind
def stk(ns:List zak):Nat->List Nat
 |0=>[]
 |i+1=>(stk ns i).take ((stk ns i).length-zaA (zap ns i))++[i]
def zbn(ns:List zak)(i:Nat):Int:=if zaA (zap ns i)=0 then -1 else ((stk ns i).getD ((stk ns i).length-zaA (zap ns i)) 0:Nat)
def zbf(ns:List zak)(i:Nat):Int:=if zaA (zap ns i)=2 then ((stk ns i).getD ((stk ns i).length-1) 0:Nat) else -1
def zcF:List zak->Nat->Option Nat
 |[],d=>some d
 |n::ns,d=>if d<zaA n.kind then none else zcF ns (d-zaA n.kind+1)
def zbW(ns:List zak):Bool:=zcF ns 0==some 1
theorem zgF(ns:List zak)(i:Nat)(hi:i<ns.length)(d:Nat)(kd:Int)(h:zap ns i=kd):zcF (ns.drop i) d=if d<zaA kd then none else zcF (ns.drop (i+1)) (d-zaA kd+1):=by
 rw[zrp hi];have:ns[i].kind=kd:=by rw[<-h];simp[zap,List.getD,hi]
 rw[zcF,this]
theorem zj3(ns:List zak)(i:Nat):(stk ns (i+1)).length=(stk ns i).length-zaA (zap ns i)+1:=by
 simp[stk]
theorem zpH(ns:List zak):∀i,(stk ns i).length<=i
 |0=>zsa _
 |i+1=>by have:=zpH ns i;rw[zj3];omega
theorem ziG(ns:List zak):∀i,∀j∈stk ns i,j<i
 |0,j,h=>by simp[stk] at h
 |i+1,j,h=>by
  unfold stk at h;rcases zrR.1 h with h|h
  ·exact Nat.lt_succ_of_lt (ziG ns i j (List.mem_of_mem_take h))
  ·simp at h;omega
def rowL(ns:List zak)(k:Nat):List Value:=(List.range k).map fun i=>.int .i64 (zbn ns i)
def rowR(ns:List zak)(k:Nat):List Value:=(List.range k).map fun i=>.int .i64 (zbf ns i)
def rowS(l:List Nat):List Value:=l.map fun j:Nat=>.int .i64 (j:Int)
theorem znI(ns:List zak)(k:Nat):rowL ns (k+1)=rowL ns k++[.int .i64 (zbn ns k)]:=by simp[rowL,List.range_succ]
theorem znJ(ns:List zak)(k:Nat):rowR ns (k+1)=rowR ns k++[.int .i64 (zbf ns k)]:=by simp[rowR,List.range_succ]
theorem zf2(l:List Nat)(m:Nat):(rowS l).take m=rowS (l.take m):=by simp[rowS,List.map_take]
theorem znK(l:List Nat)(j:Nat):rowS (l++[j])=rowS l++[.int .i64 (j:Int)]:=by simp[rowS]
theorem zhw(l:List Nat)(i:Nat)(h:i<l.length):(rowS l)[i]?=some (.int .i64 ((l.getD i 0:Nat):Int)):=by simp[rowS,h,List.getD]
structure zpK(w:World)(B:Nat)(gl cl gr cr gs cs k d:Nat)(L R S:List Value):Prop where
 left:w.ownsRow B 3 1 (.slice (some ⟨gl,0,none⟩) k cl) k L
 right:w.ownsRow B 3 1 (.slice (some ⟨gr,0,none⟩) k cr) k R
 stack:w.ownsRow B 3 1 (.slice (some ⟨gs,0,none⟩) d cs) d S
 lr:gl≠gr
 ls:gl≠gs
 rs:gr≠gs
theorem zdt{w':World}{g cap n:Nat}{xs:List Value}(h:w.ownsRow B 3 1 (.slice (some ⟨g,0,none⟩) n cap) n xs)(hg:w.grownBy w' (some g2))(hne:g≠g2):w'.ownsRow B 3 1 (.slice (some ⟨g,0,none⟩) n cap) n xs:=
 h.kept hg (.inr (by simp[Value.ownBlock];exact hne))
theorem zfA{ns:List zak}{k m gl cl gr cr gs cs g1 c1 c2 g3 c3:Nat}{wr W w1 w2 w3:World}{lf rt:Int}
  (hst:stk ns (k+1)=(stk ns k).take m++[k]) (hm:m<=(stk ns k).length)
  (own1:w1.ownsRow B 3 1 (.slice (some ⟨g1,0,none⟩) (k+1) c1) (k+1) (rowL ns k++[.int .i64 lf])) (own2:w2.ownsRow B 3 1 (.slice (some ⟨g2,0,none⟩) (k+1) c2) (k+1) (rowR ns k++[.int .i64 rt]))
  (own3:w3.ownsRow B 3 1 (.slice (some ⟨g3,0,none⟩) (m+1) c3) (m+1) (rowS ((stk ns k).take m)++[.int .i64 (k:Int)]))
  (grow1:W.grownBy w1 (some gl)) (grow2:w1.grownBy w2 (some gr)) (grow3:w2.grownBy w3 (some gs)) (at1:g1=gl\/g1=W.heap.size+1) (at2:g2=gr\/g2=w1.heap.size+1) (at3:g3=gs\/g3=w2.heap.size+1)
  (hl:zbn ns k=lf) (hr:zbf ns k=rt) (hba:Below w.heap.size w W) (hB:B=w.heap.size) (hrows:zpK wr B gl cl gr cr gs cs k (stk ns k).length (rowL ns k) (rowR ns k) (rowS (stk ns k))) (hgr:gr<W.heap.size) (hgs:gs<W.heap.size)
  (HS2:Hid (zcF ns 0=zcF (ns.drop (k+1)) (stk ns (k+1)).length)) (HA2:Hid (∀i,i<k+1->zaA (zap ns i)<=(stk ns i).length)) (hlt:k<ns.length):
  ∃(k' gl cl gr cr gs cs:Nat),k'<=ns.length/\Value.int .i64 ((k:Int)+1)=.int .i64 k'/\Value.slice (some ⟨g1,0,none⟩) (k+1) c1=.slice (some ⟨gl,0,none⟩) k' cl/\Value.slice (some ⟨g2,0,none⟩) (k+1) c2=.slice (some ⟨gr,0,none⟩) k' cr/\Value.slice (some ⟨g3,0,none⟩) (m+1) c3=.slice (some ⟨gs,0,none⟩) (stk ns k').length cs/\Below w.heap.size w w3/\zpK w3 w.heap.size gl cl gr cr gs cs k' (stk ns k').length (rowL ns k') (rowR ns k') (rowS (stk ns k'))/\Hid (zcF ns 0=zcF (ns.drop k') (stk ns k').length)/\Hid (∀i,i<k'->zaA (zap ns i)<=(stk ns i).length):=by
 subst hB;have hlen:(stk ns (k+1)).length=m+1:=by rw[hst];simp;omega
 obtain⟨hb1,_,_,_⟩:=zbb hrows.left;obtain⟨hb2,_,_,_⟩:=zbb hrows.right;obtain⟨hb3,_,_,_⟩:=zbb hrows.stack;have s1:=grow1.size;have s2:=grow2.size;have f1:=(zbb own1).2.1;have f2:=(zbb own2).2.1;have b1:Below w.heap.size w w1:=hba.grown grow1 hba.size (by intro q hq;cases hq;exact hb1);have b2:Below w.heap.size w w2:=b1.grown grow2 b1.size (by intro q hq;cases hq;exact hb2);have b3:Below w.heap.size w w3:=b2.grown grow3 b2.size (by intro q hq;cases hq;exact hb3);have n1r:g1≠gr:=by have:=hrows.lr;rcases at1 with h|h<;>omega
 have n1s:g1≠gs:=by have:=hrows.ls;rcases at1 with h|h<;>omega
 have n2s:g2≠gs:=by have:=hrows.rs;rcases at2 with h|h<;>omega
 have n12:g1≠g2:=by rcases at2 with h|h<;>omega
 refine⟨k+1,g1,c1,g2,c2,g3,c3,by omega,by go_num,rfl,rfl,by rw[hlen],b3,⟨?_,?_,?_,n12,?_,?_⟩,HS2,HA2⟩
 ·rw[znI,hl];exact zdt (zdt own1 grow2 n1r) grow3 n1s
 ·rw[znJ,hr];exact zdt own2 grow3 n2s
 ·rw[hlen,hst,znK];exact own3
 ·rcases at3 with h|h<;>omega
 ·rcases at3 with h|h<;>omega
theorem zjo{lo:Nat}(v:Value)(ns:List zak)(w:World)(hs:zas lo w v ns)(hn:ns.length<=1048576):
  Calls Tryz.prog 34 #[v] w fun e w'=>Below w.heap.size w w'/\((zbW ns=false/\∃lv rv,e=.returned (.tuple #[lv,rv,.bool false]))\/
   (zbW ns=true/\∃gl cl gr cr,e=.returned (.tuple #[.slice (some ⟨gl,0,none⟩) ns.length cl,.slice (some ⟨gr,0,none⟩) ns.length cr,.bool true])/\
    w'.ownsRow w.heap.size 3 1 (.slice (some ⟨gl,0,none⟩) ns.length cl) ns.length (rowL ns ns.length)/\w'.ownsRow w.heap.size 3 1 (.slice (some ⟨gr,0,none⟩) ns.length cr) ns.length (rowR ns ns.length)/\∀i,i<ns.length->zaA (zap ns i)<=(stk ns i).length)):=by
 obtain⟨ao,cap,rfl,hm,hc⟩:=hs;obtain⟨i0,hi,hz0,hz1,hz2⟩:=info_parts Tryz.infoInt
 go_enter Tryz.func34,Tryz.ntmps34
 go_wp2
 go_loopw [5,6,7,17] (fun l r s i wr=>∃(k gl cl gr cr gs cs:Nat),k<=ns.length/\i=.int .i64 k/\l=.slice (some ⟨gl,0,none⟩) k cl/\r=.slice (some ⟨gr,0,none⟩) k cr/\s=.slice (some ⟨gs,0,none⟩) (stk ns k).length cs/\Below w.heap.size w wr/\zpK wr w.heap.size gl cl gr cr gs cs k (stk ns k).length (rowL ns k) (rowR ns k) (rowS (stk ns k))/\Hid (zcF ns 0=zcF (ns.drop k) (stk ns k).length)/\Hid (∀i,i<k->zaA (zap ns i)<=(stk ns i).length))
  (fun _ _ _ i _=>ns.length-(intOf i).toNat)
 case atStart=>
  refine⟨0,_,_,_,_,_,_,zsj _,rfl,rfl,rfl,rfl,(((Below.refl _ _).alloc (zsa _) _).alloc (by simp) _).alloc (by simp;omega) _,⟨?_,?_,?_,by simp,by simp;omega,by simp⟩,rfl,fun i hi=>absurd hi (zsg _)⟩
  ·exact((zfT _ _).alloc _).alloc _
  ·exact(zcx _ _ _ _ (by omega) (by simp)).alloc _
  ·exact zcx _ _ _ _ (by omega) (by simp)
 case round=>
  obtain⟨k,gl,cl,gr,cr,gs,cs,hk,rfl,rfl,rfl,rfl,hb,hrows,HS,HAr⟩:=hrel;have hsl:=zpH ns k
  by_cases hlt:k<ns.length
  ·obtain⟨b,o,sv,nd,rfl,Hn,hbl,c0,c1,c2,c3,c4,hsv⟩:=hc.elem hb hlt;obtain⟨sao,scp,rfl,hsm,hsc⟩:=hsv;have Hkind:Hid (zap ns k=nd.kind):=by show _=_;unfold zap;rw[Hn.out]
   have HD:Hid _:=zgF ns k hlt (stk ns k).length nd.kind Hkind.out;have HSt:Hid (stk ns (k+1)=(stk ns k).take ((stk ns k).length-zaA nd.kind)++[k]):=by show _=_;rw[stk,Hkind.out]
   have HL:Hid (zbn ns k=if zaA nd.kind=0 then -1 else (((stk ns k).getD ((stk ns k).length-zaA nd.kind) 0:Nat):Int)):=by show _=_;rw[zbn,Hkind.out]
   have HR:Hid (zbf ns k=if zaA nd.kind=2 then (((stk ns k).getD ((stk ns k).length-1) 0:Nat):Int) else -1):=by show _=_;rw[zbf,Hkind.out]
   have hz:=hb.size;have hba:Below w.heap.size w (wr.alloc (.cells #[.int .i64 nd.kind,.slice sao nd.set.length scp,.int .i64 nd.min,.int .i64 nd.max,.int .i64 nd.group] 72)):=hb.alloc hz _;obtain⟨hgl1,hgl2,hgl3,hgl4⟩:=zbb hrows.left;obtain⟨hgr1,hgr2,hgr3,hgr4⟩:=zbb hrows.right;obtain⟨hgs1,hgs2,hgs3,hgs4⟩:=zbb hrows.stack;unfold maxLen at hgl4 hgr4 hgs4
   by_cases har:(stk ns k).length<zaA nd.kind
   ·have hle:((stk ns k).length:Int)<(zaA nd.kind:Int):=by omega
    go_wp2_with (go_at_call 56;refine(ze5 _ _).mono ?_;rintro e w2 ⟨rfl,rfl⟩)
    go_ret3
    exact⟨hba,.inl ⟨by unfold zbW;rw[HS.out,HD.out,zst har];rfl,_,_,rfl⟩⟩
   have HS2:Hid (zcF ns 0=zcF (ns.drop (k+1)) (stk ns (k+1)).length):=by
    show _=_;rw[HS.out,HD.out,zss har,HSt.out]
    congr 1
    simp
   have HA2:Hid (∀i,i<k+1->zaA (zap ns i)<=(stk ns i).length):=by
    intro i hi
    by_cases e:i=k
    ·subst e;rw[Hkind.out];omega
    ·exact HAr.out i (by omega)
   rcases(show zaA nd.kind=0\/zaA nd.kind=1\/zaA nd.kind=2 by have:=zkh nd.kind;omega) with ha|ha|ha
   ·obtain⟨m,hd⟩:∃m,(stk ns k).length=m+0:=⟨_,rfl⟩;have Hd:Hid _:=hd;rw[ha,hd] at HSt;rw[ha,hd] at HL;rw[ha] at HR;have hst2:∀{w1 w2:World},(wr.alloc (.cells #[.int .i64 nd.kind,.slice sao nd.set.length scp,.int .i64 nd.min,.int .i64 nd.max,.int .i64 nd.group] 72)).grownBy w1 (some gl)->w1.grownBy w2 (some gr)->w2.ownsRow w.heap.size 3 1 (.slice (some ⟨gs,0,none⟩) m cs) m (rowS ((stk ns k).take m)):=by
     intro w1 w2 hg1 hg2;have h0:=za7 (m:=m) (hrows.stack.alloc (.cells #[.int .i64 nd.kind,.slice sao nd.set.length scp,.int .i64 nd.min,.int .i64 nd.max,.int .i64 nd.group] 72)) (by have:=Hd.out;omega);rw[zf2] at h0;exact zdt (zdt h0 hg1 hrows.ls.symm) hg2 hrows.rs.symm
    rw[hd] at hgs3 hsl ⊢;have hx0:¬((m:Int)+0<0):=by omega
    clear hd
    go_wp2_with (first|(go_at_call 56;refine(ze5 _ _).mono ?_;rintro e w2 ⟨rfl,rfl⟩;rw[ha])|(refine zbK (wr.alloc (.cells #[.int .i64 nd.kind,.slice sao nd.set.length scp,.int .i64 nd.min,.int .i64 nd.max,.int .i64 nd.group] 72)) (wr.heap.size+1) (by simp) rfl (.tmp 60) (.tmp 62) 44 rfl w.heap.size 3 i0 _ 8 Tryz.underlying44 hi hz0 hz1 hz2 rfl gl cl k (rowL ns k) _ rfl (hrows.left.alloc _) rfl rfl (by omega) (by omega) hba.size ?_;intro g1 c1' w1 own1 grow1 at1;have hsz1:=grow1.size)|(refine zaq w1 rfl (.tmp 64) (.tmp 66) 44 rfl w.heap.size 3 i0 _ 8 Tryz.underlying44 hi hz0 hz1 hz2 rfl gr cr k (rowR ns k) _ rfl (zdt (hrows.right.alloc _) grow1 hrows.lr.symm) rfl rfl (by omega) (by omega) (zsb hba.size hsz1) ?_;intro g2 c2' w2 own2 grow2 at2;have hsz2:=grow2.size)|(refine zaq w2 rfl (.tmp 68) (.tmp 70) 44 rfl w.heap.size 3 i0 _ 8 Tryz.underlying44 hi hz0 hz1 hz2 rfl gs cs m (rowS ((stk ns k).take m)) _ rfl (hst2 grow1 grow2) rfl rfl (by omega) (by omega) (zsb hba.size (zsb hsz1 hsz2)) ?_;intro g3 c3' w3 own3 grow3 at3))
    go_roundw
    case rel=>exact zfA (m:=m) (by simpa using HSt.out) (by have:=Hd.out;omega) own1 own2 own3 grow1 grow2 grow3 at1 at2 at3 (HL.out.trans (by simp)) (HR.out.trans (by simp)) hba rfl hrows (by simp;omega) (by simp;omega) HS2 HA2 hlt
    case measure=>simp[intOf];omega
   ·obtain⟨m,hd⟩:∃m,(stk ns k).length=m+1:=⟨(stk ns k).length-1,by omega⟩;have Hd:Hid _:=hd;obtain⟨x,hxx⟩:∃x,(stk ns k).getD m 0=x:=⟨_,rfl⟩;have q0:wr.cell? ⟨gs,m,none⟩=some (.int .i64 (x:Int)):=by rw[hrows.stack.cellAt m (by omega),zhw _ _ (by omega),hxx]
    rw[ha,hd] at HSt;rw[ha,hd] at HL;rw[ha] at HR;have hst2:∀{w1 w2:World},(wr.alloc (.cells #[.int .i64 nd.kind,.slice sao nd.set.length scp,.int .i64 nd.min,.int .i64 nd.max,.int .i64 nd.group] 72)).grownBy w1 (some gl)->w1.grownBy w2 (some gr)->w2.ownsRow w.heap.size 3 1 (.slice (some ⟨gs,0,none⟩) m cs) m (rowS ((stk ns k).take m)):=by
     intro w1 w2 hg1 hg2;have h0:=za7 (m:=m) (hrows.stack.alloc (.cells #[.int .i64 nd.kind,.slice sao nd.set.length scp,.int .i64 nd.min,.int .i64 nd.max,.int .i64 nd.group] 72)) (by have:=Hd.out;omega);rw[zf2] at h0;exact zdt (zdt h0 hg1 hrows.ls.symm) hg2 hrows.rs.symm
    rw[hd] at hgs3 hsl ⊢;have HX:Hid _:=hxx;clear hd hxx
    go_wp2_with (first|(go_at_call 56;refine(ze5 _ _).mono ?_;rintro e w2 ⟨rfl,rfl⟩;rw[ha])|(refine zbK (wr.alloc (.cells #[.int .i64 nd.kind,.slice sao nd.set.length scp,.int .i64 nd.min,.int .i64 nd.max,.int .i64 nd.group] 72)) (wr.heap.size+1) (by simp) rfl (.tmp 60) (.tmp 62) 44 rfl w.heap.size 3 i0 _ 8 Tryz.underlying44 hi hz0 hz1 hz2 rfl gl cl k (rowL ns k) _ rfl (hrows.left.alloc _) rfl rfl (by omega) (by omega) hba.size ?_;intro g1 c1' w1 own1 grow1 at1;have hsz1:=grow1.size)|(refine zaq w1 rfl (.tmp 64) (.tmp 66) 44 rfl w.heap.size 3 i0 _ 8 Tryz.underlying44 hi hz0 hz1 hz2 rfl gr cr k (rowR ns k) _ rfl (zdt (hrows.right.alloc _) grow1 hrows.lr.symm) rfl rfl (by omega) (by omega) (zsb hba.size hsz1) ?_;intro g2 c2' w2 own2 grow2 at2;have hsz2:=grow2.size)|(refine zaq w2 rfl (.tmp 68) (.tmp 70) 44 rfl w.heap.size 3 i0 _ 8 Tryz.underlying44 hi hz0 hz1 hz2 rfl gs cs m (rowS ((stk ns k).take m)) _ rfl (hst2 grow1 grow2) rfl rfl (by omega) (by omega) (zsb hba.size (zsb hsz1 hsz2)) ?_;intro g3 c3' w3 own3 grow3 at3))
    go_roundw
    case rel=>exact zfA (m:=m) (by have:=HSt.out;rw[Nat.add_sub_cancel] at this;exact this) (by have:=Hd.out;omega) own1 own2 own3 grow1 grow2 grow3 at1 at2 at3 (HL.out.trans (by rw[zss (by omega),Nat.add_sub_cancel,HX.out])) (HR.out.trans (by rw[zss (by omega)])) hba rfl hrows (by simp;omega) (by simp;omega) HS2 HA2 hlt
    case measure=>simp[intOf];omega
   ·obtain⟨m,hd⟩:∃m,(stk ns k).length=m+2:=⟨(stk ns k).length-2,by omega⟩;have Hd:Hid _:=hd;obtain⟨x,hxx⟩:∃x,(stk ns k).getD m 0=x:=⟨_,rfl⟩;have q0:wr.cell? ⟨gs,m,none⟩=some (.int .i64 (x:Int)):=by rw[hrows.stack.cellAt m (by omega),zhw _ _ (by omega),hxx]
    obtain⟨y,hyy⟩:∃y,(stk ns k).getD (m+1) 0=y:=⟨_,rfl⟩;have q1:wr.cell? ⟨gs,m+1,none⟩=some (.int .i64 (y:Int)):=by rw[hrows.stack.cellAt (m+1) (by omega),zhw _ _ (by omega),hyy]
    rw[ha,hd] at HSt;rw[ha,hd] at HL;rw[ha,hd] at HR;have hst2:∀{w1 w2:World},(wr.alloc (.cells #[.int .i64 nd.kind,.slice sao nd.set.length scp,.int .i64 nd.min,.int .i64 nd.max,.int .i64 nd.group] 72)).grownBy w1 (some gl)->w1.grownBy w2 (some gr)->w2.ownsRow w.heap.size 3 1 (.slice (some ⟨gs,0,none⟩) m cs) m (rowS ((stk ns k).take m)):=by
     intro w1 w2 hg1 hg2;have h0:=za7 (m:=m) (hrows.stack.alloc (.cells #[.int .i64 nd.kind,.slice sao nd.set.length scp,.int .i64 nd.min,.int .i64 nd.max,.int .i64 nd.group] 72)) (by have:=Hd.out;omega);rw[zf2] at h0;exact zdt (zdt h0 hg1 hrows.ls.symm) hg2 hrows.rs.symm
    rw[hd] at hgs3 hsl ⊢;have HX:Hid _:=hxx;have HY:Hid _:=hyy;clear hd hxx hyy
    go_wp2_with (first|(go_at_call 56;refine(ze5 _ _).mono ?_;rintro e w2 ⟨rfl,rfl⟩;rw[ha])|(refine zbK (wr.alloc (.cells #[.int .i64 nd.kind,.slice sao nd.set.length scp,.int .i64 nd.min,.int .i64 nd.max,.int .i64 nd.group] 72)) (wr.heap.size+1) (by simp) rfl (.tmp 60) (.tmp 62) 44 rfl w.heap.size 3 i0 _ 8 Tryz.underlying44 hi hz0 hz1 hz2 rfl gl cl k (rowL ns k) _ rfl (hrows.left.alloc _) rfl rfl (by omega) (by omega) hba.size ?_;intro g1 c1' w1 own1 grow1 at1;have hsz1:=grow1.size)|(refine zaq w1 rfl (.tmp 64) (.tmp 66) 44 rfl w.heap.size 3 i0 _ 8 Tryz.underlying44 hi hz0 hz1 hz2 rfl gr cr k (rowR ns k) _ rfl (zdt (hrows.right.alloc _) grow1 hrows.lr.symm) rfl rfl (by omega) (by omega) (zsb hba.size hsz1) ?_;intro g2 c2' w2 own2 grow2 at2;have hsz2:=grow2.size)|(refine zaq w2 rfl (.tmp 68) (.tmp 70) 44 rfl w.heap.size 3 i0 _ 8 Tryz.underlying44 hi hz0 hz1 hz2 rfl gs cs m (rowS ((stk ns k).take m)) _ rfl (hst2 grow1 grow2) rfl rfl (by omega) (by omega) (zsb hba.size (zsb hsz1 hsz2)) ?_;intro g3 c3' w3 own3 grow3 at3))
    go_roundw
    case rel=>exact zfA (m:=m) (by have:=HSt.out;rw[Nat.add_sub_cancel] at this;exact this) (by have:=Hd.out;omega) own1 own2 own3 grow1 grow2 grow3 at1 at2 at3 (HL.out.trans (by rw[zss (by omega),Nat.add_sub_cancel,HX.out])) (HR.out.trans (by rw[zst (by trivial),show m+2-1=m+1 by omega,HY.out])) hba rfl hrows (by simp;omega) (by simp;omega) HS2 HA2 hlt
    case measure=>simp[intOf];omega
  ·have hkk:k=ns.length:=by omega
   have hnil:ns.drop k=[]:=zrq (by omega);rw[hnil] at HS;have HKB:Hid (zbW ns=((((stk ns k).length:Nat):Int)==1)):=by
    show _=_;unfold zbW;rw[HS.out,zcF]
    by_cases h:(stk ns k).length=1
    ·rw[h];rfl
    ·have h1:((((stk ns k).length:Nat):Int)==1)=false:=zsk.2 (by omega);rw[h1];simp[h]
   have HP:Hid (∀e,e=Ending.returned (.tuple #[.slice (some ⟨gl,0,none⟩) k cl,.slice (some ⟨gr,0,none⟩) k cr,.bool ((((stk ns k).length:Nat):Int)==1)])->((zbW ns=false/\∃lv rv,e=.returned (.tuple #[lv,rv,.bool false]))\/
   (zbW ns=true/\∃gl cl gr cr,e=.returned (.tuple #[.slice (some ⟨gl,0,none⟩) ns.length cl,.slice (some ⟨gr,0,none⟩) ns.length cr,.bool true])/\
    wr.ownsRow w.heap.size 3 1 (.slice (some ⟨gl,0,none⟩) ns.length cl) ns.length (rowL ns ns.length)/\wr.ownsRow w.heap.size 3 1 (.slice (some ⟨gr,0,none⟩) ns.length cr) ns.length (rowR ns ns.length)/\∀i,i<ns.length->zaA (zap ns i)<=(stk ns i).length))):=by
    intro e he;cases h:((((stk ns k).length:Nat):Int)==1)
    ·rw[h] at he;exact .inl ⟨HKB.out.trans h,_,_,he⟩
    ·rw[h] at he;rw[hkk] at he hrows HAr;exact .inr ⟨by rw[HKB.out,<-h],gl,cl,gr,cr,he,hrows.left,hrows.right,HAr.out⟩
   have hge:¬k<ns.length:=by omega
   clear hkk hnil HKB hrows;go_wp2
   go_ret3
   exact⟨hb,HP.out _ rfl⟩
end Go.Proofs.YthdljcdbfmhleaaGreatDoor
