import Derived.Test.YtdimhpfiieepiaaGreatDoorC10
import Derived.Deep.RegionLaw
import Derived.Deep.Cut
import Derived.Deep.CutRange
import Derived.Deep.DrawnRows
namespace Go.Proofs.YtdimhpfiieepiaaGreatDoor
set_option maxHeartbeats 4000000
set_option maxRecDepth 100000
open Go.RowKit
def zq3(bs:List zah):Prop:=∀i,i<bs.length->zcA (bs.getD i .zero).nodes=true/\(bs.getD i .zero).nodes.all zaB=true
def zjD(b:zah):Int:=wOf b.nodes (b.nodes.length-1)
def zcG:List zah->Int
 |[]=>0
 |b::bs=>zjD b+zcG bs
theorem ziz(bs:List zah)(k:Nat)(hk:k<bs.length):zcG (bs.take (k+1))=zcG (bs.take k)+zjD (bs.getD k .zero):=by
 induction bs generalizing k with
 |nil=>exact absurd hk (zvQ _)
 |cons b bs ih=>
  cases k with
  |zero=>simp[zcG,List.getD]
  |succ k=>
   have:=ih k (by simpa using hk);simp only[zvD,zcG,List.getD_cons_succ] at this ⊢;omega
theorem zgv{b:zah}(hk:zcA b.nodes=true)(har:∀i,i<b.nodes.length->zaE (zat b.nodes i)<=(stk b.nodes i).length)(hb:b.nodes.all zaB=true):1<=zjD b/\zjD b<=2001:=by
 obtain⟨hp,_⟩:=zi9 b.nodes hk har hb;exact zfl b.nodes har hb (b.nodes.length) (b.nodes.length-1) (by omega) (by omega)
theorem zmI:∀(ns pre:List zaq) (d:Nat),zdx ns (stk (pre++ns) pre.length).length=some d->∀i,pre.length<=i->i<pre.length+ns.length->zaE (zat (pre++ns) i)<=(stk (pre++ns) i).length
 |[],pre,_,_,i,h1,h2=>by simp at h2;omega
 |n::ns,pre,d,h,i,h1,h2=>by
  have hkind:zat (pre++n::ns) pre.length=n.kind:=by simp[zat,List.getD_eq_getElem?_getD]
  unfold zdx at h
  by_cases hc:(stk (pre++n::ns) pre.length).length<zaE n.kind
  ·rw[zv3 hc] at h;cases h
  ·rw[zv2 hc] at h
   by_cases e:i=pre.length
   ·subst e;rw[hkind];omega
   ·have e1:pre++n::ns=(pre++[n])++ns:=by simp
    have hl:=zmg (pre++n::ns) pre.length;rw[hkind] at hl;rw[<-hl] at h;have:=zmI ns (pre++[n]) d (by rw[<-e1];simpa using h) i (by simp;omega) (by simp at h2 ⊢;omega);rwa[<-e1] at this
theorem ze6{ns:List zaq}(h:zcA ns=true):∀i,i<ns.length->zaE (zat ns i)<=(stk ns i).length:=by
 intro i hi;unfold zcA at h;exact zmI ns [] 1 (eq_of_beq h) i (zvT _) (by simpa using hi)
theorem zgt{bs:List zah}(h:zq3 bs):∀k,k<=bs.length->0<=zcG (bs.take k)/\zcG (bs.take k)<=k*2001
 |0,_=>by simp[zcG]
 |k+1,hk=>by
  have h1:=zgt h k (by omega);obtain⟨h2,h3⟩:=h k (by omega);have h4:=zgv h2 (ze6 h2) h3;rw[ziz bs k (by omega)];omega
theorem zfg{lo:Nat}(G:Int)(v:Value)(bs:List zah)(w:World)(hs:zao lo w v bs)(hsm:Small bs)(hok:zq3 bs):
  Calls Tryz.prog 88 #[.agg #[v,.int .i64 G]] w fun e w'=>e=.returned (.int .i64 (zcG bs))/\Below w.heap.size w w':=by
 obtain⟨ao,cap,rfl,hm,hc⟩:=hs;have hn:=hsm.1;have Hok:Hid _:=hok;clear hok
 go_enter Tryz.func88,Tryz.ntmps88
 go_wp2
 go_loopw [3,9] (fun s i wr=>∃k:Nat,k<=bs.length/\i=.int .i64 k/\s=.int .i64 (zcG (bs.take k))/\Below w.heap.size w wr)
  (fun _ i _=>bs.length-(intOf i).toNat)
 case atStart=>exact⟨0,zvT _,rfl,rfl,(Below.refl _ _).alloc (zvJ _) _⟩
 case round=>
  obtain⟨k,hk,rfl,rfl,hb⟩:=hrel;have hrb:=zgt Hok.out k hk
  by_cases hlt:k<bs.length
  ·obtain⟨b,o,nv,bd,rfl,Hn,hbl,c0,c1,c2,hnv⟩:=hc.elem hb hlt;have hnl:bd.nodes.length<=1048576:=by have:=(hsm.2 k hlt).1;rw[Hn.out] at this;exact this
   have hkb:zcA bd.nodes=true:=by have:=(Hok.out k hlt).1;rw[Hn.out] at this;exact this
   have hab:bd.nodes.all zaB=true:=by have:=(Hok.out k hlt).2;rw[Hn.out] at this;exact this
   have hwl:=zgv hkb (ze6 hkb) hab;obtain⟨nao,ncp,rfl,hnm,hnc⟩:=hnv;have hba:Below w.heap.size w (wr.alloc (.cells #[.bool bd.bol,.bool bd.eol,.slice nao bd.nodes.length ncp] 115)):=hb.alloc hb.size _;have hnva:zaI lo (wr.alloc (.cells #[.bool bd.bol,.bool bd.eol,.slice nao bd.nodes.length ncp] 115)) (.slice nao bd.nodes.length ncp) bd.nodes:=zaI.below ⟨_,_,rfl,hnm,hnc⟩ ((Below.refl _ _).alloc (zvJ _) _);have HT:Hid _:=ziz bs k hlt;rw[Hn.out] at HT;generalize zcG (bs.take k)=s at *;have HL:Hid (wOf bd.nodes (bd.nodes.length-1)=zjD bd):=rfl
   go_wp2_with fail
   refine(zqT _ bd.nodes _ hnva hnl hkb hab).mono ?_;rintro e w2 ⟨rfl,hb2⟩;rw[HL.out];clear hkb hab;generalize zjD bd=wl at *;have hwr:IntKind.i64.wrap (s+wl)=s+wl:=by rw[IntKind.wrap_i64];omega
   go_wp2
   go_roundw
   case rel=>exact⟨k+1,by omega,by go_num,by rw[HT.out],zaa hba hba.size hb2⟩
   case measure=>simp[intOf];omega
  ·go_wp2;go_ret;exact⟨zaR (by rw[zvC (by omega)]),hb⟩
section
variable{w wr w1:World}{v:Value}{G:Int}{gg cc:Nat}{gs:List Int}
def allB(bs:List zah):Bool:=bs.all fun b=>zcA b.nodes&&b.nodes.all zaB
def zhT(G:Int)(gs:List Int):Bool:=(List.range G.toNat).all fun i=>gs.count ((i:Int)+1)==1
def zbP(G:Int)(bs:List zah):Bool:=
 decide (1<=bs.length/\bs.length<=2000)&&decide (0<=G/\G<=500)&&decide (zaF bs<=5000)&&allB bs&&(((zba bs).length:Int)==G)&&zhT G (zba bs)&&decide (zcG bs<=2000)
theorem zru(ns:List zaq)(j:Nat)(hj:j<ns.length)(nd:zaq)(h:ns.getD j .zero=nd):grp (ns.take (j+1))=grp (ns.take j)++(if nd.kind=5 then [nd.group] else []):=by
 induction ns generalizing j with
 |nil=>exact absurd hj (zvQ _)
 |cons n ns ih=>
  cases j with
  |zero=>
   have:n=nd:=by simpa [List.getD] using h
   subst this;simp only[zvD,zvF,grp,zvw]
  |succ j=>
   have:=ih j (by simpa using hj) (by simpa [List.getD] using h);simp only[zvD,grp] at this ⊢;rw[this];split<;>simp
theorem zk7(bs:List zah)(k:Nat)(hk:k<bs.length)(bd:zah)(h:bs.getD k .zero=bd):zba (bs.take (k+1))=zba (bs.take k)++grp bd.nodes:=by
 induction bs generalizing k with
 |nil=>exact absurd hk (zvQ _)
 |cons b bs ih=>
  cases k with
  |zero=>
   have:b=bd:=by simpa [List.getD] using h
   subst this;simp[zba]
  |succ k=>
   have:=ih k (by simpa using hk) (by simpa [List.getD] using h);simp only[zvD,zba] at this ⊢;rw[this,zuR]
theorem zlt:∀ns:List zaq,(grp ns).length<=ns.length
 |[]=>zvJ _
 |n::ns=>by have:=zlt ns;unfold grp;split<;>simp<;>omega
theorem zfy:∀bs:List zah,(zba bs).length<=zaF bs
 |[]=>zvJ _
 |b::bs=>by have:=zfy bs;have:=zlt b.nodes;unfold zba zaF;simp;omega
theorem zkq(bs:List zah)(k:Nat):zaF (bs.take k)<=zaF bs:=by
 induction bs generalizing k with
 |nil=>simp
 |cons b bs ih=>
  cases k with
  |zero=>simp[zaF]
  |succ k=>have:=ih k;simp only[zvD,zaF];omega
theorem zoI(bs:List zah)(k:Nat)(hk:k<bs.length)(bd:zah)(h:bs.getD k .zero=bd)(hf:(zcA bd.nodes&&bd.nodes.all zaB)=false):allB bs=false:=by
 unfold allB;rw[List.all_eq_false];refine⟨bs[k],zvg _,?_⟩;have:bs[k]=bd:=by rw[<-h];simp[List.getD,hk]
 rw[this,hf];simp
theorem zoK(bs:List zah)(k:Nat)(hk:k<bs.length)(bd:zah)(h:bs.getD k .zero=bd)(ht:allB (bs.take k)=true)(hf:(zcA bd.nodes&&bd.nodes.all zaB)=true):allB (bs.take (k+1))=true:=by
 unfold allB at *;rw[zvE hk,List.all_append,ht];have:bs[k]=bd:=by rw[<-h];simp[List.getD,hk]
 simp only[List.all_cons,List.all_nil,this,hf,Bool.and_true]
theorem zlW(ns:List zaq)(j:Nat)(hj:j<ns.length)(nd:zaq)(h:ns.getD j .zero=nd)(hf:zaB nd=false):ns.all zaB=false:=by
 rw[List.all_eq_false];refine⟨ns[j],zvg _,?_⟩;have:ns[j]=nd:=by rw[<-h];simp[List.getD,hj]
 rw[this,hf];simp
theorem zob(ns:List zaq)(j:Nat)(hj:j<ns.length)(nd:zaq)(h:ns.getD j .zero=nd)(ht:(ns.take j).all zaB=true)(hf:zaB nd=true):(ns.take (j+1)).all zaB=true:=by
 rw[zvE hj,List.all_append,ht];have:ns[j]=nd:=by rw[<-h];simp[List.getD,hj]
 simp only[List.all_cons,List.all_nil,this,hf,Bool.and_true]
theorem zoJ{bs:List zah}(h:allB bs=true):zq3 bs:=by
 intro i hi;have:=zuP.1 h (bs.getD i .zero) (by
  rw[zu3,zva hi];exact zvg _)
 simpa using this
theorem znB(gs:List Int)(j:Nat)(hj:j<gs.length)(x:Int):(gs.take (j+1)).count x=(gs.take j).count x+(if gs.getD j 0=x then 1 else 0):=by
 rw[zvE hj,List.count_append];simp[List.getD,hj,List.count_cons]
def rowG(gs:List Int):List Value:=gs.map (Value.int .i64)
theorem zqu(gs:List Int)(x:Int):rowG (gs++[x])=rowG gs++[.int .i64 x]:=by simp[rowG]
theorem zsm(gs:List Int)(i:Nat)(h:i<gs.length):(rowG gs)[i]?=some (.int .i64 (gs.getD i 0)):=by simp[rowG,h,List.getD]
structure RInv(w wr:World)(v:Value)(G:Int)(gg cc:Nat)(gs:List Int):Prop where
 below:Below w.heap.size w wr
 box0:wr.cell? ⟨w.heap.size,0,none⟩=some v
 box1:wr.cell? ⟨w.heap.size,1,none⟩=some (.int .i64 G)
 row:wr.ownsRow (w.heap.size+1) 3 1 (.slice (some ⟨gg,0,none⟩) gs.length cc) gs.length (rowG gs)
 size:w.heap.size+1<=wr.heap.size
theorem RInv.same(h:RInv w wr v G gg cc gs)(hb:Below wr.heap.size wr w1):RInv w w1 v G gg cc gs:=
 ⟨zaa h.below (zvK (Nat.le_succ _) h.size) hb,(hb.cell (by have:=h.size;simp;omega)).trans h.box0,(hb.cell (by have:=h.size;simp;omega)).trans h.box1,zac h.row hb,zvK h.size hb.size⟩
theorem RInv.alloc(h:RInv w wr v G gg cc gs)(o:Obj):RInv w (wr.alloc o) v G gg cc gs:=h.same ((Below.refl _ _).alloc (zvJ _) _)
theorem RInv.grown{g' c':Nat}{x:Int}(h:RInv w wr v G gg cc gs)(hg:wr.grownBy w1 (some gg))(ho:w1.ownsRow (w.heap.size+1) 3 1 (.slice (some ⟨g',0,none⟩) (gs.length+1) c') (gs.length+1) (rowG gs++[.int .i64 x])):RInv w w1 v G g' c' (gs++[x]):=by
 have hgg:=(zbu h.row).1;have hs:=h.size;refine⟨h.below.grown hg (by omega) (by intro q hq;cases hq;omega),?_,?_,by simpa [zqu] using ho,zvK h.size hg.size⟩
 ·exact(hg.cell_far _ (by simp;omega) (by simp;omega)).trans h.box0
 ·exact(hg.cell_far _ (by simp;omega) (by simp;omega)).trans h.box1
end
theorem zfi{lo:Nat}(G:Int)(v:Value)(bs:List zah)(w:World)(hs:zao lo w v bs)(hsm:Small bs):
  Calls Tryz.prog 87 #[.agg #[v,.int .i64 G]] w fun e w'=>e=.returned (.bool (zbP G bs))/\Below w.heap.size w w':=by
 have hn:=hsm.1;have hs0:=hs;obtain⟨ao,cap,rfl,hm,hc⟩:=hs;have hb0:Below w.heap.size w (w.alloc (.cells #[.slice ao bs.length cap,.int .i64 G] 69)):=(Below.refl _ _).alloc (zvJ _) _
 by_cases h1:btw (bs.length:Int) 1 2000=false
 ·have H:Hid (zbP G bs=false):=by
   show _=_;have:decide (1<=bs.length/\bs.length<=2000)=false:=by simp[btw] at h1;simp;omega
   simp[zbP,this]
  go_enter Tryz.func87,Tryz.ntmps87
  go_wp2_with (go_at_call 47;refine(zap _ _ _ _).mono ?_;rintro e w' ⟨rfl,rfl⟩)
  go_ret
  exact⟨zae H.out.symm,hb0⟩
 have h1':btw (bs.length:Int) 1 2000=true:=by simpa using h1
 clear h1
 by_cases h2:btw G 0 500=false
 ·have H:Hid (zbP G bs=false):=by
   show _=_;have:decide (0<=G/\G<=500)=false:=by simp[btw] at h2;simp;omega
   simp[zbP,this]
  go_enter Tryz.func87,Tryz.ntmps87
  go_wp2_with (go_at_call 47;refine(zap _ _ _ _).mono ?_;rintro e w' ⟨rfl,rfl⟩)
  go_ret
  exact⟨zae H.out.symm,hb0⟩
 have h2':btw G 0 500=true:=by simpa using h2
 clear h2;have hlen:1<=bs.length/\bs.length<=2000:=by simp[btw] at h1';omega
 have hG:0<=G/\G<=500:=by simp[btw] at h2';omega
 obtain⟨hG0,hG1⟩:=hG;have HA:Hid (zbP G bs=(decide (zaF bs<=5000)&&allB bs&&(((zba bs).length:Int)==G)&&zhT G (zba bs)&&decide (zcG bs<=2000))):=by
  show _=_;have e1:decide (1<=bs.length/\bs.length<=2000)=true:=by simp;omega
  have e2:decide (0<=G/\G<=500)=true:=by simp;omega
  unfold zbP;rw[e1,e2,zuN,zuN]
 obtain⟨i0,hi,hz0,hz1,hz2⟩:=info_parts Tryz.infoInt
 go_enter Tryz.func87,Tryz.ntmps87
 go_wp2_with (go_at_call 47;refine(zap _ _ _ _).mono ?_;rintro e w' ⟨rfl,rfl⟩)
 have hinv0:RInv w ((w.alloc (.cells #[.slice ao bs.length cap,.int .i64 G] 69)).alloc (.cells #[] 3)) (.slice ao bs.length cap) G (w.heap.size+1) 0 []:=⟨hb0.alloc hb0.size _,by simp,by simp,zcw _ _ _ _ (by omega) (by simp),by simp⟩
 go_loopw [3,33] (fun s i wr=>∃k:Nat,k<=bs.length/\i=.int .i64 k/\s=.int .i64 (zaF (bs.take k))/\RInv w wr (.slice ao bs.length cap) G (w.heap.size+1) 0 [])
  (fun _ i _=>bs.length-(intOf i).toNat)
 case atStart=>exact⟨0,zvT _,rfl,rfl,hinv0⟩
 case round=>
  clear hinv0;obtain⟨k,hk,rfl,rfl,hinv⟩:=hrel;have hcb:=zdi hsm k hk
  by_cases hlt:k<bs.length
  ·obtain⟨b,o,nv,bd,rfl,Hn,hbl,c0,c1,c2,hnv⟩:=hc.elem hinv.below hlt;have hnl:bd.nodes.length<=1048576:=by have:=(hsm.2 k hlt).1;rw[Hn.out] at this;exact this
   obtain⟨nao,ncp,rfl,hnm,hnc⟩:=hnv;have HT:Hid _:=zcv bs k hlt;rw[Hn.out] at HT;generalize zaF (bs.take k)=s at *;go_wp2
   go_roundw
   case rel=>exact⟨k+1,by omega,by go_num,by rw[HT.out];go_num,hinv.alloc _⟩
   case measure=>simp[intOf];omega
  have hkk:bs.take k=bs:=zvC (by omega);rw[hkk] at hcb ⊢;clear hkk
  by_cases h5:5000<(zaF bs:Int)
  ·have H:Hid (zbP G bs=false):=by
    show _=_;have:decide (zaF bs<=5000)=false:=by simp;omega
    rw[HA.out,this];simp
   have hbb:=hinv.below;have hx0:=hinv.box0;clear HA;go_wp2;go_ret;exact⟨zae H.out.symm,hbb⟩
  have h5':zaF bs<=5000:=by omega
  have e5:decide (zaF bs<=5000)=true:=by simpa using h5'
  rw[e5,zuN] at HA;clear e5 hcb;have hx0:=hinv.box0;go_wp2;generalize hcn:zaF bs=cn at *;have Hcn:Hid _:=hcn;clear hcn
  go_loopw [4,48] (fun s i wr=>∃(k gg cc:Nat),k<=bs.length/\i=.int .i64 k/\s=.slice (some ⟨gg,0,none⟩) (zba (bs.take k)).length cc/\RInv w wr (.slice ao bs.length cap) G gg cc (zba (bs.take k))/\Hid (allB (bs.take k)=true))
   (fun _ i _=>bs.length-(intOf i).toNat)
  case atStart=>exact⟨0,w.heap.size+1,0,zvT _,rfl,rfl,hinv,rfl⟩
  case round=>
   clear hinv hx0;obtain⟨k2,gg,cc,hk2,rfl,rfl,hinv,Hall⟩:=hrel
   by_cases hlt2:k2<bs.length
   ·obtain⟨b,o,nv,bd,rfl,Hn,hbl,q0,q1,q2,hnv⟩:=hc.elem (Below.refl _ _) hlt2;have c0:=(hinv.below.cell (p:=⟨b,o+k2*3,none⟩) hbl).trans q0;have c1:=(hinv.below.cell (p:=⟨b,o+k2*3+1,none⟩) hbl).trans q1;have c2:=(hinv.below.cell (p:=⟨b,o+k2*3+2,none⟩) hbl).trans q2;clear q0 q1 q2;have hnl:bd.nodes.length<=1048576:=by have:=(hsm.2 k2 hlt2).1;rw[Hn.out] at this;exact this
    have hgl:(zba (bs.take k2)).length+bd.nodes.length<=5000:=by
     have e1:=zfy (bs.take k2);have e2:=zcv bs k2 hlt2;have e3:=zkq bs (k2+1);rw[Hn.out] at e2;rw[Hcn.out] at e3;omega
    obtain⟨nao,ncp,rfl,hnm,hnc⟩:=hnv;have hinva:=hinv.alloc (.cells #[.bool bd.bol,.bool bd.eol,.slice nao bd.nodes.length ncp] 115);have hnva:zaI lo (wr.alloc (.cells #[.bool bd.bol,.bool bd.eol,.slice nao bd.nodes.length ncp] 115)) (.slice nao bd.nodes.length ncp) bd.nodes:=zaI.below ⟨_,_,rfl,hnm,hnc⟩ hinva.below;generalize hgs:zba (bs.take k2)=gs0 at *;have Hgs:Hid _:=hgs;clear hgs
    go_wp2_with fail
    refine(zlw _ bd.nodes _ hnva hnl).mono ?_;rintro e w2 ⟨hb2,⟨hkf,lv,rv,rfl⟩|⟨hkt,gl,cl,gr,cr,rfl,_,_,_⟩⟩
    ·have H:Hid (zbP G bs=false):=by
      show _=_;rw[HA.out,zoI bs k2 hlt2 bd Hn.out (by rw[hkf];rfl)];simp
     have hbb:=(hinva.same hb2).below;clear HA hkf;go_wp2;go_ret;exact⟨zae H.out.symm,hbb⟩
    have Hkt:Hid _:=hkt;clear hkt;have d2:w2.cell? ⟨wr.heap.size,2,none⟩=some (.slice nao bd.nodes.length ncp):=(hb2.cell (by simp)).trans (by simp);have hinv2:=hinva.same hb2;clear hinv hinva hnva hb2 c0 c1 c2;go_wp2
    go_loopw [4,64] (fun s i wr=>∃(j gg cc:Nat),j<=bd.nodes.length/\i=.int .i64 j/\s=.slice (some ⟨gg,0,none⟩) (gs0++grp (bd.nodes.take j)).length cc/\RInv w wr (.slice (some ⟨b,o,none⟩) bs.length cap) G gg cc (gs0++grp (bd.nodes.take j))/\Hid ((bd.nodes.take j).all zaB=true))
     (fun _ i _=>bd.nodes.length-(intOf i).toNat)
    case atStart=>exact⟨0,gg,cc,zvT _,rfl,by simp[grp],by simpa [grp] using hinv2,rfl⟩
    case round=>
     clear hinv2 d2;obtain⟨j,g3,c3,hj,rfl,rfl,hinv3,HallN⟩:=hrel;have hlen3:(gs0++grp (bd.nodes.take j)).length<=5000:=by
      have:=zlt (bd.nodes.take j);simp at this ⊢;omega
     by_cases hlt3:j<bd.nodes.length
     ·obtain⟨b2,o2,sv,nd,rfl,Hn2,hbl2,d0,d1,d2,d3,d4,hsv⟩:=hnc.elem hinv3.below hlt3;have HGT:Hid _:=zru bd.nodes j hlt3 nd Hn2.out;obtain⟨kd,rs,mn,mx,gp⟩:=nd;simp only at d0 d2 d3 d4 hsv HGT;obtain⟨sao,scp,rfl,hsm2,hsc⟩:=hsv;have hinv3a:=hinv3.alloc (.cells #[.int .i64 kd,.slice sao rs.length scp,.int .i64 mn,.int .i64 mx,.int .i64 gp] 149);have hsva:zal lo (wr.alloc (.cells #[.int .i64 kd,.slice sao rs.length scp,.int .i64 mn,.int .i64 mx,.int .i64 gp] 149)) (.slice sao rs.length scp) rs:=zal.below ⟨_,_,rfl,hsm2,hsc⟩ ((Below.refl _ _).alloc (zvJ _) _);generalize hgs3:gs0++grp (bd.nodes.take j)=gs3 at *;have Hgs3:Hid _:=hgs3;clear hgs3
      by_cases hnb:zaB ⟨kd,rs,mn,mx,gp⟩=false
      ·have H:Hid (zbP G bs=false):=by
        show _=_;rw[HA.out,zoI bs k2 hlt2 bd Hn.out (by rw[zlW bd.nodes j hlt3 _ Hn2.out hnb];simp)];simp
       clear HA
       go_wp2_with (go_at_call 110;refine(zkr _ _ _ _ _ _ _ hsva).mono ?_;rintro e w4 ⟨rfl,hb4⟩)
       go_ret
       exact⟨zae H.out.symm,(hinv3a.same hb4).below⟩
      have hnt:zaB ⟨kd,rs,mn,mx,gp⟩=true:=by simpa using hnb
      have HallT:Hid ((bd.nodes.take (j+1)).all zaB=true):=zob bd.nodes j hlt3 _ Hn2.out HallN.out hnt;clear hnb
      go_wp2_with fail
      refine(zkr _ _ _ _ _ _ _ hsva).mono ?_;rintro e w4 ⟨rfl,hb4⟩;have y0:w4.cell? ⟨wr.heap.size,0,none⟩=some (.int .i64 kd):=(hb4.cell (by simp)).trans (by simp);have y4:w4.cell? ⟨wr.heap.size,4,none⟩=some (.int .i64 gp):=(hb4.cell (by simp)).trans (by simp);have hinv4:=hinv3a.same hb4;have hsz4:=hinv4.size;clear hinv3 hinv3a hb4
      by_cases h55:kd=5
      ·subst h55
       go_wp2_with (refine zau w4 rfl (.tmp 74) (.tmp 77) 23 rfl (w.heap.size+1) 3 i0 _ 8 Tryz.underlying23 hi hz0 hz1 hz2 rfl g3 c3 gs3.length (rowG gs3) _ rfl hinv4.row rfl rfl (by omega) (by omega) hsz4 ?_;intro g5 c5 w5 own5 grow5 at5)
       go_roundw
       case rel=>
        have he:gs0++grp (bd.nodes.take (j+1))=gs3++[gp]:=by rw[HGT.out,zv3 (by trivial),<-zuR,Hgs3.out]
        exact⟨j+1,g5,c5,by omega,by go_num,by rw[he];simp,by rw[he];exact hinv4.grown grow5 own5,HallT⟩
       case measure=>simp[intOf];omega
      ·have h55':(kd==5)=false:=zvU.2 h55;have H55:Hid _:=h55;clear h55;go_wp2
       go_roundw
       case rel=>
        have he:gs0++grp (bd.nodes.take (j+1))=gs3:=by rw[HGT.out,zv2 H55.out,zuS,Hgs3.out]
        exact⟨j+1,g3,c3,by omega,by go_num,by rw[he],by rw[he];exact hinv4,HallT⟩
       case measure=>simp[intOf];omega
     ·have htk:bd.nodes.take j=bd.nodes:=zvC (by omega);rw[htk] at hinv3 HallN hlen3 ⊢;have HG2:Hid (zba (bs.take (k2+1))=gs0++grp bd.nodes):=by show _=_;rw[zk7 bs k2 hlt2 bd Hn.out,Hgs.out]
      have HB2:Hid (allB (bs.take (k2+1))=true):=zoK bs k2 hlt2 bd Hn.out Hall.out (by rw[Hkt.out,HallN.out];rfl);clear htk;generalize gs0++grp bd.nodes=gs4 at *;go_wp2
      go_roundw
      case rel=>exact⟨k2+1,g3,c3,by omega,by go_num,by rw[HG2.out],by rw[HG2.out];exact hinv3,HB2⟩
      case measure=>simp[intOf];omega
   ·have htk:bs.take k2=bs:=zvC (by omega);rw[htk] at hinv Hall ⊢;have hgl:(zba bs).length<=5000:=by have:=zfy bs;rw[Hcn.out] at this;omega
    rw[Hall.out,zuN] at HA;clear htk;have hokk:=zoJ Hall.out;have Hokk:Hid _:=hokk;clear hokk;generalize hgs:zba bs=gs at *;have hx1:=hinv.box1;have hx0:=hinv.box0
    by_cases hgn:((gs.length:Int)==G)=false
    ·have H:Hid (zbP G bs=false):=by show _=_;rw[HA.out,hgn];simp
     have hgn2:(((gs.length:Nat):Int) != G)=true:=by simp at hgn ⊢;exact hgn
     have hbb:=hinv.below;clear HA hgn;go_wp2;go_ret;exact⟨zae H.out.symm,hbb⟩
    have hgt:((gs.length:Int)==G)=true:=by simpa using hgn
    rw[hgt,zuN] at HA;have hgn2:(((gs.length:Nat):Int) != G)=false:=by simp at hgt ⊢;exact hgt
    have hGe:G=gs.length:=(eq_of_beq hgt).symm;clear hgn hgt;obtain⟨Gn,rfl⟩:=Int.eq_ofNat_of_zero_le hG0;have HGe:Hid _:=hGe;clear hGe;have hGn:Gn<=500:=by omega
    go_wp2
    go_loopw [14] (fun gv wr=>∃q:Nat,q<=Gn/\gv=.int .i64 ((q:Int)+1)/\RInv w wr (.slice ao bs.length cap) (Gn:Int) gg cc gs/\Hid (∀i,i<q->gs.count ((i:Int)+1)=1))
     (fun gv _=>Gn+1-(intOf gv).toNat)
    case atStart=>exact⟨0,zvT _,rfl,hinv,fun i hi=>absurd hi (zvQ _)⟩
    case round=>
     clear hinv hx1 hx0;obtain⟨q,hq,rfl,hinv,Hcnt⟩:=hrel;have hx1:=hinv.box1;have hx0:=hinv.box0
     by_cases hltq:q<Gn
     ·have hle:(q:Int)+1<=(Gn:Int):=by omega
      go_wp2
      go_loopw [15,94] (fun t i wr=>∃j:Nat,j<=gs.length/\i=.int .i64 j/\t=.int .i64 ((gs.take j).count ((q:Int)+1):Nat)/\RInv w wr (.slice ao bs.length cap) (Gn:Int) gg cc gs)
       (fun _ i _=>gs.length-(intOf i).toNat)
      case atStart=>exact⟨0,zvT _,rfl,rfl,hinv⟩
      case round=>
       clear hinv hx1 hx0;obtain⟨j,hj,rfl,rfl,hinv⟩:=hrel;have hcl:(gs.take j).count ((q:Int)+1)<=j:=by
        have:=List.count_le_length (a:=(q:Int)+1) (l:=gs.take j);simp at this;omega
       by_cases hltj:j<gs.length
       ·have y0:wr.cell? ⟨gg,j,none⟩=some (.int .i64 (gs.getD j 0)):=(hinv.row.cellAt j (by omega)).trans (zsm gs j hltj);have HC:Hid _:=znB gs j hltj ((q:Int)+1);generalize (gs.take j).count ((q:Int)+1)=ct at *;generalize gs.getD j 0=h0 at *
        by_cases hhe:h0=(q:Int)+1
        ·have hheb:(h0==(q:Int)+1)=true:=beq_iff_eq.2 hhe;have HHE:Hid _:=hhe;clear hhe;go_wp2
         go_roundw
         case rel=>exact⟨j+1,by omega,by go_num,by rw[HC.out,zv3 HHE.out];go_num,hinv⟩
         case measure=>simp[intOf];omega
        ·have hheb:(h0==(q:Int)+1)=false:=zvU.2 hhe;have HHE:Hid _:=hhe;clear hhe;go_wp2
         go_roundw
         case rel=>exact⟨j+1,by omega,by go_num,by rw[HC.out,zv2 HHE.out,zvH],hinv⟩
         case measure=>simp[intOf];omega
       ·have htk2:gs.take j=gs:=zvC (by omega);rw[htk2] at hcl ⊢;clear htk2
        by_cases hone:gs.count ((q:Int)+1)=1
        ·have HC1:Hid (∀i,i<q+1->gs.count ((i:Int)+1)=1):=by
          intro i hi
          by_cases e:i=q
          ·subst e;exact hone
          ·exact Hcnt.out i (by omega)
         have hneb:(((gs.count ((q:Int)+1):Nat):Int) != 1)=false:=by rw[hone];rfl
         clear hone;generalize gs.count ((q:Int)+1)=ct at *;go_wp2
         go_roundw
         case rel=>exact⟨q+1,by omega,by go_num,hinv,HC1⟩
         case measure=>simp[intOf];omega
        ·have hneb:(((gs.count ((q:Int)+1):Nat):Int) != 1)=true:=by rw[bne_iff_ne];omega
         have H:Hid (zbP (Gn:Int) bs=false):=by
          show _=_;have:zhT (Gn:Int) gs=false:=by
           unfold zhT;rw[List.all_eq_false];exact⟨q,by simpa using hltq,by simpa using hone⟩
          rw[HA.out,this];simp
         have hbb:=hinv.below;clear HA hone;generalize gs.count ((q:Int)+1)=ct at *;go_wp2;go_ret;exact⟨zae H.out.symm,hbb⟩
     ·have hgt:¬((q:Int)+1<=(Gn:Int)):=by omega
      have ho:zhT (Gn:Int) gs=true:=by
       unfold zhT;rw[zuP];intro i hi;have:=Hcnt.out i (by simp at hi;omega);rw[this];rfl
      rw[ho,zuN] at HA;have hrw:=zgt Hokk.out bs.length (zvJ _);rw[zvB] at hrw;have hbb:=hinv.below;have hbs:=hs0.below hbb;clear ho
      go_wp2_with fail
      refine(zfg (Gn:Int) _ bs _ hbs hsm Hokk.out).mono ?_;rintro e w7 ⟨rfl,hb7⟩;have hbb7:=zaa hbb hbb.size hb7;go_wp2;go_ret;exact⟨zae (by rw[HA.out]),hbb7⟩
theorem zef{P:Program}{ops:Array Oper}{o:Oper}{a:Act}{w:World}{K:Act->World->Prop}{Q:Exit->Act->World->Prop}{E:Prop}(hgd:o.guard=none)(f:FuncId)(xs:Array Operand)(ats:Array TypeId)
  (ho:o.op=.call {callee:=.value (.func f),args:=xs,argTypes:=ats}) (args:Array Value) (hargs:(#[]++xs.map a.eval++#[]:Array Value)=args) (v:Value) (R:World->Prop) (hen:(callFunc f args).run P w=.ok (.enter f args) w)
  (hc:Calls P f args w fun e w'=>e=.returned v/\R w') (h:∀w',R w'->K (a.put o.dst v) w'):
  if Region.wanted o (yielded ops a.tmps)=true then Oper.wp P o a w K Q else E:=by
 have hw:Region.wanted o (yielded ops a.tmps)=true:=by simp[Region.wanted,hgd]
 rw[zv3 hw];obtain⟨dst,op,type,pos,after,guard⟩:=o;simp only at ho;subst ho;unfold Oper.wp;rw[execOp_call_go,hargs];rw[hen,Oper.upon_enter];refine hc.mono ?_;rintro e w' ⟨rfl,hR⟩;exact h w' hR
variable{w:World}{g:Nat}{o:Obj}{a b c d e:Value}
theorem zag{w':World}(h:w.heap[g]?=some o)(hb:Below w.heap.size w w'):w'.heap[g]?=some o:=(hb.block g (zuH.1 h).1).trans h
theorem zix(h:w.heap[g]?=some o):g<w.heap.size:=(zuH.1 h).1
theorem zaj{C:Array Value}{t:TypeId}(h:w.heap[g]?=some (.cells C t (0,0))):∀o,w.cell? ⟨g,o,none⟩=C[o]?:=fun _=>zvW _ _ _ _ _ _ h
theorem zax{t:TypeId}(h:w.heap[g]?=some (.cells #[a,b,c,d,e] t (0,0))):w.cell? ⟨g,0,none⟩=some a/\w.cell? ⟨g,1,none⟩=some b/\w.cell? ⟨g,2,none⟩=some c/\w.cell? ⟨g,3,none⟩=some d/\w.cell? ⟨g,4,none⟩=some e:=
 ⟨zaj h 0,zaj h 1,zaj h 2,zaj h 3,zaj h 4⟩
theorem zc6{f h i:Value}{t:TypeId}(z:w.heap[g]?=some (.cells #[a,b,c,d,e,f,h,i] t (0,0))):w.cell? ⟨g,0,none⟩=some a/\w.cell? ⟨g,1,none⟩=some b/\w.cell? ⟨g,2,none⟩=some c/\w.cell? ⟨g,3,none⟩=some d/\w.cell? ⟨g,4,none⟩=some e/\w.cell? ⟨g,5,none⟩=some f/\w.cell? ⟨g,6,none⟩=some h/\w.cell? ⟨g,7,none⟩=some i:=
 ⟨zaj z 0,zaj z 1,zaj z 2,zaj z 3,zaj z 4,zaj z 5,zaj z 6,zaj z 7⟩
end Go.Proofs.YtdimhpfiieepiaaGreatDoor
