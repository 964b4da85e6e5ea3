import Derived.Test.YthdljcdbfmhleaaGreatDoorC37
import Derived.Deep.RegionHeld3
namespace Go.Proofs.YthdljcdbfmhleaaGreatDoor
set_option maxHeartbeats 4000000
set_option maxRecDepth 100000
open Go.RowKit
def zpJ(bs:List zaf):Prop:=∀i,i<bs.length->zbW (bs.getD i .zero).nodes=true/\(bs.getD i .zero).nodes.all zav=true
def zhJ(b:zaf):Int:=wOf b.nodes (b.nodes.length-1)
def zdv:List zaf->Int
 |[]=>0
 |b::bs=>zhJ b+zdv bs
theorem zgR(bs:List zaf)(k:Nat)(hk:k<bs.length):zdv (bs.take (k+1))=zdv (bs.take k)+zhJ (bs.getD k .zero):=by
 induction bs generalizing k with
 |nil=>exact absurd hk (zsg _)
 |cons b bs ih=>
  cases k with
  |zero=>simp[zdv,List.getD]
  |succ k=>
   have:=ih k (by simpa using hk);simp only[zr6,zdv,List.getD_cons_succ] at this ⊢;omega
theorem zhK{b:zaf}(hk:zbW b.nodes=true)(har:∀i,i<b.nodes.length->zaA (zap b.nodes i)<=(stk b.nodes i).length)(hb:b.nodes.all zav=true):1<=zhJ b/\zhJ b<=2001:=by
 obtain⟨hp,_⟩:=zhj b.nodes hk har hb;exact zeg b.nodes har hb (b.nodes.length) (b.nodes.length-1) (by omega) (by omega)
theorem zkv:∀(ns pre:List zak) (d:Nat),zcF ns (stk (pre++ns) pre.length).length=some d->∀i,pre.length<=i->i<pre.length+ns.length->zaA (zap (pre++ns) i)<=(stk (pre++ns) i).length
 |[],pre,_,_,i,h1,h2=>by simp at h2;omega
 |n::ns,pre,d,h,i,h1,h2=>by
  have hkind:zap (pre++n::ns) pre.length=n.kind:=by simp[zap,List.getD_eq_getElem?_getD]
  unfold zcF at h
  by_cases hc:(stk (pre++n::ns) pre.length).length<zaA n.kind
  ·rw[zst hc] at h;cases h
  ·rw[zss hc] at h
   by_cases e:i=pre.length
   ·subst e;rw[hkind];omega
   ·have e1:pre++n::ns=(pre++[n])++ns:=by simp
    have hl:=zj3 (pre++n::ns) pre.length;rw[hkind] at hl;rw[<-hl] at h;have:=zkv ns (pre++[n]) d (by rw[<-e1];simpa using h) i (by simp;omega) (by simp at h2 ⊢;omega);rwa[<-e1] at this
theorem zfc{ns:List zak}(h:zbW ns=true):∀i,i<ns.length->zaA (zap ns i)<=(stk ns i).length:=by
 intro i hi;unfold zbW at h;exact zkv ns [] 1 (eq_of_beq h) i (zsj _) (by simpa using hi)
theorem zhx{bs:List zaf}(h:zpJ bs):∀k,k<=bs.length->0<=zdv (bs.take k)/\zdv (bs.take k)<=k*2001
 |0,_=>by simp[zdv]
 |k+1,hk=>by
  have h1:=zhx h k (by omega);obtain⟨h2,h3⟩:=h k (by omega);have h4:=zhK h2 (zfc h2) h3;rw[zgR bs k (by omega)];omega
theorem zhy{lo:Nat}(G:Int)(v:Value)(bs:List zaf)(w:World)(hs:zaj lo w v bs)(hsm:Small bs)(hok:zpJ bs):
  Calls Tryz.prog 51 #[.agg #[v,.int .i64 G]] w fun e w'=>e=.returned (.int .i64 (zdv bs))/\Below w.heap.size w w':=by
 obtain⟨ao,cap,rfl,hm,hc⟩:=hs;have hn:=hsm.1;have Hok:Hid _:=hok;clear hok
 go_enter Tryz.func51,Tryz.ntmps51
 go_wp2
 go_loopw [3,9] (fun s i wr=>∃k:Nat,k<=bs.length/\i=.int .i64 k/\s=.int .i64 (zdv (bs.take k))/\Below w.heap.size w wr)
  (fun _ i _=>bs.length-(intOf i).toNat)
 case atStart=>exact⟨0,zsj _,rfl,rfl,(Below.refl _ _).alloc (zsa _) _⟩
 case round=>
  obtain⟨k,hk,rfl,rfl,hb⟩:=hrel;have hrb:=zhx Hok.out k hk
  by_cases hlt:k<bs.length
  ·obtain⟨b,o,nv,bd,rfl,Hn,hbl,c0,c1,c2,hnv⟩:=hc.elem hb hlt;have hnl:bd.nodes.length<=1048576:=by have:=(hsm.2 k hlt).1;rw[Hn.out] at this;exact this
   have hkb:zbW bd.nodes=true:=by have:=(Hok.out k hlt).1;rw[Hn.out] at this;exact this
   have hab:bd.nodes.all zav=true:=by have:=(Hok.out k hlt).2;rw[Hn.out] at this;exact this
   have hwl:=zhK hkb (zfc hkb) hab;obtain⟨nao,ncp,rfl,hnm,hnc⟩:=hnv;have hba:Below w.heap.size w (wr.alloc (.cells #[.bool bd.bol,.bool bd.eol,.slice nao bd.nodes.length ncp] 41)):=hb.alloc hb.size _;have hnva:zas lo (wr.alloc (.cells #[.bool bd.bol,.bool bd.eol,.slice nao bd.nodes.length ncp] 41)) (.slice nao bd.nodes.length ncp) bd.nodes:=zas.below ⟨_,_,rfl,hnm,hnc⟩ ((Below.refl _ _).alloc (zsa _) _);have HT:Hid _:=zgR bs k hlt;rw[Hn.out] at HT;generalize zdv (bs.take k)=s at *;have HL:Hid (wOf bd.nodes (bd.nodes.length-1)=zhJ bd):=rfl
   go_wp2_with fail
   refine(zn1 _ bd.nodes _ hnva hnl hkb hab).mono ?_;rintro e w2 ⟨rfl,hb2⟩;rw[HL.out];clear hkb hab;generalize zhJ bd=wl at *;have hwr:IntKind.i64.wrap (s+wl)=s+wl:=by rw[IntKind.wrap_i64];omega
   go_wp2
   go_roundw
   case rel=>exact⟨k+1,by omega,by go_num,by rw[HT.out],zaa hba hba.size hb2⟩
   case measure=>simp[intOf];omega
  ·go_wp2;go_ret;exact⟨zbi (by rw[zr5 (by omega)]),hb⟩
section
variable {w wr w1:World}{v:Value}{G:Int}{gg cc:Nat}{gs:List Int}
def allB(bs:List zaf):Bool:=bs.all fun b=>zbW b.nodes&&b.nodes.all zav
def zgr(G:Int)(gs:List Int):Bool:=(List.range G.toNat).all fun i=>gs.count ((i:Int)+1)==1
def zb5(G:Int)(bs:List zaf):Bool:=
 decide (1<=bs.length/\bs.length<=2000)&&decide (0<=G/\G<=500)&&decide (zaB bs<=5000)&&allB bs&&(((zaT bs).length:Int)==G)&&zgr G (zaT bs)&&decide (zdv bs<=2000)
theorem zoy(ns:List zak)(j:Nat)(hj:j<ns.length)(nd:zak)(h:ns.getD j .zero=nd):grp (ns.take (j+1))=grp (ns.take j)++(if nd.kind=5 then [nd.group] else []):=by
 induction ns generalizing j with
 |nil=>exact absurd hj (zsg _)
 |cons n ns ih=>
  cases j with
  |zero=>
   have:n=nd:=by simpa [List.getD] using h
   subst this;simp only[zr6,zr8,grp,zrZ]
  |succ j=>
   have:=ih j (by simpa using hj) (by simpa [List.getD] using h);simp only[zr6,grp] at this ⊢;rw[this];split<;>simp
theorem ziZ(bs:List zaf)(k:Nat)(hk:k<bs.length)(bd:zaf)(h:bs.getD k .zero=bd):zaT (bs.take (k+1))=zaT (bs.take k)++grp bd.nodes:=by
 induction bs generalizing k with
 |nil=>exact absurd hk (zsg _)
 |cons b bs ih=>
  cases k with
  |zero=>
   have:b=bd:=by simpa [List.getD] using h
   subst this;simp[zaT]
  |succ k=>
   have:=ih k (by simpa using hk) (by simpa [List.getD] using h);simp only[zr6,zaT] at this ⊢;rw[this,zrl]
theorem zjm:∀ns:List zak,(grp ns).length<=ns.length
 |[]=>zsa _
 |n::ns=>by have:=zjm ns;unfold grp;split<;>simp<;>omega
theorem zes:∀bs:List zaf,(zaT bs).length<=zaB bs
 |[]=>zsa _
 |b::bs=>by have:=zes bs;have:=zjm b.nodes;unfold zaT zaB;simp;omega
theorem zin(bs:List zaf)(k:Nat):zaB (bs.take k)<=zaB bs:=by
 induction bs generalizing k with
 |nil=>simp
 |cons b bs ih=>
  cases k with
  |zero=>simp[zaB]
  |succ k=>have:=ih k;simp only[zr6,zaB];omega
theorem zl9(bs:List zaf)(k:Nat)(hk:k<bs.length)(bd:zaf)(h:bs.getD k .zero=bd)(hf:(zbW bd.nodes&&bd.nodes.all zav)=false):allB bs=false:=by
 unfold allB;rw[List.all_eq_false];refine⟨bs[k],zrJ _,?_⟩;have:bs[k]=bd:=by rw[<-h];simp[List.getD,hk]
 rw[this,hf];simp
theorem zma(bs:List zaf)(k:Nat)(hk:k<bs.length)(bd:zaf)(h:bs.getD k .zero=bd)(ht:allB (bs.take k)=true)(hf:(zbW bd.nodes&&bd.nodes.all zav)=true):allB (bs.take (k+1))=true:=by
 unfold allB at *;rw[zr7 hk,List.all_append,ht];have:bs[k]=bd:=by rw[<-h];simp[List.getD,hk]
 simp only[List.all_cons,List.all_nil,this,hf,Bool.and_true]
theorem zjN(ns:List zak)(j:Nat)(hj:j<ns.length)(nd:zak)(h:ns.getD j .zero=nd)(hf:zav nd=false):ns.all zav=false:=by
 rw[List.all_eq_false];refine⟨ns[j],zrJ _,?_⟩;have:ns[j]=nd:=by rw[<-h];simp[List.getD,hj]
 rw[this,hf];simp
theorem zlM(ns:List zak)(j:Nat)(hj:j<ns.length)(nd:zak)(h:ns.getD j .zero=nd)(ht:(ns.take j).all zav=true)(hf:zav nd=true):(ns.take (j+1)).all zav=true:=by
 rw[zr7 hj,List.all_append,ht];have:ns[j]=nd:=by rw[<-h];simp[List.getD,hj]
 simp only[List.all_cons,List.all_nil,this,hf,Bool.and_true]
theorem zpR{bs:List zaf}(h:allB bs=true):zpJ bs:=by
 intro i hi;have:=zrj.1 h (bs.getD i .zero) (by
  rw[zrw,zrD hi];exact zrJ _)
 simpa using this
theorem zlh(gs:List Int)(j:Nat)(hj:j<gs.length)(x:Int):(gs.take (j+1)).count x=(gs.take j).count x+(if gs.getD j 0=x then 1 else 0):=by
 rw[zr7 hj,List.count_append];simp[List.getD,hj,List.count_cons]
def rowG(gs:List Int):List Value:=gs.map (Value.int .i64)
theorem znH(gs:List Int)(x:Int):rowG (gs++[x])=rowG gs++[.int .i64 x]:=by simp[rowG]
theorem zpg(gs:List Int)(i:Nat)(h:i<gs.length):(rowG gs)[i]?=some (.int .i64 (gs.getD i 0)):=by simp[rowG,h,List.getD]
structure RInv(w wr:World)(v:Value)(G:Int)(gg cc:Nat)(gs:List Int):Prop where
 below:Below w.heap.size w wr
 box0:wr.cell? ⟨w.heap.size,0,none⟩=some v
 box1:wr.cell? ⟨w.heap.size,1,none⟩=some (.int .i64 G)
 row:wr.ownsRow (w.heap.size+1) 3 1 (.slice (some ⟨gg,0,none⟩) gs.length cc) gs.length (rowG gs)
 size:w.heap.size+1<=wr.heap.size
theorem RInv.same(h:RInv w wr v G gg cc gs)(hb:Below wr.heap.size wr w1):RInv w w1 v G gg cc gs:=
 ⟨zaa h.below (zsb (Nat.le_succ _) h.size) hb,(hb.cell (by have:=h.size;simp;omega)).trans h.box0,(hb.cell (by have:=h.size;simp;omega)).trans h.box1,zab h.row hb,zsb h.size hb.size⟩
theorem RInv.alloc(h:RInv w wr v G gg cc gs)(o:Obj):RInv w (wr.alloc o) v G gg cc gs:=h.same ((Below.refl _ _).alloc (zsa _) _)
theorem RInv.grown{g' c':Nat}{x:Int}(h:RInv w wr v G gg cc gs)(hg:wr.grownBy w1 (some gg))(ho:w1.ownsRow (w.heap.size+1) 3 1 (.slice (some ⟨g',0,none⟩) (gs.length+1) c') (gs.length+1) (rowG gs++[.int .i64 x])):RInv w w1 v G g' c' (gs++[x]):=by
 have hgg:=(zbb h.row).1;have hs:=h.size;refine⟨h.below.grown hg (by omega) (by intro q hq;cases hq;omega),?_,?_,by simpa [znH] using ho,zsb h.size hg.size⟩
 ·exact(hg.cell_far _ (by simp;omega) (by simp;omega)).trans h.box0
 ·exact(hg.cell_far _ (by simp;omega) (by simp;omega)).trans h.box1
end
theorem zhA{lo:Nat}(G:Int)(v:Value)(bs:List zaf)(w:World)(hs:zaj lo w v bs)(hsm:Small bs):
  Calls Tryz.prog 28 #[.agg #[v,.int .i64 G]] w fun e w'=>e=.returned (.bool (zb5 G bs))/\Below w.heap.size w w':=by
 have hn:=hsm.1;have hs0:=hs;obtain⟨ao,cap,rfl,hm,hc⟩:=hs;have hb0:Below w.heap.size w (w.alloc (.cells #[.slice ao bs.length cap,.int .i64 G] 30)):=(Below.refl _ _).alloc (zsa _) _
 by_cases h1:btw (bs.length:Int) 1 2000=false
 ·have H:Hid (zb5 G bs=false):=by
   show _=_;have:decide (1<=bs.length/\bs.length<=2000)=false:=by simp[btw] at h1;simp;omega
   simp[zb5,this]
  go_enter Tryz.func28,Tryz.ntmps28
  go_wp2_with (go_at_call 49;refine(zax _ _ _ _).mono ?_;rintro e w' ⟨rfl,rfl⟩)
  go_ret
  exact⟨zam H.out.symm,hb0⟩
 have h1':btw (bs.length:Int) 1 2000=true:=by simpa using h1
 clear h1
 by_cases h2:btw G 0 500=false
 ·have H:Hid (zb5 G bs=false):=by
   show _=_;have:decide (0<=G/\G<=500)=false:=by simp[btw] at h2;simp;omega
   simp[zb5,this]
  go_enter Tryz.func28,Tryz.ntmps28
  go_wp2_with (go_at_call 49;refine(zax _ _ _ _).mono ?_;rintro e w' ⟨rfl,rfl⟩)
  go_ret
  exact⟨zam H.out.symm,hb0⟩
 have h2':btw G 0 500=true:=by simpa using h2
 clear h2;have hlen:1<=bs.length/\bs.length<=2000:=by simp[btw] at h1';omega
 have hG:0<=G/\G<=500:=by simp[btw] at h2';omega
 obtain⟨hG0,hG1⟩:=hG;have HA:Hid (zb5 G bs=(decide (zaB bs<=5000)&&allB bs&&(((zaT bs).length:Int)==G)&&zgr G (zaT bs)&&decide (zdv bs<=2000))):=by
  show _=_;have e1:decide (1<=bs.length/\bs.length<=2000)=true:=by simp;omega
  have e2:decide (0<=G/\G<=500)=true:=by simp;omega
  unfold zb5;rw[e1,e2,zrh,zrh]
 obtain⟨i0,hi,hz0,hz1,hz2⟩:=info_parts Tryz.infoInt
 go_enter Tryz.func28,Tryz.ntmps28
 go_wp2_with (go_at_call 49;refine(zax _ _ _ _).mono ?_;rintro e w' ⟨rfl,rfl⟩)
 have hinv0:RInv w ((w.alloc (.cells #[.slice ao bs.length cap,.int .i64 G] 30)).alloc (.cells #[] 3)) (.slice ao bs.length cap) G (w.heap.size+1) 0 []:=⟨hb0.alloc hb0.size _,by simp,by simp,zcx _ _ _ _ (by omega) (by simp),by simp⟩
 go_loopw [3,33] (fun s i wr=>∃k:Nat,k<=bs.length/\i=.int .i64 k/\s=.int .i64 (zaB (bs.take k))/\RInv w wr (.slice ao bs.length cap) G (w.heap.size+1) 0 [])
  (fun _ i _=>bs.length-(intOf i).toNat)
 case atStart=>exact⟨0,zsj _,rfl,rfl,hinv0⟩
 case round=>
  clear hinv0;obtain⟨k,hk,rfl,rfl,hinv⟩:=hrel;have hcb:=zcr hsm k hk
  by_cases hlt:k<bs.length
  ·obtain⟨b,o,nv,bd,rfl,Hn,hbl,c0,c1,c2,hnv⟩:=hc.elem hinv.below hlt;have hnl:bd.nodes.length<=1048576:=by have:=(hsm.2 k hlt).1;rw[Hn.out] at this;exact this
   obtain⟨nao,ncp,rfl,hnm,hnc⟩:=hnv;have HT:Hid _:=zbT bs k hlt;rw[Hn.out] at HT;generalize zaB (bs.take k)=s at *;go_wp2
   go_roundw
   case rel=>exact⟨k+1,by omega,by go_num,by rw[HT.out];go_num,hinv.alloc _⟩
   case measure=>simp[intOf];omega
  have hkk:bs.take k=bs:=zr5 (by omega);rw[hkk] at hcb ⊢;clear hkk
  by_cases h5:5000<(zaB bs:Int)
  ·have H:Hid (zb5 G bs=false):=by
    show _=_;have:decide (zaB bs<=5000)=false:=by simp;omega
    rw[HA.out,this];simp
   have hbb:=hinv.below;have hx0:=hinv.box0;clear HA;go_wp2;go_ret;exact⟨zam H.out.symm,hbb⟩
  have h5':zaB bs<=5000:=by omega
  have e5:decide (zaB bs<=5000)=true:=by simpa using h5'
  rw[e5,zrh] at HA;clear e5 hcb;have hx0:=hinv.box0;go_wp2;generalize hcn:zaB bs=cn at *;have Hcn:Hid _:=hcn;clear hcn
  go_loopw [4,48] (fun s i wr=>∃(k gg cc:Nat),k<=bs.length/\i=.int .i64 k/\s=.slice (some ⟨gg,0,none⟩) (zaT (bs.take k)).length cc/\RInv w wr (.slice ao bs.length cap) G gg cc (zaT (bs.take k))/\Hid (allB (bs.take k)=true))
   (fun _ i _=>bs.length-(intOf i).toNat)
  case atStart=>exact⟨0,w.heap.size+1,0,zsj _,rfl,rfl,hinv,rfl⟩
  case round=>
   clear hinv hx0;obtain⟨k2,gg,cc,hk2,rfl,rfl,hinv,Hall⟩:=hrel
   by_cases hlt2:k2<bs.length
   ·obtain⟨b,o,nv,bd,rfl,Hn,hbl,q0,q1,q2,hnv⟩:=hc.elem (Below.refl _ _) hlt2;have c0:=(hinv.below.cell (p:=⟨b,o+k2*3,none⟩) hbl).trans q0;have c1:=(hinv.below.cell (p:=⟨b,o+k2*3+1,none⟩) hbl).trans q1;have c2:=(hinv.below.cell (p:=⟨b,o+k2*3+2,none⟩) hbl).trans q2;clear q0 q1 q2;have hnl:bd.nodes.length<=1048576:=by have:=(hsm.2 k2 hlt2).1;rw[Hn.out] at this;exact this
    have hgl:(zaT (bs.take k2)).length+bd.nodes.length<=5000:=by
     have e1:=zes (bs.take k2);have e2:=zbT bs k2 hlt2;have e3:=zin bs (k2+1);rw[Hn.out] at e2;rw[Hcn.out] at e3;omega
    obtain⟨nao,ncp,rfl,hnm,hnc⟩:=hnv;have hinva:=hinv.alloc (.cells #[.bool bd.bol,.bool bd.eol,.slice nao bd.nodes.length ncp] 41);have hnva:zas lo (wr.alloc (.cells #[.bool bd.bol,.bool bd.eol,.slice nao bd.nodes.length ncp] 41)) (.slice nao bd.nodes.length ncp) bd.nodes:=zas.below ⟨_,_,rfl,hnm,hnc⟩ hinva.below;generalize hgs:zaT (bs.take k2)=gs0 at *;have Hgs:Hid _:=hgs;clear hgs
    go_wp2_with fail
    refine(zjo _ bd.nodes _ hnva hnl).mono ?_;rintro e w2 ⟨hb2,⟨hkf,lv,rv,rfl⟩|⟨hkt,gl,cl,gr,cr,rfl,_,_,_⟩⟩
    ·have H:Hid (zb5 G bs=false):=by
      show _=_;rw[HA.out,zl9 bs k2 hlt2 bd Hn.out (by rw[hkf];rfl)];simp
     have hbb:=(hinva.same hb2).below;clear HA hkf;go_wp2;go_ret;exact⟨zam H.out.symm,hbb⟩
    have Hkt:Hid _:=hkt;clear hkt;have d2:w2.cell? ⟨wr.heap.size,2,none⟩=some (.slice nao bd.nodes.length ncp):=(hb2.cell (by simp)).trans (by simp);have hinv2:=hinva.same hb2;clear hinv hinva hnva hb2 c0 c1 c2;go_wp2
    go_loopw [4,64] (fun s i wr=>∃(j gg cc:Nat),j<=bd.nodes.length/\i=.int .i64 j/\s=.slice (some ⟨gg,0,none⟩) (gs0++grp (bd.nodes.take j)).length cc/\RInv w wr (.slice (some ⟨b,o,none⟩) bs.length cap) G gg cc (gs0++grp (bd.nodes.take j))/\Hid ((bd.nodes.take j).all zav=true))
     (fun _ i _=>bd.nodes.length-(intOf i).toNat)
    case atStart=>exact⟨0,gg,cc,zsj _,rfl,by simp[grp],by simpa [grp] using hinv2,rfl⟩
    case round=>
     clear hinv2 d2;obtain⟨j,g3,c3,hj,rfl,rfl,hinv3,HallN⟩:=hrel;have hlen3:(gs0++grp (bd.nodes.take j)).length<=5000:=by
      have:=zjm (bd.nodes.take j);simp at this ⊢;omega
     by_cases hlt3:j<bd.nodes.length
     ·obtain⟨b2,o2,sv,nd,rfl,Hn2,hbl2,d0,d1,d2,d3,d4,hsv⟩:=hnc.elem hinv3.below hlt3;have HGT:Hid _:=zoy bd.nodes j hlt3 nd Hn2.out;obtain⟨kd,rs,mn,mx,gp⟩:=nd;simp only at d0 d2 d3 d4 hsv HGT;obtain⟨sao,scp,rfl,hsm2,hsc⟩:=hsv;have hinv3a:=hinv3.alloc (.cells #[.int .i64 kd,.slice sao rs.length scp,.int .i64 mn,.int .i64 mx,.int .i64 gp] 72);have hsva:zag lo (wr.alloc (.cells #[.int .i64 kd,.slice sao rs.length scp,.int .i64 mn,.int .i64 mx,.int .i64 gp] 72)) (.slice sao rs.length scp) rs:=zag.below ⟨_,_,rfl,hsm2,hsc⟩ ((Below.refl _ _).alloc (zsa _) _);generalize hgs3:gs0++grp (bd.nodes.take j)=gs3 at *;have Hgs3:Hid _:=hgs3;clear hgs3
      by_cases hnb:zav ⟨kd,rs,mn,mx,gp⟩=false
      ·have H:Hid (zb5 G bs=false):=by
        show _=_;rw[HA.out,zl9 bs k2 hlt2 bd Hn.out (by rw[zjN bd.nodes j hlt3 _ Hn2.out hnb];simp)];simp
       clear HA
       go_wp2_with (go_at_call 50;refine(zio _ _ _ _ _ _ _ hsva).mono ?_;rintro e w4 ⟨rfl,hb4⟩)
       go_ret
       exact⟨zam H.out.symm,(hinv3a.same hb4).below⟩
      have hnt:zav ⟨kd,rs,mn,mx,gp⟩=true:=by simpa using hnb
      have HallT:Hid ((bd.nodes.take (j+1)).all zav=true):=zlM bd.nodes j hlt3 _ Hn2.out HallN.out hnt;clear hnb
      go_wp2_with fail
      refine(zio _ _ _ _ _ _ _ hsva).mono ?_;rintro e w4 ⟨rfl,hb4⟩;have y0:w4.cell? ⟨wr.heap.size,0,none⟩=some (.int .i64 kd):=(hb4.cell (by simp)).trans (by simp);have y4:w4.cell? ⟨wr.heap.size,4,none⟩=some (.int .i64 gp):=(hb4.cell (by simp)).trans (by simp);have hinv4:=hinv3a.same hb4;have hsz4:=hinv4.size;clear hinv3 hinv3a hb4
      by_cases h55:kd=5
      ·subst h55
       go_wp2_with (refine zaq w4 rfl (.tmp 74) (.tmp 77) 44 rfl (w.heap.size+1) 3 i0 _ 8 Tryz.underlying44 hi hz0 hz1 hz2 rfl g3 c3 gs3.length (rowG gs3) _ rfl hinv4.row rfl rfl (by omega) (by omega) hsz4 ?_;intro g5 c5 w5 own5 grow5 at5)
       go_roundw
       case rel=>
        have he:gs0++grp (bd.nodes.take (j+1))=gs3++[gp]:=by rw[HGT.out,zst (by trivial),<-zrl,Hgs3.out]
        exact⟨j+1,g5,c5,by omega,by go_num,by rw[he];simp,by rw[he];exact hinv4.grown grow5 own5,HallT⟩
       case measure=>simp[intOf];omega
      ·have h55':(kd==5)=false:=zsk.2 h55;have H55:Hid _:=h55;clear h55;go_wp2
       go_roundw
       case rel=>
        have he:gs0++grp (bd.nodes.take (j+1))=gs3:=by rw[HGT.out,zss H55.out,zrm,Hgs3.out]
        exact⟨j+1,g3,c3,by omega,by go_num,by rw[he],by rw[he];exact hinv4,HallT⟩
       case measure=>simp[intOf];omega
     ·have htk:bd.nodes.take j=bd.nodes:=zr5 (by omega);rw[htk] at hinv3 HallN hlen3 ⊢;have HG2:Hid (zaT (bs.take (k2+1))=gs0++grp bd.nodes):=by show _=_;rw[ziZ bs k2 hlt2 bd Hn.out,Hgs.out]
      have HB2:Hid (allB (bs.take (k2+1))=true):=zma bs k2 hlt2 bd Hn.out Hall.out (by rw[Hkt.out,HallN.out];rfl);clear htk;generalize gs0++grp bd.nodes=gs4 at *;go_wp2
      go_roundw
      case rel=>exact⟨k2+1,g3,c3,by omega,by go_num,by rw[HG2.out],by rw[HG2.out];exact hinv3,HB2⟩
      case measure=>simp[intOf];omega
   ·have htk:bs.take k2=bs:=zr5 (by omega);rw[htk] at hinv Hall ⊢;have hgl:(zaT bs).length<=5000:=by have:=zes bs;rw[Hcn.out] at this;omega
    rw[Hall.out,zrh] at HA;clear htk;have hokk:=zpR Hall.out;have Hokk:Hid _:=hokk;clear hokk;generalize hgs:zaT bs=gs at *;have hx1:=hinv.box1;have hx0:=hinv.box0
    by_cases hgn:((gs.length:Int)==G)=false
    ·have H:Hid (zb5 G bs=false):=by show _=_;rw[HA.out,hgn];simp
     have hgn2:(((gs.length:Nat):Int) != G)=true:=by simp at hgn ⊢;exact hgn
     have hbb:=hinv.below;clear HA hgn;go_wp2;go_ret;exact⟨zam H.out.symm,hbb⟩
    have hgt:((gs.length:Int)==G)=true:=by simpa using hgn
    rw[hgt,zrh] at HA;have hgn2:(((gs.length:Nat):Int) != G)=false:=by simp at hgt ⊢;exact hgt
    have hGe:G=gs.length:=(eq_of_beq hgt).symm;clear hgn hgt;obtain⟨Gn,rfl⟩:=Int.eq_ofNat_of_zero_le hG0;have HGe:Hid _:=hGe;clear hGe;have hGn:Gn<=500:=by omega
    go_wp2
    go_loopw [14] (fun gv wr=>∃q:Nat,q<=Gn/\gv=.int .i64 ((q:Int)+1)/\RInv w wr (.slice ao bs.length cap) (Gn:Int) gg cc gs/\Hid (∀i,i<q->gs.count ((i:Int)+1)=1))
     (fun gv _=>Gn+1-(intOf gv).toNat)
    case atStart=>exact⟨0,zsj _,rfl,hinv,fun i hi=>absurd hi (zsg _)⟩
    case round=>
     clear hinv hx1 hx0;obtain⟨q,hq,rfl,hinv,Hcnt⟩:=hrel;have hx1:=hinv.box1;have hx0:=hinv.box0
     by_cases hltq:q<Gn
     ·have hle:(q:Int)+1<=(Gn:Int):=by omega
      go_wp2
      go_loopw [15,94] (fun t i wr=>∃j:Nat,j<=gs.length/\i=.int .i64 j/\t=.int .i64 ((gs.take j).count ((q:Int)+1):Nat)/\RInv w wr (.slice ao bs.length cap) (Gn:Int) gg cc gs)
       (fun _ i _=>gs.length-(intOf i).toNat)
      case atStart=>exact⟨0,zsj _,rfl,rfl,hinv⟩
      case round=>
       clear hinv hx1 hx0;obtain⟨j,hj,rfl,rfl,hinv⟩:=hrel;have hcl:(gs.take j).count ((q:Int)+1)<=j:=by
        have:=List.count_le_length (a:=(q:Int)+1) (l:=gs.take j);simp at this;omega
       by_cases hltj:j<gs.length
       ·have y0:wr.cell? ⟨gg,j,none⟩=some (.int .i64 (gs.getD j 0)):=(hinv.row.cellAt j (by omega)).trans (zpg gs j hltj);have HC:Hid _:=zlh gs j hltj ((q:Int)+1);generalize (gs.take j).count ((q:Int)+1)=ct at *;generalize gs.getD j 0=h0 at *
        by_cases hhe:h0=(q:Int)+1
        ·have hheb:(h0==(q:Int)+1)=true:=beq_iff_eq.2 hhe;have HHE:Hid _:=hhe;clear hhe;go_wp2
         go_roundw
         case rel=>exact⟨j+1,by omega,by go_num,by rw[HC.out,zst HHE.out];go_num,hinv⟩
         case measure=>simp[intOf];omega
        ·have hheb:(h0==(q:Int)+1)=false:=zsk.2 hhe;have HHE:Hid _:=hhe;clear hhe;go_wp2
         go_roundw
         case rel=>exact⟨j+1,by omega,by go_num,by rw[HC.out,zss HHE.out,zr9],hinv⟩
         case measure=>simp[intOf];omega
       ·have htk2:gs.take j=gs:=zr5 (by omega);rw[htk2] at hcl ⊢;clear htk2
        by_cases hone:gs.count ((q:Int)+1)=1
        ·have HC1:Hid (∀i,i<q+1->gs.count ((i:Int)+1)=1):=by
          intro i hi
          by_cases e:i=q
          ·subst e;exact hone
          ·exact Hcnt.out i (by omega)
         have hneb:(((gs.count ((q:Int)+1):Nat):Int) != 1)=false:=by rw[hone];rfl
         clear hone;generalize gs.count ((q:Int)+1)=ct at *;go_wp2
         go_roundw
         case rel=>exact⟨q+1,by omega,by go_num,hinv,HC1⟩
         case measure=>simp[intOf];omega
        ·have hneb:(((gs.count ((q:Int)+1):Nat):Int) != 1)=true:=by rw[bne_iff_ne];omega
         have H:Hid (zb5 (Gn:Int) bs=false):=by
          show _=_;have:zgr (Gn:Int) gs=false:=by
           unfold zgr;rw[List.all_eq_false];exact⟨q,by simpa using hltq,by simpa using hone⟩
          rw[HA.out,this];simp
         have hbb:=hinv.below;clear HA hone;generalize gs.count ((q:Int)+1)=ct at *;go_wp2;go_ret;exact⟨zam H.out.symm,hbb⟩
     ·have hgt:¬((q:Int)+1<=(Gn:Int)):=by omega
      have ho:zgr (Gn:Int) gs=true:=by
       unfold zgr;rw[zrj];intro i hi;have:=Hcnt.out i (by simp at hi;omega);rw[this];rfl
      rw[ho,zrh] at HA;have hrw:=zhx Hokk.out bs.length (zsa _);rw[List.take_length] at hrw;have hbb:=hinv.below;have hbs:=hs0.below hbb;clear ho
      go_wp2_with fail
      refine(zhy (Gn:Int) _ bs _ hbs hsm Hokk.out).mono ?_;rintro e w7 ⟨rfl,hb7⟩;have hbb7:=zaa hbb hbb.size hb7;go_wp2;go_ret;exact⟨zam (by rw[HA.out]),hbb7⟩
section
attribute [local go_sem ↓] Go.wp_at_zero Go.wp_at_succ
def zdd(bol eol:Bool)(n:Nat)(a e:Nat)(cl:Bool):Bool:=!(bol && !(a==0))&&(!eol || (cl&&e==n))
theorem znw(bol eol cl:Bool)(ao:Option Addr)(k c:Nat)(t:ByteArray)(a e:Nat)(w:World):
  Calls Tryz.prog 29 #[.agg #[.bool bol,.bool eol,.slice ao k c],.string t,.int .i64 a,.int .i64 e,.bool cl] w fun r w'=>r=.returned (.bool (zdd bol eol t.size a e cl))/\Below w.heap.size w w':=by
 have hb:Below w.heap.size w (w.alloc (.cells #[.bool bol,.bool eol,.slice ao k c] 41)):=(Below.refl _ _).alloc (zsa _) _;have h0:((a:Int) != 0)=!(a==0):=by
  by_cases h:a=0
  ·subst h;rfl
  ·have:((a:Int) != 0)=true:=by simp;omega
   rw[this];simp;omega
 have h1:((e:Int)==(t.size:Int))=(e==t.size):=by
  by_cases h:e=t.size
  ·subst h;simp
  ·have:((e:Int)==(t.size:Int))=false:=by simp;omega
   rw[this];simp;omega
 have Hp:Hid (zdd bol eol t.size a e cl=(!(bol && !(a==0))&&(!eol || (cl&&e==t.size)))):=rfl;cases hz:(a==0)<;>cases he:(e==t.size)<;>cases bol<;>cases eol<;>cases cl
 all_goals
  rw[hz] at h0 Hp;rw[he] at h1 Hp
  go_enter Tryz.func29,Tryz.ntmps29
  go_wp2;go_ret;exact⟨zam Hp.out.symm,hb⟩
theorem zkP{lo:Nat}(bol eol:Bool)(ao:Option Addr)(c:Nat)(ns:List zak)(t:ByteArray)(w:World)(hs:zas lo w (.slice ao ns.length c) ns)(hn:ns.length<=1048576)(hk:zbW ns=true):
  Calls Tryz.prog 17 #[.agg #[.bool bol,.bool eol,.slice ao ns.length c],.string t] w fun r w'=>Below w.heap.size w w'/\∃gl cl gr cr,r=.returned (.agg #[.slice ao ns.length c,.slice (some ⟨gl,0,none⟩) ns.length cl,.slice (some ⟨gr,0,none⟩) ns.length cr,.string t])/\BrAt w' ns (.slice ao ns.length c) gl gr:=by
 have hb:Below w.heap.size w ((w.alloc (.cells #[.bool bol,.bool eol,.slice ao ns.length c] 41)).alloc (.cells #[.slice none 0 0,.slice none 0 0,.slice none 0 0,.string ⟨#[]⟩] 46)):=((Below.refl _ _).alloc (zsa _) _).alloc (by simp) _;have hKids:=fun(W:World) (hb:Below w.heap.size w W)=>zjo _ ns W (hs.below hb) hn
 go_enter Tryz.func17,Tryz.ntmps17
 go_wp2_with fail
 refine(hKids _ hb).mono ?_;rintro e w1 ⟨hb1,h|⟨-,gl,cl,gr,cr,rfl,ol,or_,-⟩⟩
 ·rw[hk] at h;cases h.1
 have k0:((w.alloc (.cells #[.bool bol,.bool eol,.slice ao ns.length c] 41)).alloc (.cells #[.slice none 0 0,.slice none 0 0,.slice none 0 0,.string ⟨#[]⟩] 46)).heap[w.heap.size]?=some (.cells #[.bool bol,.bool eol,.slice ao ns.length c] 41 (0,0)):=zah (zsp _ _);have k1:((w.alloc (.cells #[.bool bol,.bool eol,.slice ao ns.length c] 41)).alloc (.cells #[.slice none 0 0,.slice none 0 0,.slice none 0 0,.string ⟨#[]⟩] 46)).heap[w.heap.size+1]?=some (.cells #[.slice none 0 0,.slice none 0 0,.slice none 0 0,.string ⟨#[]⟩] 46 (0,0)):=by have:=zsp (w.alloc (.cells #[.bool bol,.bool eol,.slice ao ns.length c] 41)) (.cells #[.slice none 0 0,.slice none 0 0,.slice none 0 0,.string ⟨#[]⟩] 46);simpa using this
 have p0:=zat k0 hb1;have p1:=zat k1 hb1;have q0:=(zsm _ _ _ _ _ _ p0:w1.cell? ⟨w.heap.size,2,none⟩=_);simp at q0;obtain⟨d0,d1,d2,d3⟩:=zaC p1;have f0:w1.frozen? ⟨w.heap.size+1,0,none⟩=false:=by simp[World.frozen?,p1]
 have f1:w1.frozen? ⟨w.heap.size+1,1,none⟩=false:=by simp[World.frozen?,p1]
 have f2:w1.frozen? ⟨w.heap.size+1,2,none⟩=false:=by simp[World.frozen?,p1]
 have f3:w1.frozen? ⟨w.heap.size+1,3,none⟩=false:=by simp[World.frozen?,p1]
 go_wp2;have hbb:Below w.heap.size w ((((w1.setCell ⟨w.heap.size+1,0,none⟩ (.slice ao ns.length c)).setCell ⟨w.heap.size+1,1,none⟩ (.slice (some ⟨gl,0,none⟩) ns.length cl)).setCell ⟨w.heap.size+1,2,none⟩ (.slice (some ⟨gr,0,none⟩) ns.length cr)).setCell ⟨w.heap.size+1,3,none⟩ (.string t)):=by
  iterate 4 refine Below.setCell ?_ (by simp) _
  exact zaa hb hb.size hb1
 have hgl:=(zbb ol).1;have hgr:=(zbb or_).1;simp only[World.size_alloc] at hgl hgr;have hcell:∀g o,g≠w.heap.size+1->((((w1.setCell ⟨w.heap.size+1,0,none⟩ (.slice ao ns.length c)).setCell ⟨w.heap.size+1,1,none⟩ (.slice (some ⟨gl,0,none⟩) ns.length cl)).setCell ⟨w.heap.size+1,2,none⟩ (.slice (some ⟨gr,0,none⟩) ns.length cr)).setCell ⟨w.heap.size+1,3,none⟩ (.string t)).cell? ⟨g,o,none⟩=w1.cell? ⟨g,o,none⟩:=fun g o hg=>
  World.cell?_of_block (w:=w1) (by rw[Below.heap_setCell _ _ _ _ hg,Below.heap_setCell _ _ _ _ hg,Below.heap_setCell _ _ _ _ hg,Below.heap_setCell _ _ _ _ hg])
 refine zsl (v:=.agg #[.slice ao ns.length c,.slice (some ⟨gl,0,none⟩) ns.length cl,.slice (some ⟨gr,0,none⟩) ns.length cr,.string t]) (by simp[results,Tryz.results17,go_sem,d0,d1,d2,d3]) rfl ⟨hbb,gl,cl,gr,cr,rfl,(hs.below hbb).mono (zsj _),?_,?_,fun i hi=>?_,fun i hi=>?_⟩
 ·have:=zb0 ol;simpa [World.setCell] using this
 ·have:=zb0 or_;simpa [World.setCell] using this
 ·rw[hcell gl i (by omega),ol.cellAt i (by omega)];simp[rowL,hi]
 ·rw[hcell gr i (by omega),or_.cellAt i (by omega)];simp[rowR,hi]
end
section
attribute [local go_sem ↓] Go.wp_at_zero Go.wp_at_succ
def za2(b:zaf)(t:ByteArray)(a e:Nat)(cl:Bool):Prop:=zdd b.bol b.eol t.size a e cl=true/\In (tOf b.nodes (b.nodes.length-1)) ((t.data.toList.drop a).take (e-a))
def zpM(w:World)(P:Prop)(r:Ending)(w':World):Prop:=∃b:Bool,r=.returned (.bool b)/\(b=true↔P)/\Below w.heap.size w w'
theorem zpw{w a b c d:World}(h:Below w.heap.size w a)(h1:Below a.heap.size a b)(h2:Below b.heap.size b c)(h3:Below c.heap.size c d):Below w.heap.size w d:=by
 have k1:=zaa h h.size h1;have k2:=zaa k1 k1.size h2;exact zaa k2 k2.size h3
theorem zlb{lo:Nat}(bd:zaf)(ao:Option Addr)(c:Nat)(t:ByteArray)(a e:Nat)(cl:Bool)(w:World)(hs:zas lo w (.slice ao bd.nodes.length c) bd.nodes)(hn:bd.nodes.length<=1048576)(hk:zbW bd.nodes=true)(hnb:bd.nodes.all zav=true)
  (ha:∀i,i<bd.nodes.length->zaA (zap bd.nodes i)<=(stk bd.nodes i).length) (hpos:0<bd.nodes.length) (hae:a<=e) (het:e<=t.size) (ht:t.size<=4096):
  Calls Tryz.prog 15 #[.agg #[.bool bd.bol,.bool bd.eol,.slice ao bd.nodes.length c],.string t,.int .i64 a,.int .i64 e,.bool cl] w fun r w'=>zpM w (za2 bd t a e cl) r w':=by
 obtain⟨bol,eol,ns⟩:=bd;unfold za2;dsimp only at *;have hb0:Below w.heap.size w (w.alloc (.cells #[.bool bol,.bool eol,.slice ao ns.length c] 41)):=(Below.refl _ _).alloc (zsa _) _;have k0:(w.alloc (.cells #[.bool bol,.bool eol,.slice ao ns.length c] 41)).heap[w.heap.size]?=some (.cells #[.bool bol,.bool eol,.slice ao ns.length c] 41 (0,0)):=zsp _ _;have hE:=zfo ns ha hnb (ns.length-1) (by omega);have hReady:=fun(W:World) (hb:Below w.heap.size w W)=>zkP bol eol ao c ns t W (hs.below hb) hn hk
 have hOnly:=fun(W:World)=>zjO t.size a W (by omega) (by omega)
 have hEnds:∀(z:Int) (W:World) (gl cl gr cr g:Nat),z=((ns.length-1:Nat):Int)->BrAt W ns (.slice ao ns.length c) gl gr->zbe W g (zdu t.size a)->
   Calls Tryz.prog 30 #[.agg #[.slice ao ns.length c,.slice (some ⟨gl,0,none⟩) ns.length cl,.slice (some ⟨gr,0,none⟩) ns.length cr,.string t],.int .i64 z,.slice (some ⟨g,0,none⟩) (t.size+1) (t.size+1)] W fun r w'=>zl7 W t (t.size+1) (zaU t.data.toList (In (tOf ns (ns.length-1))) (· = a)) r w':=by
  intro z W gl cl gr cr g hz h1 h2;subst hz;exact hE W ao c gl cl gr cr t g (t.size+1) (t.size+1) (zdu t.size a) _ h1 h2 (by simp[zdu]) (zeA t.size a (by omega)) ht
 have hwr:∀z:Int,z=IntKind.i64.wrap ((ns.length:Int)-1)->z=((ns.length-1:Nat):Int):=fun z h=>by rw[h,IntKind.wrap_i64];omega
 clear hE ha hnb hk hs;have hpl:=fun(W:World)=>znw bol eol cl ao ns.length c t a e W
 have HT:Hid (∀j,zaU t.data.toList (In (tOf ns (ns.length-1))) (· = a) j↔(a<=j/\j<=t.size)/\In (tOf ns (ns.length-1)) ((t.data.toList.drop a).take (j-a))):=fun j=>by
  constructor
  ·rintro ⟨i,rfl,h1,h2,h3⟩;exact⟨⟨h1,by simpa using h2⟩,h3⟩
  ·rintro ⟨⟨h1,h2⟩,h3⟩;exact⟨a,rfl,h1,by simpa using h2,h3⟩
 generalize In (tOf ns (ns.length-1))=L at *
 go_enter Tryz.func15,Tryz.ntmps15
 go_wp2_with fail
 refine(hpl _).mono ?_;rintro r w1 ⟨rfl,hb1⟩;have p0:=zat k0 hb1;have bl1:=zaa hb0 hb0.size hb1;have hq:∀o,w1.cell? ⟨w.heap.size,o,none⟩=#[Value.bool bol,.bool eol,.slice ao ns.length c][o]?:=fun _=>zsm _ _ _ _ _ _ p0
 have q0:w1.cell? ⟨w.heap.size,0,none⟩=some (.bool bol):=hq 0;have q1:w1.cell? ⟨w.heap.size,1,none⟩=some (.bool eol):=hq 1;have q2:w1.cell? ⟨w.heap.size,2,none⟩=some (.slice ao ns.length c):=hq 2;have hl1:=zbQ p0;clear hq hpl hb1 hb0 k0;cases hp:zdd bol eol t.size a e cl
 ·go_wp2;go_ret;exact⟨false,rfl,by rw[hp];simp,bl1⟩
 have bl1d:=bl1.drew;have hi0:(0:Int)<=(e:Int):=by omega
 have hi1:(e:Int)<(t.size:Int)+1:=by omega
 go_wp2
 go_region_with (first|(go_at_call 17;refine(hReady _ (by first|exact bl1d|exact zaa bl1d bl1d.size hb3)).mono ?_;rintro r w2 ⟨hb2,gl,cl2,gr,cr,rfl,hbr⟩;have bl2:=hb2.size;have y0:=(hb2.cell (p:=⟨w.heap.size,0,none⟩) (by first|exact hl1|exact zsc hl1 bl3)).trans (by first|exact q0|exact z0);have y1:=(hb2.cell (p:=⟨w.heap.size,1,none⟩) (by first|exact hl1|exact zsc hl1 bl3)).trans (by first|exact q1|exact z1);have y2:=(hb2.cell (p:=⟨w.heap.size,2,none⟩) (by first|exact hl1|exact zsc hl1 bl3)).trans (by first|exact q2|exact z2))|(go_at_call 31;refine(hOnly _).mono ?_;rintro r w3 ⟨rfl,hB3,hb3⟩;have bl3:=hb3.size;have z0:=(hb3.cell (p:=⟨w.heap.size,0,none⟩) (by first|exact hl1|exact zsc hl1 bl2)).trans (by first|exact q0|exact y0);have z1:=(hb3.cell (p:=⟨w.heap.size,1,none⟩) (by first|exact hl1|exact zsc hl1 bl2)).trans (by first|exact q1|exact y1);have z2:=(hb3.cell (p:=⟨w.heap.size,2,none⟩) (by first|exact hl1|exact zsc hl1 bl2)).trans (by first|exact q2|exact y2))|(go_at_call 30;refine(hEnds _ _ gl cl2 gr cr _ (by first|rfl|exact hwr _ rfl) (by first|exact hbr.below hb3|exact hbr) (by first|exact hB3|exact hB3.below hb2)).mono ?_;rintro r w4 ⟨g4,c4,S4,rfl,hB4,hl4,hs4,hb4⟩;have hcell:=hB4.2 e (by omega);obtain⟨q,hq⟩:∃q,S4.getD e false=q:=⟨_,rfl⟩;rw[hq] at hcell;have Hq:Hid _:=hq;clear hq;have bel4:Below w.heap.size w w4:=by first|exact zpw bl1d hb2 hb3 hb4|exact zpw bl1d hb3 hb2 hb4))
 all_goals
  have hiff:q=true↔L ((t.data.toList.drop a).take (e-a)):=by
   rw[<-Hq.out];exact(hs4.iff e).trans ((HT.out e).trans ⟨fun h=>h.2,fun h=>⟨⟨hae,het⟩,h⟩⟩)
  go_wp2;go_ret;exact⟨q,rfl,hiff.trans ⟨fun h=>⟨hp,h⟩,fun h=>h.2⟩,bel4⟩
end
theorem zfz(ns:List zak)(h:zbW ns=true):0<ns.length/\∀i,i<ns.length->zaA (zap ns i)<=(stk ns i).length:=by
 have h1:zcF ns 0=some 1:=eq_of_beq h;have key:∀k,k<=ns.length->zcF (ns.drop k) (stk ns k).length=some 1/\∀i,i<k->zaA (zap ns i)<=(stk ns i).length:=by
  intro k
  induction k with
  |zero=>intro _;exact⟨h1,fun i hi=>absurd hi (zsg _)⟩
  |succ k ih=>
   intro hk;obtain⟨e,hs⟩:=ih (by omega);rw[zgF ns k (by omega) _ _ rfl] at e
   by_cases hc:(stk ns k).length<zaA (zap ns k)
   ·rw[zst hc] at e;cases e
   ·rw[zss hc] at e;refine⟨by rw[zj3];exact e,fun i hi=>?_⟩
    by_cases hik:i=k
    ·subst hik;omega
    ·exact hs i (by omega)
 refine⟨?_,(key ns.length (zsa _)).2⟩;rcases Nat.eq_zero_or_pos ns.length with h0|h0
 ·have:ns=[]:=zrs h0;subst this;cases h1
 ·exact h0
def zdS(G:Int)(bs:List zaf)(t:ByteArray)(a e:Int):Bool:=zb5 G bs&&decide (t.size<=4096/\0<=a/\a<=e/\e<=t.size)
theorem znP{lo:Nat}(G:Int)(v:Value)(bs:List zaf)(t:ByteArray)(a e:Int)(w:World)(hs:zaj lo w v bs)(hsm:Small bs):
  Calls Tryz.prog 14 #[.agg #[v,.int .i64 G],.string t,.int .i64 a,.int .i64 e] w fun r w'=>r=.returned (.bool (zdS G bs t a e))/\Below w.heap.size w w':=by
 have hs0:=hs;obtain⟨ao,cap,rfl,hm,hc⟩:=hs;have hb0:Below w.heap.size w (w.alloc (.cells #[.slice ao bs.length cap,.int .i64 G] 30)):=(Below.refl _ _).alloc (zsa _) _;have Hp:Hid (zdS G bs t a e=(zb5 G bs&&decide (t.size<=4096/\0<=a/\a<=e/\e<=t.size))):=rfl;have hr:=zhA G _ bs _ (hs0.below hb0) hsm;clear hc hs0 hsm;generalize zb5 G bs=q at *
 go_enter Tryz.func14,Tryz.ntmps14
 go_wp2_with fail
 refine hr.mono ?_;rintro r w1 ⟨rfl,hb1⟩;have bl:=zaa hb0 hb0.size hb1;clear hr hb1 hb0;cases q
 ·go_wp2;go_ret;exact⟨zam (by rw[Hp.out];rfl),bl⟩
 by_cases h1:(t.size:Int)<=4096
 ·by_cases h2:0<=a
  ·by_cases h3:a<=e
   ·by_cases h4:e<=(t.size:Int)
    ·go_wp2;go_ret;exact⟨zam (by rw[Hp.out,zrh];first|exact(decide_eq_true (by omega)).symm|exact(decide_eq_false (by omega)).symm|(rw[decide_eq_decide];omega)),bl⟩
    ·go_wp2;go_ret;exact⟨zam (by rw[Hp.out,zrh];first|exact(decide_eq_true (by omega)).symm|exact(decide_eq_false (by omega)).symm|(rw[decide_eq_decide];omega)),bl⟩
   ·go_wp2;go_ret;exact⟨zam (by rw[Hp.out,zrh];first|exact(decide_eq_true (by omega)).symm|exact(decide_eq_false (by omega)).symm|(rw[decide_eq_decide];omega)),bl⟩
  ·go_wp2;go_ret;exact⟨zam (by rw[Hp.out,zrh];first|exact(decide_eq_true (by omega)).symm|exact(decide_eq_false (by omega)).symm|(rw[decide_eq_decide];omega)),bl⟩
 ·go_wp2;go_ret;exact⟨zam (by rw[Hp.out,zrh];first|exact(decide_eq_true (by omega)).symm|exact(decide_eq_false (by omega)).symm|(rw[decide_eq_decide];omega)),bl⟩
def zqA(G:Int)(bs:List zaf)(t:ByteArray)(a e:Int)(cl:Bool):Prop:=zdS G bs t a e=true/\∃k,k<bs.length/\za2 (bs.getD k .zero) t a.toNat e.toNat cl
end Go.Proofs.YthdljcdbfmhleaaGreatDoor
