import Derived.Test.YthddplbodacjgaaGreatDoorC18
namespace Go.Proofs.YthddplbodacjgaaGreatDoor
set_option maxHeartbeats 4000000
set_option maxRecDepth 100000
open Go.RowKit
def zku(bs:List zai):Prop:=∀i,i<bs.length->zcM (bs.getD i .zero).nodes=true/\(bs.getD i .zero).nodes.all zaK=true
def zhF(b:zai):Int:=wOf b.nodes (b.nodes.length-1)
def zcd:List zai->Int
 |[]=>0
 |b::bs=>zhF b+zcd bs
theorem zia(bs:List zai)(k:Nat)(hk:k<bs.length):zcd (bs.take (k+1))=zcd (bs.take k)+zhF (bs.getD k .zero):=by
 induction bs generalizing k with
 |nil=>exact absurd hk (zuI _)
 |cons b bs ih=>
  cases k with
  |zero=>simp[zcd,List.getD]
  |succ k=>
   have:=ih k (by simpa using hk);simp only[zus,zcd,List.getD_cons_succ] at this ⊢;omega
theorem zgl{b:zai}(hk:zcM b.nodes=true)(har:∀i,i<b.nodes.length->zaI (zaQ b.nodes i)<=(stk b.nodes i).length)(hb:b.nodes.all zaK=true):1<=zhF b/\zhF b<=2001:=by
 obtain⟨hp,_⟩:=ziE b.nodes hk har hb;exact zfl b.nodes har hb (b.nodes.length) (b.nodes.length-1) (by omega) (by omega)
theorem zl9:∀(ns pre:List zau) (d:Nat),zd1 ns (stk (pre++ns) pre.length).length=some d->∀i,pre.length<=i->i<pre.length+ns.length->zaI (zaQ (pre++ns) i)<=(stk (pre++ns) i).length
 |[],pre,_,_,i,h1,h2=>by simp at h2;omega
 |n::ns,pre,d,h,i,h1,h2=>by
  have hkind:zaQ (pre++n::ns) pre.length=n.kind:=by simp[zaQ,List.getD_eq_getElem?_getD]
  unfold zd1 at h
  by_cases hc:(stk (pre++n::ns) pre.length).length<zaI n.kind
  ·rw[zuV hc] at h;cases h
  ·rw[zuU hc] at h
   by_cases e:i=pre.length
   ·subst e;rw[hkind];omega
   ·have e1:pre++n::ns=(pre++[n])++ns:=by simp
    have hl:=zpF (pre++n::ns) pre.length;rw[hkind] at hl;rw[<-hl] at h;have:=zl9 ns (pre++[n]) d (by rw[<-e1];simpa using h) i (by simp;omega) (by simp at h2 ⊢;omega);rwa[<-e1] at this
theorem zd0{ns:List zau}(h:zcM ns=true):∀i,i<ns.length->zaI (zaQ ns i)<=(stk ns i).length:=by
 intro i hi;unfold zcM at h;exact zl9 ns [] 1 (eq_of_beq h) i (zuL _) (by simpa using hi)
theorem zfc{bs:List zai}(h:zku bs):∀k,k<=bs.length->0<=zcd (bs.take k)/\zcd (bs.take k)<=k*2001
 |0,_=>by simp[zcd]
 |k+1,hk=>by
  have h1:=zfc h k (by omega);obtain⟨h2,h3⟩:=h k (by omega);have h4:=zgl h2 (zd0 h2) h3;rw[zia bs k (by omega)];omega
theorem zfd{lo:Nat}(G:Int)(v:Value)(bs:List zai)(w:World)(hs:zax lo w v bs)(hsm:Small bs)(hok:zku bs):
  Calls Tryz.prog 34 #[.agg #[v,.int .i64 G]] w fun e w'=>e=.returned (.int .i64 (zcd bs))/\Below w.heap.size w w':=by
 obtain⟨ao,cap,rfl,hm,hc⟩:=hs;have hn:=hsm.1;have Hok:Hid _:=hok;clear hok
 go_enter Tryz.func34,Tryz.ntmps34
 go_wp2
 go_loopw [3,9] (fun s i wr=>∃k:Nat,k<=bs.length/\i=.int .i64 k/\s=.int .i64 (zcd (bs.take k))/\Below w.heap.size w wr)
  (fun _ i _=>bs.length-(intOf i).toNat)
 case atStart=>exact⟨0,zuL _,rfl,rfl,(Below.refl _ _).alloc (zuz _) _⟩
 case round=>
  obtain⟨k,hk,rfl,rfl,hb⟩:=hrel;have hrb:=zfc Hok.out k hk
  by_cases hlt:k<bs.length
  ·obtain⟨b,o,nv,bd,rfl,Hn,hbl,c0,c1,c2,hnv⟩:=hc.elem hb hlt;have hnl:bd.nodes.length<=1048576:=by have:=(hsm.2 k hlt).1;rw[Hn.out] at this;exact this
   have hkb:zcM bd.nodes=true:=by have:=(Hok.out k hlt).1;rw[Hn.out] at this;exact this
   have hab:bd.nodes.all zaK=true:=by have:=(Hok.out k hlt).2;rw[Hn.out] at this;exact this
   have hwl:=zgl hkb (zd0 hkb) hab;obtain⟨nao,ncp,rfl,hnm,hnc⟩:=hnv;have hba:Below w.heap.size w (wr.alloc (.cells #[.bool bd.bol,.bool bd.eol,.slice nao bd.nodes.length ncp] 76)):=hb.alloc hb.size _;have hnva:zaP lo (wr.alloc (.cells #[.bool bd.bol,.bool bd.eol,.slice nao bd.nodes.length ncp] 76)) (.slice nao bd.nodes.length ncp) bd.nodes:=zaP.below ⟨_,_,rfl,hnm,hnc⟩ ((Below.refl _ _).alloc (zuz _) _);have HT:Hid _:=zia bs k hlt;rw[Hn.out] at HT;generalize zcd (bs.take k)=s at *;have HL:Hid (wOf bd.nodes (bd.nodes.length-1)=zhF bd):=rfl
   go_wp2_with fail
   refine(zp0 _ bd.nodes _ hnva hnl hkb hab).mono ?_;rintro e w2 ⟨rfl,hb2⟩;rw[HL.out];clear hkb hab;generalize zhF bd=wl at *;have hwr:IntKind.i64.wrap (s+wl)=s+wl:=by rw[IntKind.wrap_i64];omega
   go_wp2
   go_roundw
   case rel=>exact⟨k+1,by omega,by go_num,by rw[HT.out],zaa hba hba.size hb2⟩
   case measure=>simp[intOf];omega
  ·go_wp2;go_ret;exact⟨zbl (by rw[zur (by omega)]),hb⟩
section
variable {w wr w1:World}{v:Value}{G:Int}{gg cc:Nat}{gs:List Int}
def allB(bs:List zai):Bool:=bs.all fun b=>zcM b.nodes&&b.nodes.all zaK
def zhB(G:Int)(gs:List Int):Bool:=(List.range G.toNat).all fun i=>gs.count ((i:Int)+1)==1
def zee(G:Int)(bs:List zai):Bool:=
 decide (1<=bs.length/\bs.length<=2000)&&decide (0<=G/\G<=500)&&decide (zaJ bs<=5000)&&allB bs&&(((zbv bs).length:Int)==G)&&zhB G (zbv bs)&&decide (zcd bs<=2000)
theorem zqC(ns:List zau)(j:Nat)(hj:j<ns.length)(nd:zau)(h:ns.getD j .zero=nd):grp (ns.take (j+1))=grp (ns.take j)++(if nd.kind=5 then [nd.group] else []):=by
 induction ns generalizing j with
 |nil=>exact absurd hj (zuI _)
 |cons n ns ih=>
  cases j with
  |zero=>
   have:n=nd:=by simpa [List.getD] using h
   subst this;simp only[zus,zuu,grp,zuj]
  |succ j=>
   have:=ih j (by simpa using hj) (by simpa [List.getD] using h);simp only[zus,grp] at this ⊢;rw[this];split<;>simp
theorem zky(bs:List zai)(k:Nat)(hk:k<bs.length)(bd:zai)(h:bs.getD k .zero=bd):zbv (bs.take (k+1))=zbv (bs.take k)++grp bd.nodes:=by
 induction bs generalizing k with
 |nil=>exact absurd hk (zuI _)
 |cons b bs ih=>
  cases k with
  |zero=>
   have:b=bd:=by simpa [List.getD] using h
   subst this;simp[zbv]
  |succ k=>
   have:=ih k (by simpa using hk) (by simpa [List.getD] using h);simp only[zus,zbv] at this ⊢;rw[this,ztD]
theorem zkY:∀ns:List zau,(grp ns).length<=ns.length
 |[]=>zuz _
 |n::ns=>by have:=zkY ns;unfold grp;split<;>simp<;>omega
theorem zfu:∀bs:List zai,(zbv bs).length<=zaJ bs
 |[]=>zuz _
 |b::bs=>by have:=zfu bs;have:=zkY b.nodes;unfold zbv zaJ;simp;omega
theorem zjU(bs:List zai)(k:Nat):zaJ (bs.take k)<=zaJ bs:=by
 induction bs generalizing k with
 |nil=>simp
 |cons b bs ih=>
  cases k with
  |zero=>simp[zaJ]
  |succ k=>have:=ih k;simp only[zus,zaJ];omega
theorem znW(bs:List zai)(k:Nat)(hk:k<bs.length)(bd:zai)(h:bs.getD k .zero=bd)(hf:(zcM bd.nodes&&bd.nodes.all zaK)=false):allB bs=false:=by
 unfold allB;rw[List.all_eq_false];refine⟨bs[k],zt0 _,?_⟩;have:bs[k]=bd:=by rw[<-h];simp[List.getD,hk]
 rw[this,hf];simp
theorem znY(bs:List zai)(k:Nat)(hk:k<bs.length)(bd:zai)(h:bs.getD k .zero=bd)(ht:allB (bs.take k)=true)(hf:(zcM bd.nodes&&bd.nodes.all zaK)=true):allB (bs.take (k+1))=true:=by
 unfold allB at *;rw[zut hk,List.all_append,ht];have:bs[k]=bd:=by rw[<-h];simp[List.getD,hk]
 simp only[List.all_cons,List.all_nil,this,hf,Bool.and_true]
theorem zln(ns:List zau)(j:Nat)(hj:j<ns.length)(nd:zau)(h:ns.getD j .zero=nd)(hf:zaK nd=false):ns.all zaK=false:=by
 rw[List.all_eq_false];refine⟨ns[j],zt0 _,?_⟩;have:ns[j]=nd:=by rw[<-h];simp[List.getD,hj]
 rw[this,hf];simp
theorem zns(ns:List zau)(j:Nat)(hj:j<ns.length)(nd:zau)(h:ns.getD j .zero=nd)(ht:(ns.take j).all zaK=true)(hf:zaK nd=true):(ns.take (j+1)).all zaK=true:=by
 rw[zut hj,List.all_append,ht];have:ns[j]=nd:=by rw[<-h];simp[List.getD,hj]
 simp only[List.all_cons,List.all_nil,this,hf,Bool.and_true]
theorem znX{bs:List zai}(h:allB bs=true):zku bs:=by
 intro i hi;have:=ztC.1 h (bs.getD i .zero) (by
  rw[ztO,ztT hi];exact zt0 _)
 simpa using this
theorem zmQ(gs:List Int)(j:Nat)(hj:j<gs.length)(x:Int):(gs.take (j+1)).count x=(gs.take j).count x+(if gs.getD j 0=x then 1 else 0):=by
 rw[zut hj,List.count_append];simp[List.getD,hj,List.count_cons]
def rowG(gs:List Int):List Value:=gs.map (Value.int .i64)
theorem zpp(gs:List Int)(x:Int):rowG (gs++[x])=rowG gs++[.int .i64 x]:=by simp[rowG]
theorem zrg(gs:List Int)(i:Nat)(h:i<gs.length):(rowG gs)[i]?=some (.int .i64 (gs.getD i 0)):=by simp[rowG,h,List.getD]
structure RInv(w wr:World)(v:Value)(G:Int)(gg cc:Nat)(gs:List Int):Prop where
 below:Below w.heap.size w wr
 box0:wr.cell? ⟨w.heap.size,0,none⟩=some v
 box1:wr.cell? ⟨w.heap.size,1,none⟩=some (.int .i64 G)
 row:wr.ownsRow (w.heap.size+1) 3 1 (.slice (some ⟨gg,0,none⟩) gs.length cc) gs.length (rowG gs)
 size:w.heap.size+1<=wr.heap.size
theorem RInv.same(h:RInv w wr v G gg cc gs)(hb:Below wr.heap.size wr w1):RInv w w1 v G gg cc gs:=
 ⟨zaa h.below (zuA (Nat.le_succ _) h.size) hb,(hb.cell (by have:=h.size;simp;omega)).trans h.box0,(hb.cell (by have:=h.size;simp;omega)).trans h.box1,zad h.row hb,zuA h.size hb.size⟩
theorem RInv.alloc(h:RInv w wr v G gg cc gs)(o:Obj):RInv w (wr.alloc o) v G gg cc gs:=h.same ((Below.refl _ _).alloc (zuz _) _)
theorem RInv.grown{g' c':Nat}{x:Int}(h:RInv w wr v G gg cc gs)(hg:wr.grownBy w1 (some gg))(ho:w1.ownsRow (w.heap.size+1) 3 1 (.slice (some ⟨g',0,none⟩) (gs.length+1) c') (gs.length+1) (rowG gs++[.int .i64 x])):RInv w w1 v G g' c' (gs++[x]):=by
 have hgg:=(zaV h.row).1;have hs:=h.size;refine⟨h.below.grown hg (by omega) (by intro q hq;cases hq;omega),?_,?_,by simpa [zpp] using ho,zuA h.size hg.size⟩
 ·exact(hg.cell_far _ (by simp;omega) (by simp;omega)).trans h.box0
 ·exact(hg.cell_far _ (by simp;omega) (by simp;omega)).trans h.box1
end
theorem ziZ{lo:Nat}(G:Int)(v:Value)(bs:List zai)(w:World)(hs:zax lo w v bs)(hsm:Small bs):
  Calls Tryz.prog 33 #[.agg #[v,.int .i64 G]] w fun e w'=>e=.returned (.bool (zee G bs))/\Below w.heap.size w w':=by
 have hn:=hsm.1;have hs0:=hs;obtain⟨ao,cap,rfl,hm,hc⟩:=hs;have hb0:Below w.heap.size w (w.alloc (.cells #[.slice ao bs.length cap,.int .i64 G] 57)):=(Below.refl _ _).alloc (zuz _) _
 by_cases h1:btw (bs.length:Int) 1 2000=false
 ·have H:Hid (zee G bs=false):=by
   show _=_;have:decide (1<=bs.length/\bs.length<=2000)=false:=by simp[btw] at h1;simp;omega
   simp[zee,this]
  go_enter Tryz.func33,Tryz.ntmps33
  go_wp2_with (go_at_call 14;refine(zaw _ _ _ _).mono ?_;rintro e w' ⟨rfl,rfl⟩)
  go_ret
  exact⟨zay H.out.symm,hb0⟩
 have h1':btw (bs.length:Int) 1 2000=true:=by simpa using h1
 clear h1
 by_cases h2:btw G 0 500=false
 ·have H:Hid (zee G bs=false):=by
   show _=_;have:decide (0<=G/\G<=500)=false:=by simp[btw] at h2;simp;omega
   simp[zee,this]
  go_enter Tryz.func33,Tryz.ntmps33
  go_wp2_with (go_at_call 14;refine(zaw _ _ _ _).mono ?_;rintro e w' ⟨rfl,rfl⟩)
  go_ret
  exact⟨zay H.out.symm,hb0⟩
 have h2':btw G 0 500=true:=by simpa using h2
 clear h2;have hlen:1<=bs.length/\bs.length<=2000:=by simp[btw] at h1';omega
 have hG:0<=G/\G<=500:=by simp[btw] at h2';omega
 obtain⟨hG0,hG1⟩:=hG;have HA:Hid (zee G bs=(decide (zaJ bs<=5000)&&allB bs&&(((zbv bs).length:Int)==G)&&zhB G (zbv bs)&&decide (zcd bs<=2000))):=by
  show _=_;have e1:decide (1<=bs.length/\bs.length<=2000)=true:=by simp;omega
  have e2:decide (0<=G/\G<=500)=true:=by simp;omega
  unfold zee;rw[e1,e2,zty,zty]
 obtain⟨i0,hi,hz0,hz1,hz2⟩:=info_parts Tryz.infoInt
 go_enter Tryz.func33,Tryz.ntmps33
 go_wp2_with (go_at_call 14;refine(zaw _ _ _ _).mono ?_;rintro e w' ⟨rfl,rfl⟩)
 have hinv0:RInv w ((w.alloc (.cells #[.slice ao bs.length cap,.int .i64 G] 57)).alloc (.cells #[] 3)) (.slice ao bs.length cap) G (w.heap.size+1) 0 []:=⟨hb0.alloc hb0.size _,by simp,by simp,zcI _ _ _ _ (by omega) (by simp),by simp⟩
 go_loopw [3,33] (fun s i wr=>∃k:Nat,k<=bs.length/\i=.int .i64 k/\s=.int .i64 (zaJ (bs.take k))/\RInv w wr (.slice ao bs.length cap) G (w.heap.size+1) 0 [])
  (fun _ i _=>bs.length-(intOf i).toNat)
 case atStart=>exact⟨0,zuL _,rfl,rfl,hinv0⟩
 case round=>
  clear hinv0;obtain⟨k,hk,rfl,rfl,hinv⟩:=hrel;have hcb:=zdr hsm k hk
  by_cases hlt:k<bs.length
  ·obtain⟨b,o,nv,bd,rfl,Hn,hbl,c0,c1,c2,hnv⟩:=hc.elem hinv.below hlt;have hnl:bd.nodes.length<=1048576:=by have:=(hsm.2 k hlt).1;rw[Hn.out] at this;exact this
   obtain⟨nao,ncp,rfl,hnm,hnc⟩:=hnv;have HT:Hid _:=zcH bs k hlt;rw[Hn.out] at HT;generalize zaJ (bs.take k)=s at *;go_wp2
   go_roundw
   case rel=>exact⟨k+1,by omega,by go_num,by rw[HT.out];go_num,hinv.alloc _⟩
   case measure=>simp[intOf];omega
  have hkk:bs.take k=bs:=zur (by omega);rw[hkk] at hcb ⊢;clear hkk
  by_cases h5:5000<(zaJ bs:Int)
  ·have H:Hid (zee G bs=false):=by
    show _=_;have:decide (zaJ bs<=5000)=false:=by simp;omega
    rw[HA.out,this];simp
   have hbb:=hinv.below;have hx0:=hinv.box0;clear HA;go_wp2;go_ret;exact⟨zay H.out.symm,hbb⟩
  have h5':zaJ bs<=5000:=by omega
  have e5:decide (zaJ bs<=5000)=true:=by simpa using h5'
  rw[e5,zty] at HA;clear e5 hcb;have hx0:=hinv.box0;go_wp2;generalize hcn:zaJ bs=cn at *;have Hcn:Hid _:=hcn;clear hcn
  go_loopw [4,48] (fun s i wr=>∃(k gg cc:Nat),k<=bs.length/\i=.int .i64 k/\s=.slice (some ⟨gg,0,none⟩) (zbv (bs.take k)).length cc/\RInv w wr (.slice ao bs.length cap) G gg cc (zbv (bs.take k))/\Hid (allB (bs.take k)=true))
   (fun _ i _=>bs.length-(intOf i).toNat)
  case atStart=>exact⟨0,w.heap.size+1,0,zuL _,rfl,rfl,hinv,rfl⟩
  case round=>
   clear hinv hx0;obtain⟨k2,gg,cc,hk2,rfl,rfl,hinv,Hall⟩:=hrel
   by_cases hlt2:k2<bs.length
   ·obtain⟨b,o,nv,bd,rfl,Hn,hbl,q0,q1,q2,hnv⟩:=hc.elem (Below.refl _ _) hlt2;have c0:=(hinv.below.cell (p:=⟨b,o+k2*3,none⟩) hbl).trans q0;have c1:=(hinv.below.cell (p:=⟨b,o+k2*3+1,none⟩) hbl).trans q1;have c2:=(hinv.below.cell (p:=⟨b,o+k2*3+2,none⟩) hbl).trans q2;clear q0 q1 q2;have hnl:bd.nodes.length<=1048576:=by have:=(hsm.2 k2 hlt2).1;rw[Hn.out] at this;exact this
    have hgl:(zbv (bs.take k2)).length+bd.nodes.length<=5000:=by
     have e1:=zfu (bs.take k2);have e2:=zcH bs k2 hlt2;have e3:=zjU bs (k2+1);rw[Hn.out] at e2;rw[Hcn.out] at e3;omega
    obtain⟨nao,ncp,rfl,hnm,hnc⟩:=hnv;have hinva:=hinv.alloc (.cells #[.bool bd.bol,.bool bd.eol,.slice nao bd.nodes.length ncp] 76);have hnva:zaP lo (wr.alloc (.cells #[.bool bd.bol,.bool bd.eol,.slice nao bd.nodes.length ncp] 76)) (.slice nao bd.nodes.length ncp) bd.nodes:=zaP.below ⟨_,_,rfl,hnm,hnc⟩ hinva.below;generalize hgs:zbv (bs.take k2)=gs0 at *;have Hgs:Hid _:=hgs;clear hgs
    go_wp2_with fail
    refine(zk0 _ bd.nodes _ hnva hnl).mono ?_;rintro e w2 ⟨hb2,⟨hkf,lv,rv,rfl⟩|⟨hkt,gl,cl,gr,cr,rfl,_,_,_⟩⟩
    ·have H:Hid (zee G bs=false):=by
      show _=_;rw[HA.out,znW bs k2 hlt2 bd Hn.out (by rw[hkf];rfl)];simp
     have hbb:=(hinva.same hb2).below;clear HA hkf;go_wp2;go_ret;exact⟨zay H.out.symm,hbb⟩
    have Hkt:Hid _:=hkt;clear hkt;have d2:w2.cell? ⟨wr.heap.size,2,none⟩=some (.slice nao bd.nodes.length ncp):=(hb2.cell (by simp)).trans (by simp);have hinv2:=hinva.same hb2;clear hinv hinva hnva hb2 c0 c1 c2;go_wp2
    go_loopw [4,64] (fun s i wr=>∃(j gg cc:Nat),j<=bd.nodes.length/\i=.int .i64 j/\s=.slice (some ⟨gg,0,none⟩) (gs0++grp (bd.nodes.take j)).length cc/\RInv w wr (.slice (some ⟨b,o,none⟩) bs.length cap) G gg cc (gs0++grp (bd.nodes.take j))/\Hid ((bd.nodes.take j).all zaK=true))
     (fun _ i _=>bd.nodes.length-(intOf i).toNat)
    case atStart=>exact⟨0,gg,cc,zuL _,rfl,by simp[grp],by simpa [grp] using hinv2,rfl⟩
    case round=>
     clear hinv2 d2;obtain⟨j,g3,c3,hj,rfl,rfl,hinv3,HallN⟩:=hrel;have hlen3:(gs0++grp (bd.nodes.take j)).length<=5000:=by
      have:=zkY (bd.nodes.take j);simp at this ⊢;omega
     by_cases hlt3:j<bd.nodes.length
     ·obtain⟨b2,o2,sv,nd,rfl,Hn2,hbl2,d0,d1,d2,d3,d4,hsv⟩:=hnc.elem hinv3.below hlt3;have HGT:Hid _:=zqC bd.nodes j hlt3 nd Hn2.out;obtain⟨kd,rs,mn,mx,gp⟩:=nd;simp only at d0 d2 d3 d4 hsv HGT;obtain⟨sao,scp,rfl,hsm2,hsc⟩:=hsv;have hinv3a:=hinv3.alloc (.cells #[.int .i64 kd,.slice sao rs.length scp,.int .i64 mn,.int .i64 mx,.int .i64 gp] 144);have hsva:zan lo (wr.alloc (.cells #[.int .i64 kd,.slice sao rs.length scp,.int .i64 mn,.int .i64 mx,.int .i64 gp] 144)) (.slice sao rs.length scp) rs:=zan.below ⟨_,_,rfl,hsm2,hsc⟩ ((Below.refl _ _).alloc (zuz _) _);generalize hgs3:gs0++grp (bd.nodes.take j)=gs3 at *;have Hgs3:Hid _:=hgs3;clear hgs3
      by_cases hnb:zaK ⟨kd,rs,mn,mx,gp⟩=false
      ·have H:Hid (zee G bs=false):=by
        show _=_;rw[HA.out,znW bs k2 hlt2 bd Hn.out (by rw[zln bd.nodes j hlt3 _ Hn2.out hnb];simp)];simp
       clear HA
       go_wp2_with (go_at_call 69;refine(zjV _ _ _ _ _ _ _ hsva).mono ?_;rintro e w4 ⟨rfl,hb4⟩)
       go_ret
       exact⟨zay H.out.symm,(hinv3a.same hb4).below⟩
      have hnt:zaK ⟨kd,rs,mn,mx,gp⟩=true:=by simpa using hnb
      have HallT:Hid ((bd.nodes.take (j+1)).all zaK=true):=zns bd.nodes j hlt3 _ Hn2.out HallN.out hnt;clear hnb
      go_wp2_with fail
      refine(zjV _ _ _ _ _ _ _ hsva).mono ?_;rintro e w4 ⟨rfl,hb4⟩;have y0:w4.cell? ⟨wr.heap.size,0,none⟩=some (.int .i64 kd):=(hb4.cell (by simp)).trans (by simp);have y4:w4.cell? ⟨wr.heap.size,4,none⟩=some (.int .i64 gp):=(hb4.cell (by simp)).trans (by simp);have hinv4:=hinv3a.same hb4;have hsz4:=hinv4.size;clear hinv3 hinv3a hb4
      by_cases h55:kd=5
      ·subst h55
       go_wp2_with (refine zaC w4 rfl (.tmp 74) (.tmp 77) 24 rfl (w.heap.size+1) 3 i0 _ 8 Tryz.underlying24 hi hz0 hz1 hz2 rfl g3 c3 gs3.length (rowG gs3) _ rfl hinv4.row rfl rfl (by omega) (by omega) hsz4 ?_;intro g5 c5 w5 own5 grow5 at5)
       go_roundw
       case rel=>
        have he:gs0++grp (bd.nodes.take (j+1))=gs3++[gp]:=by rw[HGT.out,zuV (by trivial),<-ztD,Hgs3.out]
        exact⟨j+1,g5,c5,by omega,by go_num,by rw[he];simp,by rw[he];exact hinv4.grown grow5 own5,HallT⟩
       case measure=>simp[intOf];omega
      ·have h55':(kd==5)=false:=zuM.2 h55;have H55:Hid _:=h55;clear h55;go_wp2
       go_roundw
       case rel=>
        have he:gs0++grp (bd.nodes.take (j+1))=gs3:=by rw[HGT.out,zuU H55.out,List.append_nil,Hgs3.out]
        exact⟨j+1,g3,c3,by omega,by go_num,by rw[he],by rw[he];exact hinv4,HallT⟩
       case measure=>simp[intOf];omega
     ·have htk:bd.nodes.take j=bd.nodes:=zur (by omega);rw[htk] at hinv3 HallN hlen3 ⊢;have HG2:Hid (zbv (bs.take (k2+1))=gs0++grp bd.nodes):=by show _=_;rw[zky bs k2 hlt2 bd Hn.out,Hgs.out]
      have HB2:Hid (allB (bs.take (k2+1))=true):=znY bs k2 hlt2 bd Hn.out Hall.out (by rw[Hkt.out,HallN.out];rfl);clear htk;generalize gs0++grp bd.nodes=gs4 at *;go_wp2
      go_roundw
      case rel=>exact⟨k2+1,g3,c3,by omega,by go_num,by rw[HG2.out],by rw[HG2.out];exact hinv3,HB2⟩
      case measure=>simp[intOf];omega
   ·have htk:bs.take k2=bs:=zur (by omega);rw[htk] at hinv Hall ⊢;have hgl:(zbv bs).length<=5000:=by have:=zfu bs;rw[Hcn.out] at this;omega
    rw[Hall.out,zty] at HA;clear htk;have hokk:=znX Hall.out;have Hokk:Hid _:=hokk;clear hokk;generalize hgs:zbv bs=gs at *;have hx1:=hinv.box1;have hx0:=hinv.box0
    by_cases hgn:((gs.length:Int)==G)=false
    ·have H:Hid (zee G bs=false):=by show _=_;rw[HA.out,hgn];simp
     have hgn2:(((gs.length:Nat):Int) != G)=true:=by simp at hgn ⊢;exact hgn
     have hbb:=hinv.below;clear HA hgn;go_wp2;go_ret;exact⟨zay H.out.symm,hbb⟩
    have hgt:((gs.length:Int)==G)=true:=by simpa using hgn
    rw[hgt,zty] at HA;have hgn2:(((gs.length:Nat):Int) != G)=false:=by simp at hgt ⊢;exact hgt
    have hGe:G=gs.length:=(eq_of_beq hgt).symm;clear hgn hgt;obtain⟨Gn,rfl⟩:=Int.eq_ofNat_of_zero_le hG0;have HGe:Hid _:=hGe;clear hGe;have hGn:Gn<=500:=by omega
    go_wp2
    go_loopw [14] (fun gv wr=>∃q:Nat,q<=Gn/\gv=.int .i64 ((q:Int)+1)/\RInv w wr (.slice ao bs.length cap) (Gn:Int) gg cc gs/\Hid (∀i,i<q->gs.count ((i:Int)+1)=1))
     (fun gv _=>Gn+1-(intOf gv).toNat)
    case atStart=>exact⟨0,zuL _,rfl,hinv,fun i hi=>absurd hi (zuI _)⟩
    case round=>
     clear hinv hx1 hx0;obtain⟨q,hq,rfl,hinv,Hcnt⟩:=hrel;have hx1:=hinv.box1;have hx0:=hinv.box0
     by_cases hltq:q<Gn
     ·have hle:(q:Int)+1<=(Gn:Int):=by omega
      go_wp2
      go_loopw [15,94] (fun t i wr=>∃j:Nat,j<=gs.length/\i=.int .i64 j/\t=.int .i64 ((gs.take j).count ((q:Int)+1):Nat)/\RInv w wr (.slice ao bs.length cap) (Gn:Int) gg cc gs)
       (fun _ i _=>gs.length-(intOf i).toNat)
      case atStart=>exact⟨0,zuL _,rfl,rfl,hinv⟩
      case round=>
       clear hinv hx1 hx0;obtain⟨j,hj,rfl,rfl,hinv⟩:=hrel;have hcl:(gs.take j).count ((q:Int)+1)<=j:=by
        have:=List.count_le_length (a:=(q:Int)+1) (l:=gs.take j);simp at this;omega
       by_cases hltj:j<gs.length
       ·have y0:wr.cell? ⟨gg,j,none⟩=some (.int .i64 (gs.getD j 0)):=(hinv.row.cellAt j (by omega)).trans (zrg gs j hltj);have HC:Hid _:=zmQ gs j hltj ((q:Int)+1);generalize (gs.take j).count ((q:Int)+1)=ct at *;generalize gs.getD j 0=h0 at *
        by_cases hhe:h0=(q:Int)+1
        ·have hheb:(h0==(q:Int)+1)=true:=beq_iff_eq.2 hhe;have HHE:Hid _:=hhe;clear hhe;go_wp2
         go_roundw
         case rel=>exact⟨j+1,by omega,by go_num,by rw[HC.out,zuV HHE.out];go_num,hinv⟩
         case measure=>simp[intOf];omega
        ·have hheb:(h0==(q:Int)+1)=false:=zuM.2 hhe;have HHE:Hid _:=hhe;clear hhe;go_wp2
         go_roundw
         case rel=>exact⟨j+1,by omega,by go_num,by rw[HC.out,zuU HHE.out,Nat.add_zero],hinv⟩
         case measure=>simp[intOf];omega
       ·have htk2:gs.take j=gs:=zur (by omega);rw[htk2] at hcl ⊢;clear htk2
        by_cases hone:gs.count ((q:Int)+1)=1
        ·have HC1:Hid (∀i,i<q+1->gs.count ((i:Int)+1)=1):=by
          intro i hi
          by_cases e:i=q
          ·subst e;exact hone
          ·exact Hcnt.out i (by omega)
         have hneb:(((gs.count ((q:Int)+1):Nat):Int) != 1)=false:=by rw[hone];rfl
         clear hone;generalize gs.count ((q:Int)+1)=ct at *;go_wp2
         go_roundw
         case rel=>exact⟨q+1,by omega,by go_num,hinv,HC1⟩
         case measure=>simp[intOf];omega
        ·have hneb:(((gs.count ((q:Int)+1):Nat):Int) != 1)=true:=by rw[bne_iff_ne];omega
         have H:Hid (zee (Gn:Int) bs=false):=by
          show _=_;have:zhB (Gn:Int) gs=false:=by
           unfold zhB;rw[List.all_eq_false];exact⟨q,by simpa using hltq,by simpa using hone⟩
          rw[HA.out,this];simp
         have hbb:=hinv.below;clear HA hone;generalize gs.count ((q:Int)+1)=ct at *;go_wp2;go_ret;exact⟨zay H.out.symm,hbb⟩
     ·have hgt:¬((q:Int)+1<=(Gn:Int)):=by omega
      have ho:zhB (Gn:Int) gs=true:=by
       unfold zhB;rw[ztC];intro i hi;have:=Hcnt.out i (by simp at hi;omega);rw[this];rfl
      rw[ho,zty] at HA;have hrw:=zfc Hokk.out bs.length (zuz _);rw[zuq] at hrw;have hbb:=hinv.below;have hbs:=hs0.below hbb;clear ho
      go_wp2_with fail
      refine(zfd (Gn:Int) _ bs _ hbs hsm Hokk.out).mono ?_;rintro e w7 ⟨rfl,hb7⟩;have hbb7:=zaa hbb hbb.size hb7;go_wp2;go_ret;exact⟨zay (by rw[HA.out]),hbb7⟩
section
variable {lo:Nat}{w w':World}{v:Value}
attribute [local go_sem ↓] Go.wp_at_zero Go.wp_at_succ
def za0.zero:za0:=⟨[],0⟩
def zgp(lo:Nat)(w:World)(ao:Option Addr)(rs:List za0):Prop:=
 0<rs.length->∃b o,ao=some ⟨b,o,none⟩/\lo<=b/\b<w.heap.size/\
  ∀i,i<rs.length->(∃bv,w.cell? ⟨b,o+i*2,none⟩=some bv/\zax lo w bv (rs.getD i .zero).branches)/\w.cell? ⟨b,o+i*2+1,none⟩=some (.int .i64 (rs.getD i .zero).groups)
def zaW(lo:Nat)(w:World)(v:Value)(rs:List za0):Prop:=∃ao cap,v=.slice ao rs.length cap/\rs.length<=9223372036854775807/\zgp lo w ao rs
theorem zaW.same{rs:List za0}(h:zaW lo w v rs)(hb:Same lo w w'):zaW lo w' v rs:=by
 obtain⟨ao,cap,rfl,hm,h⟩:=h;refine⟨ao,cap,rfl,hm,fun h0=>?_⟩;obtain⟨b,o,rfl,hge,hlt,hc⟩:=h h0;refine⟨b,o,rfl,hge,zuB hlt hb.size,fun i hi=>?_⟩;obtain⟨⟨bv,c0,hn⟩,c1⟩:=hc i hi;have hcell:∀off,w'.cell? ⟨b,off,none⟩=w.cell? ⟨b,off,none⟩:=fun off=>hb.cell (by exact hge) (by exact hlt)
 exact⟨⟨bv,(hcell _).trans c0,hn.same hb⟩,(hcell _).trans c1⟩
theorem zaW.below{rs:List za0}(h:zaW lo w v rs)(hb:Below w.heap.size w w'):zaW lo w' v rs:=h.same (.of_below hb)
theorem zaW.mono{lo':Nat}{rs:List za0}(h:zaW lo w v rs)(hl:lo'<=lo):zaW lo' w v rs:=by
 obtain⟨ao,cap,rfl,hm,h⟩:=h;refine⟨ao,cap,rfl,hm,fun h0=>?_⟩;obtain⟨b,o,rfl,hge,hlt,hc⟩:=h h0;refine⟨b,o,rfl,by omega,hlt,fun i hi=>?_⟩;obtain⟨⟨bv,c0,hn⟩,c1⟩:=hc i hi;exact⟨⟨bv,c0,hn.mono hl⟩,c1⟩
theorem zgp.elem{wr:World}{ao:Option Addr}{rs:List za0}(h:zgp lo w ao rs)(hb:Below w.heap.size w wr){k:Nat}(hk:k<rs.length):
  ∃(b o:Nat) (bv:Value) (rd:za0),ao=some ⟨b,o,none⟩/\Hid (rs.getD k .zero=rd)/\b<w.heap.size/\wr.cell? ⟨b,o+k*2,none⟩=some bv/\wr.cell? ⟨b,o+k*2+1,none⟩=some (.int .i64 rd.groups)/\zax lo w bv rd.branches:=by
 obtain⟨b,o,rfl,_,hlt,hc⟩:=h (by omega);obtain⟨⟨bv,c0,hn⟩,c1⟩:=hc k hk;exact⟨b,o,bv,_,rfl,rfl,hlt,(hb.cell (by exact hlt)).trans c0,(hb.cell (by exact hlt)).trans c1,hn⟩
def zdB(rs:List za0):Prop:=rs.length<=1048576/\∀k,k<rs.length->Small (rs.getD k .zero).branches
def okR(r:za0):Bool:=zee r.groups r.branches
def wSum:List za0->Int
 |[]=>0
 |r::rs=>zcd r.branches+wSum rs
theorem zfm(rs:List za0)(k:Nat)(hk:k<rs.length):wSum (rs.take (k+1))=wSum (rs.take k)+zcd (rs.getD k .zero).branches:=by
 induction rs generalizing k with
 |nil=>exact absurd hk (zuI _)
 |cons r rs ih=>
  cases k with
  |zero=>simp[wSum]
  |succ k=>
   have:=ih k (by simpa using hk);simp only[zus,wSum,this,List.getD_cons_succ];omega
def zb5(rs:List za0):Bool:=decide (rs.length<=100)&&rs.all okR&&decide (wSum rs<=4000)
theorem zh4{r:za0}(h:okR r=true):zku r.branches/\0<=zcd r.branches/\zcd r.branches<=2000:=by
 unfold okR zee at h;simp only[ztt,zuP] at h;obtain⟨⟨⟨⟨⟨⟨h1,h2⟩,h3⟩,h4⟩,h5⟩,h6⟩,h7⟩:=h;have ha:=znX h4;have:=zfc ha r.branches.length (zuz _);rw[zuq] at this;exact⟨ha,by omega,h7⟩
theorem zgN(v:Value)(rs:List za0)(w:World)(hs:zaW lo w v rs)(hsm:zdB rs):
  Calls Tryz.prog 15 #[v] w fun e W=>e=.returned (.bool (zb5 rs))/\Below w.heap.size w W:=by
 obtain⟨ao,cap,rfl,hm,hc⟩:=hs;have hl:=hsm.1
 by_cases hbig:rs.length<=100
 ·have hb1:¬(100:Int)<(rs.length:Int):=by omega
  have HC:=hdn hc;have HSM:=hdn hsm;clear hc hsm hl
  go_enter Tryz.func15,Tryz.ntmps15
  go_wp2_with fail
  go_loopw [3,11] (fun sv i wr=>∃k:Nat,k<=rs.length/\i=.int .i64 k/\sv=.int .i64 (wSum (rs.take k))/\Below w.heap.size w wr/\(rs.take k).all okR=true/\0<=wSum (rs.take k)/\wSum (rs.take k)<=2000*k) (fun _ i _=>rs.length-(intOf i).toNat)
  case atStart=>exact⟨0,zuL _,rfl,by simp[wSum],Below.refl _ _,rfl,by simp[wSum],by simp[wSum]⟩
  case round=>
   obtain⟨k,hk,rfl,rfl,hb,hall,hw0,hw1⟩:=hrel
   by_cases hlt:k<rs.length
   ·obtain⟨b,o,bv,rd,rfl,Hrd,hbl,c0,c1,hbs⟩:=HC.out.elem hb hlt;have hwt:=zfm rs k hlt;rw[Hrd.out] at hwt;have hsmk:=HSM.out.2 k hlt;rw[Hrd.out] at hsmk;obtain⟨bo,bc,rfl,hbm,hbc⟩:=hbs;have hi0:(0:Int)<=(k:Int):=by omega
    have hi1:(k:Int)<(rs.length:Int):=by omega
    have hbw:b<wr.heap.size:=zuB hbl hb.size;have hB0:zax lo w (.slice bo rd.branches.length bc) rd.branches:=⟨bo,bc,rfl,hbm,hbc⟩;obtain⟨W2,hW2⟩:∃W2,wr.alloc (.cells #[.slice bo rd.branches.length bc,.int .i64 rd.groups] 57)=W2:=⟨_,rfl⟩;have b2:Below wr.heap.size wr W2:=by rw[<-hW2];exact(Below.refl _ _).alloc (zuz _) _
    have x2:W2.heap[wr.heap.size]?=some (.cells #[.slice bo rd.branches.length bc,.int .i64 rd.groups] 57 (0,0)):=by rw[<-hW2];exact zuR _ _
    have bl2:=zaa hb hb.size b2;have cr:=ziZ rd.groups (.slice bo rd.branches.length bc) rd.branches W2 (hB0.below bl2) hsmk;have cw:∀W3,Below w.heap.size w W3->okR rd=true->Calls Tryz.prog 34 #[.agg #[.slice bo rd.branches.length bc,.int .i64 rd.groups]] W3 fun e W4=>e=.returned (.int .i64 (zcd rd.branches))/\Below W3.heap.size W3 W4:=fun W3 h3 h4=>zfd rd.groups (.slice bo rd.branches.length bc) rd.branches W3 (hB0.below h3) hsmk (zh4 h4).1
    obtain⟨q0,q1⟩:=zal x2;have HX2:=hdn x2;have HW2:=hdn hW2;have HWT:=hdn hwt;have HBL:=hdn bl2;have hall2:(rs.take (k+1)).all okR=okR rd:=by
     rw[List.take_add_one,List.all_append,hall,ztT hlt,<-Hrd.out];simp[List.getD,hlt]
    have HAL:=hdn hall2;have hno:okR rd=false->zb5 rs=false:=fun h=>by
     have:rs.all okR=false:=by
      rw[Bool.eq_false_iff];intro h2;have h3:=ztC.1 h2 rd (by rw[<-Hrd.out];simp[List.getD,hlt]);rw[h] at h3;cases h3
     unfold zb5;rw[this];simp
    have HNO:=hdn hno;have hok2:okR rd=zee rd.groups rd.branches:=rfl;rw[<-hok2] at cr;have hobd:okR rd=true->0<=zcd rd.branches/\zcd rd.branches<=2000:=fun h=>(zh4 h).2
    have HOB:=hdn hobd;generalize hok:okR rd=ok at *;generalize hrw:zcd rd.branches=rw1 at *;clear hbc hB0 hW2 x2 hwt bl2 b2 hb hall hall2 hno hok2 hok hsmk hbm hobd
    go_upto_region 7 with fail
    rw[HW2.out];clear HW2 c0 c1;cases ok
    ·go_wp2_with fail
     refine cr.mono ?_;rintro e W3 ⟨rfl,b3⟩;go_wp2;go_ret;exact⟨by rw[HNO.out (by simp)];rfl,zaa HBL.out HBL.out.size b3⟩
    ·go_wp2_with fail
     refine cr.mono ?_;rintro e W3 ⟨rfl,b3⟩;have bl3:=zaa HBL.out HBL.out.size b3;obtain⟨q0,q1⟩:=zal ((b3.block _ (zae HX2.out)).trans HX2.out);have cw3:=cw W3 bl3 (by simp);have HB3:=hdn bl3;obtain⟨hr0,hr1⟩:=HOB.out (by simp);generalize hss:wSum (rs.take k)=ss at *;have hwr:IntKind.i64.wrap (ss+rw1)=ss+rw1:=by rw[IntKind.wrap_i64];omega
     clear cr cw bl3 b3 hss
     go_wp2_with fail
     refine cw3.mono ?_;rintro e W4 ⟨rfl,b4⟩;clear cw3;go_wp2
     go_roundw
     case rel=>exact⟨k+1,by omega,by go_num,by rw[HWT.out],zaa HB3.out HB3.out.size b4,HAL.out,by rw[HWT.out];omega,by rw[HWT.out];omega⟩
     case measure=>simp[intOf];omega
   ·have hkk:k=rs.length:=by omega
    rw[hkk,zuq] at hall hw0 hw1 ⊢;have hne:¬(rs.length:Int)<(rs.length:Int):=by omega
    have HB:=hdn hb;have hlb:zb5 rs=decide (wSum rs<=4000):=by unfold zb5;rw[hall];simp[hbig]
    have HLB:=hdn hlb;clear hb hlb;go_wp2;go_ret;exact⟨by rw[HLB.out];rfl,HB.out⟩
 ·have hb1:(100:Int)<(rs.length:Int):=by omega
  have:zb5 rs=false:=by unfold zb5;simp[hbig]
  rw[this];clear this hc hsm
  go_enter Tryz.func15,Tryz.ntmps15
  go_wp2;go_ret;exact⟨rfl,Below.refl _ _⟩
end
variable {w:World}{nw g:Nat}
theorem zaB.put{b o:Nat}{T:Nat->Nat}{v:Value}(h:zaB w nw g T)(hne:g≠b):zaB (w.setCell ⟨b,o,none⟩ v) nw g T:=h.grown (zaN w b o v) (by simpa using hne)
structure FrAt(w:World)(nw ga gl:Nat)(A L:Nat->Nat):Prop where
 fi:zaB w nw ga A
 la:zaB w nw gl L
 ne:ga≠gl
theorem FrAt.below{w':World}{ga gl:Nat}{A L:Nat->Nat}(h:FrAt w nw ga gl A L)(hb:Below w.heap.size w w'):FrAt w' nw ga gl A L:=⟨h.fi.below hb,h.la.below hb,h.ne⟩
def zte(w:World)(nw:Nat)(b:Bool)(e:Ending)(w':World):Prop:=
 ∃ga gl:Nat,e=.returned (.agg #[.bool b,.slice (some ⟨ga,0,none⟩) nw nw,.slice (some ⟨gl,0,none⟩) nw nw])/\w.heap.size<=ga/\w.heap.size<=gl/\FrAt w' nw ga gl zbm zbm/\Below w.heap.size w w'
theorem zac{a b c:Value}{t:TypeId}(h:w.heap[g]?=some (.cells #[a,b,c] t (0,0))):w.cell? ⟨g,0,none⟩=some a/\w.cell? ⟨g,1,none⟩=some b/\w.cell? ⟨g,2,none⟩=some c/\w.frozen? ⟨g,0,none⟩=false/\w.frozen? ⟨g,1,none⟩=false/\w.frozen? ⟨g,2,none⟩=false:=by
 have:∀o,w.cell? ⟨g,o,none⟩=#[a,b,c][o]?:=fun _=>zuO _ _ _ _ _ _ h
 exact⟨this 0,this 1,this 2,zuQ _ _ 0 _ _ h,zuQ _ _ 1 _ _ h,zuQ _ _ 2 _ _ h⟩
theorem zkE(nw bt:Nat)(b:Bool)(sv fv:Value)(w:World)(hbox:zeb w bt nw sv fv)(hnw:nw<=1000):
  Calls Tryz.prog 86 #[.pointer (some ⟨bt,0,none⟩),.bool b] w fun e w'=>zte w nw b e w':=by
 have hbt:bt<w.heap.size:=(ztp.1 hbox).1;have hb0:Below w.heap.size w (w.alloc (.cells #[.bool false,.slice none 0 0,.slice none 0 0] 115)):=(Below.refl _ _).alloc (zuz _) _;have x0:(w.alloc (.cells #[.bool false,.slice none 0 0,.slice none 0 0] 115)).heap[w.heap.size]?=some (.cells #[.bool false,.slice none 0 0,.slice none 0 0] 115 (0,0)):=zuR _ _;have hn1:=zeq nw bt sv fv _ ((hb0.block bt hbt).trans hbox) hnw
 go_enter Tryz.func86,Tryz.ntmps86
 go_wp2_with fail
 refine hn1.mono ?_;rintro e w1 ⟨rfl,hp1,hg1⟩;have hb1:Below w.heap.size w w1:=hb0.grown hg1 (by simp) (fun k e=>by cases e);have x1:=(hg1.block _ (by simp) (by simp)).trans x0;have hn2:=zeq nw bt sv fv w1 ((hb1.block bt hbt).trans hbox) hnw;simp only[World.size_alloc] at hp1;obtain⟨ga,hga⟩:∃ga,ga=w.heap.size+1:=⟨_,rfl⟩;rw[<-hga] at hp1;have hgal:w.heap.size<ga:=by omega
 go_wp2_with fail
 refine hn2.mono ?_;rintro e w2 ⟨rfl,hp2,hg2⟩;have hb2:Below w.heap.size w w2:=hb1.grown hg2 hb1.size (fun k e=>by cases e);have x2:=(hg2.block _ (zuB (by simp) hg1.size) (by simp)).trans x1;have hp1':=hp1.grown hg2 (by simp);obtain⟨c0,c1,c2,f0,f1,f2⟩:=zac x2;have hl1:=hp1.glt;have hl2:=hp2.glt;clear x0 x1 hn1 hn2 hg1 hg2 hb0 hp1;go_wp2;subst hga;refine zuN (v:=.agg #[.bool b,.slice (some ⟨w.heap.size+1,0,none⟩) nw nw,.slice (some ⟨w1.heap.size,0,none⟩) nw nw]) (by simp[results,Tryz.results86,go_sem,c0,c1,c2]) rfl ⟨_,_,rfl,by omega,by omega,⟨((hp1'.put (by omega)).put (by omega)).put (by omega),((hp2.put (by omega)).put (by omega)).put (by omega),by omega⟩,?_⟩;exact((hb2.setCell (p:=⟨w.heap.size,0,none⟩) (by simp) _).setCell (p:=⟨w.heap.size,1,none⟩) (by simp) _).setCell (p:=⟨w.heap.size,2,none⟩) (by simp) _
def ztf(w:World)(nw ga gl:Nat)(b:Bool)(A L:Nat->Nat)(e:Ending)(w':World):Prop:=
 e=.returned (.agg #[.bool b,.slice (some ⟨ga,0,none⟩) nw nw,.slice (some ⟨gl,0,none⟩) nw nw])/\FrAt w' nw ga gl A L/\zaM (fun k=>k=ga\/k=gl) w w'
theorem zoi(nw bt ga gl ha hl:Nat)(b c:Bool)(A L A' L':Nat->Nat)(w:World)(h1:FrAt w nw ga gl A L)(h2:FrAt w nw ha hl A' L')(d1:ga≠ha)(d2:ga≠hl)(d4:gl≠hl)(hnw:nw<=1000):
  Calls Tryz.prog 84 #[.pointer (some ⟨bt,0,none⟩),.agg #[.bool b,.slice (some ⟨ga,0,none⟩) nw nw,.slice (some ⟨gl,0,none⟩) nw nw],.agg #[.bool c,.slice (some ⟨ha,0,none⟩) nw nw,.slice (some ⟨hl,0,none⟩) nw nw]] w fun e w'=>ztf w nw ga gl (b || c) (orT A A') (orT L L') e w':=by
 obtain⟨W0,hW0⟩:∃W0,((w.alloc (.cells #[.bool b,.slice (some ⟨ga,0,none⟩) nw nw,.slice (some ⟨gl,0,none⟩) nw nw] 115)).alloc (.cells #[.bool c,.slice (some ⟨ha,0,none⟩) nw nw,.slice (some ⟨hl,0,none⟩) nw nw] 115)).alloc (.cells #[.bool false,.slice none 0 0,.slice none 0 0] 115)=W0:=⟨_,rfl⟩;have hb0:Below w.heap.size w W0:=by rw[<-hW0];exact(((Below.refl _ _).alloc (zuz _) _).alloc (by simp) _).alloc (by simp;omega) _
 have x4:W0.heap[w.heap.size]?=some (.cells #[.bool b,.slice (some ⟨ga,0,none⟩) nw nw,.slice (some ⟨gl,0,none⟩) nw nw] 115 (0,0)):=by rw[<-hW0];exact zao (zao (zuR _ _))
 have x5:W0.heap[w.heap.size+1]?=some (.cells #[.bool c,.slice (some ⟨ha,0,none⟩) nw nw,.slice (some ⟨hl,0,none⟩) nw nw] 115 (0,0)):=by
  rw[<-hW0];refine zao ?_;have:=zuR (w.alloc (.cells #[.bool b,.slice (some ⟨ga,0,none⟩) nw nw,.slice (some ⟨gl,0,none⟩) nw nw] 115)) (.cells #[.bool c,.slice (some ⟨ha,0,none⟩) nw nw,.slice (some ⟨hl,0,none⟩) nw nw] 115)
  simpa using this
 have x6:W0.heap[w.heap.size+1+1]?=some (.cells #[.bool false,.slice none 0 0,.slice none 0 0] 115 (0,0)):=by
  rw[<-hW0];have:=zuR ((w.alloc (.cells #[.bool b,.slice (some ⟨ga,0,none⟩) nw nw,.slice (some ⟨gl,0,none⟩) nw nw] 115)).alloc (.cells #[.bool c,.slice (some ⟨ha,0,none⟩) nw nw,.slice (some ⟨hl,0,none⟩) nw nw] 115)) (.cells #[.bool false,.slice none 0 0,.slice none 0 0] 115)
  simpa using this
 have l1:=h1.fi.glt;have l2:=h1.la.glt;have l3:=h2.fi.glt;have l4:=h2.la.glt;have hne:=h1.ne;have y1:=h1.below hb0;have y2:=h2.below hb0;have hj1:=zdx nw ga ha nw nw A A' W0 y1.fi y2.fi d1 hnw;have hsz:W0.heap.size=w.heap.size+1+1+1:=by rw[<-hW0];simp
 obtain⟨a0,a1,a2,-,-,-⟩:=zac x4;obtain⟨b0,b1,b2,-,-,-⟩:=zac x5
 go_enter Tryz.func84,Tryz.ntmps84
 go_wp2_with fail
 clear a0 a1 a2 b0 b1 b2 hW0;refine hj1.mono ?_;rintro e w1 ⟨rfl,hp1,hg1⟩;have hs1:=hg1.size;have u4:=(hg1.block (w.heap.size) (by omega) (by simp;omega)).trans x4;have u5:=(hg1.block (w.heap.size+1) (by omega) (by simp;omega)).trans x5;have u6:=(hg1.block (w.heap.size+1+1) (by omega) (by simp;omega)).trans x6;have z1:=y1.la.grown hg1 (by simpa using hne.symm);have z2:=y2.la.grown hg1 (by simpa using d2.symm);have hj2:=zdx nw gl hl nw nw L L' w1 z1 z2 d4 hnw;obtain⟨a0,a1,a2,-,-,-⟩:=zac u4;obtain⟨b0,b1,b2,-,-,-⟩:=zac u5
 go_wp2_with fail
 clear a0 a1 a2 b0 b1 b2;refine hj2.mono ?_;rintro e w2 ⟨rfl,hp2,hg2⟩;have hs2:=hg2.size;have v4:=(hg2.block (w.heap.size) (by omega) (by simp;omega)).trans u4;have v5:=(hg2.block (w.heap.size+1) (by omega) (by simp;omega)).trans u5;have v6:=(hg2.block (w.heap.size+1+1) (by omega) (by simp;omega)).trans u6;have hpa:=hp1.grown hg2 (by simpa using hne);have ht:zaM (fun k=>k=ga\/k=gl) w w2:=((zaM.of_below hb0).trans ((zaM.refl _ W0).grown hg1 (fun g e=>by cases e;exact .inl (.inl rfl)))).grown hg2 (fun g e=>by cases e;exact .inl (.inr rfl));obtain⟨a0,a1,a2,-,-,-⟩:=zac v4;obtain⟨b0,b1,b2,-,-,-⟩:=zac v5;obtain⟨e0,e1,e2,f0,f1,f2⟩:=zac v6;clear hj1 hj2 hg1 hg2 x4 x5 x6 u4 u5 u6 v4 v5 v6 y1 y2 z1 z2 hp1 hb0;cases b
 all_goals
  go_wp2;refine zuN (v:=.agg #[.bool _,.slice (some ⟨ga,0,none⟩) nw nw,.slice (some ⟨gl,0,none⟩) nw nw]) (by simp[results,Tryz.results84,go_sem,e0,e1,e2]) rfl ⟨rfl,⟨((hpa.put (by omega)).put (by omega)).put (by omega),((hp2.put (by omega)).put (by omega)).put (by omega),hne⟩,?_⟩;exact((ht.grown (zaN _ _ _ _) (fun g e=>.inr (by cases e;omega))).grown (zaN _ _ _ _) (fun g e=>.inr (by cases e;omega))).grown (zaN _ _ _ _) (fun g e=>.inr (by cases e;omega))
end Go.Proofs.YthddplbodacjgaaGreatDoor
