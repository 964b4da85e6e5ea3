import Derived.Test.YthddplbodacjgaaGreatDoorC5
namespace Go.Proofs.YthddplbodacjgaaGreatDoor
set_option maxHeartbeats 2000000
set_option maxRecDepth 100000
open Go.RowKit
section
variable {bs:List zai}{st:List Int}{N:Nat}
def zbh:List zai->Option (List Int)
 |[]=>some []
 |b::bs=>match ze3 b.nodes with
  |none=>none
  |some a=>(zbh bs).map (a :: ·)
theorem zjE(bs:List zai)(i:Nat)(hi:i<bs.length)(bd:zai)(h:bs.getD i .zero=bd)(hf:ze3 bd.nodes=none):zbh (bs.drop i)=none:=by
 rw[ztG hi];have:bs[i]=bd:=by rw[<-h];simp[List.getD,hi]
 rw[this,zbh,hf]
theorem zjF(bs:List zai)(i:Nat)(hi:i<bs.length)(bd:zai)(h:bs.getD i .zero=bd)(a:Int)(hf:ze3 bd.nodes=some a):zbh (bs.drop i)=(zbh (bs.drop (i+1))).map (a :: ·):=by
 rw[ztG hi];have:bs[i]=bd:=by rw[<-h];simp[List.getD,hi]
 rw[this,zbh,hf]
theorem zjG{k:Nat}{a:Int}(h1:zbh bs=(zbh (bs.drop k)).map (st ++ ·))(h2:zbh (bs.drop k)=(zbh (bs.drop (k+1))).map (a :: ·)):zbh bs=(zbh (bs.drop (k+1))).map ((st++[a]) ++ ·):=by
 rw[h1,h2];cases zbh (bs.drop (k+1))<;>simp
def zbq(st:List Int):Int:=st.foldl (fun s a=>capW (s+a)) 0
theorem zeT(st:List Int)(k:Nat)(hk:k<st.length):zbq (st.take (k+1))=capW (zbq (st.take k)+st.getD k 0):=by
 unfold zbq;rw[zut hk,List.foldl_append];simp[List.getD,hk]
theorem zgt{n:Int}(h:0<=n):0<=capW n/\capW n<=2001:=by unfold capW;split<;>omega
theorem zeu{xs:List Value}(h:znU N xs st):∀k,k<=st.length->0<=zbq (st.take k)/\zbq (st.take k)<=2001
 |0,_=>by simp[zbq]
 |k+1,hk=>by
  rw[zeT st k (by omega)];obtain⟨t,x,_,hp⟩:=h.2 k (by omega);have:=zbk.facts N _ _ hp;have h2:=zeu h k (by omega);exact zgt (by omega)
theorem zdA{B g sc:Nat}(st:List Int)(xs:List Value)(w:World)(hown:w.ownsRow B 118 1 (.slice (some ⟨g,0,none⟩) st.length sc) st.length xs)(hparts:znU N xs st)(hn:st.length<=2000000):
  Calls Tryz.prog 48 #[.slice (some ⟨g,0,none⟩) st.length sc] w fun e w'=>e=.returned (.int .i64 (zbq st))/\Below w.heap.size w w':=by
 go_enter Tryz.func48,Tryz.ntmps48
 go_wp2
 go_loopw [3,8] (fun s i wr=>∃k:Nat,k<=st.length/\i=.int .i64 k/\s=.int .i64 (zbq (st.take k))/\Below w.heap.size w wr)
  (fun _ i _=>st.length-(intOf i).toNat)
 case atStart=>exact⟨0,zuL _,rfl,rfl,Below.refl _ _⟩
 case round=>
  obtain⟨k,hk,rfl,rfl,hb⟩:=hrel;have hsb:=zeu hparts k hk
  by_cases hlt:k<st.length
  ·obtain⟨t,x,hx,hp⟩:=hparts.2 k hlt;have hownr:=zad hown hb;have c0:wr.cell? ⟨g,k,none⟩=some (.iface t x):=(hownr.cellAt k (by omega)).trans hx;have HT:Hid _:=zeT st k hlt;obtain⟨hw,hp1,hp2⟩:=zbk.facts N _ _ hp;generalize st.getD k 0=a at *;generalize hss:zbq (st.take k)=s at *;have Hss:Hid _:=hss;have hwr:IntKind.i64.wrap (s+a)=s+a:=by rw[IntKind.wrap_i64];omega
   clear hss hx hownr
   go_wp2_with (first|(refine zcx _ rfl (.tmp 13) _ rfl _ _ rfl hw ⟨fun _ _=>by kernel_rfl,fun _ _=>by kernel_rfl,fun _ _=>by kernel_rfl,fun _ _=>by kernel_rfl,fun _ _=>by kernel_rfl⟩ ?_;intro w2 hb2)|(go_at_call 78;refine(zcg _ _).mono ?_;rintro e w4 ⟨rfl,rfl⟩))
   go_roundw
   case rel=>exact⟨k+1,by omega,by go_num,by rw[HT.out],zaa hb hb.size hb2⟩
   case measure=>simp[intOf];omega
  ·go_wp2;go_ret;exact⟨zbl (by rw[zur (by omega)]),hb⟩
def zaJ:List zai->Nat
 |[]=>0
 |b::bs=>b.nodes.length+zaJ bs
theorem zcH(bs:List zai)(k:Nat)(hk:k<bs.length):zaJ (bs.take (k+1))=zaJ (bs.take k)+(bs.getD k .zero).nodes.length:=by
 induction bs generalizing k with
 |nil=>exact absurd hk (zuI _)
 |cons b bs ih=>
  cases k with
  |zero=>simp[zaJ,List.getD]
  |succ k=>
   have:=ih k (by simpa using hk);simp only[zus,zaJ,List.getD_cons_succ] at this ⊢;omega
theorem zdr(h:Small bs):∀k,k<=bs.length->zaJ (bs.take k)<=k*1048576
 |0,_=>by simp[zaJ]
 |k+1,hk=>by
  have h1:=zdr h k (by omega);have h2:=(h.2 k (by omega)).1;rw[zcH bs k (by omega)];omega
theorem zir{lo:Nat}(v:Value)(bs:List zai)(w:World)(hs:zax lo w v bs)(hsm:Small bs):
  Calls Tryz.prog 75 #[v] w fun e w'=>e=.returned (.int .i64 (zaJ bs))/\Below w.heap.size w w':=by
 obtain⟨ao,cap,rfl,hm,hc⟩:=hs;have hn:=hsm.1
 go_enter Tryz.func75,Tryz.ntmps75
 go_wp2
 go_loopw [3,8] (fun s i wr=>∃k:Nat,k<=bs.length/\i=.int .i64 k/\s=.int .i64 (zaJ (bs.take k))/\Below w.heap.size w wr)
  (fun _ i _=>bs.length-(intOf i).toNat)
 case atStart=>exact⟨0,zuL _,rfl,rfl,Below.refl _ _⟩
 case round=>
  obtain⟨k,hk,rfl,rfl,hb⟩:=hrel;have hcb:=zdr hsm k hk
  by_cases hlt:k<bs.length
  ·obtain⟨b,o,nv,bd,rfl,Hn,hbl,c0,c1,c2,hnv⟩:=hc.elem hb hlt;have hnl:bd.nodes.length<=1048576:=by have:=(hsm.2 k hlt).1;rw[Hn.out] at this;exact this
   obtain⟨nao,ncp,rfl,hnm,hnc⟩:=hnv;have HT:Hid _:=zcH bs k hlt;rw[Hn.out] at HT;generalize zaJ (bs.take k)=s at *;go_wp2
   go_roundw
   case rel=>exact⟨k+1,by omega,by go_num,by rw[HT.out];go_num,hb.alloc hb.size _⟩
   case measure=>simp[intOf];omega
  ·go_wp2;go_ret;exact⟨zbl (by rw[zur (by omega)]),hb⟩
end
def zce(f:Nat->Bool):Array Value:=((List.range 501).map fun c=>Value.bool (f c)).toArray
theorem zfU(f:Nat->Bool):(zce f).size=501:=by simp[zce]
theorem zeR(f:Nat->Bool)(i:Nat)(h:i<501):(zce f)[i]?=some (.bool (f i)):=by simp[zce,h]
theorem zlz{f g:Nat->Bool}(h:∀c,c<501->f c=g c):zce f=zce g:=by
 unfold zce;rw[zua fun c hc=>by rw[h c (by simpa using hc)]]
theorem zlA(f:Nat->Bool)(i:Nat):(zce f).setIfInBounds i (.bool true)=zce (fun c=>f c || c==i):=by
 apply ztn
 intro j;rw[ztq,zfU]
 by_cases hj:j<501
 ·rw[zeR _ _ hj,zeR _ _ hj]
  by_cases e:i=j
  ·subst e;simp[hj]
  ·have e':(j==i)=false:=by simp;omega
   simp[e,e']
 ·have h1:∀g,(zce g)[j]?=none:=fun g=>zto (by rw[zfU];omega)
  rw[h1,h1];split<;>simp_all
def zel(done:List Int):Nat->Bool:=fun c=>decide ((c:Int)∈done)
theorem zj6(done:List Int)(q:Nat):zce (fun c=>zel done c || c==q)=zce (zel ((q:Int)::done)):=zlz fun c _=>by
 unfold zel
 by_cases e:c=q
 ·subst e;simp
 ·have e':(c==q)=false:=zuM.2 e;have e2:¬(c:Int)=(q:Int):=by omega
  simp[e',e2]
theorem Tryz.zeroSeen:(Tryz.prog.info? 201).map (fun i=>(i.zero,i.size))=some (some (.agg (zce (zel []))),501):=by kernel_rfl
def grp:List zau->List Int
 |[]=>[]
 |n::ns=>if n.kind=5 then n.group::grp ns else grp ns
def zbv:List zai->List Int
 |[]=>[]
 |b::bs=>grp b.nodes++zbv bs
def zcz(G:Int):List Int->List Int->Bool
 |done,[]=>((done.length:Int)==G)
 |done,g::gs=>if g<1\/G<g\/g∈done then false else zcz G (g::done) gs
theorem zqB(ns:List zau)(i:Nat)(hi:i<ns.length)(nd:zau)(h:ns.getD i .zero=nd):grp (ns.drop i)=if nd.kind=5 then nd.group::grp (ns.drop (i+1)) else grp (ns.drop (i+1)):=by
 rw[ztG hi];have:ns[i]=nd:=by rw[<-h];simp[List.getD,hi]
 rw[this,grp]
theorem zkx(bs:List zai)(i:Nat)(hi:i<bs.length)(bd:zai)(h:bs.getD i .zero=bd):zbv (bs.drop i)=grp (bd.nodes.drop 0)++zbv (bs.drop (i+1)):=by
 rw[ztG hi];have:bs[i]=bd:=by rw[<-h];simp[List.getD,hi]
 rw[this,zbv]
 rfl
theorem zkW{lo:Nat}(G:Int)(v:Value)(bs:List zai)(w:World)(hs:zax lo w v bs)(hsm:Small bs)(hG0:0<=G)(hG1:G<=500):
  Calls Tryz.prog 76 #[.agg #[v,.int .i64 G]] w fun e w'=>e=.returned (.bool (zcz G [] (zbv bs)))/\Below w.heap.size w w':=by
 obtain⟨ao,cap,rfl,hm,hc⟩:=hs;have hn:=hsm.1;have hzv:=(zero_of_info Tryz.zeroSeen).1
 go_enter Tryz.func76,Tryz.ntmps76
 go_wp2
 go_loopw [4,12] (fun f i wr=>∃(k:Nat) (done:List Int),k<=bs.length/\i=.int .i64 k/\f=.int .i64 done.length/\done.length<=k*1048576/\Below w.heap.size w wr/\wr.cell? ⟨w.heap.size,1,none⟩=some (.int .i64 G)/\Hid (wr.heap[w.heap.size+1]?=some (.cells (zce (zel done)) 201 (0,0)))/\w.heap.size+1<wr.heap.size/\Hid (zcz G [] (zbv bs)=zcz G done (zbv (bs.drop k))))
  (fun _ i _=>bs.length-(intOf i).toNat)
 case atStart=>exact⟨0,[],zuL _,rfl,rfl,by simp,((Below.refl _ _).alloc (zuz _) _).alloc (by simp) _,by simp,heap_alloc2_new _ _ _,by simp,rfl⟩
 case round=>
  obtain⟨k,done,hk,rfl,rfl,hdl,hb,hbox,Hseen,hsz,HS⟩:=hrel
  by_cases hlt:k<bs.length
  ·obtain⟨b,o,nv,bd,rfl,Hn,hbl,k0,k1,k2,hnv⟩:=hc.elem (Below.refl _ _) hlt;have c0:=(hb.cell (p:=⟨b,o+k*3,none⟩) hbl).trans k0;have c1:=(hb.cell (p:=⟨b,o+k*3+1,none⟩) hbl).trans k1;have c2:=(hb.cell (p:=⟨b,o+k*3+2,none⟩) hbl).trans k2;clear k0 k1 k2;have hnl:bd.nodes.length<=1048576:=by have:=(hsm.2 k hlt).1;rw[Hn.out] at this;exact this
   obtain⟨nao,ncp,rfl,hnm,hnc⟩:=hnv;have HA:Hid _:=zkx bs k hlt bd Hn.out;generalize htl:zbv (bs.drop (k+1))=tl at *;have Htl:Hid _:=htl;clear htl;have hba:Below w.heap.size w (wr.alloc (.cells #[.bool bd.bol,.bool bd.eol,.slice nao bd.nodes.length ncp] 76)):=hb.alloc hb.size _;have hbox2:(wr.alloc (.cells #[.bool bd.bol,.bool bd.eol,.slice nao bd.nodes.length ncp] 76)).cell? ⟨w.heap.size,1,none⟩=some (.int .i64 G):=(World.cell?_of_block (Below.heap_alloc _ _ _ (by simp;omega))).trans hbox;have Hseen2:Hid _:=zao (ob:=.cells #[.bool bd.bol,.bool bd.eol,.slice nao bd.nodes.length ncp] 76) Hseen.out;have hWs:w.heap.size+1<(wr.alloc (.cells #[.bool bd.bol,.bool bd.eol,.slice nao bd.nodes.length ncp] 76)).heap.size:=by simp;omega
   go_wp2;generalize (wr.alloc (.cells #[.bool bd.bol,.bool bd.eol,.slice nao bd.nodes.length ncp] 76))=W at *
   go_loopw [4,19] (fun f i wq=>∃(j:Nat) (dn:List Int),j<=bd.nodes.length/\i=.int .i64 j/\f=.int .i64 dn.length/\dn.length<=k*1048576+j/\Below w.heap.size w wq/\wq.cell? ⟨w.heap.size,1,none⟩=some (.int .i64 G)/\Hid (wq.heap[w.heap.size+1]?=some (.cells (zce (zel dn)) 201 (0,0)))/\w.heap.size+1<wq.heap.size/\Hid (zcz G [] (zbv bs)=zcz G dn (grp (bd.nodes.drop j)++tl)))
    (fun _ i _=>bd.nodes.length-(intOf i).toNat)
   case atStart=>exact⟨0,done,zuL _,rfl,rfl,zuA hdl (Nat.le_add_right _ _),hba,hbox2,Hseen2,hWs,by show _=_;rw[HS.out,HA.out]⟩
   case round=>
    obtain⟨j,dn,hj,rfl,rfl,hdl2,hbq,hboxq,Hsq,hszq,HQ⟩:=hrel
    by_cases hlt2:j<bd.nodes.length
    ·obtain⟨b2,o2,sv,nd,rfl,Hn2,hbl2,d0,d1,d2,d3,d4,hsv⟩:=hnc.elem hbq hlt2;have HG:Hid _:=zqB bd.nodes j hlt2 nd Hn2.out;obtain⟨kd,rs,mn,mx,gr⟩:=nd;simp only at d0 d2 d3 d4 hsv HG;obtain⟨sao,scp,rfl,hsm2,hsc⟩:=hsv;have hqz:=hbq.size;have hbqa:Below w.heap.size w (wr.alloc (.cells #[.int .i64 kd,.slice sao rs.length scp,.int .i64 mn,.int .i64 mx,.int .i64 gr] 144)):=hbq.alloc hqz _;have Hsqa:Hid _:=zao (ob:=.cells #[.int .i64 kd,.slice sao rs.length scp,.int .i64 mn,.int .i64 mx,.int .i64 gr] 144) Hsq.out;have hboxa:(wr.alloc (.cells #[.int .i64 kd,.slice sao rs.length scp,.int .i64 mn,.int .i64 mx,.int .i64 gr] 144)).cell? ⟨w.heap.size,1,none⟩=some (.int .i64 G):=(World.cell?_of_block (Below.heap_alloc _ _ _ (by simp;omega))).trans hboxq
     by_cases h5:kd=5
     ·subst h5;have HG2:Hid (zcz G [] (zbv bs)=if gr<1\/G<gr\/gr∈dn then false else zcz G (gr::dn) (grp (bd.nodes.drop (j+1))++tl)):=by show _=_;rw[HQ.out,HG.out,zuV rfl];rfl
      by_cases g1:gr<1
      ·go_wp2;go_ret;exact⟨zay (by rw[HG2.out,zuV (.inl g1)]),hbqa⟩
      by_cases g2:G<gr
      ·go_wp2;go_ret;exact⟨zay (by rw[HG2.out,zuV (.inr (.inl g2))]),hbqa⟩
      obtain⟨q,rfl⟩:=Int.eq_ofNat_of_zero_le (show 0<=gr by omega);have hq:q<501:=by omega
      have s0:wr.cell? ⟨w.heap.size+1,q,none⟩=some (.bool (zel dn q)):=by rw[zuO _ _ _ _ _ _ Hsq.out,zeR _ _ hq]
      have fz0:wr.frozen? ⟨w.heap.size+1,q,none⟩=false:=zuQ _ _ _ _ _ Hsq.out
      by_cases g3:zel dn q=true
      ·go_wp2;go_ret;exact⟨zay (by rw[HG2.out,zuV (.inr (.inr (by simpa [zel] using g3)))]),hbqa⟩
      have g3':zel dn q=false:=by simpa using g3
      clear g3;go_wp2
      go_roundw
      case rel=>exact⟨j+1,(q:Int)::dn,by omega,by go_num,by simp,by simp;omega,(hbq.setCell (by simp) _).alloc (by simpa [World.setCell] using hqz) _,(World.cell?_of_block (Below.heap_alloc _ _ _ (by simp[World.setCell];omega))).trans ((World.cell?_of_block (zuS _ _ _ _ (by simp))).trans hboxq),zao (by rw[zuT _ _ _ _ _ _ Hsq.out,zlA,zj6]),by simp[World.setCell];omega,by show _=_;rw[HG2.out,zuU (by rintro (h|h|h);omega;omega;simp[zel] at g3';exact g3' h)]⟩
      case measure=>simp[intOf];omega
     ·have h5':(kd != 5)=true:=by rw[bne_iff_ne];exact h5
      have H5:Hid _:=h5;clear h5;go_wp2
      go_roundw
      case rel=>exact⟨j+1,dn,by omega,by go_num,rfl,by omega,hbqa,hboxa,Hsqa,by simp;omega,by show _=_;rw[HQ.out,HG.out,zuU H5.out]⟩
      case measure=>simp[intOf];omega
    ·have hjj:j=bd.nodes.length:=by omega
     have hnil:bd.nodes.drop j=[]:=ztH (by omega);rw[hnil] at HQ;have hdl3:dn.length<=(k+1)*1048576:=by omega
     clear hjj hnil;go_wp2
     go_roundw
     case rel=>exact⟨k+1,dn,by omega,by go_num,rfl,hdl3,hbq,hboxq,Hsq,hszq,by show _=_;rw[HQ.out,Htl.out];rfl⟩
     case measure=>simp[intOf];omega
  ·have hbd:bs.drop k=[]:=ztH (by omega);go_wp2;go_ret;refine⟨zay ?_,hb⟩;rw[HS.out,hbd]
   rfl
def zek(G:Int)(bs:List zai):Bool:=
 decide (1<=bs.length/\bs.length<=2000)&&decide (0<=G/\G<=500)&&decide (zaJ bs<=5000)&&zcz G [] (zbv bs)&&match zbh bs with
  |none=>false
  |some st=>decide (zbq st<=2000)
end Go.Proofs.YthddplbodacjgaaGreatDoor
