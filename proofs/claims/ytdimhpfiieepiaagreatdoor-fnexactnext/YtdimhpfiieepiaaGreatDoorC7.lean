import Derived.Test.YtdimhpfiieepiaaGreatDoorC6
namespace Go.Proofs.YtdimhpfiieepiaaGreatDoor
set_option maxHeartbeats 2000000
set_option maxRecDepth 100000
open Go.RowKit
section
variable{bs:List zah}{st:List Int}{N:Nat}
def za8:List zah->Option (List Int)
 |[]=>some []
 |b::bs=>match ze8 b.nodes with
  |none=>none
  |some a=>(za8 bs).map (a :: ·)
theorem zj9(bs:List zah)(i:Nat)(hi:i<bs.length)(bd:zah)(h:bs.getD i .zero=bd)(hf:ze8 bd.nodes=none):za8 (bs.drop i)=none:=by
 rw[zuV hi];have:bs[i]=bd:=by rw[<-h];simp[List.getD,hi]
 rw[this,za8,hf]
theorem zka(bs:List zah)(i:Nat)(hi:i<bs.length)(bd:zah)(h:bs.getD i .zero=bd)(a:Int)(hf:ze8 bd.nodes=some a):za8 (bs.drop i)=(za8 (bs.drop (i+1))).map (a :: ·):=by
 rw[zuV hi];have:bs[i]=bd:=by rw[<-h];simp[List.getD,hi]
 rw[this,za8,hf]
theorem zkb{k:Nat}{a:Int}(h1:za8 bs=(za8 (bs.drop k)).map (st ++ ·))(h2:za8 (bs.drop k)=(za8 (bs.drop (k+1))).map (a :: ·)):za8 bs=(za8 (bs.drop (k+1))).map ((st++[a]) ++ ·):=by
 rw[h1,h2];cases za8 (bs.drop (k+1))<;>simp
def zbo(st:List Int):Int:=st.foldl (fun s a=>capW (s+a)) 0
theorem zeR(st:List Int)(k:Nat)(hk:k<st.length):zbo (st.take (k+1))=capW (zbo (st.take k)+st.getD k 0):=by
 unfold zbo;rw[zvE hk,List.foldl_append];simp[List.getD,hk]
theorem zgD{n:Int}(h:0<=n):0<=capW n/\capW n<=2001:=by unfold capW;split<;>omega
theorem zeg{xs:List Value}(h:znm N xs st):∀k,k<=st.length->0<=zbo (st.take k)/\zbo (st.take k)<=2001
 |0,_=>by simp[zbo]
 |k+1,hk=>by
  rw[zeR st k (by omega)];obtain⟨t,x,_,hp⟩:=h.2 k (by omega);have:=zbd.facts N _ _ hp;have h2:=zeg h k (by omega);exact zgD (by omega)
theorem zdq{B g sc:Nat}(st:List Int)(xs:List Value)(w:World)(hown:w.ownsRow B 184 1 (.slice (some ⟨g,0,none⟩) st.length sc) st.length xs)(hparts:znm N xs st)(hn:st.length<=2000000):
  Calls Tryz.prog 97 #[.slice (some ⟨g,0,none⟩) st.length sc] w fun e w'=>e=.returned (.int .i64 (zbo st))/\Below w.heap.size w w':=by
 go_enter Tryz.func97,Tryz.ntmps97
 go_wp2
 go_loopw [3,8] (fun s i wr=>∃k:Nat,k<=st.length/\i=.int .i64 k/\s=.int .i64 (zbo (st.take k))/\Below w.heap.size w wr)
  (fun _ i _=>st.length-(intOf i).toNat)
 case atStart=>exact⟨0,zvT _,rfl,rfl,Below.refl _ _⟩
 case round=>
  obtain⟨k,hk,rfl,rfl,hb⟩:=hrel;have hsb:=zeg hparts k hk
  by_cases hlt:k<st.length
  ·obtain⟨t,x,hx,hp⟩:=hparts.2 k hlt;have hownr:=zac hown hb;have c0:wr.cell? ⟨g,k,none⟩=some (.iface t x):=(hownr.cellAt k (by omega)).trans hx;have HT:Hid _:=zeR st k hlt;obtain⟨hw,hp1,hp2⟩:=zbd.facts N _ _ hp;generalize st.getD k 0=a at *;generalize hss:zbo (st.take k)=s at *;have Hss:Hid _:=hss;have hwr:IntKind.i64.wrap (s+a)=s+a:=by rw[IntKind.wrap_i64];omega
   clear hss hx hownr
   go_wp2_with (first|(refine zbQ _ rfl (.tmp 13) _ rfl _ _ rfl hw ⟨fun _ _=>by kernel_rfl,fun _ _=>by kernel_rfl,fun _ _=>by kernel_rfl,fun _ _=>by kernel_rfl,fun _ _=>by kernel_rfl⟩ ?_;intro w2 hb2)|(go_at_call 121;refine(zb5 _ _).mono ?_;rintro e w4 ⟨rfl,rfl⟩))
   go_roundw
   case rel=>exact⟨k+1,by omega,by go_num,by rw[HT.out],zaa hb hb.size hb2⟩
   case measure=>simp[intOf];omega
  ·go_wp2;go_ret;exact⟨zaR (by rw[zvC (by omega)]),hb⟩
def zaF:List zah->Nat
 |[]=>0
 |b::bs=>b.nodes.length+zaF bs
theorem zcv(bs:List zah)(k:Nat)(hk:k<bs.length):zaF (bs.take (k+1))=zaF (bs.take k)+(bs.getD k .zero).nodes.length:=by
 induction bs generalizing k with
 |nil=>exact absurd hk (zvQ _)
 |cons b bs ih=>
  cases k with
  |zero=>simp[zaF,List.getD]
  |succ k=>
   have:=ih k (by simpa using hk);simp only[zvD,zaF,List.getD_cons_succ] at this ⊢;omega
theorem zdi(h:Small bs):∀k,k<=bs.length->zaF (bs.take k)<=k*1048576
 |0,_=>by simp[zaF]
 |k+1,hk=>by
  have h1:=zdi h k (by omega);have h2:=(h.2 k (by omega)).1;rw[zcv bs k (by omega)];omega
theorem ziT{lo:Nat}(v:Value)(bs:List zah)(w:World)(hs:zao lo w v bs)(hsm:Small bs):
  Calls Tryz.prog 118 #[v] w fun e w'=>e=.returned (.int .i64 (zaF bs))/\Below w.heap.size w w':=by
 obtain⟨ao,cap,rfl,hm,hc⟩:=hs;have hn:=hsm.1
 go_enter Tryz.func118,Tryz.ntmps118
 go_wp2
 go_loopw [3,8] (fun s i wr=>∃k:Nat,k<=bs.length/\i=.int .i64 k/\s=.int .i64 (zaF (bs.take k))/\Below w.heap.size w wr)
  (fun _ i _=>bs.length-(intOf i).toNat)
 case atStart=>exact⟨0,zvT _,rfl,rfl,Below.refl _ _⟩
 case round=>
  obtain⟨k,hk,rfl,rfl,hb⟩:=hrel;have hcb:=zdi hsm k hk
  by_cases hlt:k<bs.length
  ·obtain⟨b,o,nv,bd,rfl,Hn,hbl,c0,c1,c2,hnv⟩:=hc.elem hb hlt;have hnl:bd.nodes.length<=1048576:=by have:=(hsm.2 k hlt).1;rw[Hn.out] at this;exact this
   obtain⟨nao,ncp,rfl,hnm,hnc⟩:=hnv;have HT:Hid _:=zcv bs k hlt;rw[Hn.out] at HT;generalize zaF (bs.take k)=s at *;go_wp2
   go_roundw
   case rel=>exact⟨k+1,by omega,by go_num,by rw[HT.out];go_num,hb.alloc hb.size _⟩
   case measure=>simp[intOf];omega
  ·go_wp2;go_ret;exact⟨zaR (by rw[zvC (by omega)]),hb⟩
end
def zb2(f:Nat->Bool):Array Value:=((List.range 501).map fun c=>Value.bool (f c)).toArray
theorem zge(f:Nat->Bool):(zb2 f).size=501:=by simp[zb2]
theorem zeP(f:Nat->Bool)(i:Nat)(h:i<501):(zb2 f)[i]?=some (.bool (f i)):=by simp[zb2,h]
theorem zma{f g:Nat->Bool}(h:∀c,c<501->f c=g c):zb2 f=zb2 g:=by
 unfold zb2;rw[zvm fun c hc=>by rw[h c (by simpa using hc)]]
theorem zmb(f:Nat->Bool)(i:Nat):(zb2 f).setIfInBounds i (.bool true)=zb2 (fun c=>f c || c==i):=by
 apply Array.ext_getElem?
 intro j;rw[Array.getElem?_setIfInBounds,zge]
 by_cases hj:j<501
 ·rw[zeP _ _ hj,zeP _ _ hj]
  by_cases e:i=j
  ·subst e;simp[hj]
  ·have e':(j==i)=false:=by simp;omega
   simp[e,e']
 ·have h1:∀g,(zb2 g)[j]?=none:=fun g=>zuG (by rw[zge];omega)
  rw[h1,h1];split<;>simp_all
def zdZ(done:List Int):Nat->Bool:=fun c=>decide ((c:Int)∈done)
theorem zkD(done:List Int)(q:Nat):zb2 (fun c=>zdZ done c || c==q)=zb2 (zdZ ((q:Int)::done)):=zma fun c _=>by
 unfold zdZ
 by_cases e:c=q
 ·subst e;simp
 ·have e':(c==q)=false:=zvU.2 e;have e2:¬(c:Int)=(q:Int):=by omega
  simp[e',e2]
theorem Tryz.zeroSeen:(Tryz.prog.info? 215).map (fun i=>(i.zero,i.size))=some (some (.agg (zb2 (zdZ []))),501):=by kernel_rfl
def grp:List zaq->List Int
 |[]=>[]
 |n::ns=>if n.kind=5 then n.group::grp ns else grp ns
def zba:List zah->List Int
 |[]=>[]
 |b::bs=>grp b.nodes++zba bs
def zcj(G:Int):List Int->List Int->Bool
 |done,[]=>((done.length:Int)==G)
 |done,g::gs=>if g<1\/G<g\/g∈done then false else zcj G (g::done) gs
theorem zrt(ns:List zaq)(i:Nat)(hi:i<ns.length)(nd:zaq)(h:ns.getD i .zero=nd):grp (ns.drop i)=if nd.kind=5 then nd.group::grp (ns.drop (i+1)) else grp (ns.drop (i+1)):=by
 rw[zuV hi];have:ns[i]=nd:=by rw[<-h];simp[List.getD,hi]
 rw[this,grp]
theorem zk6(bs:List zah)(i:Nat)(hi:i<bs.length)(bd:zah)(h:bs.getD i .zero=bd):zba (bs.drop i)=grp (bd.nodes.drop 0)++zba (bs.drop (i+1)):=by
 rw[zuV hi];have:bs[i]=bd:=by rw[<-h];simp[List.getD,hi]
 rw[this,zba]
 rfl
theorem zls{lo:Nat}(G:Int)(v:Value)(bs:List zah)(w:World)(hs:zao lo w v bs)(hsm:Small bs)(hG0:0<=G)(hG1:G<=500):
  Calls Tryz.prog 119 #[.agg #[v,.int .i64 G]] w fun e w'=>e=.returned (.bool (zcj G [] (zba bs)))/\Below w.heap.size w w':=by
 obtain⟨ao,cap,rfl,hm,hc⟩:=hs;have hn:=hsm.1;have hzv:=(zero_of_info Tryz.zeroSeen).1
 go_enter Tryz.func119,Tryz.ntmps119
 go_wp2
 go_loopw [4,12] (fun f i wr=>∃(k:Nat) (done:List Int),k<=bs.length/\i=.int .i64 k/\f=.int .i64 done.length/\done.length<=k*1048576/\Below w.heap.size w wr/\wr.cell? ⟨w.heap.size,1,none⟩=some (.int .i64 G)/\Hid (wr.heap[w.heap.size+1]?=some (.cells (zb2 (zdZ done)) 215 (0,0)))/\w.heap.size+1<wr.heap.size/\Hid (zcj G [] (zba bs)=zcj G done (zba (bs.drop k))))
  (fun _ i _=>bs.length-(intOf i).toNat)
 case atStart=>exact⟨0,[],zvT _,rfl,rfl,by simp,((Below.refl _ _).alloc (zvJ _) _).alloc (by simp) _,by simp,heap_alloc2_new _ _ _,by simp,rfl⟩
 case round=>
  obtain⟨k,done,hk,rfl,rfl,hdl,hb,hbox,Hseen,hsz,HS⟩:=hrel
  by_cases hlt:k<bs.length
  ·obtain⟨b,o,nv,bd,rfl,Hn,hbl,k0,k1,k2,hnv⟩:=hc.elem (Below.refl _ _) hlt;have c0:=(hb.cell (p:=⟨b,o+k*3,none⟩) hbl).trans k0;have c1:=(hb.cell (p:=⟨b,o+k*3+1,none⟩) hbl).trans k1;have c2:=(hb.cell (p:=⟨b,o+k*3+2,none⟩) hbl).trans k2;clear k0 k1 k2;have hnl:bd.nodes.length<=1048576:=by have:=(hsm.2 k hlt).1;rw[Hn.out] at this;exact this
   obtain⟨nao,ncp,rfl,hnm,hnc⟩:=hnv;have HA:Hid _:=zk6 bs k hlt bd Hn.out;generalize htl:zba (bs.drop (k+1))=tl at *;have Htl:Hid _:=htl;clear htl;have hba:Below w.heap.size w (wr.alloc (.cells #[.bool bd.bol,.bool bd.eol,.slice nao bd.nodes.length ncp] 115)):=hb.alloc hb.size _;have hbox2:(wr.alloc (.cells #[.bool bd.bol,.bool bd.eol,.slice nao bd.nodes.length ncp] 115)).cell? ⟨w.heap.size,1,none⟩=some (.int .i64 G):=(World.cell?_of_block (Below.heap_alloc _ _ _ (by simp;omega))).trans hbox;have Hseen2:Hid _:=zak (ob:=.cells #[.bool bd.bol,.bool bd.eol,.slice nao bd.nodes.length ncp] 115) Hseen.out;have hWs:w.heap.size+1<(wr.alloc (.cells #[.bool bd.bol,.bool bd.eol,.slice nao bd.nodes.length ncp] 115)).heap.size:=by simp;omega
   go_wp2;generalize (wr.alloc (.cells #[.bool bd.bol,.bool bd.eol,.slice nao bd.nodes.length ncp] 115))=W at *
   go_loopw [4,19] (fun f i wq=>∃(j:Nat) (dn:List Int),j<=bd.nodes.length/\i=.int .i64 j/\f=.int .i64 dn.length/\dn.length<=k*1048576+j/\Below w.heap.size w wq/\wq.cell? ⟨w.heap.size,1,none⟩=some (.int .i64 G)/\Hid (wq.heap[w.heap.size+1]?=some (.cells (zb2 (zdZ dn)) 215 (0,0)))/\w.heap.size+1<wq.heap.size/\Hid (zcj G [] (zba bs)=zcj G dn (grp (bd.nodes.drop j)++tl)))
    (fun _ i _=>bd.nodes.length-(intOf i).toNat)
   case atStart=>exact⟨0,done,zvT _,rfl,rfl,zvK hdl (Nat.le_add_right _ _),hba,hbox2,Hseen2,hWs,by show _=_;rw[HS.out,HA.out]⟩
   case round=>
    obtain⟨j,dn,hj,rfl,rfl,hdl2,hbq,hboxq,Hsq,hszq,HQ⟩:=hrel
    by_cases hlt2:j<bd.nodes.length
    ·obtain⟨b2,o2,sv,nd,rfl,Hn2,hbl2,d0,d1,d2,d3,d4,hsv⟩:=hnc.elem hbq hlt2;have HG:Hid _:=zrt bd.nodes j hlt2 nd Hn2.out;obtain⟨kd,rs,mn,mx,gr⟩:=nd;simp only at d0 d2 d3 d4 hsv HG;obtain⟨sao,scp,rfl,hsm2,hsc⟩:=hsv;have hqz:=hbq.size;have hbqa:Below w.heap.size w (wr.alloc (.cells #[.int .i64 kd,.slice sao rs.length scp,.int .i64 mn,.int .i64 mx,.int .i64 gr] 149)):=hbq.alloc hqz _;have Hsqa:Hid _:=zak (ob:=.cells #[.int .i64 kd,.slice sao rs.length scp,.int .i64 mn,.int .i64 mx,.int .i64 gr] 149) Hsq.out;have hboxa:(wr.alloc (.cells #[.int .i64 kd,.slice sao rs.length scp,.int .i64 mn,.int .i64 mx,.int .i64 gr] 149)).cell? ⟨w.heap.size,1,none⟩=some (.int .i64 G):=(World.cell?_of_block (Below.heap_alloc _ _ _ (by simp;omega))).trans hboxq
     by_cases h5:kd=5
     ·subst h5;have HG2:Hid (zcj G [] (zba bs)=if gr<1\/G<gr\/gr∈dn then false else zcj G (gr::dn) (grp (bd.nodes.drop (j+1))++tl)):=by show _=_;rw[HQ.out,HG.out,zv3 rfl];rfl
      by_cases g1:gr<1
      ·go_wp2;go_ret;exact⟨zae (by rw[HG2.out,zv3 (.inl g1)]),hbqa⟩
      by_cases g2:G<gr
      ·go_wp2;go_ret;exact⟨zae (by rw[HG2.out,zv3 (.inr (.inl g2))]),hbqa⟩
      obtain⟨q,rfl⟩:=Int.eq_ofNat_of_zero_le (show 0<=gr by omega);have hq:q<501:=by omega
      have s0:wr.cell? ⟨w.heap.size+1,q,none⟩=some (.bool (zdZ dn q)):=by rw[zvW _ _ _ _ _ _ Hsq.out,zeP _ _ hq]
      have fz0:wr.frozen? ⟨w.heap.size+1,q,none⟩=false:=zvY _ _ _ _ _ Hsq.out
      by_cases g3:zdZ dn q=true
      ·go_wp2;go_ret;exact⟨zae (by rw[HG2.out,zv3 (.inr (.inr (by simpa [zdZ] using g3)))]),hbqa⟩
      have g3':zdZ dn q=false:=by simpa using g3
      clear g3;go_wp2
      go_roundw
      case rel=>exact⟨j+1,(q:Int)::dn,by omega,by go_num,by simp,by simp;omega,(hbq.setCell (by simp) _).alloc (by simpa [World.setCell] using hqz) _,(World.cell?_of_block (Below.heap_alloc _ _ _ (by simp[World.setCell];omega))).trans ((World.cell?_of_block (zv0 _ _ _ _ (by simp))).trans hboxq),zak (by rw[zv1 _ _ _ _ _ _ Hsq.out,zmb,zkD]),by simp[World.setCell];omega,by show _=_;rw[HG2.out,zv2 (by rintro (h|h|h);omega;omega;simp[zdZ] at g3';exact g3' h)]⟩
      case measure=>simp[intOf];omega
     ·have h5':(kd != 5)=true:=by rw[bne_iff_ne];exact h5
      have H5:Hid _:=h5;clear h5;go_wp2
      go_roundw
      case rel=>exact⟨j+1,dn,by omega,by go_num,rfl,by omega,hbqa,hboxa,Hsqa,by simp;omega,by show _=_;rw[HQ.out,HG.out,zv2 H5.out]⟩
      case measure=>simp[intOf];omega
    ·have hjj:j=bd.nodes.length:=by omega
     have hnil:bd.nodes.drop j=[]:=zuW (by omega);rw[hnil] at HQ;have hdl3:dn.length<=(k+1)*1048576:=by omega
     clear hjj hnil;go_wp2
     go_roundw
     case rel=>exact⟨k+1,dn,by omega,by go_num,rfl,hdl3,hbq,hboxq,Hsq,hszq,by show _=_;rw[HQ.out,Htl.out];rfl⟩
     case measure=>simp[intOf];omega
  ·have hbd:bs.drop k=[]:=zuW (by omega);go_wp2;go_ret;refine⟨zae ?_,hb⟩;rw[HS.out,hbd]
   rfl
def zdY(G:Int)(bs:List zah):Bool:=
 decide (1<=bs.length/\bs.length<=2000)&&decide (0<=G/\G<=500)&&decide (zaF bs<=5000)&&zcj G [] (zba bs)&&match za8 bs with
  |none=>false
  |some st=>decide (zbo st<=2000)
end Go.Proofs.YtdimhpfiieepiaaGreatDoor
