import Derived.Test.YthdljcdbfmhleaaGreatDoorC15
namespace Go.Proofs.YthdljcdbfmhleaaGreatDoor
set_option maxHeartbeats 2000000
set_option maxRecDepth 100000
open Go.RowKit
section
variable {bs:List zaf}{st:List Int}{N:Nat}
def zaX:List zaf->Option (List Int)
 |[]=>some []
 |b::bs=>match zd5 b.nodes with
  |none=>none
  |some a=>(zaX bs).map (a :: ·)
theorem zh9(bs:List zaf)(i:Nat)(hi:i<bs.length)(bd:zaf)(h:bs.getD i .zero=bd)(hf:zd5 bd.nodes=none):zaX (bs.drop i)=none:=by
 rw[zrp hi];have:bs[i]=bd:=by rw[<-h];simp[List.getD,hi]
 rw[this,zaX,hf]
theorem zia(bs:List zaf)(i:Nat)(hi:i<bs.length)(bd:zaf)(h:bs.getD i .zero=bd)(a:Int)(hf:zd5 bd.nodes=some a):zaX (bs.drop i)=(zaX (bs.drop (i+1))).map (a :: ·):=by
 rw[zrp hi];have:bs[i]=bd:=by rw[<-h];simp[List.getD,hi]
 rw[this,zaX,hf]
theorem zib{k:Nat}{a:Int}(h1:zaX bs=(zaX (bs.drop k)).map (st ++ ·))(h2:zaX (bs.drop k)=(zaX (bs.drop (k+1))).map (a :: ·)):zaX bs=(zaX (bs.drop (k+1))).map ((st++[a]) ++ ·):=by
 rw[h1,h2];cases zaX (bs.drop (k+1))<;>simp
def zbd(st:List Int):Int:=st.foldl (fun s a=>capW (s+a)) 0
theorem zdU(st:List Int)(k:Nat)(hk:k<st.length):zbd (st.take (k+1))=capW (zbd (st.take k)+st.getD k 0):=by
 unfold zbd;rw[zr7 hk,List.foldl_append];simp[List.getD,hk]
theorem zfl{n:Int}(h:0<=n):0<=capW n/\capW n<=2001:=by unfold capW;split<;>omega
theorem zee{xs:List Value}(h:ziV N xs st):∀k,k<=st.length->0<=zbd (st.take k)/\zbd (st.take k)<=2001
 |0,_=>by simp[zbd]
 |k+1,hk=>by
  rw[zdU st k (by omega)];obtain⟨t,x,_,hp⟩:=h.2 k (by omega);have:=zaV.facts N _ _ hp;have h2:=zee h k (by omega);exact zfl (by omega)
theorem zdD{B g sc:Nat}(st:List Int)(xs:List Value)(w:World)(hown:w.ownsRow B 85 1 (.slice (some ⟨g,0,none⟩) st.length sc) st.length xs)(hparts:ziV N xs st)(hn:st.length<=2000000):
  Calls Tryz.prog 39 #[.slice (some ⟨g,0,none⟩) st.length sc] w fun e w'=>e=.returned (.int .i64 (zbd st))/\Below w.heap.size w w':=by
 go_enter Tryz.func39,Tryz.ntmps39
 go_wp2
 go_loopw [3,8] (fun s i wr=>∃k:Nat,k<=st.length/\i=.int .i64 k/\s=.int .i64 (zbd (st.take k))/\Below w.heap.size w wr)
  (fun _ i _=>st.length-(intOf i).toNat)
 case atStart=>exact⟨0,zsj _,rfl,rfl,Below.refl _ _⟩
 case round=>
  obtain⟨k,hk,rfl,rfl,hb⟩:=hrel;have hsb:=zee hparts k hk
  by_cases hlt:k<st.length
  ·obtain⟨t,x,hx,hp⟩:=hparts.2 k hlt;have hownr:=zab hown hb;have c0:wr.cell? ⟨g,k,none⟩=some (.iface t x):=(hownr.cellAt k (by omega)).trans hx;have HT:Hid _:=zdU st k hlt;obtain⟨hw,hp1,hp2⟩:=zaV.facts N _ _ hp;generalize st.getD k 0=a at *;generalize hss:zbd (st.take k)=s at *;have Hss:Hid _:=hss;have hwr:IntKind.i64.wrap (s+a)=s+a:=by rw[IntKind.wrap_i64];omega
   clear hss hx hownr
   go_wp2_with (first|(refine zbs _ rfl (.tmp 13) _ rfl _ _ rfl hw ⟨fun _ _=>by kernel_rfl,fun _ _=>by kernel_rfl,fun _ _=>by kernel_rfl,fun _ _=>by kernel_rfl,fun _ _=>by kernel_rfl⟩ ?_;intro w2 hb2)|(go_at_call 59;refine(zbA _ _).mono ?_;rintro e w4 ⟨rfl,rfl⟩))
   go_roundw
   case rel=>exact⟨k+1,by omega,by go_num,by rw[HT.out],zaa hb hb.size hb2⟩
   case measure=>simp[intOf];omega
  ·go_wp2;go_ret;exact⟨zbi (by rw[zr5 (by omega)]),hb⟩
def zaB:List zaf->Nat
 |[]=>0
 |b::bs=>b.nodes.length+zaB bs
theorem zbT(bs:List zaf)(k:Nat)(hk:k<bs.length):zaB (bs.take (k+1))=zaB (bs.take k)+(bs.getD k .zero).nodes.length:=by
 induction bs generalizing k with
 |nil=>exact absurd hk (zsg _)
 |cons b bs ih=>
  cases k with
  |zero=>simp[zaB,List.getD]
  |succ k=>
   have:=ih k (by simpa using hk);simp only[zr6,zaB,List.getD_cons_succ] at this ⊢;omega
theorem zcr(h:Small bs):∀k,k<=bs.length->zaB (bs.take k)<=k*1048576
 |0,_=>by simp[zaB]
 |k+1,hk=>by
  have h1:=zcr h k (by omega);have h2:=(h.2 k (by omega)).1;rw[zbT bs k (by omega)];omega
theorem zg7{lo:Nat}(v:Value)(bs:List zaf)(w:World)(hs:zaj lo w v bs)(hsm:Small bs):
  Calls Tryz.prog 36 #[v] w fun e w'=>e=.returned (.int .i64 (zaB bs))/\Below w.heap.size w w':=by
 obtain⟨ao,cap,rfl,hm,hc⟩:=hs;have hn:=hsm.1
 go_enter Tryz.func36,Tryz.ntmps36
 go_wp2
 go_loopw [3,8] (fun s i wr=>∃k:Nat,k<=bs.length/\i=.int .i64 k/\s=.int .i64 (zaB (bs.take k))/\Below w.heap.size w wr)
  (fun _ i _=>bs.length-(intOf i).toNat)
 case atStart=>exact⟨0,zsj _,rfl,rfl,Below.refl _ _⟩
 case round=>
  obtain⟨k,hk,rfl,rfl,hb⟩:=hrel;have hcb:=zcr hsm k hk
  by_cases hlt:k<bs.length
  ·obtain⟨b,o,nv,bd,rfl,Hn,hbl,c0,c1,c2,hnv⟩:=hc.elem hb hlt;have hnl:bd.nodes.length<=1048576:=by have:=(hsm.2 k hlt).1;rw[Hn.out] at this;exact this
   obtain⟨nao,ncp,rfl,hnm,hnc⟩:=hnv;have HT:Hid _:=zbT bs k hlt;rw[Hn.out] at HT;generalize zaB (bs.take k)=s at *;go_wp2
   go_roundw
   case rel=>exact⟨k+1,by omega,by go_num,by rw[HT.out];go_num,hb.alloc hb.size _⟩
   case measure=>simp[intOf];omega
  ·go_wp2;go_ret;exact⟨zbi (by rw[zr5 (by omega)]),hb⟩
end
def zby(f:Nat->Bool):Array Value:=((List.range 501).map fun c=>Value.bool (f c)).toArray
theorem zeZ(f:Nat->Bool):(zby f).size=501:=by simp[zby]
theorem zdR(f:Nat->Bool)(i:Nat)(h:i<501):(zby f)[i]?=some (.bool (f i)):=by simp[zby,h]
theorem zj0{f g:Nat->Bool}(h:∀c,c<501->f c=g c):zby f=zby g:=by
 unfold zby
 rw[zrP fun c hc=>by rw[h c (by simpa using hc)]]
theorem zj1(f:Nat->Bool)(i:Nat):(zby f).setIfInBounds i (.bool true)=zby (fun c=>f c || c==i):=by
 apply Array.ext_getElem?
 intro j;rw[Array.getElem?_setIfInBounds,zeZ]
 by_cases hj:j<501
 ·rw[zdR _ _ hj,zdR _ _ hj]
  by_cases e:i=j
  ·subst e;simp[hj]
  ·have e':(j==i)=false:=by simp;omega
   simp[e,e']
 ·have h1:∀g,(zby g)[j]?=none:=fun g=>zrb (by rw[zeZ];omega)
  rw[h1,h1];split<;>simp_all
def zc6(done:List Int):Nat->Bool:=fun c=>decide ((c:Int)∈done)
theorem ziE(done:List Int)(q:Nat):zby (fun c=>zc6 done c || c==q)=zby (zc6 ((q:Int)::done)):=zj0 fun c _=>by
 unfold zc6
 by_cases e:c=q
 ·subst e;simp
 ·have e':(c==q)=false:=zsk.2 e;have e2:¬(c:Int)=(q:Int):=by omega
  simp[e',e2]
theorem Tryz.zeroSeen:(Tryz.prog.info? 106).map (fun i=>(i.zero,i.size))=some (some (.agg (zby (zc6 []))),501):=by kernel_rfl
def grp:List zak->List Int
 |[]=>[]
 |n::ns=>if n.kind=5 then n.group::grp ns else grp ns
def zaT:List zaf->List Int
 |[]=>[]
 |b::bs=>grp b.nodes++zaT bs
def zbN(G:Int):List Int->List Int->Bool
 |done,[]=>((done.length:Int)==G)
 |done,g::gs=>if g<1\/G<g\/g∈done then false else zbN G (g::done) gs
theorem zox(ns:List zak)(i:Nat)(hi:i<ns.length)(nd:zak)(h:ns.getD i .zero=nd):grp (ns.drop i)=if nd.kind=5 then nd.group::grp (ns.drop (i+1)) else grp (ns.drop (i+1)):=by
 rw[zrp hi];have:ns[i]=nd:=by rw[<-h];simp[List.getD,hi]
 rw[this,grp]
theorem ziY(bs:List zaf)(i:Nat)(hi:i<bs.length)(bd:zaf)(h:bs.getD i .zero=bd):zaT (bs.drop i)=grp (bd.nodes.drop 0)++zaT (bs.drop (i+1)):=by
 rw[zrp hi];have:bs[i]=bd:=by rw[<-h];simp[List.getD,hi]
 rw[this,zaT]
 rfl
theorem zjl{lo:Nat}(G:Int)(v:Value)(bs:List zaf)(w:World)(hs:zaj lo w v bs)(hsm:Small bs)(hG0:0<=G)(hG1:G<=500):
  Calls Tryz.prog 37 #[.agg #[v,.int .i64 G]] w fun e w'=>e=.returned (.bool (zbN G [] (zaT bs)))/\Below w.heap.size w w':=by
 obtain⟨ao,cap,rfl,hm,hc⟩:=hs;have hn:=hsm.1;have hzv:=(zero_of_info Tryz.zeroSeen).1
 go_enter Tryz.func37,Tryz.ntmps37
 go_wp2
 go_loopw [4,12] (fun f i wr=>∃(k:Nat) (done:List Int),k<=bs.length/\i=.int .i64 k/\f=.int .i64 done.length/\done.length<=k*1048576/\Below w.heap.size w wr/\wr.cell? ⟨w.heap.size,1,none⟩=some (.int .i64 G)/\Hid (wr.heap[w.heap.size+1]?=some (.cells (zby (zc6 done)) 106 (0,0)))/\w.heap.size+1<wr.heap.size/\Hid (zbN G [] (zaT bs)=zbN G done (zaT (bs.drop k))))
  (fun _ i _=>bs.length-(intOf i).toNat)
 case atStart=>exact⟨0,[],zsj _,rfl,rfl,by simp,((Below.refl _ _).alloc (zsa _) _).alloc (by simp) _,by simp,heap_alloc2_new _ _ _,by simp,rfl⟩
 case round=>
  obtain⟨k,done,hk,rfl,rfl,hdl,hb,hbox,Hseen,hsz,HS⟩:=hrel
  by_cases hlt:k<bs.length
  ·obtain⟨b,o,nv,bd,rfl,Hn,hbl,k0,k1,k2,hnv⟩:=hc.elem (Below.refl _ _) hlt;have c0:=(hb.cell (p:=⟨b,o+k*3,none⟩) hbl).trans k0;have c1:=(hb.cell (p:=⟨b,o+k*3+1,none⟩) hbl).trans k1;have c2:=(hb.cell (p:=⟨b,o+k*3+2,none⟩) hbl).trans k2;clear k0 k1 k2;have hnl:bd.nodes.length<=1048576:=by have:=(hsm.2 k hlt).1;rw[Hn.out] at this;exact this
   obtain⟨nao,ncp,rfl,hnm,hnc⟩:=hnv;have HA:Hid _:=ziY bs k hlt bd Hn.out;generalize htl:zaT (bs.drop (k+1))=tl at *;have Htl:Hid _:=htl;clear htl;have hba:Below w.heap.size w (wr.alloc (.cells #[.bool bd.bol,.bool bd.eol,.slice nao bd.nodes.length ncp] 41)):=hb.alloc hb.size _;have hbox2:(wr.alloc (.cells #[.bool bd.bol,.bool bd.eol,.slice nao bd.nodes.length ncp] 41)).cell? ⟨w.heap.size,1,none⟩=some (.int .i64 G):=(World.cell?_of_block (Below.heap_alloc _ _ _ (by simp;omega))).trans hbox;have Hseen2:Hid _:=zah (ob:=.cells #[.bool bd.bol,.bool bd.eol,.slice nao bd.nodes.length ncp] 41) Hseen.out;have hWs:w.heap.size+1<(wr.alloc (.cells #[.bool bd.bol,.bool bd.eol,.slice nao bd.nodes.length ncp] 41)).heap.size:=by simp;omega
   go_wp2;generalize (wr.alloc (.cells #[.bool bd.bol,.bool bd.eol,.slice nao bd.nodes.length ncp] 41))=W at *
   go_loopw [4,19] (fun f i wq=>∃(j:Nat) (dn:List Int),j<=bd.nodes.length/\i=.int .i64 j/\f=.int .i64 dn.length/\dn.length<=k*1048576+j/\Below w.heap.size w wq/\wq.cell? ⟨w.heap.size,1,none⟩=some (.int .i64 G)/\Hid (wq.heap[w.heap.size+1]?=some (.cells (zby (zc6 dn)) 106 (0,0)))/\w.heap.size+1<wq.heap.size/\Hid (zbN G [] (zaT bs)=zbN G dn (grp (bd.nodes.drop j)++tl)))
    (fun _ i _=>bd.nodes.length-(intOf i).toNat)
   case atStart=>exact⟨0,done,zsj _,rfl,rfl,zsb hdl (Nat.le_add_right _ _),hba,hbox2,Hseen2,hWs,by show _=_;rw[HS.out,HA.out]⟩
   case round=>
    obtain⟨j,dn,hj,rfl,rfl,hdl2,hbq,hboxq,Hsq,hszq,HQ⟩:=hrel
    by_cases hlt2:j<bd.nodes.length
    ·obtain⟨b2,o2,sv,nd,rfl,Hn2,hbl2,d0,d1,d2,d3,d4,hsv⟩:=hnc.elem hbq hlt2;have HG:Hid _:=zox bd.nodes j hlt2 nd Hn2.out;obtain⟨kd,rs,mn,mx,gr⟩:=nd;simp only at d0 d2 d3 d4 hsv HG;obtain⟨sao,scp,rfl,hsm2,hsc⟩:=hsv;have hqz:=hbq.size;have hbqa:Below w.heap.size w (wr.alloc (.cells #[.int .i64 kd,.slice sao rs.length scp,.int .i64 mn,.int .i64 mx,.int .i64 gr] 72)):=hbq.alloc hqz _;have Hsqa:Hid _:=zah (ob:=.cells #[.int .i64 kd,.slice sao rs.length scp,.int .i64 mn,.int .i64 mx,.int .i64 gr] 72) Hsq.out;have hboxa:(wr.alloc (.cells #[.int .i64 kd,.slice sao rs.length scp,.int .i64 mn,.int .i64 mx,.int .i64 gr] 72)).cell? ⟨w.heap.size,1,none⟩=some (.int .i64 G):=(World.cell?_of_block (Below.heap_alloc _ _ _ (by simp;omega))).trans hboxq
     by_cases h5:kd=5
     ·subst h5;have HG2:Hid (zbN G [] (zaT bs)=if gr<1\/G<gr\/gr∈dn then false else zbN G (gr::dn) (grp (bd.nodes.drop (j+1))++tl)):=by show _=_;rw[HQ.out,HG.out,zst rfl];rfl
      by_cases g1:gr<1
      ·go_wp2;go_ret;exact⟨zam (by rw[HG2.out,zst (.inl g1)]),hbqa⟩
      by_cases g2:G<gr
      ·go_wp2;go_ret;exact⟨zam (by rw[HG2.out,zst (.inr (.inl g2))]),hbqa⟩
      obtain⟨q,rfl⟩:=Int.eq_ofNat_of_zero_le (show 0<=gr by omega);have hq:q<501:=by omega
      have s0:wr.cell? ⟨w.heap.size+1,q,none⟩=some (.bool (zc6 dn q)):=by rw[zsm _ _ _ _ _ _ Hsq.out,zdR _ _ hq]
      have fz0:wr.frozen? ⟨w.heap.size+1,q,none⟩=false:=zso _ _ _ _ _ Hsq.out
      by_cases g3:zc6 dn q=true
      ·go_wp2;go_ret;exact⟨zam (by rw[HG2.out,zst (.inr (.inr (by simpa [zc6] using g3)))]),hbqa⟩
      have g3':zc6 dn q=false:=by simpa using g3
      clear g3;go_wp2
      go_roundw
      case rel=>exact⟨j+1,(q:Int)::dn,by omega,by go_num,by simp,by simp;omega,(hbq.setCell (by simp) _).alloc (by simpa [World.setCell] using hqz) _,(World.cell?_of_block (Below.heap_alloc _ _ _ (by simp[World.setCell];omega))).trans ((World.cell?_of_block (zsq _ _ _ _ (by simp))).trans hboxq),zah (by rw[zsr _ _ _ _ _ _ Hsq.out,zj1,ziE]),by simp[World.setCell];omega,by show _=_;rw[HG2.out,zss (by rintro (h|h|h);omega;omega;simp[zc6] at g3';exact g3' h)]⟩
      case measure=>simp[intOf];omega
     ·have h5':(kd != 5)=true:=by rw[bne_iff_ne];exact h5
      have H5:Hid _:=h5;clear h5;go_wp2
      go_roundw
      case rel=>exact⟨j+1,dn,by omega,by go_num,rfl,by omega,hbqa,hboxa,Hsqa,by simp;omega,by show _=_;rw[HQ.out,HG.out,zss H5.out]⟩
      case measure=>simp[intOf];omega
    ·have hjj:j=bd.nodes.length:=by omega
     have hnil:bd.nodes.drop j=[]:=zrq (by omega);rw[hnil] at HQ;have hdl3:dn.length<=(k+1)*1048576:=by omega
     clear hjj hnil;go_wp2
     go_roundw
     case rel=>exact⟨k+1,dn,by omega,by go_num,rfl,hdl3,hbq,hboxq,Hsq,hszq,by show _=_;rw[HQ.out,Htl.out];rfl⟩
     case measure=>simp[intOf];omega
  ·have hbd:bs.drop k=[]:=zrq (by omega);go_wp2;go_ret;refine⟨zam ?_,hb⟩;rw[HS.out,hbd]
   rfl
def zc5(G:Int)(bs:List zaf):Bool:=
 decide (1<=bs.length/\bs.length<=2000)&&decide (0<=G/\G<=500)&&decide (zaB bs<=5000)&&zbN G [] (zaT bs)&&match zaX bs with
  |none=>false
  |some st=>decide (zbd st<=2000)
end Go.Proofs.YthdljcdbfmhleaaGreatDoor
