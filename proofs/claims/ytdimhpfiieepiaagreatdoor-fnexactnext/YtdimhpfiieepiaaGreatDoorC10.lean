import Derived.Test.YtdimhpfiieepiaaGreatDoorC9
namespace Go.Proofs.YtdimhpfiieepiaaGreatDoor
set_option maxHeartbeats 4000000
set_option maxRecDepth 100000
open Go.RowKit
attribute [local go_sem ↓] Go.wp_at_zero Go.wp_at_succ
theorem zrW{ns:List zaq}(h:ns.all zaB=true){k:Nat}(hk:k<ns.length):zaB (ns.getD k .zero)=true:=
 zuP.1 h _ (by
  rw[zu3,zva hk];exact zvg _)
theorem zld{n:Int}(h:2000<n):capW n=2001:=by unfold capW;split<;>omega
theorem zqT{lo:Nat}(v:Value)(ns:List zaq)(w:World)(hs:zaI lo w v ns)(hn:ns.length<=1048576)(hkb:zcA ns=true)(hall:ns.all zaB=true):
  Calls Tryz.prog 111 #[v] w fun e w'=>e=.returned (.int .i64 (wOf ns (ns.length-1)))/\Below w.heap.size w w':=by
 have hs0:=hs;obtain⟨ao,cap,rfl,hm,hc⟩:=hs;have Hall:Hid _:=hall;have Hkb:Hid _:=hkb;clear hall hkb;obtain⟨i0,hi,hz0,hz1,hz2⟩:=info_parts Tryz.infoInt
 go_enter Tryz.func111,Tryz.ntmps111
 go_wp2_with fail
 refine(zlw _ ns _ hs0 hn).mono ?_;rintro e w1 ⟨hb1,⟨hf,_⟩|⟨_,gl,cl,gr,cr,rfl,hL,hR,har⟩⟩
 ·exact absurd (hf.symm.trans Hkb.out) (by decide)
 have Har:Hid _:=har;clear har;obtain⟨hpos,hlift⟩:=zi9 ns Hkb.out Har.out Hall.out;have Hlift:Hid _:=hlift;clear hlift
 go_wp2_with (refine wpList_make_full _ rfl _ _ 23 rfl w.heap.size 3 i0 _ 1 Tryz.underlying23 hi hz0 hz1 _ _ _ _ ns.length rfl rfl rfl rfl (by rw[hz2];omega) (by unfold maxLen;omega) hb1.size ?_;intro w2 hown hgrow)
 have hbw:Below w1.heap.size w1 w2:=(Below.refl _ _).grown hgrow (zvJ _) (by intro k h;cases h);clear hgrow;have hinv:WInv w.heap.size w w2 ns gl cl gr cr w1.heap.size 0:=⟨zaa hb1 hb1.size hbw,zac hL hbw,zac hR hbw,⟨_,hown,fun j hj=>absurd hj (zvQ _)⟩,by have:=zcE hL;omega,by have:=zcE hR;omega,zvK hb1.size hbw.size⟩;clear hL hR hown;generalize w1.heap.size=g at *
 go_loopw [22] (fun i wr=>∃k:Nat,k<=ns.length/\i=.int .i64 k/\WInv w.heap.size w wr ns gl cl gr cr g k)
  (fun i _=>ns.length-(intOf i).toNat)
 case atStart=>exact⟨0,zvT _,rfl,hinv⟩
 case round=>
  clear hinv hbw hb1;obtain⟨k,hk,rfl,hinv⟩:=hrel;obtain⟨hll,hrl,hgl⟩:=hinv.lt;have hb:=hinv.below
  by_cases hlt:k<ns.length
  ·obtain⟨b,o,sv,nd,rfl,Hn,hbl,c0,c1,c2,c3,c4,hsv⟩:=hc.elem hb hlt;have hnb:zaB nd=true:=by have:=zrW Hall.out hlt;rw[Hn.out] at this;exact this
   have hbr:b<wr.heap.size:=zvL hbl hinv.base;have HarK:Hid (zaE nd.kind<=(stk ns k).length):=by have:=Har.out k hlt;unfold zat at this;rw[Hn.out] at this;exact this
   have Hkind:Hid (zat ns k=nd.kind):=by show _=_;unfold zat;rw[Hn.out]
   have HW:Hid (wOf ns k=zcT nd ((wstk ns k).drop ((wstk ns k).length-zaE nd.kind))):=by show _=_;rw[wOf,Hkind.out,Hn.out]
   have hwb:=zfl ns Har.out Hall.out (k+1) k (by omega) hlt;obtain⟨⟨u0,t0⟩,t1⟩:=hinv.cellK hlt;have tl:=hinv.cellL hlt;have tr:=hinv.cellR hlt;obtain⟨kd,rs,mn,mx,gp⟩:=nd;simp only at c0 c2 c3 c4 hsv HarK Hkind;obtain⟨sao,scp,rfl,hsm,hsc⟩:=hsv;have kk0:(0:Int)<=(k:Int):=by omega
   have kk1:(k:Int)<(ns.length:Int):=by omega
   rcases zg7 hnb with h1|h2|h3|h4|h5
   ·subst h1;go_wp2
    go_roundw
    case rel=>exact⟨k+1,by omega,by go_num,(hinv.put hlt (by rw[HW.out];rfl)).alloc _⟩
    case measure=>simp[intOf];omega
   ·subst h2;obtain⟨x,y,hx,hy,hxk,hyk,hw2⟩:=zmK (ns:=ns) (k:=k) (by rw[Hkind.out];rfl) HarK.out;have cx:=hinv.cellW hxk (by omega);have cy:=hinv.cellW hyk (by omega);have bx:=zfl ns Har.out Hall.out (x+1) x (by omega) (by omega);have hby:=zfl ns Har.out Hall.out (y+1) y (by omega) (by omega);have HSall:Hid (∀w',WInv w.heap.size w w' ns gl cl gr cr g k->w'.cell? ⟨gl,k,none⟩=some (.int .i64 (x:Int))/\w'.cell? ⟨gr,k,none⟩=some (.int .i64 (y:Int))/\w'.cell? ⟨g,x,none⟩=some (.int .i64 (wOf ns x))/\w'.cell? ⟨g,y,none⟩=some (.int .i64 (wOf ns y))):=fun w' h=>⟨(h.cellL hlt).trans (by rw[hx]),(h.cellR hlt).trans (by rw[hy]),h.cellW hxk (by omega),h.cellW hyk (by omega)⟩
    rw[hx] at tl;rw[hy] at tr;have HV:Hid (wOf ns k=capW (wOf ns x+wOf ns y)):=by
     show _=_;rw[HW.out];unfold zcT;rw[zv2 (by simp),zv3 (by simp),show zaE (zaq.kind ⟨2,rs,mn,mx,gp⟩)=2 from rfl,hw2]
     rfl
    clear hx hy hw2 hwb;generalize wOf ns x=a at *;generalize wOf ns y=b' at *;have hwr:IntKind.i64.wrap (a+b')=a+b':=by rw[IntKind.wrap_i64];omega
    have j0:(0:Int)<=(x:Int):=by omega
    have j1:(x:Int)<(ns.length:Int):=by omega
    have j2:(0:Int)<=(y:Int):=by omega
    have j3:(y:Int)<(ns.length:Int):=by omega
    by_cases hcap:2000<a+b'
    ·go_wp2
     go_region_held3 (fun w'=>w'.cell? ⟨gl,k,none⟩=some (.int .i64 (x:Int))/\w'.cell? ⟨gr,k,none⟩=some (.int .i64 (y:Int))/\w'.cell? ⟨g,x,none⟩=some (.int .i64 (a))/\w'.cell? ⟨g,y,none⟩=some (.int .i64 (b'))) ((first|exact HSall.out _ ((hinv.alloc _).drew)|exact HSall.out _ (((hinv.store _).alloc _).drew))) (fail)
     go_wp2
     go_roundw
     case rel=>exact⟨k+1,by omega,by go_num,((((hinv.store _).put hlt (by rw[HV.out,zld hcap])).alloc _).drew)⟩
     case measure=>simp[intOf];omega
    ·go_wp2
     go_region_held3 (fun w'=>w'.cell? ⟨gl,k,none⟩=some (.int .i64 (x:Int))/\w'.cell? ⟨gr,k,none⟩=some (.int .i64 (y:Int))/\w'.cell? ⟨g,x,none⟩=some (.int .i64 (a))/\w'.cell? ⟨g,y,none⟩=some (.int .i64 (b'))) ((first|exact HSall.out _ ((hinv.alloc _).drew)|exact HSall.out _ (((hinv.store _).alloc _).drew))) (fail)
     go_wp2
     go_roundw
     case rel=>exact⟨k+1,by omega,by go_num,((hinv.put hlt (by rw[HV.out,zeH (by omega)])).alloc _).drew⟩
     case measure=>simp[intOf];omega
   ·subst h3;obtain⟨x,y,hx,hy,hxk,hyk,hw2⟩:=zmK (ns:=ns) (k:=k) (by rw[Hkind.out];rfl) HarK.out;have cx:=hinv.cellW hxk (by omega);have cy:=hinv.cellW hyk (by omega);have bx:=zfl ns Har.out Hall.out (x+1) x (by omega) (by omega);have hby:=zfl ns Har.out Hall.out (y+1) y (by omega) (by omega);have HSall:Hid (∀w',WInv w.heap.size w w' ns gl cl gr cr g k->w'.cell? ⟨gl,k,none⟩=some (.int .i64 (x:Int))/\w'.cell? ⟨gr,k,none⟩=some (.int .i64 (y:Int))/\w'.cell? ⟨g,x,none⟩=some (.int .i64 (wOf ns x))/\w'.cell? ⟨g,y,none⟩=some (.int .i64 (wOf ns y))):=fun w' h=>⟨(h.cellL hlt).trans (by rw[hx]),(h.cellR hlt).trans (by rw[hy]),h.cellW hxk (by omega),h.cellW hyk (by omega)⟩
    rw[hx] at tl;rw[hy] at tr;have HV:Hid (wOf ns k=capW (wOf ns x+wOf ns y)):=by
     show _=_;rw[HW.out];unfold zcT;rw[zv2 (by simp),zv3 (by simp),show zaE (zaq.kind ⟨3,rs,mn,mx,gp⟩)=2 from rfl,hw2]
     rfl
    clear hx hy hw2 hwb;generalize wOf ns x=a at *;generalize wOf ns y=b' at *;have hwr:IntKind.i64.wrap (a+b')=a+b':=by rw[IntKind.wrap_i64];omega
    have j0:(0:Int)<=(x:Int):=by omega
    have j1:(x:Int)<(ns.length:Int):=by omega
    have j2:(0:Int)<=(y:Int):=by omega
    have j3:(y:Int)<(ns.length:Int):=by omega
    by_cases hcap:2000<a+b'
    ·go_wp2
     go_region_held3 (fun w'=>w'.cell? ⟨gl,k,none⟩=some (.int .i64 (x:Int))/\w'.cell? ⟨gr,k,none⟩=some (.int .i64 (y:Int))/\w'.cell? ⟨g,x,none⟩=some (.int .i64 (a))/\w'.cell? ⟨g,y,none⟩=some (.int .i64 (b'))) ((first|exact HSall.out _ ((hinv.alloc _).drew)|exact HSall.out _ (((hinv.store _).alloc _).drew))) (fail)
     go_wp2
     go_roundw
     case rel=>exact⟨k+1,by omega,by go_num,((((hinv.store _).put hlt (by rw[HV.out,zld hcap])).alloc _).drew)⟩
     case measure=>simp[intOf];omega
    ·go_wp2
     go_region_held3 (fun w'=>w'.cell? ⟨gl,k,none⟩=some (.int .i64 (x:Int))/\w'.cell? ⟨gr,k,none⟩=some (.int .i64 (y:Int))/\w'.cell? ⟨g,x,none⟩=some (.int .i64 (a))/\w'.cell? ⟨g,y,none⟩=some (.int .i64 (b'))) ((first|exact HSall.out _ ((hinv.alloc _).drew)|exact HSall.out _ (((hinv.store _).alloc _).drew))) (fail)
     go_wp2
     go_roundw
     case rel=>exact⟨k+1,by omega,by go_num,((hinv.put hlt (by rw[HV.out,zeH (by omega)])).alloc _).drew⟩
     case measure=>simp[intOf];omega
   ·subst h4;obtain⟨x,hx,hxk,hw2⟩:=zmJ (ns:=ns) (k:=k) (by rw[Hkind.out];rfl) HarK.out;have cx:=hinv.cellW hxk (by omega);have bx:=zfl ns Har.out Hall.out (x+1) x (by omega) (by omega);have HSall:Hid (∀w',WInv w.heap.size w w' ns gl cl gr cr g k->w'.cell? ⟨gl,k,none⟩=some (.int .i64 (x:Int))/\w'.cell? ⟨g,x,none⟩=some (.int .i64 (wOf ns x))):=fun w' h=>⟨(h.cellL hlt).trans (by rw[hx]),h.cellW hxk (by omega)⟩
    rw[hx] at tl;have hbd:=(zg6 hnb).2.1;have hmn:0<=mn/\mn<=255:=by simp[zaM] at hbd;omega
    have hcb:=zcZ hbd;have hm0:1*1<=wOf ns x*zaV mn mx:=Int.mul_le_mul bx.1 hcb.1 (by omega) (by omega);have hm1:wOf ns x*zaV mn mx<=2001*256:=Int.mul_le_mul bx.2 hcb.2 (by omega) (by omega);have HV:Hid (wOf ns k=capW (wOf ns x*zaV mn mx)):=by
     show _=_;rw[HW.out];unfold zcT;rw[zv2 (by simp),zv2 (by simp),zv3 (by simp),show zaE (zaq.kind ⟨4,rs,mn,mx,gp⟩)=1 from rfl,hw2]
    clear hx hw2 hwb hbd hnb;generalize wOf ns x=a at *;have hwr:IntKind.i64.wrap (a*zaV mn mx)=a*zaV mn mx:=by rw[IntKind.wrap_i64];omega
    have hw64:wrap64 (a*zaV mn mx)=a*zaV mn mx:=by unfold wrap64;omega
    have j0:(0:Int)<=(x:Int):=by omega
    have j1:(x:Int)<(ns.length:Int):=by omega
    have hW1:=(hinv.alloc (.cells #[.int .i64 4,.slice sao rs.length scp,.int .i64 mn,.int .i64 mx,.int .i64 gp] 149)).drew;have hNode:∀w',Below (wr.alloc (.cells #[.int .i64 4,.slice sao rs.length scp,.int .i64 mn,.int .i64 mx,.int .i64 gp] 149)).drew.heap.size (wr.alloc (.cells #[.int .i64 4,.slice sao rs.length scp,.int .i64 mn,.int .i64 mx,.int .i64 gp] 149)).drew w'->w'.cell? ⟨wr.heap.size,0,none⟩=some (.int .i64 4)/\w'.cell? ⟨wr.heap.size,1,none⟩=some (.slice sao rs.length scp)/\w'.cell? ⟨wr.heap.size,2,none⟩=some (.int .i64 mn)/\w'.cell? ⟨wr.heap.size,3,none⟩=some (.int .i64 mx)/\w'.cell? ⟨wr.heap.size,4,none⟩=some (.int .i64 gp):=fun w' h=>⟨(h.cell (by simp)).trans (by simp),(h.cell (by simp)).trans (by simp),(h.cell (by simp)).trans (by simp),(h.cell (by simp)).trans (by simp),(h.cell (by simp)).trans (by simp)⟩
    have HNode:Hid _:=hNode;clear hNode;have hgne:¬g=wr.heap.size:=by omega
    by_cases hcap:2000<a*zaV mn mx
    all_goals
     go_wp2
     go_region_held3 (fun w'=>w'.cell? ⟨gl,k,none⟩=some (.int .i64 (x:Int))/\w'.cell? ⟨g,x,none⟩=some (.int .i64 (a))/\w'.cell? ⟨wr.heap.size,0,none⟩=some (.int .i64 4)/\w'.cell? ⟨wr.heap.size,1,none⟩=some (.slice sao rs.length scp)/\w'.cell? ⟨wr.heap.size,2,none⟩=some (.int .i64 mn)/\w'.cell? ⟨wr.heap.size,3,none⟩=some (.int .i64 mx)/\w'.cell? ⟨wr.heap.size,4,none⟩=some (.int .i64 gp)) ((first|exact⟨(HSall.out _ hW1).1,(HSall.out _ hW1).2,HNode.out _ (Below.refl _ _)⟩|exact⟨(HSall.out _ (hW1.same hb5)).1,(HSall.out _ (hW1.same hb5)).2,HNode.out _ hb5⟩|exact⟨(HSall.out _ ((hW1.same hb5).store _)).1,(HSall.out _ ((hW1.same hb5).store _)).2,(World.cell?_of_block (zv0 _ _ _ _ (fun e=>hgne e.symm))).trans (HNode.out _ hb5).1,(World.cell?_of_block (zv0 _ _ _ _ (fun e=>hgne e.symm))).trans (HNode.out _ hb5).2.1,(World.cell?_of_block (zv0 _ _ _ _ (fun e=>hgne e.symm))).trans (HNode.out _ hb5).2.2.1,(World.cell?_of_block (zv0 _ _ _ _ (fun e=>hgne e.symm))).trans (HNode.out _ hb5).2.2.2.1,(World.cell?_of_block (zv0 _ _ _ _ (fun e=>hgne e.symm))).trans (HNode.out _ hb5).2.2.2.2⟩)) ((go_at_call 135;refine(zo0 _ _ _ _ _ _ hmn.1 hmn.2).mono ?_;rintro e w5 ⟨rfl,hb5⟩;obtain⟨⟨u5,t5⟩,t6⟩:=(hW1.same hb5).cellK hlt))
     go_wp2
     go_roundw
     case rel=>
      first
       |exact⟨k+1,by omega,by go_num,((hW1.same hb5).store _).put hlt (by rw[HV.out,zld hcap])⟩
       |exact⟨k+1,by omega,by go_num,(hW1.same hb5).put hlt (by rw[HV.out,zeH (by omega)])⟩
     case measure=>simp[intOf];omega
   ·subst h5;obtain⟨x,hx,hxk,hw2⟩:=zmJ (ns:=ns) (k:=k) (by rw[Hkind.out];rfl) HarK.out;have cx:=hinv.cellW hxk (by omega);have bx:=zfl ns Har.out Hall.out (x+1) x (by omega) (by omega);have HSall:Hid (∀w',WInv w.heap.size w w' ns gl cl gr cr g k->w'.cell? ⟨gl,k,none⟩=some (.int .i64 (x:Int))/\w'.cell? ⟨g,x,none⟩=some (.int .i64 (wOf ns x))):=fun w' h=>⟨(h.cellL hlt).trans (by rw[hx]),h.cellW hxk (by omega)⟩
    rw[hx] at tl;have HV:Hid (wOf ns k=wOf ns x):=by
     show _=_;rw[HW.out];unfold zcT;rw[zv2 (by simp),zv2 (by simp),zv2 (by simp),show zaE (zaq.kind ⟨5,rs,mn,mx,gp⟩)=1 from rfl,hw2]
    clear hx hw2 hwb HSall;generalize wOf ns x=a at *;have j0:(0:Int)<=(x:Int):=by omega
    have j1:(x:Int)<(ns.length:Int):=by omega
    by_cases hcap:2000<a
    ·go_wp2
     go_roundw
     case rel=>exact⟨k+1,by omega,by go_num,((hinv.store _).put hlt (by rw[HV.out];omega)).alloc _⟩
     case measure=>simp[intOf];omega
    ·go_wp2
     go_roundw
     case rel=>exact⟨k+1,by omega,by go_num,(hinv.put hlt HV.out.symm).alloc _⟩
     case measure=>simp[intOf];omega
  ·have hkk:k=ns.length:=by omega
   obtain⟨m,hmm⟩:∃m,ns.length=m+1:=⟨ns.length-1,by omega⟩;have cl':=hinv.cellW (show m<k by omega) (by omega);have Hm:Hid _:=hmm;have HR:Hid (wOf ns m=wOf ns (ns.length-1)):=by show _=_;rw[hmm];rfl
   have hkm:¬((k:Int)<(m:Int)+1):=by omega
   rw[hmm];clear hkk;go_wp2;go_ret;exact⟨zaR (by rw[HR.out,Hm.out]),hb⟩
end Go.Proofs.YtdimhpfiieepiaaGreatDoor
