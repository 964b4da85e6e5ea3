import Derived.Test.YthdljcdbfmhleaaGreatDoorC0
import Derived.Deep.RegionHeld3
import Derived.Deep.DrawnRows
import Derived.Deep.AppendLies
namespace Go.Proofs.YthdljcdbfmhleaaGreatDoor
set_option maxHeartbeats 400000
set_option maxRecDepth 100000
open Go.RowKit
section
variable {lo lo':Nat}{w w' wr:World}{v:Value}{rs:List (Int×Int)}{ao:Option Addr}
structure zak where
 kind:Int
 set:List (Int×Int)
 min:Int
 max:Int
 group:Int
structure zaf where
 bol:Bool
 eol:Bool
 nodes:List zak
def zak.zero:zak:=⟨0,[],0,0,0⟩
def zaf.zero:zaf:=⟨false,false,[]⟩
def zen(lo:Nat)(w:World)(ao:Option Addr)(rs:List (Int×Int)):Prop:=
 0<rs.length->∃b o,ao=some ⟨b,o,none⟩/\lo<=b/\b<w.heap.size/\
  ∀i,i<rs.length->w.cell? ⟨b,o+i*2,none⟩=some (.int .i64 (rs.getD i (0,0)).1)/\w.cell? ⟨b,o+i*2+1,none⟩=some (.int .i64 (rs.getD i (0,0)).2)
def zag(lo:Nat)(w:World)(v:Value)(rs:List (Int×Int)):Prop:=∃ao cap,v=.slice ao rs.length cap/\rs.length<=9223372036854775807/\zen lo w ao rs
def zff(lo:Nat)(w:World)(ao:Option Addr)(ns:List zak):Prop:=
 0<ns.length->∃b o,ao=some ⟨b,o,none⟩/\lo<=b/\b<w.heap.size/\
  ∀i,i<ns.length->w.cell? ⟨b,o+i*5,none⟩=some (.int .i64 (ns.getD i .zero).kind)/\
   (∃sv,w.cell? ⟨b,o+i*5+1,none⟩=some sv/\zag lo w sv (ns.getD i .zero).set)/\
   w.cell? ⟨b,o+i*5+2,none⟩=some (.int .i64 (ns.getD i .zero).min)/\w.cell? ⟨b,o+i*5+3,none⟩=some (.int .i64 (ns.getD i .zero).max)/\
   w.cell? ⟨b,o+i*5+4,none⟩=some (.int .i64 (ns.getD i .zero).group)
def zas(lo:Nat)(w:World)(v:Value)(ns:List zak):Prop:=∃ao cap,v=.slice ao ns.length cap/\ns.length<=9223372036854775807/\zff lo w ao ns
def zdF(lo:Nat)(w:World)(ao:Option Addr)(bs:List zaf):Prop:=
 0<bs.length->∃b o,ao=some ⟨b,o,none⟩/\lo<=b/\b<w.heap.size/\
  ∀i,i<bs.length->w.cell? ⟨b,o+i*3,none⟩=some (.bool (bs.getD i .zero).bol)/\w.cell? ⟨b,o+i*3+1,none⟩=some (.bool (bs.getD i .zero).eol)/\
   (∃nv,w.cell? ⟨b,o+i*3+2,none⟩=some nv/\zas lo w nv (bs.getD i .zero).nodes)
def zaj(lo:Nat)(w:World)(v:Value)(bs:List zaf):Prop:=∃ao cap,v=.slice ao bs.length cap/\bs.length<=9223372036854775807/\zdF lo w ao bs
theorem zag.same(h:zag lo w v rs)(hb:Same lo w w'):zag lo w' v rs:=by
 obtain⟨ao,cap,rfl,hm,h⟩:=h;refine⟨ao,cap,rfl,hm,fun h0=>?_⟩;obtain⟨b,o,rfl,hge,hlt,hc⟩:=h h0;refine⟨b,o,rfl,hge,zsc hlt hb.size,fun i hi=>?_⟩;obtain⟨c0,c1⟩:=hc i hi;exact⟨(hb.cell (by exact hge) (by exact hlt)).trans c0,(hb.cell (by exact hge) (by exact hlt)).trans c1⟩
theorem zas.same{ns:List zak}(h:zas lo w v ns)(hb:Same lo w w'):zas lo w' v ns:=by
 obtain⟨ao,cap,rfl,hm,h⟩:=h;refine⟨ao,cap,rfl,hm,fun h0=>?_⟩;obtain⟨b,o,rfl,hge,hlt,hc⟩:=h h0;refine⟨b,o,rfl,hge,zsc hlt hb.size,fun i hi=>?_⟩;obtain⟨c0,⟨sv,c1,hs⟩,c2,c3,c4⟩:=hc i hi;have hcell:∀off,w'.cell? ⟨b,off,none⟩=w.cell? ⟨b,off,none⟩:=fun off=>hb.cell (by exact hge) (by exact hlt)
 exact⟨(hcell _).trans c0,⟨sv,(hcell _).trans c1,hs.same hb⟩,(hcell _).trans c2,(hcell _).trans c3,(hcell _).trans c4⟩
theorem zaj.same{bs:List zaf}(h:zaj lo w v bs)(hb:Same lo w w'):zaj lo w' v bs:=by
 obtain⟨ao,cap,rfl,hm,h⟩:=h;refine⟨ao,cap,rfl,hm,fun h0=>?_⟩;obtain⟨b,o,rfl,hge,hlt,hc⟩:=h h0;refine⟨b,o,rfl,hge,zsc hlt hb.size,fun i hi=>?_⟩;obtain⟨c0,c1,⟨nv,c2,hn⟩⟩:=hc i hi;have hcell:∀off,w'.cell? ⟨b,off,none⟩=w.cell? ⟨b,off,none⟩:=fun off=>hb.cell (by exact hge) (by exact hlt)
 exact⟨(hcell _).trans c0,(hcell _).trans c1,⟨nv,(hcell _).trans c2,hn.same hb⟩⟩
theorem zag.below(h:zag lo w v rs)(hb:Below w.heap.size w w'):zag lo w' v rs:=h.same (.of_below hb)
theorem zas.below{ns:List zak}(h:zas lo w v ns)(hb:Below w.heap.size w w'):zas lo w' v ns:=h.same (.of_below hb)
theorem zaj.below{bs:List zaf}(h:zaj lo w v bs)(hb:Below w.heap.size w w'):zaj lo w' v bs:=h.same (.of_below hb)
theorem zag.mono(h:zag lo w v rs)(hl:lo'<=lo):zag lo' w v rs:=by
 obtain⟨ao,cap,rfl,hm,h⟩:=h;refine⟨ao,cap,rfl,hm,fun h0=>?_⟩;obtain⟨b,o,rfl,hge,r⟩:=h h0;exact⟨b,o,rfl,zsb hl hge,r⟩
theorem zas.mono{rs:List zak}(h:zas lo w v rs)(hl:lo'<=lo):zas lo' w v rs:=by
 obtain⟨ao,cap,rfl,hm,h⟩:=h;refine⟨ao,cap,rfl,hm,fun h0=>?_⟩;obtain⟨b,o,rfl,hge,hlt,hc⟩:=h h0;refine⟨b,o,rfl,zsb hl hge,hlt,fun i hi=>?_⟩;obtain⟨c0,⟨sv,c1,hs⟩,r⟩:=hc i hi;exact⟨c0,⟨sv,c1,hs.mono hl⟩,r⟩
theorem zen.elem(h:zen lo w ao rs)(hb:Below w.heap.size w wr){k:Nat}(hk:k<rs.length):
  ∃(b o:Nat) (lo hi:Int),ao=some ⟨b,o,none⟩/\Hid (rs.getD k (0,0)=(lo,hi))/\b<w.heap.size/\wr.cell? ⟨b,o+k*2,none⟩=some (.int .i64 lo)/\wr.cell? ⟨b,o+k*2+1,none⟩=some (.int .i64 hi):=by
 obtain⟨b,o,rfl,_,hlt,hc⟩:=h (by omega);obtain⟨c0,c1⟩:=hc k hk;exact⟨b,o,_,_,rfl,rfl,hlt,(hb.cell (by exact hlt)).trans c0,(hb.cell (by exact hlt)).trans c1⟩
theorem zff.elem{ns:List zak}(h:zff lo w ao ns)(hb:Below w.heap.size w wr){k:Nat}(hk:k<ns.length):
  ∃(b o:Nat) (sv:Value) (nd:zak),ao=some ⟨b,o,none⟩/\Hid (ns.getD k .zero=nd)/\b<w.heap.size/\wr.cell? ⟨b,o+k*5,none⟩=some (.int .i64 nd.kind)/\wr.cell? ⟨b,o+k*5+1,none⟩=some sv/\
   wr.cell? ⟨b,o+k*5+2,none⟩=some (.int .i64 nd.min)/\wr.cell? ⟨b,o+k*5+3,none⟩=some (.int .i64 nd.max)/\wr.cell? ⟨b,o+k*5+4,none⟩=some (.int .i64 nd.group)/\zag lo wr sv nd.set:=by
 obtain⟨b,o,rfl,_,hlt,hc⟩:=h (by omega);obtain⟨c0,⟨sv,c1,hs⟩,c2,c3,c4⟩:=hc k hk;exact⟨b,o,sv,_,rfl,rfl,hlt,(hb.cell (by exact hlt)).trans c0,(hb.cell (by exact hlt)).trans c1,(hb.cell (by exact hlt)).trans c2,(hb.cell (by exact hlt)).trans c3,(hb.cell (by exact hlt)).trans c4,hs.below hb⟩
theorem zdF.elem{bs:List zaf}(h:zdF lo w ao bs)(hb:Below w.heap.size w wr){k:Nat}(hk:k<bs.length):
  ∃(b o:Nat) (nv:Value) (bd:zaf),ao=some ⟨b,o,none⟩/\Hid (bs.getD k .zero=bd)/\b<w.heap.size/\wr.cell? ⟨b,o+k*3,none⟩=some (.bool bd.bol)/\wr.cell? ⟨b,o+k*3+1,none⟩=some (.bool bd.eol)/\
   wr.cell? ⟨b,o+k*3+2,none⟩=some nv/\zas lo wr nv bd.nodes:=by
 obtain⟨b,o,rfl,_,hlt,hc⟩:=h (by omega);obtain⟨c0,c1,⟨nv,c2,hn⟩⟩:=hc k hk;exact⟨b,o,nv,_,rfl,rfl,hlt,(hb.cell (by exact hlt)).trans c0,(hb.cell (by exact hlt)).trans c1,(hb.cell (by exact hlt)).trans c2,hn.below hb⟩
def zaI(rs:List (Int×Int))(left:Int):Int:=if left-rs.length<0 then -1 else left-rs.length
def za0:List zak->Int->Int
 |[],l=>l
 |n::ns,l=>if zaI n.set l<0 then -1 else za0 ns (zaI n.set l)
def zaH(ns:List zak)(left:Int):Int:=if left-ns.length<0 then -1 else za0 ns (left-ns.length)
def zaE:List zaf->Int->Int
 |[],l=>l
 |b::bs,l=>if zaH b.nodes l<0 then -1 else zaE bs (zaH b.nodes l)
def zaN(bs:List zaf)(left:Int):Int:=if left-bs.length<0 then -1 else zaE bs (left-bs.length)
theorem zb2(rs:List (Int×Int))(l:Int)(h:0<=l):-1<=zaI rs l/\zaI rs l<=l:=by unfold zaI;split<;>omega
theorem zgb(ns:List zak):∀l:Int,0<=l->-1<=za0 ns l/\za0 ns l<=l:=by
 induction ns with
 |nil=>intro l h;simp[za0];omega
 |cons n ns ih=>
  intro l h;have:=zb2 n.set l h;unfold za0;split
  ·omega
  ·have:=ih (zaI n.set l) (by omega);omega
theorem zck(ns:List zak)(l:Int)(h:0<=l):-1<=zaH ns l/\zaH ns l<=l:=by
 unfold zaH;split
 ·omega
 ·have:=zgb ns (l-ns.length) (by omega);omega
theorem zdB(ns:List zaf):∀l:Int,0<=l->-1<=zaE ns l/\zaE ns l<=l:=by
 induction ns with
 |nil=>intro l h;simp[zaE];omega
 |cons n ns ih=>
  intro l h;have:=zck n.nodes l h;unfold zaE;split
  ·omega
  ·have:=ih (zaH n.nodes l) (by omega);omega
theorem zdA(ns:List zaf)(l:Int)(h:0<=l):-1<=zaN ns l/\zaN ns l<=l:=by
 unfold zaN;split
 ·omega
 ·have:=zdB ns (l-ns.length) (by omega);omega
theorem zhE(ns:List zak)(i:Nat)(hi:i<ns.length)(l:Int):
  za0 (ns.drop i) l=if zaI (ns.getD i .zero).set l<0 then -1 else za0 (ns.drop (i+1)) (zaI (ns.getD i .zero).set l):=by
 rw[zrp hi];simp[za0,List.getD,hi]
theorem ze4(ns:List zaf)(i:Nat)(hi:i<ns.length)(l:Int):
  zaE (ns.drop i) l=if zaH (ns.getD i .zero).nodes l<0 then -1 else zaE (ns.drop (i+1)) (zaH (ns.getD i .zero).nodes l):=by
 rw[zrp hi];simp[zaE,List.getD,hi]
end
section
variable {lo:Nat}
theorem zj6(a:Option Addr)(rs:List (Int×Int))(cap:Nat)(left:Int)(w:World)(h0:0<=left)(h1:left<=1048576)(h2:rs.length<=9223372036854775807):
  Calls Tryz.prog 95 #[.slice a rs.length cap,.int .i64 left] w fun e w'=>e=.returned (.int .i64 (zaI rs left))/\w'=w:=by
 by_cases hle:left-rs.length<0
 all_goals
  go_enter Tryz.func95,Tryz.ntmps95
  go_wp2;go_ret;exact⟨zbi (by unfold zaI;split<;>omega),rfl⟩
theorem ziI(k mn mx g:Int)(sv:Value)(rs:List (Int×Int))(left:Int)(w:World)(hs:zag lo w sv rs)(h0:0<=left)(h1:left<=1048576):
  Calls Tryz.prog 72 #[.agg #[.int .i64 k,sv,.int .i64 mn,.int .i64 mx,.int .i64 g],.int .i64 left] w fun e w'=>e=.returned (.int .i64 (zaI rs left))/\Below w.heap.size w w':=by
 obtain⟨ao,cap,rfl,hm,hc⟩:=hs;have hb:=zb2 rs left h0
 by_cases hle:zaI rs left<0
 all_goals
  go_enter Tryz.func72,Tryz.ntmps72
  go_wp2_with (go_at_call 95;refine(zj6 _ _ _ _ _ h0 h1 hm).mono ?_;rintro e w' ⟨rfl,rfl⟩)
  go_ret
  exact⟨zbi (by omega),(Below.refl _ _).alloc (zsa _) _⟩
theorem zlZ(v:Value)(ns:List zak)(left:Int)(w:World)(hs:zas lo w v ns)(h0:0<=left)(h1:left<=1048576):
  Calls Tryz.prog 48 #[v,.int .i64 left] w fun e w'=>e=.returned (.int .i64 (zaH ns left))/\Below w.heap.size w w':=by
 obtain⟨ao,cap,rfl,hm,hc⟩:=hs
 by_cases hle:left-ns.length<0
 ·go_enter Tryz.func48,Tryz.ntmps48
  go_wp2;go_ret;exact⟨zbi (by unfold zaH;split<;>omega),Below.refl _ _⟩
 ·have HS:Hid (zaH ns left=za0 (ns.drop 0) (left-ns.length)):=by show _=_;rw[zaH,zss hle];rfl
  go_enter Tryz.func48,Tryz.ntmps48
  go_wp2
  go_loopw [1,5] (fun l i wr=>∃k:Nat,k<=ns.length/\i=.int .i64 k/\∃L:Int,l=.int .i64 L/\0<=L/\L<=1048576/\Hid (zaH ns left=za0 (ns.drop k) L)/\Below w.heap.size w wr)
   (fun _ i _=>ns.length-(intOf i).toNat)
  case atStart=>exact⟨0,zsj _,rfl,_,rfl,by omega,by omega,HS,Below.refl _ _⟩
  case round=>
   obtain⟨k,hk,rfl,L,rfl,hL0,hL1,HS,hb⟩:=hrel
   by_cases hlt:k<ns.length
   ·obtain⟨b,o,sv,nd,rfl,Hn,hbl,c0,c1,c2,c3,c4,hsv⟩:=hc.elem hb hlt;have hz:=hb.size;have hq:=zb2 nd.set L hL0;have HD:Hid (za0 (ns.drop k) L=if zaI nd.set L<0 then -1 else za0 (ns.drop (k+1)) (zaI nd.set L)):=by have:=zhE ns k hlt L;rw[Hn.out] at this;exact this
    by_cases hneg:zaI nd.set L<0
    ·go_wp2_with (go_at_call 72;refine(ziI _ _ _ _ _ _ _ _ hsv hL0 hL1).mono ?_;rintro e w1 ⟨rfl,hb1⟩)
     go_ret
     exact⟨zbi (by rw[HS.out,HD.out,zst hneg]),zaa hb hz hb1⟩
    ·go_wp2_with (go_at_call 72;refine(ziI _ _ _ _ _ _ _ _ hsv hL0 hL1).mono ?_;rintro e w1 ⟨rfl,hb1⟩)
     go_roundw
     case rel=>exact⟨k+1,by omega,by go_num,_,rfl,by omega,by omega,by show _=_;rw[HS.out,HD.out,zss (by omega)],zaa hb hz hb1⟩
     case measure=>simp[intOf];omega
   ·go_wp2;go_ret;exact⟨zbi (by rw[HS.out,zrq (by omega)];rfl),hb⟩
theorem zga(bol eol:Bool)(nv:Value)(ns:List zak)(left:Int)(w:World)(hs:zas lo w nv ns)(h0:0<=left)(h1:left<=1048576):
  Calls Tryz.prog 27 #[.agg #[.bool bol,.bool eol,nv],.int .i64 left] w fun e w'=>e=.returned (.int .i64 (zaH ns left))/\Below w.heap.size w w':=by
 have hb:=zck ns left h0;have ha:=(Below.refl w.heap.size w).alloc (zsa _) (.cells #[.bool bol,.bool eol,nv] 65);have hs':=hs.below ha
 by_cases hle:zaH ns left<0
 all_goals
  go_enter Tryz.func27,Tryz.ntmps27
  go_wp2_with (go_at_call 48;refine(zlZ _ _ _ _ hs' h0 h1).mono ?_;rintro e w' ⟨rfl,hb1⟩)
  go_ret
  exact⟨zbi (by omega),zaa ha (by simp) hb1⟩
theorem ziH(v:Value)(ns:List zaf)(left:Int)(w:World)(hs:zaj lo w v ns)(h0:0<=left)(h1:left<=1048576):
  Calls Tryz.prog 13 #[v,.int .i64 left] w fun e w'=>e=.returned (.int .i64 (zaN ns left))/\Below w.heap.size w w':=by
 obtain⟨ao,cap,rfl,hm,hc⟩:=hs
 by_cases hle:left-ns.length<0
 ·go_enter Tryz.func13,Tryz.ntmps13
  go_wp2;go_ret;exact⟨zbi (by unfold zaN;split<;>omega),Below.refl _ _⟩
 ·have HS:Hid (zaN ns left=zaE (ns.drop 0) (left-ns.length)):=by show _=_;rw[zaN,zss hle];rfl
  go_enter Tryz.func13,Tryz.ntmps13
  go_wp2
  go_loopw [1,5] (fun l i wr=>∃k:Nat,k<=ns.length/\i=.int .i64 k/\∃L:Int,l=.int .i64 L/\0<=L/\L<=1048576/\Hid (zaN ns left=zaE (ns.drop k) L)/\Below w.heap.size w wr)
   (fun _ i _=>ns.length-(intOf i).toNat)
  case atStart=>exact⟨0,zsj _,rfl,_,rfl,by omega,by omega,HS,Below.refl _ _⟩
  case round=>
   obtain⟨k,hk,rfl,L,rfl,hL0,hL1,HS,hb⟩:=hrel
   by_cases hlt:k<ns.length
   ·obtain⟨b,o,nv,nd,rfl,Hn,hbl,c0,c1,c2,hnv⟩:=hc.elem hb hlt;have hz:=hb.size;have hq:=zck nd.nodes L hL0;have HD:Hid (zaE (ns.drop k) L=if zaH nd.nodes L<0 then -1 else zaE (ns.drop (k+1)) (zaH nd.nodes L)):=by have:=ze4 ns k hlt L;rw[Hn.out] at this;exact this
    by_cases hneg:zaH nd.nodes L<0
    ·go_wp2_with (go_at_call 27;refine(zga _ _ _ _ _ _ hnv hL0 hL1).mono ?_;rintro e w1 ⟨rfl,hb1⟩)
     go_ret
     exact⟨zbi (by rw[HS.out,HD.out,zst hneg]),zaa hb hz hb1⟩
    ·go_wp2_with (go_at_call 27;refine(zga _ _ _ _ _ _ hnv hL0 hL1).mono ?_;rintro e w1 ⟨rfl,hb1⟩)
     go_roundw
     case rel=>exact⟨k+1,by omega,by go_num,_,rfl,by omega,by omega,by show _=_;rw[HS.out,HD.out,zss (by omega)],zaa hb hz hb1⟩
     case measure=>simp[intOf];omega
   ·go_wp2;go_ret;exact⟨zbi (by rw[HS.out,zrq (by omega)];rfl),hb⟩
theorem znS(g:Int)(bv:Value)(bs:List zaf)(left:Int)(w:World)(hs:zaj lo w bv bs)(h0:0<=left)(h1:left<=1048576):
  Calls Tryz.prog 4 #[.agg #[bv,.int .i64 g],.int .i64 left] w fun e w'=>e=.returned (.int .i64 (zaN bs left))/\Below w.heap.size w w':=by
 have hb:=zdA bs left h0;have ha:=(Below.refl w.heap.size w).alloc (zsa _) (.cells #[bv,.int .i64 g] 24);have hs':=hs.below ha
 by_cases hle:zaN bs left<0
 all_goals
  go_enter Tryz.func4,Tryz.ntmps4
  go_wp2_with (go_at_call 13;refine(ziH _ _ _ _ hs' h0 h1).mono ?_;rintro e w' ⟨rfl,hb1⟩)
  go_ret
  exact⟨zbi (by omega),zaa ha (by simp) hb1⟩
end
theorem Tryz.infoNode:(Tryz.prog.info? 72).map (fun i=>(i.zero,i.size,i.bytes))=some (some (.agg #[.int .i64 0,.slice none 0 0,.int .i64 0,.int .i64 0,.int .i64 0]),5,56):=by kernel_rfl
theorem Tryz.infoBranch:(Tryz.prog.info? 41).map (fun i=>(i.zero,i.size,i.bytes))=some (some (.agg #[.bool false,.bool false,.slice none 0 0]),3,32):=by kernel_rfl
theorem Tryz.infoRange:(Tryz.prog.info? 149).map (fun i=>(i.zero,i.size,i.bytes))=some (some (.agg #[.int .i64 0,.int .i64 0]),2,16):=by kernel_rfl
theorem zgW(lo hi:Int)(w:World):
  Calls Tryz.prog 118 #[.agg #[.int .i64 lo,.int .i64 hi]] w fun e w'=>e=.returned (.agg #[.int .i64 lo,.int .i64 hi])/\Below w.heap.size w w':=by
 go_enter Tryz.func118,Tryz.ntmps118
 go_wp2;exact zsl (v:=.agg #[.int .i64 lo,.int .i64 hi]) (by simp[results,Tryz.results118,go_sem]) rfl ⟨rfl,(((Below.refl _ _).alloc (zsa _) _).alloc (by simp) _).alloc (by simp;omega) _⟩
theorem zka{lo:Nat}(v:Value)(rs:List (Int×Int))(w:World)(hs:zag lo w v rs)(hn:rs.length<=1048576):
  Calls Tryz.prog 97 #[v] w fun e w'=>∃v',e=.returned v'/\zag w.heap.size w' v' rs/\Below w.heap.size w w':=by
 obtain⟨ao,cap,rfl,hm,hc⟩:=hs;obtain⟨i0,hi,hz0,hz1,hz2⟩:=info_parts Tryz.infoRange
 go_enter Tryz.func97,Tryz.ntmps97
 go_wp2_with (refine wpList_make_full _ rfl _ _ 70 rfl w.heap.size 149 i0 _ 2 Tryz.underlying70 hi hz0 hz1 _ _ _ _ rs.length rfl rfl rfl rfl (by rw[hz2];omega) (by unfold maxLen;omega) (zsa _) ?_;intro w1 hown hgrow)
 have hbw:Below w.heap.size w w1:=(Below.refl _ _).grown hgrow (zsa _) (by intro k h;cases h);clear hgrow
 go_loopw [4] (fun i wr=>∃k:Nat,k<=rs.length/\i=.int .i64 k/\Below w.heap.size w wr/\∃xs:List Value,wr.ownsRow w.heap.size 149 2 (.slice (some ⟨w.heap.size,0,none⟩) rs.length rs.length) rs.length xs/\
   zbG xs 2 k (fun j=>[.int .i64 (rs.getD j (0,0)).1,.int .i64 (rs.getD j (0,0)).2]))
  (fun i _=>rs.length-(intOf i).toNat)
 case atStart=>exact⟨0,zsj _,rfl,hbw,_,hown,fun j hj=>absurd hj (zsg _)⟩
 case round=>
  obtain⟨k,hk,rfl,hb,xs,hown,hfill⟩:=hrel
  by_cases hlt:k<rs.length
  ·obtain⟨b,o,lo,hi,rfl,Hn,hbl,c0,c1⟩:=hc.elem hb hlt
   go_wp2_with (go_at_call 118;refine(zgW _ _ _).mono ?_;rintro e w2 ⟨rfl,hb2⟩;have hown2:=zab hown hb2;obtain⟨u0,u1,d0,d1,f0,f1⟩:=zfS hown2 hlt)
   go_roundw
   case rel=>exact⟨k+1,by omega,by go_num,((zaa hb hb.size hb2).setCell (zsa _) _).setCell (zsa _) _,_,((hown2.stored _ _).1.stored _ _).1,zgB hfill (by have:=hown2.1;omega) (by rw[Hn.out])⟩
   case measure=>simp[intOf];omega
  ·go_wp2;have hkk:k=rs.length:=by omega
   refine zsl (v:=.slice (some ⟨w.heap.size,0,none⟩) rs.length rs.length) (by simp[results,Tryz.results97,go_sem]) rfl ⟨_,rfl,⟨_,_,rfl,hm,fun _=>⟨w.heap.size,0,rfl,zsa _,zb0 hown,fun i hi=>?_⟩⟩,hb⟩;rw[hkk] at hfill;have e0:=zaw hown hfill (c:=0) hi (by omega);have e1:=zaw hown hfill (c:=1) hi (by omega);simp only[zr9,zsi] at e0 e1 ⊢;exact⟨e0,e1⟩
section
variable {lo:Nat}{w:World}{v:Value}{rs:List zaf}
theorem zag.setCell{rs:List (Int×Int)}(h:zag lo w v rs){a:Addr}(ha:a.block<lo)(u:Value):zag lo (w.setCell a u) v rs:=h.same (Same.setCell w ha u)
theorem zas.setCell{rs:List zak}(h:zas lo w v rs){a:Addr}(ha:a.block<lo)(u:Value):zas lo (w.setCell a u) v rs:=h.same (Same.setCell w ha u)
theorem zaj.setCell(h:zaj lo w v rs){a:Addr}(ha:a.block<lo)(u:Value):zaj lo (w.setCell a u) v rs:=h.same (Same.setCell w ha u)
theorem zaj.mono{lo':Nat}(h:zaj lo w v rs)(hl:lo'<=lo):zaj lo' w v rs:=by
 obtain⟨ao,cap,rfl,hm,h⟩:=h;refine⟨ao,cap,rfl,hm,fun h0=>?_⟩;obtain⟨b,o,rfl,hge,hlt,hc⟩:=h h0;refine⟨b,o,rfl,zsb hl hge,hlt,fun i hi=>?_⟩;obtain⟨c0,c1,⟨sv,c2,hs⟩⟩:=hc i hi;exact⟨c0,c1,⟨sv,c2,hs.mono hl⟩⟩
theorem znV(k mn mx g:Int)(sv:Value)(rs:List (Int×Int))(w:World)(hs:zag lo w sv rs)(hn:rs.length<=1048576):
  Calls Tryz.prog 75 #[.agg #[.int .i64 k,sv,.int .i64 mn,.int .i64 mx,.int .i64 g]] w fun e w'=>∃sv',e=.returned (.agg #[.int .i64 k,sv',.int .i64 mn,.int .i64 mx,.int .i64 g])/\zag w.heap.size w' sv' rs/\Below w.heap.size w w':=by
 go_enter Tryz.func75,Tryz.ntmps75
 go_wp2_with fail
 refine(zka (lo:=lo) _ rs _ (hs.below ?_) hn).mono ?_
 ·exact(((Below.refl _ _).alloc (zsa _) _).alloc (by simp) _).alloc (by simp;omega) _
 rintro e w2 ⟨sv',rfl,hr,hb⟩;obtain⟨ao',cap',rfl,hm',hc'⟩:=hr;obtain⟨hcc,hff⟩:=zdI hb;have hz:=hb.size;simp only[World.size_alloc] at hc' hz;have hr:zag (w.heap.size+1+1+1) w2 (.slice ao' rs.length cap') rs:=⟨_,_,rfl,hm',hc'⟩;have hbb:=(((((Below.refl w.heap.size w).alloc (zsa _) _).alloc (by simp) _).alloc (by simp;omega) _).trans (hb.mono (by simp;omega)));clear hb;go_wp2;refine zsl (v:=.agg #[.int .i64 k,.slice ao' rs.length cap',.int .i64 mn,.int .i64 mx,.int .i64 g]) (by simp[results,Tryz.results75,go_sem,hcc]) rfl ⟨_,rfl,?_,?_⟩
 ·refine zag.mono (lo:=w.heap.size+1+1+1) ?_ (by omega)
  iterate 9 refine zag.setCell ?_ (by simp) _
  exact hr
 ·iterate 9 refine Below.setCell ?_ (by simp<;>omega) _
  exact hbb
def zdP(ns:List zak)(S:Nat->Value)(j:Nat):List Value:=[.int .i64 (ns.getD j .zero).kind,S j,.int .i64 (ns.getD j .zero).min,.int .i64 (ns.getD j .zero).max,.int .i64 (ns.getD j .zero).group]
def zcf(bs:List zaf)(S:Nat->Value)(j:Nat):List Value:=[.bool (bs.getD j .zero).bol,.bool (bs.getD j .zero).eol,S j]
theorem zl1(v:Value)(ns:List zak)(w:World)(hs:zas lo w v ns)(hn:ns.length<=1048576)(hset:∀i,i<ns.length->(ns.getD i .zero).set.length<=1048576):
  Calls Tryz.prog 57 #[v] w fun e w'=>∃v',e=.returned v'/\zas w.heap.size w' v' ns/\Below w.heap.size w w':=by
 obtain⟨ao,cap,rfl,hm,hc⟩:=hs;obtain⟨i0,hi,hz0,hz1,hz2⟩:=info_parts Tryz.infoNode
 go_enter Tryz.func57,Tryz.ntmps57
 go_wp2_with (refine wpList_make_full _ rfl _ _ 39 rfl w.heap.size 72 i0 _ 5 Tryz.underlying39 hi hz0 hz1 _ _ _ _ ns.length rfl rfl rfl rfl (by rw[hz2];omega) (by unfold maxLen;omega) (zsa _) ?_;intro w1 hown hgrow)
 have hbw:Below w.heap.size w w1:=(Below.refl _ _).grown hgrow (zsa _) (by intro k h;cases h);clear hgrow
 go_loopw [4] (fun i wr=>∃k:Nat,k<=ns.length/\i=.int .i64 k/\Below w.heap.size w wr/\∃(xs:List Value) (S:Nat->Value),wr.ownsRow w.heap.size 72 5 (.slice (some ⟨w.heap.size,0,none⟩) ns.length ns.length) ns.length xs/\
   zbG xs 5 k (zdP ns S)/\∀j,j<k->zag (w.heap.size+1) wr (S j) (ns.getD j .zero).set)
  (fun i _=>ns.length-(intOf i).toNat)
 case atStart=>exact⟨0,zsj _,rfl,hbw,_,fun _=>.nilIface,hown,fun j hj=>absurd hj (zsg _),fun j hj=>absurd hj (zsg _)⟩
 case round=>
  obtain⟨k,hk,rfl,hb,xs,S,hown,hfill,HS0⟩:=hrel;have HS:Hid (∀j,j<k->zag (w.heap.size+1) wr (S j) (ns.getD j .zero).set):=HS0;clear HS0;have hgl:=zb0 hown
  by_cases hlt:k<ns.length
  ·obtain⟨b,o,sv,nd,rfl,Hn,hbl,c0,c1,c2,c3,c4,hsv⟩:=hc.elem hb hlt;have hnd:nd.set.length<=1048576:=by have:=hset k hlt;rw[Hn.out] at this;exact this
   have Hset:Hid (∀i,i<ns.length->(ns.getD i .zero).set.length<=1048576):=hset;clear hset
   go_wp2_with (go_at_call 75;refine(znV _ _ _ _ _ _ _ hsv hnd).mono ?_;rintro e w2 ⟨sv',rfl,hr,hb2⟩;obtain⟨ao',cap',rfl,hm',hc'⟩:=hr;have hown2:=zab hown hb2;obtain⟨u0,u1,u2,u3,u4,d0,d1,d2,d3,d4,f0,f1,f2,f3,f4⟩:=zkL hown2 hlt)
   go_roundw
   case rel=>
    refine⟨k+1,by omega,by go_num,?_,_,upd S k (.slice ao' nd.set.length cap'),(((((hown2.stored _ _).1.stored _ _).1.stored _ _).1.stored _ _).1.stored _ _).1,zfq (hfill.congr fun j hj=>by simp only[zdP,ze0 _ _ hj]) (by have:=hown2.1;omega) (by rw[zdP,Hn.out,zct]),fun j hj=>?_⟩
    ·iterate 5 refine Below.setCell ?_ (by simp) _
     exact zaa hb hb.size hb2
    ·iterate 5 refine zag.setCell ?_ (by simp<;>omega) _
     by_cases e:j=k
     ·subst e;rw[zct,Hn.out];exact zag.mono ⟨_,_,rfl,hm',hc'⟩ (by omega)
     ·rw[ze0 _ _ (by omega)];exact(HS.out j (by omega)).below hb2
   case measure=>simp[intOf];omega
  ·go_wp2;have hkk:k=ns.length:=by omega
   rw[hkk] at hfill HS;refine zsl (v:=.slice (some ⟨w.heap.size,0,none⟩) ns.length ns.length) (by simp[results,Tryz.results57,go_sem]) rfl ⟨_,rfl,⟨_,_,rfl,hm,fun _=>⟨w.heap.size,0,rfl,zsa _,hgl,fun i hi=>?_⟩⟩,hb⟩;have e0:=zaw hown hfill (c:=0) hi (by omega);have e1:=zaw hown hfill (c:=1) hi (by omega);have e2:=zaw hown hfill (c:=2) hi (by omega);have e3:=zaw hown hfill (c:=3) hi (by omega);have e4:=zaw hown hfill (c:=4) hi (by omega);simp only[zr9,zsi] at e0 e1 e2 e3 e4 ⊢;exact⟨e0,⟨_,e1,(HS.out i hi).mono (by omega)⟩,e2,e3,e4⟩
theorem zj7(bol eol:Bool)(nv:Value)(ns:List zak)(w:World)(hs:zas lo w nv ns)(hn:ns.length<=1048576)(hset:∀i,i<ns.length->(ns.getD i .zero).set.length<=1048576):
  Calls Tryz.prog 35 #[.agg #[.bool bol,.bool eol,nv]] w fun e w'=>∃nv',e=.returned (.agg #[.bool bol,.bool eol,nv'])/\zas w.heap.size w' nv' ns/\Below w.heap.size w w':=by
 have Hset:Hid (∀i,i<ns.length->(ns.getD i .zero).set.length<=1048576):=hset;clear hset
 go_enter Tryz.func35,Tryz.ntmps35
 go_wp2_with fail
 refine(zl1 (lo:=lo) _ ns _ (hs.below ?_) hn Hset.out).mono ?_
 ·exact(((Below.refl _ _).alloc (zsa _) _).alloc (by simp) _).alloc (by simp;omega) _
 rintro e w2 ⟨sv',rfl,hr,hb⟩;obtain⟨ao',cap',rfl,hm',hc'⟩:=hr;obtain⟨hcc,hff⟩:=zdI hb;have hz:=hb.size;simp only[World.size_alloc] at hc' hz;have hr:zas (w.heap.size+1+1+1) w2 (.slice ao' ns.length cap') ns:=⟨_,_,rfl,hm',hc'⟩;have hbb:=(((((Below.refl w.heap.size w).alloc (zsa _) _).alloc (by simp) _).alloc (by simp;omega) _).trans (hb.mono (by simp;omega)));clear hb;go_wp2;refine zsl (v:=.agg #[.bool bol,.bool eol,.slice ao' ns.length cap']) (by simp[results,Tryz.results35,go_sem,hcc]) rfl ⟨_,rfl,?_,?_⟩
 ·refine zas.mono (lo:=w.heap.size+1+1+1) ?_ (by omega)
  iterate 4 refine zas.setCell ?_ (by simp) _
  exact hr
 ·iterate 4 refine Below.setCell ?_ (by simp<;>omega) _
  exact hbb
def Small(bs:List zaf):Prop:=bs.length<=1048576/\∀i,i<bs.length->(bs.getD i .zero).nodes.length<=1048576/\∀j,j<(bs.getD i .zero).nodes.length->((bs.getD i .zero).nodes.getD j .zero).set.length<=1048576
theorem ziM(v:Value)(ns:List zaf)(w:World)(hs:zaj lo w v ns)(hsm:Small ns):
  Calls Tryz.prog 19 #[v] w fun e w'=>∃v',e=.returned v'/\zaj w.heap.size w' v' ns/\Below w.heap.size w w':=by
 obtain⟨ao,cap,rfl,hm,hc⟩:=hs;have hn:=hsm.1;obtain⟨i0,hi,hz0,hz1,hz2⟩:=info_parts Tryz.infoBranch
 go_enter Tryz.func19,Tryz.ntmps19
 go_wp2_with (refine wpList_make_full _ rfl _ _ 28 rfl w.heap.size 41 i0 _ 3 Tryz.underlying28 hi hz0 hz1 _ _ _ _ ns.length rfl rfl rfl rfl (by rw[hz2];omega) (by unfold maxLen;omega) (zsa _) ?_;intro w1 hown hgrow)
 have hbw:Below w.heap.size w w1:=(Below.refl _ _).grown hgrow (zsa _) (by intro k h;cases h);clear hgrow
 go_loopw [4] (fun i wr=>∃k:Nat,k<=ns.length/\i=.int .i64 k/\Below w.heap.size w wr/\∃(xs:List Value) (S:Nat->Value),wr.ownsRow w.heap.size 41 3 (.slice (some ⟨w.heap.size,0,none⟩) ns.length ns.length) ns.length xs/\
   zbG xs 3 k (zcf ns S)/\∀j,j<k->zas (w.heap.size+1) wr (S j) (ns.getD j .zero).nodes)
  (fun i _=>ns.length-(intOf i).toNat)
 case atStart=>exact⟨0,zsj _,rfl,hbw,_,fun _=>.nilIface,hown,fun j hj=>absurd hj (zsg _),fun j hj=>absurd hj (zsg _)⟩
 case round=>
  obtain⟨k,hk,rfl,hb,xs,S,hown,hfill,HS0⟩:=hrel;have HS:Hid (∀j,j<k->zas (w.heap.size+1) wr (S j) (ns.getD j .zero).nodes):=HS0;clear HS0;have hgl:=zb0 hown
  by_cases hlt:k<ns.length
  ·obtain⟨b,o,nv,nd,rfl,Hn,hbl,c0,c1,c2,hsv⟩:=hc.elem hb hlt;have hnd:nd.nodes.length<=1048576:=by have:=(hsm.2 k hlt).1;rw[Hn.out] at this;exact this
   have Hset:Hid (∀j,j<nd.nodes.length->(nd.nodes.getD j .zero).set.length<=1048576):=by have:=(hsm.2 k hlt).2;rw[Hn.out] at this;exact this
   go_wp2_with (go_at_call 35;refine(zj7 _ _ _ _ _ hsv hnd Hset.out).mono ?_;rintro e w2 ⟨sv',rfl,hr,hb2⟩;obtain⟨ao',cap',rfl,hm',hc'⟩:=hr;have hown2:=zab hown hb2;obtain⟨u0,u1,u2,d0,d1,d2,f0,f1,f2⟩:=ziv hown2 hlt)
   go_roundw
   case rel=>
    refine⟨k+1,by omega,by go_num,?_,_,upd S k (.slice ao' nd.nodes.length cap'),(((hown2.stored _ _).1.stored _ _).1.stored _ _).1,zeM (hfill.congr fun j hj=>by simp only[zcf,ze0 _ _ hj]) (by have:=hown2.1;omega) (by rw[zcf,Hn.out,zct]),fun j hj=>?_⟩
    ·iterate 3 refine Below.setCell ?_ (by simp) _
     exact zaa hb hb.size hb2
    ·iterate 3 refine zas.setCell ?_ (by simp<;>omega) _
     by_cases e:j=k
     ·subst e;rw[zct,Hn.out];exact zas.mono ⟨_,_,rfl,hm',hc'⟩ (by omega)
     ·rw[ze0 _ _ (by omega)];exact(HS.out j (by omega)).below hb2
   case measure=>simp[intOf];omega
  ·go_wp2;have hkk:k=ns.length:=by omega
   rw[hkk] at hfill HS;refine zsl (v:=.slice (some ⟨w.heap.size,0,none⟩) ns.length ns.length) (by simp[results,Tryz.results19,go_sem]) rfl ⟨_,rfl,⟨_,_,rfl,hm,fun _=>⟨w.heap.size,0,rfl,zsa _,hgl,fun i hi=>?_⟩⟩,hb⟩;have e0:=zaw hown hfill (c:=0) hi (by omega);have e1:=zaw hown hfill (c:=1) hi (by omega);have e2:=zaw hown hfill (c:=2) hi (by omega);simp only[zr9,zsi] at e0 e1 e2 ⊢;exact⟨e0,e1,⟨_,e2,(HS.out i hi).mono (by omega)⟩⟩
theorem zge(g:Int)(bv:Value)(bs:List zaf)(w:World)(hs:zaj lo w bv bs)(hsm:Small bs):
  Calls Tryz.prog 6 #[.agg #[bv,.int .i64 g]] w fun e w'=>∃bv',e=.returned (.agg #[bv',.int .i64 g])/\zaj w.heap.size w' bv' bs/\Below w.heap.size w w':=by
 go_enter Tryz.func6,Tryz.ntmps6
 go_wp2_with fail
 refine(ziM (lo:=lo) _ bs _ (hs.below ?_) hsm).mono ?_
 ·exact(((Below.refl _ _).alloc (zsa _) _).alloc (by simp) _).alloc (by simp;omega) _
 rintro e w2 ⟨sv',rfl,hr,hb⟩;obtain⟨ao',cap',rfl,hm',hc'⟩:=hr;obtain⟨hcc,hff⟩:=zdI hb;have hz:=hb.size;simp only[World.size_alloc] at hc' hz;have hr:zaj (w.heap.size+1+1+1) w2 (.slice ao' bs.length cap') bs:=⟨_,_,rfl,hm',hc'⟩;have hbb:=(((((Below.refl w.heap.size w).alloc (zsa _) _).alloc (by simp) _).alloc (by simp;omega) _).trans (hb.mono (by simp;omega)));clear hb;go_wp2;refine zsl (v:=.agg #[.slice ao' bs.length cap',.int .i64 g]) (by simp[results,Tryz.results6,go_sem,hcc]) rfl ⟨_,rfl,?_,?_⟩
 ·refine zaj.mono (lo:=w.heap.size+1+1+1) ?_ (by omega)
  iterate 4 refine zaj.setCell ?_ (by simp) _
  exact hr
 ·iterate 4 refine Below.setCell ?_ (by simp<;>omega) _
  exact hbb
end
section
variable {l1 l2:Nat}
attribute [local go_sem ↓] Go.wp_at_zero Go.wp_at_succ
theorem zlm(lo hi:Int)(w:World):
  Calls Tryz.prog 131 #[.agg #[.int .i64 lo,.int .i64 hi],.agg #[.int .i64 lo,.int .i64 hi]] w fun e w'=>e=.returned (.bool true)/\Below w.heap.size w w':=by
 go_enter Tryz.func131,Tryz.ntmps131
 go_wp2;go_ret;exact⟨rfl,((Below.refl _ _).alloc (zsa _) _).alloc (by simp) _⟩
theorem zjh(v v2:Value)(rs:List (Int×Int))(w:World)(hs:zag l1 w v rs)(hs2:zag l2 w v2 rs):
  Calls Tryz.prog 117 #[v,v2] w fun e w'=>e=.returned (.bool true)/\Below w.heap.size w w':=by
 obtain⟨ao,cap,rfl,hm,hc⟩:=hs;obtain⟨ao2,cap2,rfl,_,hc2⟩:=hs2
 go_enter Tryz.func117,Tryz.ntmps117
 go_wp2
 go_loopw [5] (fun i wr=>∃k:Nat,k<=rs.length/\i=.int .i64 k/\Below w.heap.size w wr)
  (fun i _=>rs.length-(intOf i).toNat)
 case atStart=>exact⟨0,zsj _,rfl,Below.refl _ _⟩
 case round=>
  obtain⟨k,hk,rfl,hb⟩:=hrel
  by_cases hlt:k<rs.length
  ·obtain⟨b,o,lo,hi,rfl,Hn,hbl,c0,c1⟩:=hc.elem hb hlt;obtain⟨b2,o2,lo2,hi2,rfl,Hn2,hbl2,d0,d1⟩:=hc2.elem hb hlt;have hee:=Hn.out.symm.trans Hn2.out;simp only[Prod.mk.injEq] at hee;obtain⟨rfl,rfl⟩:=hee;have hbr:b<wr.heap.size:=zsc hbl hb.size;have hbr2:b2<wr.heap.size:=zsc hbl2 hb.size;have hi0:(0:Int)<=(k:Int):=by omega
   have hi1:(k:Int)<(rs.length:Int):=by omega
   go_wp2
   go_region_held3 (fun w'=>w'.cell? ⟨b,o+k*2,none⟩=some (.int .i64 lo)/\w'.cell? ⟨b,o+k*2+1,none⟩=some (.int .i64 hi)/\w'.cell? ⟨b2,o2+k*2,none⟩=some (.int .i64 lo)/\w'.cell? ⟨b2,o2+k*2+1,none⟩=some (.int .i64 hi)) ((first|go_keep|exact⟨(hcc _ _ hbr).trans c0,(hcc _ _ hbr).trans c1,(hcc _ _ hbr2).trans d0,(hcc _ _ hbr2).trans d1⟩)) ((go_at_call 131;refine(zlm _ _ _).mono ?_;rintro e w2 ⟨rfl,hb2⟩;obtain⟨hcc,_⟩:=zdI hb2))
   go_wp2
   go_roundw
   case rel=>exact⟨k+1,by omega,by go_num,zaa hb.drew hb.size hb2⟩
   case measure=>simp[intOf];omega
  ·go_wp2;go_ret;exact⟨rfl,hb⟩
theorem zmD(k mn mx g:Int)(v v2:Value)(rs:List (Int×Int))(w:World)(hs:zag l1 w v rs)(hs2:zag l2 w v2 rs):
  Calls Tryz.prog 94 #[.agg #[.int .i64 k,v,.int .i64 mn,.int .i64 mx,.int .i64 g],.agg #[.int .i64 k,v2,.int .i64 mn,.int .i64 mx,.int .i64 g]] w fun e w'=>e=.returned (.bool true)/\Below w.heap.size w w':=by
 go_enter Tryz.func94,Tryz.ntmps94
 go_wp2_with fail
 refine(zjh (l1:=l1) (l2:=l2) _ _ rs _ (hs.below ?_) (hs2.below ?_)).mono ?_
 ·exact((Below.refl _ _).alloc (zsa _) _).alloc (by simp) _
 ·exact((Below.refl _ _).alloc (zsa _) _).alloc (by simp) _
 rintro e w2 ⟨rfl,hb⟩;obtain⟨hcc,hff⟩:=zdI hb;have hbb:=((((Below.refl w.heap.size w).alloc (zsa _) _).alloc (by simp) _).trans (hb.mono (by simp;omega)));clear hb;go_wp2;go_ret;exact⟨rfl,hbb⟩
theorem zll(v v2:Value)(rs:List zak)(w:World)(hs:zas l1 w v rs)(hs2:zas l2 w v2 rs):
  Calls Tryz.prog 70 #[v,v2] w fun e w'=>e=.returned (.bool true)/\Below w.heap.size w w':=by
 obtain⟨ao,cap,rfl,hm,hc⟩:=hs;obtain⟨ao2,cap2,rfl,_,hc2⟩:=hs2
 go_enter Tryz.func70,Tryz.ntmps70
 go_wp2
 go_loopw [5] (fun i wr=>∃k:Nat,k<=rs.length/\i=.int .i64 k/\Below w.heap.size w wr)
  (fun i _=>rs.length-(intOf i).toNat)
 case atStart=>exact⟨0,zsj _,rfl,Below.refl _ _⟩
 case round=>
  obtain⟨k,hk,rfl,hb⟩:=hrel
  by_cases hlt:k<rs.length
  ·obtain⟨b,o,sv,nd,rfl,Hn,hbl,c0,c1,c2,c3,c4,hsv⟩:=hc.elem hb hlt;obtain⟨b2,o2,sv2,nd2,rfl,Hn2,hbl2,d0,d1,d2,d3,d4,hsv2⟩:=hc2.elem hb hlt;have hee:nd=nd2:=Hn.out.symm.trans Hn2.out;subst hee;have hbr:b<wr.heap.size:=zsc hbl hb.size;have hbr2:b2<wr.heap.size:=zsc hbl2 hb.size;have hi0:(0:Int)<=(k:Int):=by omega
   have hi1:(k:Int)<(rs.length:Int):=by omega
   have hq1:zag l1 wr.drew sv nd.set:=hsv;have hq2:zag l2 wr.drew sv2 nd.set:=hsv2;go_wp2
   go_region_held3 (fun w'=>w'.cell? ⟨b,o+k*5,none⟩=some (.int .i64 nd.kind)/\w'.cell? ⟨b,o+k*5+1,none⟩=some sv/\w'.cell? ⟨b,o+k*5+2,none⟩=some (.int .i64 nd.min)/\w'.cell? ⟨b,o+k*5+3,none⟩=some (.int .i64 nd.max)/\w'.cell? ⟨b,o+k*5+4,none⟩=some (.int .i64 nd.group)/\w'.cell? ⟨b2,o2+k*5,none⟩=some (.int .i64 nd.kind)/\w'.cell? ⟨b2,o2+k*5+1,none⟩=some sv2/\w'.cell? ⟨b2,o2+k*5+2,none⟩=some (.int .i64 nd.min)/\w'.cell? ⟨b2,o2+k*5+3,none⟩=some (.int .i64 nd.max)/\w'.cell? ⟨b2,o2+k*5+4,none⟩=some (.int .i64 nd.group)) ((first|go_keep|exact⟨(hcc _ _ hbr).trans c0,(hcc _ _ hbr).trans c1,(hcc _ _ hbr).trans c2,(hcc _ _ hbr).trans c3,(hcc _ _ hbr).trans c4,(hcc _ _ hbr2).trans d0,(hcc _ _ hbr2).trans d1,(hcc _ _ hbr2).trans d2,(hcc _ _ hbr2).trans d3,(hcc _ _ hbr2).trans d4⟩)) ((go_at_call 94;refine(zmD _ _ _ _ _ _ _ _ hq1 hq2).mono ?_;rintro e w2 ⟨rfl,hb2⟩;obtain⟨hcc,_⟩:=zdI hb2))
   go_wp2
   go_roundw
   case rel=>exact⟨k+1,by omega,by go_num,zaa hb.drew hb.size hb2⟩
   case measure=>simp[intOf];omega
  ·go_wp2;go_ret;exact⟨rfl,hb⟩
theorem zjg(bol eol:Bool)(v v2:Value)(ns:List zak)(w:World)(hs:zas l1 w v ns)(hs2:zas l2 w v2 ns):
  Calls Tryz.prog 46 #[.agg #[.bool bol,.bool eol,v],.agg #[.bool bol,.bool eol,v2]] w fun e w'=>e=.returned (.bool true)/\Below w.heap.size w w':=by
 go_enter Tryz.func46,Tryz.ntmps46
 go_wp2_with fail
 refine(zll (l1:=l1) (l2:=l2) _ _ ns _ (hs.below ?_) (hs2.below ?_)).mono ?_
 ·exact((Below.refl _ _).alloc (zsa _) _).alloc (by simp) _
 ·exact((Below.refl _ _).alloc (zsa _) _).alloc (by simp) _
 rintro e w2 ⟨rfl,hb⟩;have hbb:=((((Below.refl w.heap.size w).alloc (zsa _) _).alloc (by simp) _).trans (hb.mono (by simp;omega)));clear hb;go_wp2;go_ret;exact⟨rfl,hbb⟩
theorem zhY(v v2:Value)(rs:List zaf)(w:World)(hs:zaj l1 w v rs)(hs2:zaj l2 w v2 rs):
  Calls Tryz.prog 25 #[v,v2] w fun e w'=>e=.returned (.bool true)/\Below w.heap.size w w':=by
 obtain⟨ao,cap,rfl,hm,hc⟩:=hs;obtain⟨ao2,cap2,rfl,_,hc2⟩:=hs2
 go_enter Tryz.func25,Tryz.ntmps25
 go_wp2
 go_loopw [5] (fun i wr=>∃k:Nat,k<=rs.length/\i=.int .i64 k/\Below w.heap.size w wr)
  (fun i _=>rs.length-(intOf i).toNat)
 case atStart=>exact⟨0,zsj _,rfl,Below.refl _ _⟩
 case round=>
  obtain⟨k,hk,rfl,hb⟩:=hrel
  by_cases hlt:k<rs.length
  ·obtain⟨b,o,nv,nd,rfl,Hn,hbl,c0,c1,c2,hsv⟩:=hc.elem hb hlt;obtain⟨b2,o2,nv2,nd2,rfl,Hn2,hbl2,d0,d1,d2,hsv2⟩:=hc2.elem hb hlt;have hee:nd=nd2:=Hn.out.symm.trans Hn2.out;subst hee;have hbr:b<wr.heap.size:=zsc hbl hb.size;have hbr2:b2<wr.heap.size:=zsc hbl2 hb.size;have hi0:(0:Int)<=(k:Int):=by omega
   have hi1:(k:Int)<(rs.length:Int):=by omega
   have hq1:zas l1 wr.drew nv nd.nodes:=hsv;have hq2:zas l2 wr.drew nv2 nd.nodes:=hsv2;go_wp2
   go_region_held3 (fun w'=>w'.cell? ⟨b,o+k*3,none⟩=some (.bool nd.bol)/\w'.cell? ⟨b,o+k*3+1,none⟩=some (.bool nd.eol)/\w'.cell? ⟨b,o+k*3+2,none⟩=some nv/\w'.cell? ⟨b2,o2+k*3,none⟩=some (.bool nd.bol)/\w'.cell? ⟨b2,o2+k*3+1,none⟩=some (.bool nd.eol)/\w'.cell? ⟨b2,o2+k*3+2,none⟩=some nv2) ((first|go_keep|exact⟨(hcc _ _ hbr).trans c0,(hcc _ _ hbr).trans c1,(hcc _ _ hbr).trans c2,(hcc _ _ hbr2).trans d0,(hcc _ _ hbr2).trans d1,(hcc _ _ hbr2).trans d2⟩)) ((go_at_call 46;refine(zjg _ _ _ _ _ _ hq1 hq2).mono ?_;rintro e w2 ⟨rfl,hb2⟩;obtain⟨hcc,_⟩:=zdI hb2))
   go_wp2
   go_roundw
   case rel=>exact⟨k+1,by omega,by go_num,zaa hb.drew hb.size hb2⟩
   case measure=>simp[intOf];omega
  ·go_wp2;go_ret;exact⟨rfl,hb⟩
theorem zmF(g:Int)(v v2:Value)(bs:List zaf)(w:World)(hs:zaj l1 w v bs)(hs2:zaj l2 w v2 bs):
  Calls Tryz.prog 9 #[.agg #[v,.int .i64 g],.agg #[v2,.int .i64 g]] w fun e w'=>e=.returned (.bool true)/\Below w.heap.size w w':=by
 go_enter Tryz.func9,Tryz.ntmps9
 go_wp2_with fail
 refine(zhY (l1:=l1) (l2:=l2) _ _ bs _ (hs.below ?_) (hs2.below ?_)).mono ?_
 ·exact((Below.refl _ _).alloc (zsa _) _).alloc (by simp) _
 ·exact((Below.refl _ _).alloc (zsa _) _).alloc (by simp) _
 rintro e w2 ⟨rfl,hb⟩;obtain⟨hcc,hff⟩:=zdI hb;have hbb:=((((Below.refl w.heap.size w).alloc (zsa _) _).alloc (by simp) _).trans (hb.mono (by simp;omega)));clear hb;go_wp2;go_ret;exact⟨rfl,hbb⟩
end
def zaA(k:Int):Nat:=if k=2\/k=3 then 2 else if k=4\/k=5 then 1 else 0
def zaL(mn mx:Int):Int:=if mx=-1 then mn+1 else if mx<1 then 1 else mx
def capW(n:Int):Int:=if n<=2001 then n else 2001
def zaD(mn mx:Int):Bool:=decide (0<=mn/\mn<=255)&&decide (mx=-1\/(mn<=mx/\mx<=255))
def zbu(mn mx:Int):Bool:=decide (mn=0/\(mx=1\/mx=-1))
theorem zkh(k:Int):zaA k<=2:=by unfold zaA;split<;>(try split)<;>omega
theorem ze5(k:Int)(w:World):Calls Tryz.prog 56 #[.int .i64 k] w fun e w'=>e=.returned (.int .i64 (zaA k))/\w'=w:=by
 by_cases h2:k=2
 ·subst h2;go_enter Tryz.func56,Tryz.ntmps56;go_wp2;go_ret;exact⟨rfl,rfl⟩
 by_cases h3:k=3
 ·subst h3;go_enter Tryz.func56,Tryz.ntmps56;go_wp2;go_ret;exact⟨rfl,rfl⟩
 by_cases h4:k=4
 ·subst h4;go_enter Tryz.func56,Tryz.ntmps56;go_wp2;go_ret;exact⟨rfl,rfl⟩
 by_cases h5:k=5
 ·subst h5;go_enter Tryz.func56,Tryz.ntmps56;go_wp2;go_ret;exact⟨rfl,rfl⟩
 have e2:(k==2)=false:=zsk.2 h2;have e3:(k==3)=false:=zsk.2 h3;have e4:(k==4)=false:=zsk.2 h4;have e5:(k==5)=false:=zsk.2 h5;have ha:Hid (zaA k=0):=by show _=_;simp[zaA,h2,h3,h4,h5]
 clear h2 h3 h4 h5
 go_enter Tryz.func56,Tryz.ntmps56
 go_wp2;go_ret;exact⟨zbi (by rw[ha.out];rfl),rfl⟩
theorem zbo(k:Int)(w:World):Calls Tryz.prog 76 #[.int .i64 k] w fun e w'=>e=.returned (.int .i64 (zaA k))/\w'=w:=by
 by_cases h2:k=2
 ·subst h2;go_enter Tryz.func76,Tryz.ntmps76;go_wp2;go_ret;exact⟨rfl,rfl⟩
 by_cases h3:k=3
 ·subst h3;go_enter Tryz.func76,Tryz.ntmps76;go_wp2;go_ret;exact⟨rfl,rfl⟩
 by_cases h4:k=4
 ·subst h4;go_enter Tryz.func76,Tryz.ntmps76;go_wp2;go_ret;exact⟨rfl,rfl⟩
 by_cases h5:k=5
 ·subst h5;go_enter Tryz.func76,Tryz.ntmps76;go_wp2;go_ret;exact⟨rfl,rfl⟩
 have e2:(k==2)=false:=zsk.2 h2;have e3:(k==3)=false:=zsk.2 h3;have e4:(k==4)=false:=zsk.2 h4;have e5:(k==5)=false:=zsk.2 h5;have ha:Hid (zaA k=0):=by show _=_;simp[zaA,h2,h3,h4,h5]
 clear h2 h3 h4 h5
 go_enter Tryz.func76,Tryz.ntmps76
 go_wp2;go_ret;exact⟨zbi (by rw[ha.out];rfl),rfl⟩
theorem zmn(k mn mx g:Int)(sv:Value)(w:World)(h0:0<=mn)(h1:mn<=255):
  Calls Tryz.prog 96 #[.agg #[.int .i64 k,sv,.int .i64 mn,.int .i64 mx,.int .i64 g]] w fun e w'=>e=.returned (.int .i64 (zaL mn mx))/\Below w.heap.size w w':=by
 rcases(show mx=-1\/(mx≠-1/\mx<1)\/(mx≠-1/\1<=mx) by omega) with rfl|⟨ha,hb⟩|⟨ha,hb⟩
 all_goals
  go_enter Tryz.func96,Tryz.ntmps96
  go_wp2;go_ret;refine⟨zbi ?_,(Below.refl _ _).alloc (zsa _) _⟩;simp[zaL]<;>omega
theorem zbA(n:Int)(w:World):Calls Tryz.prog 59 #[.int .i64 n] w fun e w'=>e=.returned (.int .i64 (capW n))/\w'=w:=by
 by_cases h:n<=2001
 all_goals
  go_enter Tryz.func59,Tryz.ntmps59
  go_wp2;go_ret;refine⟨zbi ?_,rfl⟩;simp[capW]<;>omega
theorem zi2(mn mx:Int)(w:World):Calls Tryz.prog 99 #[.int .i64 mn,.int .i64 mx] w fun e w'=>e=.returned (.bool (zaD mn mx))/\w'=w:=by
 by_cases h0:mn<0
 ·go_enter Tryz.func99,Tryz.ntmps99;go_wp2;go_ret;exact⟨zam (by simp[zaD];omega),rfl⟩
 by_cases h1:255<mn
 ·go_enter Tryz.func99,Tryz.ntmps99;go_wp2;go_ret;exact⟨zam (by simp[zaD];omega),rfl⟩
 by_cases h2:mx=-1
 ·subst h2;go_enter Tryz.func99,Tryz.ntmps99;go_wp2;go_ret;exact⟨zam (by simp[zaD];omega),rfl⟩
 have e2:(mx == -1)=false:=zsk.2 h2;have H2:Hid (mx≠-1):=h2;clear h2
 by_cases h3:mn<=mx
 ·by_cases h4:mx<=255
  ·go_enter Tryz.func99,Tryz.ntmps99;go_wp2;go_ret;exact⟨zam (by have:=H2.out;simp[zaD];omega),rfl⟩
  ·go_enter Tryz.func99,Tryz.ntmps99;go_wp2;go_ret;exact⟨zam (by have:=H2.out;simp[zaD];omega),rfl⟩
 ·go_enter Tryz.func99,Tryz.ntmps99;go_wp2;go_ret;exact⟨zam (by have:=H2.out;simp[zaD];omega),rfl⟩
theorem zcD(v:Value)(mn mx:Int)(w:World):Calls Tryz.prog 119 #[.agg #[v,.int .i64 mn,.int .i64 mx]] w fun e w'=>e=.returned (.bool (zbu mn mx))/\Below w.heap.size w w':=by
 by_cases h0:mn=0
 ·subst h0
  by_cases h1:mx=1
  ·subst h1;go_enter Tryz.func119,Tryz.ntmps119;go_wp2;go_ret;exact⟨rfl,(Below.refl _ _).alloc (zsa _) _⟩
  by_cases h2:mx=-1
  ·subst h2;go_enter Tryz.func119,Tryz.ntmps119;go_wp2;go_ret;exact⟨rfl,(Below.refl _ _).alloc (zsa _) _⟩
  have e1:(mx==1)=false:=zsk.2 h1;have e2:(mx == -1)=false:=zsk.2 h2;have H:Hid (zbu 0 mx=false):=by show _=_;simp[zbu,h1,h2]
  clear h1 h2
  go_enter Tryz.func119,Tryz.ntmps119;go_wp2;go_ret;exact⟨zam H.out.symm,(Below.refl _ _).alloc (zsa _) _⟩
 ·have e0:(mn==0)=false:=zsk.2 h0;have H:Hid (zbu mn mx=false):=by show _=_;simp[zbu,h0]
  clear h0
  go_enter Tryz.func119,Tryz.ntmps119;go_wp2;go_ret;exact⟨zam H.out.symm,(Below.refl _ _).alloc (zsa _) _⟩
end Go.Proofs.YthdljcdbfmhleaaGreatDoor
