import Derived.Test.YtfajjdgkiilhfaaC35
namespace Go.Proofs.Ytfajjdgkiilhfaa
set_option maxHeartbeats 4000000
set_option maxRecDepth 100000
open Go.RowKit
attribute [local go_sem ↓] wp_at_zero wp_at_succ
variable {n:List UInt8}{t:ByteArray}
def iq(n:List UInt8)(c:Nat):Bool:=match oL n with|some f=>f c|none=>false
theorem znf(c:Nat):iq My c=(aT c 65 90 || aT c 97 122):=by
 unfold iq oL;rw[ae rfl]
 rfl
theorem znh(c:Nat):iq MA c=(aT c 48 57):=by
 unfold iq oL;rw[ab (by decide),ae rfl]
 rfl
theorem zne(c:Nat):iq Mx c=(aT c 65 90 || aT c 97 122 || aT c 48 57):=by
 unfold iq oL;rw[ab (by decide),ab (by decide),ae rfl]
 rfl
theorem znl(c:Nat):iq ME c=(aT c 65 90):=by
 unfold iq oL;rw[ab (by decide),ab (by decide),ab (by decide),ae rfl]
 rfl
theorem zni(c:Nat):iq MB c=(aT c 97 122):=by
 unfold iq oL;rw[ab (by decide),ab (by decide),ab (by decide),ab (by decide),ae rfl]
 rfl
theorem znk(c:Nat):iq MD c=(aT c 9 13 || decide ((c:Int)=32)):=by
 unfold iq oL;rw[ab (by decide),ab (by decide),ab (by decide),ab (by decide),ab (by decide),ae rfl];show (decide _ || decide _)=_;rw[Ej];simp[aT];omega
theorem zng(c:Nat):iq Mz c=(decide ((c:Int)=9) || decide ((c:Int)=32)):=by
 unfold iq oL;rw[ab (by decide),ab (by decide),ab (by decide),ab (by decide),ab (by decide),ab (by decide),ae rfl];show (decide _ || decide _)=_;rw[Ej];simp;omega
theorem znj(c:Nat):iq MC c=(aT c 33 126 && !aT c 65 90 && !aT c 97 122 && !aT c 48 57):=by
 unfold iq oL;rw[ab (by decide),ab (by decide),ab (by decide),ab (by decide),ab (by decide),ab (by decide),ab (by decide),ae rfl];show (((decide _ || decide _) || decide _) || decide _)=_;rw[Ej];simp[aT];omega
theorem zln(c:Nat):iq Mm c=(aT c 48 57 || aT c 65 70 || aT c 97 102):=by
 unfold iq oL;rw[ab (by decide),ab (by decide),ab (by decide),ab (by decide),ab (by decide),ab (by decide),ab (by decide),ab (by decide),ae rfl]
 rfl
theorem zoi(c:Nat)(h0:¬n=My)(h1:¬n=MA)(h2:¬n=Mx)(h3:¬n=ME)(h4:¬n=MB)(h5:¬n=MD)(h6:¬n=Mz)(h7:¬n=MC)(h8:¬n=Mm):iq n c=false:=by
 unfold iq oL;rw[ab h0,ab h1,ab h2,ab h3,ab h4,ab h5,ab h6,ab h7,ab h8]
theorem DZ(h:t.data.toList=n):(t.toList==n)=true:=by rw[Ci,h];exact beq_self_eq_true n
theorem Ec(h:¬t.data.toList=n):(t.toList==n)=false:=by rw[Ci];exact lX.2 h
theorem zfW(t:ByteArray)(c:Nat)(ci:Int)(w:World)(Le:ci=c):
  Calls Try.prog 94 #[.string t,.int .i64 ci] w λe w'=>e=.returned (.bool (iq t.data.toList c))/\w'=w:=by
 subst Le
 go_enter Try.func94,Try.ntmps94
 go_wp2_with fail
 refine(lp _ _ _ _).mono ?_;rintro e w' ⟨rfl,rfl⟩
 go_wp2_with fail
 refine(lp _ _ _ _).mono ?_;rintro e w' ⟨rfl,rfl⟩
 go_wp2_with fail
 refine(lp _ _ _ _).mono ?_;rintro e w' ⟨rfl,rfl⟩
 by_cases z0:t.data.toList=My
 ·have HV:Hid (iq t.data.toList c=(aT c 65 90 || aT c 97 122)):=by show _=_;rw[z0];exact znf c
  have q0:(t.toList == [97,108,112,104,97])=true:=DZ z0;clear z0;cases hu:aT (c:Int) 65 90<;>cases hl:aT (c:Int) 97 122<;>cases hd:aT (c:Int) 48 57
  all_goals
   go_wp2;go_ret;exact⟨dD (by have:=HV.out;rw[hu,hl]at this;exact this.symm),rfl⟩
 have q0:(t.toList == [97,108,112,104,97])=false:=Ec z0
 by_cases z1:t.data.toList=MA
 ·have HV:Hid (iq t.data.toList c=(aT c 48 57)):=by show _=_;rw[z1];exact znh c
  have q1:(t.toList == [100,105,103,105,116])=true:=DZ z1;clear z1;cases hu:aT (c:Int) 65 90<;>cases hl:aT (c:Int) 97 122<;>cases hd:aT (c:Int) 48 57
  all_goals
   go_wp2;go_ret;exact⟨dD (by have:=HV.out;rw[hd]at this;exact this.symm),rfl⟩
 have q1:(t.toList == [100,105,103,105,116])=false:=Ec z1
 by_cases z2:t.data.toList=Mx
 ·have HV:Hid (iq t.data.toList c=(aT c 65 90 || aT c 97 122 || aT c 48 57)):=by show _=_;rw[z2];exact zne c
  have q2:(t.toList == [97,108,110,117,109])=true:=DZ z2;clear z2;cases hu:aT (c:Int) 65 90<;>cases hl:aT (c:Int) 97 122<;>cases hd:aT (c:Int) 48 57
  all_goals
   go_wp2;go_ret;exact⟨dD (by have:=HV.out;rw[hu,hl,hd]at this;exact this.symm),rfl⟩
 have q2:(t.toList == [97,108,110,117,109])=false:=Ec z2
 by_cases z3:t.data.toList=ME
 ·have HV:Hid (iq t.data.toList c=(aT c 65 90)):=by show _=_;rw[z3];exact znl c
  have q3:(t.toList == [117,112,112,101,114])=true:=DZ z3;clear z3;cases hu:aT (c:Int) 65 90<;>cases hl:aT (c:Int) 97 122<;>cases hd:aT (c:Int) 48 57
  all_goals
   go_wp2;go_ret;exact⟨dD (by have:=HV.out;rw[hu]at this;exact this.symm),rfl⟩
 have q3:(t.toList == [117,112,112,101,114])=false:=Ec z3
 by_cases z4:t.data.toList=MB
 ·have HV:Hid (iq t.data.toList c=(aT c 97 122)):=by show _=_;rw[z4];exact zni c
  have q4:(t.toList == [108,111,119,101,114])=true:=DZ z4;clear z4;cases hu:aT (c:Int) 65 90<;>cases hl:aT (c:Int) 97 122<;>cases hd:aT (c:Int) 48 57
  all_goals
   go_wp2;go_ret;exact⟨dD (by have:=HV.out;rw[hl]at this;exact this.symm),rfl⟩
 have q4:(t.toList == [108,111,119,101,114])=false:=Ec z4
 by_cases z5:t.data.toList=MD
 ·have HV:Hid (iq t.data.toList c=(aT c 9 13 || decide ((c:Int)=32))):=by show _=_;rw[z5];exact znk c
  have q5:(t.toList == [115,112,97,99,101])=true:=DZ z5;clear z5
  go_wp2_with fail
  refine(lp _ _ _ _).mono ?_;rintro e w' ⟨rfl,rfl⟩;cases hs:aT (c:Int) 9 13<;>by_cases wv:(c:Int)=32
  all_goals
   go_wp2;go_ret;exact⟨dD (by have:=HV.out;first|(rw[hs,decide_eq_true wv]at this;exact this.symm)|(rw[hs,decide_eq_false wv]at this;exact this.symm)|(rw[hs,decide_eq_false wv]at this;rw[this];exact lX.2 wv)),rfl⟩
 have q5:(t.toList == [115,112,97,99,101])=false:=Ec z5
 by_cases z6:t.data.toList=Mz
 ·have HV:Hid (iq t.data.toList c=(decide ((c:Int)=9) || decide ((c:Int)=32))):=by show _=_;rw[z6];exact zng c
  have q6:(t.toList == [98,108,97,110,107])=true:=DZ z6;clear z6
  by_cases h9:(c:Int)=9<;>by_cases wv:(c:Int)=32
  all_goals
   go_wp2;go_ret;exact⟨dD (by have:=HV.out;first|(rw[decide_eq_true h9]at this;exact this.symm)|(rw[decide_eq_false h9,decide_eq_true wv]at this;exact this.symm)|(rw[decide_eq_false h9,decide_eq_false wv]at this;exact this.symm)|(rw[decide_eq_false h9,decide_eq_false wv]at this;rw[this,lX.2 h9,lX.2 wv])),rfl⟩
 have q6:(t.toList == [98,108,97,110,107])=false:=Ec z6
 by_cases z7:t.data.toList=MC
 ·have HV:Hid (iq t.data.toList c=(aT c 33 126 && !aT c 65 90 && !aT c 97 122 && !aT c 48 57)):=by show _=_;rw[z7];exact znj c
  have q7:(t.toList == [112,117,110,99,116])=true:=DZ z7;clear z7
  go_wp2_with fail
  refine(lp _ _ _ _).mono ?_;rintro e w' ⟨rfl,rfl⟩;cases hp:aT (c:Int) 33 126<;>cases hu:aT (c:Int) 65 90<;>cases hl:aT (c:Int) 97 122<;>cases hd:aT (c:Int) 48 57
  all_goals
   go_wp2;go_ret;exact⟨dD (by have:=HV.out;rw[hp,hu,hl,hd]at this;exact this.symm),rfl⟩
 have q7:(t.toList == [112,117,110,99,116])=false:=Ec z7
 by_cases z8:t.data.toList=Mm
 ·have HV:Hid (iq t.data.toList c=(aT c 48 57 || aT c 65 70 || aT c 97 102)):=by show _=_;rw[z8];exact zln c
  have q8:(t.toList == [120,100,105,103,105,116])=true:=DZ z8;clear z8;cases hd:aT (c:Int) 48 57
  ·go_wp2_with fail
   refine(lp _ _ _ _).mono ?_;rintro e w' ⟨rfl,rfl⟩;cases hu:aT (c:Int) 65 70
   ·go_wp2_with fail
    refine(lp _ _ _ _).mono ?_;rintro e w' ⟨rfl,rfl⟩;go_wp2;go_ret;exact⟨dD (by have:=HV.out;rw[hd,hu]at this;exact this.symm),rfl⟩
   ·go_wp2;go_ret;exact⟨dD (by have:=HV.out;rw[hd,hu]at this;exact this.symm),rfl⟩
  ·go_wp2;go_ret;exact⟨dD (by have:=HV.out;rw[hd]at this;exact this.symm),rfl⟩
 have q8:(t.toList == [120,100,105,103,105,116])=false:=Ec z8;have HV:Hid (iq t.data.toList c=false):=zoi c z0 z1 z2 z3 z4 z5 z6 z7 z8;clear z0 z1 z2 z3 z4 z5 z6 z7 z8;go_wp2;go_ret;exact⟨dD HV.out.symm,rfl⟩
end Go.Proofs.Ytfajjdgkiilhfaa
