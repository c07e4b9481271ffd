/-
  Words and contracts that a statement's proof rests on (KeyA, KeyB, SlotA, KeyD, Store, KeyR). No statement is proved here.
-/
import Derived.Deep.RegionHeld3
import Derived.Deep.MidRow
import Derived.Test.YtfekhdgjgjodlaaGreatKit
import Derived.Test.YtfekhdgjgjodlaaGreatPtB
import Derived.Test.YtfekhdgjgjodlaaGreatPlainFx
set_option linter.unusedVariables false
set_option linter.unusedSimpArgs false
namespace Go.Proofs.YtfekhdgjgjodlaaGreat
section
open Go.RowKit
set_option maxHeartbeats 1600000 in
theorem zf2 (v:Int) (m:Nat) (hm:m<18446744073709551616) (w:World) :
  Calls Tryz.prog 137 #[.agg #[.int .i64 v,.int .u64 (m:Int)]] w (Says (.bool (zbn v m)) w):=by
 have hg:(0:Int)<=(m:Int):=Int.natCast_nonneg _
 have hR:=fun W=>zpi m hm W
 have hK:=fun W=>mac_Kind m hm W
 rcases (show (v<1)\/(1<=v/\4094<v)\/(1<=v/\v<=4094/\m=0)\/(1<=v/\v<=4094/\0<m/\281474976710656<=m)\/(1<=v/\v<=4094/\0<m/\m<281474976710656/\m / 1099511627776 % 2≠0)\/(1<=v/\v<=4094/\0<m/\m<281474976710656/\m / 1099511627776 % 2=0) by omega) with h|⟨h,h1⟩|⟨h,h1,h2⟩|⟨h,h1,h2,h3⟩|⟨h,h1,h2,h3,h4⟩|⟨h,h1,h2,h3,h4⟩
 ·rw [zbz (by omega)]
  clear hR hK hm hg
  go_enter Tryz.func137,Tryz.ntmps137
  go_wp2
  go_ret
  exact ⟨zai (by first|rfl|(simp;omega)),((Below.refl _ _).alloc (Nat.le_refl _) _)⟩
 ·rw [zbz (by omega)]
  clear hR hK hm hg
  go_enter Tryz.func137,Tryz.ntmps137
  go_wp2
  go_ret
  exact ⟨zai (by first|rfl|(simp;omega)),((Below.refl _ _).alloc (Nat.le_refl _) _)⟩
 ·rw [zbz (by omega)]
  subst h2;clear hR hK hm hg
  go_enter Tryz.func137,Tryz.ntmps137
  go_wp2
  go_ret
  exact ⟨zai (by first|rfl|(simp;omega)),((Below.refl _ _).alloc (Nat.le_refl _) _)⟩
 ·rw [zbz (by omega)]
  have h5:¬ (m:Int)=0:=by omega
  rw [decide_eq_false (by omega)] at hR
  clear hK;have HR:=Lib.hid hR;clear hR;clear hm
  go_enter Tryz.func137,Tryz.ntmps137
  go_wp2_with fail
  refine (HR.out _).mono ?_
  rintro e w1 ⟨rfl,rfl⟩
  go_wp2
  go_ret
  exact ⟨zai (by first|rfl|(simp;omega)),((Below.refl _ _).alloc (Nat.le_refl _) _)⟩
 ·rw [zbz (by omega)]
  have h5:¬ (m:Int)=0:=by omega
  rw [decide_eq_true (by omega)] at hR
  have h6:¬ zfh m=0:=fun hh=>h4 ((zef h3).1 hh)
  generalize zfh m=k at *
  have h7:¬ (k:Int)=0:=by omega
  have HK:=Lib.hid hK;clear hK;have HR:=Lib.hid hR;clear hR;clear h4;clear hm
  go_enter Tryz.func137,Tryz.ntmps137
  go_wp2_with fail
  refine (HR.out _).mono ?_
  rintro e w1 ⟨rfl,rfl⟩
  go_wp2_with fail
  refine (HK.out _).mono ?_
  rintro e w2 ⟨rfl,rfl⟩
  go_wp2
  go_ret
  exact ⟨zai (by first|rfl|(simp;omega)),((Below.refl _ _).alloc (Nat.le_refl _) _)⟩
 ·rw [zc8.2 ⟨h,h1,h2,h3,h4⟩]
  have h5:¬ (m:Int)=0:=by omega
  rw [decide_eq_true (by omega)] at hR
  rw [(zef h3).2 h4] at hK;have HK:=Lib.hid hK;clear hK;have HR:=Lib.hid hR;clear hR;clear h4;clear hm
  go_enter Tryz.func137,Tryz.ntmps137
  go_wp2_with fail
  refine (HR.out _).mono ?_
  rintro e w1 ⟨rfl,rfl⟩
  go_wp2_with fail
  refine (HK.out _).mono ?_
  rintro e w2 ⟨rfl,rfl⟩
  go_wp2
  go_ret
  exact ⟨zai (by first|rfl|(simp;omega)),((Below.refl _ _).alloc (Nat.le_refl _) _)⟩
set_option maxHeartbeats 1600000 in
theorem zdy (v:Int) (m:Nat) (hm:m<18446744073709551616) (w:World) :
  Calls Tryz.prog 100 #[.agg #[.int .i64 v,.int .u64 (m:Int)]] w (Says (.bool (zbn v m)) w):=by
 have hg:(0:Int)<=(m:Int):=Int.natCast_nonneg _
 have hR:=fun W=>zqx m W
 have hK:=fun W=>ref_Kind m hm W
 rcases (show (v<1)\/(1<=v/\4094<v)\/(1<=v/\v<=4094/\m=0)\/(1<=v/\v<=4094/\0<m/\281474976710656<=m)\/(1<=v/\v<=4094/\0<m/\m<281474976710656/\m / 1099511627776 % 2≠0)\/(1<=v/\v<=4094/\0<m/\m<281474976710656/\m / 1099511627776 % 2=0) by omega) with h|⟨h,h1⟩|⟨h,h1,h2⟩|⟨h,h1,h2,h3⟩|⟨h,h1,h2,h3,h4⟩|⟨h,h1,h2,h3,h4⟩
 ·rw [zbz (by omega)]
  have d0:decide (v≥1)=false:=decide_eq_false (by omega)
  clear hR hK hm hg
  go_enter Tryz.func100,Tryz.ntmps100
  go_wp2_with fail
  go_quiet (fail)
  go_wp2
  go_ret
  exact ⟨zai (by first|rfl|(simp;omega)),zaa ((Below.refl _ _).alloc (Nat.le_refl _) _) _⟩
 ·rw [zbz (by omega)]
  have d0:decide (v≥1)=true:=decide_eq_true (by omega)
  have d1:decide (v<=4094)=false:=decide_eq_false (by omega)
  clear hR hK hm hg
  go_enter Tryz.func100,Tryz.ntmps100
  go_wp2_with fail
  go_quiet (fail)
  go_wp2
  go_ret
  exact ⟨zai (by first|rfl|(simp;omega)),zaa ((Below.refl _ _).alloc (Nat.le_refl _) _) _⟩
 ·rw [zbz (by omega)]
  subst h2
  have d0:decide (v≥1)=true:=decide_eq_true (by omega)
  have d1:decide (v<=4094)=true:=decide_eq_true (by omega)
  clear hR hK hm hg
  go_enter Tryz.func100,Tryz.ntmps100
  go_wp2_with fail
  go_quiet (fail)
  go_wp2
  go_ret
  exact ⟨zai (by first|rfl|(simp;omega)),zaa ((Below.refl _ _).alloc (Nat.le_refl _) _) _⟩
 ·rw [zbz (by omega)]
  have d0:decide (v≥1)=true:=decide_eq_true (by omega)
  have d1:decide (v<=4094)=true:=decide_eq_true (by omega)
  have d2:decide ((m:Int) > 0)=true:=decide_eq_true (by omega)
  have d3:((m:Int) == ((m % 281474976710656:Nat):Int))=false:=by simp;omega
  have h5:¬ (m:Int)=0:=by omega
  generalize m % 281474976710656=L at *
  clear hK;have HR:=Lib.hid hR;clear hR;clear hm
  go_enter Tryz.func100,Tryz.ntmps100
  go_wp2_with fail
  go_quiet (first|(go_at_call 121;with_reducible exact zmb HR.out _ _)|(go_at_call 121;with_reducible exact zce HR.out _ _ _))
  go_wp2
  go_ret
  exact ⟨zai (by first|rfl|(simp;omega)),zaa ((Below.refl _ _).alloc (Nat.le_refl _) _) _⟩
 ·rw [zbz (by omega)]
  have d0:decide (v≥1)=true:=decide_eq_true (by omega)
  have d1:decide (v<=4094)=true:=decide_eq_true (by omega)
  have d2:decide ((m:Int) > 0)=true:=decide_eq_true (by omega)
  have d3:((m:Int) == (m:Int))=true:=by simp
  have h5:¬ (m:Int)=0:=by omega
  rw [Nat.mod_eq_of_lt (by omega)] at hR
  have h6:¬ zfh m=0:=fun hh=>h4 ((zef h3).1 hh)
  generalize zfh m=k at *
  have d4:((k:Int) == 0)=false:=by simp;omega
  have HK:=Lib.hid hK;clear hK;have HR:=Lib.hid hR;clear hR;clear h4;clear hm
  go_enter Tryz.func100,Tryz.ntmps100
  go_wp2_with fail
  go_region_held3 (fun w'=>w'.cell? ⟨w.heap.size,0,none⟩=some (.int .i64 v)/\w'.cell? ⟨w.heap.size,1,none⟩=some (.int .u64 (m:Int)))
   (first|(with_reducible exact kp2 (by assumption) (fun p hp=>hb.cell (by rw [hp];go_size)))|go_keep)
   (first
    |(go_at_call 121;(with_reducible refine Calls.mono (HR.out _) ?_);rintro e w1 ⟨rfl,rfl⟩)
    |(go_at_call 122;(with_reducible refine Calls.mono (HK.out _) ?_);rintro e w2 ⟨rfl,hb⟩;have hB2:Below w.heap.size w w2:=Below.trans bq1 (hb.mono (by go_size));have hz2:w.heap.size+1<=w2.heap.size:=(by have:=hb.size;(try simp at this);omega)))
  all_goals
   go_wp2
   go_ret
   exact ⟨zai (by first|rfl|(simp;omega)),by assumption⟩
 ·rw [zc8.2 ⟨h,h1,h2,h3,h4⟩]
  have d0:decide (v≥1)=true:=decide_eq_true (by omega)
  have d1:decide (v<=4094)=true:=decide_eq_true (by omega)
  have d2:decide ((m:Int) > 0)=true:=decide_eq_true (by omega)
  have d3:((m:Int) == (m:Int))=true:=by simp
  have h5:¬ (m:Int)=0:=by omega
  rw [Nat.mod_eq_of_lt (by omega)] at hR
  rw [(zef h3).2 h4] at hK;have HK:=Lib.hid hK;clear hK;have HR:=Lib.hid hR;clear hR;clear h4;clear hm
  go_enter Tryz.func100,Tryz.ntmps100
  go_wp2_with fail
  go_region_held3 (fun w'=>w'.cell? ⟨w.heap.size,0,none⟩=some (.int .i64 v)/\w'.cell? ⟨w.heap.size,1,none⟩=some (.int .u64 (m:Int)))
   (first|(with_reducible exact kp2 (by assumption) (fun p hp=>hb.cell (by rw [hp];go_size)))|go_keep)
   (first
    |(go_at_call 121;(with_reducible refine Calls.mono (HR.out _) ?_);rintro e w1 ⟨rfl,rfl⟩)
    |(go_at_call 122;(with_reducible refine Calls.mono (HK.out _) ?_);rintro e w2 ⟨rfl,hb⟩;have hB2:Below w.heap.size w w2:=Below.trans bq1 (hb.mono (by go_size));have hz2:w.heap.size+1<=w2.heap.size:=(by have:=hb.size;(try simp at this);omega)))
  all_goals
   go_wp2
   go_ret
   exact ⟨zai (by first|rfl|(simp;omega)),by assumption⟩
set_option maxHeartbeats 1600000 in
theorem key_Word (v:Int) (m:Nat) (hm:m<18446744073709551616) (w:World) :
  Calls Tryz.prog 139 #[.agg #[.int .i64 v,.int .u64 (m:Int)]] w (Says (.int .u64 (zd3 v m:Nat)) w):=by
 have hR:=fun W=>zf2 v m hm W
 cases hr:zbn v m
 ·rw [hr] at hR
  rw [zij hr];have HR:=Lib.hid hR;clear hR hr hm
  go_enter Tryz.func139,Tryz.ntmps139
  go_wp2_with fail
  refine (HR.out _).mono ?_
  rintro e w1 ⟨rfl,hb⟩;have HB:=Lib.hid hb;clear hb
  go_wp2
  go_ret
  exact ⟨rfl,Below.trans ((Below.refl _ _).alloc (Nat.le_refl _) _) (HB.out.mono (by simp))⟩
 ·rw [hr] at hR
  rw [zfx hr];obtain ⟨h1,h2,h3,h4,h5⟩:=zc8.1 hr;have HR:=Lib.hid hR;clear hR hr hm h5
  obtain ⟨u,rfl⟩:=Int.eq_ofNat_of_zero_le (show 0<=v by omega)
  rw [Int.toNat_natCast]
  have hu:u<4096:=by omega
  have e1:bits .or .u64 1152921504606846976 ((u:Int)*281474976710656)=((1152921504606846976 ||| u*281474976710656:Nat):Int):=by
   have:=u64_or_nat 1152921504606846976 (u*281474976710656) (by omega) (by omega)
   simpa using this
  have hx:1152921504606846976 ||| u*281474976710656<18446744073709551616:=by
   have:=zoy u 0 hu (by omega)
   rw [Nat.or_zero] at this
   omega
  have e2:=u64_or_nat (1152921504606846976 ||| u*281474976710656) m hx (by omega)
  rw [zoy u m hu h4] at e2
  obtain ⟨y,hy⟩:∃ y,y=1152921504606846976 ||| u*281474976710656:=⟨_,rfl⟩
  rw [<- hy] at e1 e2;clear hy hx
  go_enter Tryz.func139,Tryz.ntmps139
  go_wp2_with fail
  refine (HR.out _).mono ?_
  rintro e w1 ⟨rfl,hb⟩;obtain ⟨hc,hf⟩:=zao hb
  have c0:w1.cell? ⟨w.heap.size,0,none⟩=some (.int .i64 (u:Int)):=by rw [hc _ _ (by simp)];simp [go_sem]
  have c1:w1.cell? ⟨w.heap.size,1,none⟩=some (.int .u64 (m:Int)):=by rw [hc _ _ (by simp)];simp [go_sem]
  have HB:=Lib.hid hb;clear hb hc hf
  go_wp2
  go_ret
  exact ⟨zcr (by first|rfl|(simp;done)|omega),Below.trans ((Below.refl _ _).alloc (Nat.le_refl _) _) (HB.out.mono (by simp))⟩
set_option maxHeartbeats 1600000 in
theorem zn4 (v:Int) (m:Nat) (hm:m<18446744073709551616) (w:World) :
  Calls Tryz.prog 120 #[.agg #[.int .i64 v,.int .u64 (m:Int)]] w (Says (.int .u64 (zd3 v m:Nat)) w):=by
 have hR:=fun W=>zdy v m hm W
 cases hr:zbn v m
 ·rw [hr] at hR
  rw [zij hr];have HR:=Lib.hid hR;clear hR hr hm
  go_enter Tryz.func120,Tryz.ntmps120
  go_wp2_with fail
  refine (HR.out _).mono ?_
  rintro e w1 ⟨rfl,hb⟩;have HB:=Lib.hid hb;clear hb
  go_wp2
  go_ret
  exact ⟨rfl,Below.trans ((Below.refl _ _).alloc (Nat.le_refl _) _) (HB.out.mono (by simp))⟩
 ·rw [hr] at hR
  rw [zfx hr];obtain ⟨h1,h2,h3,h4,h5⟩:=zc8.1 hr;have HR:=Lib.hid hR;clear hR hr hm h5
  obtain ⟨u,rfl⟩:=Int.eq_ofNat_of_zero_le (show 0<=v by omega)
  rw [Int.toNat_natCast]
  have hu:u<4096:=by omega
  go_enter Tryz.func120,Tryz.ntmps120
  go_wp2_with fail
  refine (HR.out _).mono ?_
  rintro e w1 ⟨rfl,hb⟩;obtain ⟨hc,hf⟩:=zao hb
  have c0:w1.cell? ⟨w.heap.size,0,none⟩=some (.int .i64 (u:Int)):=by rw [hc _ _ (by simp)];simp [go_sem]
  have c1:w1.cell? ⟨w.heap.size,1,none⟩=some (.int .u64 (m:Int)):=by rw [hc _ _ (by simp)];simp [go_sem]
  have HB:=Lib.hid hb;clear hb hc hf
  go_wp2
  go_ret
  exact ⟨zcr (by first|rfl|(simp;done)|omega),Below.trans ((Below.refl _ _).alloc (Nat.le_refl _) _) (HB.out.mono (by simp))⟩
end
section
open Go.RowKit
end
section
open Go.RowKit
theorem zf8 (v:Int) (m:Nat) (p:Int) (st:Bool) (s:Nat):zc3 ⟨v,m,p,st,s⟩=(zbn v m && (decide (0<=p) && decide (p<64) && !(st && decide (s≠0)))):=by
 unfold zc3
 cases st <;> simp [Bool.decide_and,Bool.and_assoc]
set_option maxHeartbeats 1600000 in
theorem zmw (v:Int) (m:Nat) (hm:m<18446744073709551616) (p:Int) (st:Bool) (s:Nat) (hs:s<4294967296) (w:World) :
  Calls Tryz.prog 140 #[.agg #[.int .i64 v,.int .u64 (m:Int),.int .i64 p,.bool st,.int .u32 (s:Int)]] w (Says (.bool (zc3 ⟨v,m,p,st,s⟩)) w):=by
 have hR:=fun W=>zf2 v m hm W
 rw [zf8]
 generalize zbn v m=r at *
 have HR:=Lib.hid hR;clear hR hm
 cases st
 ·cases r
  ·go_enter Tryz.func140,Tryz.ntmps140
   go_wp2_with fail
   refine (HR.out _).mono ?_
   rintro e w1 ⟨rfl,hb⟩;obtain ⟨hc,_⟩:=zao hb
   have c2:w1.cell? ⟨w.heap.size,2,none⟩=some (.int .i64 p):=by rw [hc _ _ (by simp)];simp [go_sem]
   have HB:=Lib.hid (Below.trans ((Below.refl _ _).alloc (Nat.le_refl _) _) (hb.mono (by simp)))
   clear hc hb
   go_wp2
   all_goals go_ret
   all_goals refine ⟨zai ?_,HB.out⟩
   all_goals first|rfl|(simp;done)|(simp_all;done)|(simp;omega)|(rw [Bool.eq_iff_iff];simp;omega)
  ·go_enter Tryz.func140,Tryz.ntmps140
   go_wp2_with fail
   refine (HR.out _).mono ?_
   rintro e w1 ⟨rfl,hb⟩;obtain ⟨hc,_⟩:=zao hb
   have c2:w1.cell? ⟨w.heap.size,2,none⟩=some (.int .i64 p):=by rw [hc _ _ (by simp)];simp [go_sem]
   have HB:=Lib.hid (Below.trans ((Below.refl _ _).alloc (Nat.le_refl _) _) (hb.mono (by simp)))
   clear hc hb
   go_wp2
   all_goals go_ret
   all_goals refine ⟨zai ?_,HB.out⟩
   all_goals first|rfl|(simp;done)|(simp_all;done)|(simp;omega)|(rw [Bool.eq_iff_iff];simp;omega)
 ·by_cases hz:s=0
  ·subst hz
   cases r
   ·go_enter Tryz.func140,Tryz.ntmps140
    go_wp2_with fail
    refine (HR.out _).mono ?_
    rintro e w1 ⟨rfl,hb⟩;obtain ⟨hc,_⟩:=zao hb
    have c2:w1.cell? ⟨w.heap.size,2,none⟩=some (.int .i64 p):=by rw [hc _ _ (by simp)];simp [go_sem]
    have HB:=Lib.hid (Below.trans ((Below.refl _ _).alloc (Nat.le_refl _) _) (hb.mono (by simp)))
    clear hc hb
    go_wp2
    all_goals go_ret
    all_goals refine ⟨zai ?_,HB.out⟩
    all_goals first|rfl|(simp;done)|(simp_all;done)|(simp;omega)|(rw [Bool.eq_iff_iff];simp;omega)
   ·go_enter Tryz.func140,Tryz.ntmps140
    go_wp2_with fail
    refine (HR.out _).mono ?_
    rintro e w1 ⟨rfl,hb⟩;obtain ⟨hc,_⟩:=zao hb
    have c2:w1.cell? ⟨w.heap.size,2,none⟩=some (.int .i64 p):=by rw [hc _ _ (by simp)];simp [go_sem]
    have HB:=Lib.hid (Below.trans ((Below.refl _ _).alloc (Nat.le_refl _) _) (hb.mono (by simp)))
    clear hc hb
    go_wp2
    all_goals go_ret
    all_goals refine ⟨zai ?_,HB.out⟩
    all_goals first|rfl|(simp;done)|(simp_all;done)|(simp;omega)|(rw [Bool.eq_iff_iff];simp;omega)
  ·have hz1:¬ (s:Int)=0:=by omega
   cases r
   ·go_enter Tryz.func140,Tryz.ntmps140
    go_wp2
    go_ret
    exact ⟨zai (by first|rfl|(simp;done)|(simp [hz];done)),((Below.refl _ _).alloc (Nat.le_refl _) _)⟩
   ·go_enter Tryz.func140,Tryz.ntmps140
    go_wp2
    go_ret
    exact ⟨zai (by first|rfl|(simp;done)|(simp [hz];done)),((Below.refl _ _).alloc (Nat.le_refl _) _)⟩
end
section
open Go.RowKit
def plS (v:Int) (m:Nat) (s b:Int):Int:=if zbn v m=true/\1<=s/\1<=b then mixI (zd3 v m:Nat) % s else 0
def plB (v:Int) (m:Nat) (s b:Int):Int:=if zbn v m=true/\1<=s/\1<=b then mixI (zd3 v m:Nat) / 4294967296 % b else 0
theorem pl_no {v:Int} {m:Nat} {s b:Int} (h:¬ (zbn v m=true/\1<=s/\1<=b)):plS v m s b=0/\plB v m s b=0:=⟨if_neg h,if_neg h⟩
theorem pl_yes {v:Int} {m:Nat} {s b:Int} (h:zbn v m=true/\1<=s/\1<=b):plS v m s b=mixI (zd3 v m:Nat) % s/\plB v m s b=mixI (zd3 v m:Nat) / 4294967296 % b:=⟨if_pos h,if_pos h⟩
theorem mod_w (h s:Int) (h0:0<=h/\h<18446744073709551616) (hs:1<=s/\s<=9223372036854775807):wrap64 (h % s)=h % s:=by
 have h1:=Int.emod_nonneg h (show s≠0 by omega)
 have h2:=Int.emod_lt_of_pos h (show 0<s by omega)
 unfold wrap64
 omega
theorem zfj (s:Int) (hs:1<=s/\s<=9223372036854775807):IntKind.u64.wrap s=s:=by rw [IntKind.wrap_u64];omega
set_option maxHeartbeats 1600000 in
theorem zpd (v:Int) (m:Nat) (hm:m<18446744073709551616) (s b:Int) (hs:s<=9223372036854775807) (hb:b<=9223372036854775807) (w:World) :
  Calls Tryz.prog 126 #[.agg #[.int .i64 v,.int .u64 (m:Int)],.int .i64 s,.int .i64 b] w (Says (.tuple #[.int .i64 (plS v m s b),.int .i64 (plB v m s b)]) w):=by
 have hR:=fun W=>zf2 v m hm W
 have hW:=fun W=>key_Word v m hm W
 have hno:=@pl_no v m s b;have hyes:=@pl_yes v m s b;have hwl:=zlh v m
 generalize plS v m s b=x at *
 generalize plB v m s b=y at *
 generalize zd3 v m=q at *
 generalize zbn v m=r at *
 cases r
 ·obtain ⟨rfl,rfl⟩:=hno (by simp)
  have HR:=Lib.hid hR;clear hno hyes hW hR hwl hm
  go_enter Tryz.func126,Tryz.ntmps126
  go_wp2_with fail
  refine (HR.out _).mono ?_
  rintro e w1 ⟨rfl,hb⟩;have HB:=Lib.hid hb;clear hb
  go_wp2
  go_ret2
  exact ⟨rfl,Below.trans ((Below.refl _ _).alloc (Nat.le_refl _) _) (HB.out.mono (by simp))⟩
 rcases (show s<1\/(1<=s/\b<1)\/(1<=s/\1<=b) by omega) with h|⟨h,h'⟩|⟨h,h'⟩
 ·obtain ⟨rfl,rfl⟩:=hno (by omega)
  have HR:=Lib.hid hR;clear hno hyes hW hR hwl hm
  go_enter Tryz.func126,Tryz.ntmps126
  go_wp2_with fail
  refine (HR.out _).mono ?_
  rintro e w1 ⟨rfl,hb⟩;have HB:=Lib.hid hb;clear hb
  go_wp2
  go_ret2
  exact ⟨rfl,Below.trans ((Below.refl _ _).alloc (Nat.le_refl _) _) (HB.out.mono (by simp))⟩
 ·obtain ⟨rfl,rfl⟩:=hno (by omega)
  have HR:=Lib.hid hR;clear hno hyes hW hR hwl hm
  go_enter Tryz.func126,Tryz.ntmps126
  go_wp2_with fail
  refine (HR.out _).mono ?_
  rintro e w1 ⟨rfl,hb⟩;have HB:=Lib.hid hb;clear hb
  go_wp2
  go_ret2
  exact ⟨rfl,Below.trans ((Below.refl _ _).alloc (Nat.le_refl _) _) (HB.out.mono (by simp))⟩
 ·obtain ⟨rfl,rfl⟩:=hyes ⟨rfl,h,h'⟩
  have hbd:=zof (q:Int)
  have hMX:=fun W=>turn_Mix (q:Int) (by omega) W
  generalize mixI (q:Int)=z at *
  obtain ⟨Z,rfl⟩:=Int.eq_ofNat_of_zero_le hbd.1
  have hZ:Z<18446744073709551616:=by omega
  have ws:=zfj s ⟨h,hs⟩;have wb:=zfj b ⟨h',hb⟩
  have m1:=mod_w (Z:Int) s ⟨by omega,by omega⟩ ⟨h,hs⟩
  have m2:=mod_w ((Z:Int) / 4294967296) b ⟨by omega,by omega⟩ ⟨h',hb⟩
  have n1:¬ s=0:=by omega
  have n2:¬ b=0:=by omega
  have HR:=Lib.hid hR;have HW:=Lib.hid hW;have HM:=Lib.hid hMX;clear hno hyes hW hR hwl hm hMX hbd
  go_enter Tryz.func126,Tryz.ntmps126
  go_wp2_with fail
  refine (HR.out _).mono ?_
  rintro e w1 ⟨rfl,hb1⟩;obtain ⟨hc,hf⟩:=zao hb1
  have c0:w1.cell? ⟨w.heap.size,0,none⟩=some (.int .i64 v):=by rw [hc _ _ (by simp)];simp [go_sem]
  have c1:w1.cell? ⟨w.heap.size,1,none⟩=some (.int .u64 (m:Int)):=by rw [hc _ _ (by simp)];simp [go_sem]
  have hB1:Below w.heap.size w w1:=Below.trans ((Below.refl _ _).alloc (Nat.le_refl _) _) (hb1.mono (by simp))
  clear hc hf hb1;have hz1:=hB1.size
  go_wp2_with fail
  refine (HW.out _).mono ?_
  rintro e w2 ⟨rfl,hb2⟩;have hB2:=hB1.trans (hb2.mono hz1);clear hb2 c0 c1 hB1
  go_wp2_with fail
  refine (HM.out _).mono ?_
  rintro e w3 ⟨rfl,rfl⟩
  go_wp2_with fail
  go_quiet (fail)
  go_wp2
  go_ret2
  exact ⟨by simp [m1,m2],zaa hB2 _⟩
set_option maxHeartbeats 1600000 in
theorem zni (v:Int) (m:Nat) (hm:m<18446744073709551616) (s b:Int) (hs:s<=9223372036854775807) (hb:b<=9223372036854775807) (w:World) :
  Calls Tryz.prog 98 #[.agg #[.int .i64 v,.int .u64 (m:Int)],.int .i64 s,.int .i64 b] w (Says (.tuple #[.int .i64 (plS v m s b),.int .i64 (plB v m s b)]) w):=by
 have hR:=fun W=>zdy v m hm W
 have hW:=fun W=>zn4 v m hm W
 have hno:=@pl_no v m s b;have hyes:=@pl_yes v m s b;have hwl:=zlh v m
 generalize plS v m s b=x at *
 generalize plB v m s b=y at *
 generalize zd3 v m=q at *
 generalize zbn v m=r at *
 cases r
 ·obtain ⟨rfl,rfl⟩:=hno (by simp)
  have HR:=Lib.hid hR;clear hno hyes hW hR hwl hm
  go_enter Tryz.func98,Tryz.ntmps98
  go_wp2_with fail
  refine (HR.out _).mono ?_
  rintro e w1 ⟨rfl,hb⟩;have HB:=Lib.hid hb;clear hb
  go_wp2
  go_ret2
  exact ⟨rfl,Below.trans ((Below.refl _ _).alloc (Nat.le_refl _) _) (HB.out.mono (by simp))⟩
 rcases (show s<1\/(1<=s/\b<1)\/(1<=s/\1<=b) by omega) with h|⟨h,h'⟩|⟨h,h'⟩
 ·obtain ⟨rfl,rfl⟩:=hno (by omega)
  have HR:=Lib.hid hR;clear hno hyes hW hR hwl hm
  go_enter Tryz.func98,Tryz.ntmps98
  go_wp2_with fail
  refine (HR.out _).mono ?_
  rintro e w1 ⟨rfl,hb⟩;have HB:=Lib.hid hb;clear hb
  go_wp2
  go_ret2
  exact ⟨rfl,Below.trans ((Below.refl _ _).alloc (Nat.le_refl _) _) (HB.out.mono (by simp))⟩
 ·obtain ⟨rfl,rfl⟩:=hno (by omega)
  have HR:=Lib.hid hR;clear hno hyes hW hR hwl hm
  go_enter Tryz.func98,Tryz.ntmps98
  go_wp2_with fail
  refine (HR.out _).mono ?_
  rintro e w1 ⟨rfl,hb⟩;have HB:=Lib.hid hb;clear hb
  go_wp2
  go_ret2
  exact ⟨rfl,Below.trans ((Below.refl _ _).alloc (Nat.le_refl _) _) (HB.out.mono (by simp))⟩
 ·obtain ⟨rfl,rfl⟩:=hyes ⟨rfl,h,h'⟩
  have hbd:=zof (q:Int)
  have hMX:=fun W=>ref7_Mix (q:Int) (by omega) W
  generalize mixI (q:Int)=z at *
  obtain ⟨Z,rfl⟩:=Int.eq_ofNat_of_zero_le hbd.1
  have hZ:Z<18446744073709551616:=by omega
  have ws:=zfj s ⟨h,hs⟩;have wb:=zfj b ⟨h',hb⟩
  have m1:=mod_w (Z:Int) s ⟨by omega,by omega⟩ ⟨h,hs⟩
  have m2:=mod_w ((Z:Int) / 4294967296) b ⟨by omega,by omega⟩ ⟨h',hb⟩
  have n1:¬ s=0:=by omega
  have n2:¬ b=0:=by omega
  have HR:=Lib.hid hR;have HW:=Lib.hid hW;have HM:=Lib.hid hMX;clear hno hyes hW hR hwl hm hMX hbd
  go_enter Tryz.func98,Tryz.ntmps98
  go_wp2_with fail
  refine (HR.out _).mono ?_
  rintro e w1 ⟨rfl,hb1⟩;obtain ⟨hc,hf⟩:=zao hb1
  have c0:w1.cell? ⟨w.heap.size,0,none⟩=some (.int .i64 v):=by rw [hc _ _ (by simp)];simp [go_sem]
  have c1:w1.cell? ⟨w.heap.size,1,none⟩=some (.int .u64 (m:Int)):=by rw [hc _ _ (by simp)];simp [go_sem]
  have hB1:Below w.heap.size w w1:=Below.trans ((Below.refl _ _).alloc (Nat.le_refl _) _) (hb1.mono (by simp))
  clear hc hf hb1;have hz1:=hB1.size
  go_wp2_with fail
  refine (HW.out _).mono ?_
  rintro e w2 ⟨rfl,hb2⟩;have hB2:=hB1.trans (hb2.mono hz1);clear hb2 c0 c1 hB1
  go_wp2_with fail
  refine (HM.out _).mono ?_
  rintro e w3 ⟨rfl,rfl⟩
  go_wp2_with fail
  go_quiet (fail)
  go_wp2
  go_ret2
  exact ⟨by simp [m1,m2],zaa hB2 _⟩
end
section
open Go.RowKit
theorem zab (w:World) (p:Addr) (v:Value) {k:Nat} (h:k≠p.block):(w.setCell p v).heap[k]?=w.heap[k]?:=by
 unfold World.setCell
 simp only [Array.getElem?_modify]
 rw [if_neg (fun e=>h e.symm)]
theorem zc4 (b:Nat):∀ (vs:List Value) (o:Nat) (w:World) {k:Nat},k≠b->(w.setCells b o vs).heap[k]?=w.heap[k]?
 |[],_,_,_,_=>rfl
 |v :: r,o,w,_,h=>(zc4 b r (o+1) _ h).trans (zab w ⟨b,o,none⟩ v h)
theorem zd6 {B b:Nat} (hB:B<=b):∀ (vs:List Value) (o:Nat) (w0 w:World),Below B w0 w->Below B w0 (w.setCells b o vs)
 |[],_,_,_,h=>h
 |v :: r,o,w0,_,h=>zd6 hB r (o+1) w0 _ (h.setCell hB v)
theorem zew (b:Nat):∀ (vs:List Value) (o:Nat) (w:World),(w.setCells b o vs).heap.size=w.heap.size
 |[],_,_=>rfl
 |v :: r,o,w=>(zew b r (o+1) _).trans (by simp)
structure Stored (w:World) (b o:Nat) (vs:List Value) (w':World):Prop where
 cells:∀ j v,vs[j]?=some v->w'.cell? ⟨b,o+j,none⟩=some v
 far:∀ k,k≠b->w'.heap[k]?=w.heap[k]?
 size:w'.heap.size=w.heap.size
 below:∀ B,B<=b->Below B w w'
 marks:∀ p,w'.frozen? p=w.frozen? p
theorem Stored.mk_ (w:World) (b o:Nat) (vs:List Value) (ht:w.there b o vs.length):Stored w b o vs (w.setCells b o vs) :=
 ⟨World.rangeAt_setCells_same w b o vs ht,fun _ h=>zc4 b vs o w h,zew b vs o w,fun _ hB=>zd6 hB vs o w w (Below.refl _ _),fun p=>World.frozen?_setCells b vs o w p⟩
section
variable {P:Program}
theorem zb3 {ops:Array Oper} {op:Oper} {a:Act} {w:World} {K:Act->World->Prop} {Q:Exit->Act->World->Prop} {E:Prop} (hgd:op.guard=none) (ty:TypeId) (x y:Operand) (ho:op.op=.store ty x y)
  (b o:Nat) (cells:Array Value) (hx:a.eval x=.pointer (some ⟨b,o,none⟩)) (hy:a.eval y=.agg cells)
  (ht:w.there b o cells.size) (hi:(P.info? ty).map (·.size)=some cells.size) (h1:cells.all (·.oneCell')=true)
  (h:∀ w',Stored w b o cells.toList w'->K (a.put op.dst undef) w'):if Region.wanted op (yielded ops a.tmps)=true then Oper.wp P op a w K Q else E:=by
 have hw:Region.wanted op (yielded ops a.tmps)=true:=by simp [Region.wanted,hgd]
 rw [if_pos hw]
 exact wp_store_mid ty x y ho b o cells hx hy ht hi h1 (h _ (Stored.mk_ w b o cells.toList (by simpa using ht)))
theorem zak {ops:Array Oper} {rest:List Oper} {op:Oper} {a:Act} {w:World} {Q:Exit->Act->World->Prop} (hgd:op.guard=none) (ty:TypeId) (x y:Operand) (ho:op.op=.store ty x y)
  (b o:Nat) (cells:Array Value) (hx:a.eval x=.pointer (some ⟨b,o,none⟩)) (hy:a.eval y=.agg cells)
  (ht:w.there b o cells.size) (hi:(P.info? ty).map (·.size)=some cells.size) (h1:cells.all (·.oneCell')=true)
  (h:∀ w',Stored w b o cells.toList w'->wpList P ops Q rest (a.put op.dst undef) w'):wpList P ops Q (op :: rest) a w :=
 wpList_store_mid hgd ty x y ho b o cells hx hy ht hi h1 (h _ (Stored.mk_ w b o cells.toList (by simpa using ht)))
end
end
section
open Go.RowKit
end
end Go.Proofs.YtfekhdgjgjodlaaGreat
