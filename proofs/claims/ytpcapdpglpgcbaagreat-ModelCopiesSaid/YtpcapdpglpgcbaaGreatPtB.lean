/-
  Words and contracts that a statement's proof rests on (PlainKy, KeyA, PlainPt, PtA, PtB). No statement is proved here.
-/
import Derived.Deep.RegionHeld3
import Derived.StillTailTactics
import Derived.Test.YtpcapdpglpgcbaaGreatPlainVl
import Derived.Test.YtpcapdpglpgcbaaGreatMac
import Derived.Test.YtpcapdpglpgcbaaGreatKeep
set_option linter.unusedVariables false
set_option linter.unusedSimpArgs false
namespace Go.Proofs.YtpcapdpglpgcbaaGreat
section
def rightK (v:Int) (m:Nat):Bool:=decide (1≤v∧v≤4094∧0 < m∧m < 281474976710656∧m / 1099511627776 % 2=0)
theorem rightK_iff {v:Int} {m:Nat}:rightK v m=true ↔ 1≤v∧v≤4094∧0 < m∧m < 281474976710656∧m / 1099511627776 % 2=0:=by simp [rightK]
theorem rightK_no {v:Int} {m:Nat} (h:¬ (1≤v∧v≤4094∧0 < m∧m < 281474976710656∧m / 1099511627776 % 2=0)):rightK v m=false:=by
 unfold rightK; exact decide_eq_false h
theorem kind_zero {m:Nat} (h:m < 281474976710656):kindN m=0 ↔ m / 1099511627776 % 2=0:=by
 unfold kindN
 rw [Nat.mod_eq_of_lt h]
 split
 ·omega
 ·split <;> omega
def wordN (v:Int) (m:Nat):Nat:=if rightK v m=true then 1152921504606846976 + v.toNat * 281474976710656 + m else 0
theorem wordN_yes {v:Int} {m:Nat} (h:rightK v m=true):wordN v m=1152921504606846976 + v.toNat * 281474976710656 + m:=if_pos h
theorem wordN_no {v:Int} {m:Nat} (h:rightK v m=false):wordN v m=0:=by unfold wordN; rw [h]; rfl
theorem wordN_lt (v:Int) (m:Nat):wordN v m < 18446744073709551616:=by
 cases h:rightK v m
 ·rw [wordN_no h]; omega
 ·rw [wordN_yes h]
  have:=rightK_iff.1 h
  omega
theorem or_48 (a b:Nat) (hb:b < 281474976710656):(a * 281474976710656) ||| b=a * 281474976710656 + b:=by
 have:=Nat.shiftLeft_add_eq_or_of_lt (i:=48) (b:=b) (by simpa using hb) a
 rw [Nat.shiftLeft_eq] at this
 simpa using this.symm
theorem or_word (v m:Nat) (hv:v < 4096) (hm:m < 281474976710656):(1152921504606846976 ||| v * 281474976710656) ||| m=1152921504606846976 + v * 281474976710656 + m:=by
 have e1:=or_48 4096 0 (by omega)
 have h1:(1152921504606846976 ||| v * 281474976710656)=(4096 + v) * 281474976710656:=by
  have:=Nat.shiftLeft_add_eq_or_of_lt (i:=60) (b:=v * 281474976710656) (by omega) 1
  rw [Nat.shiftLeft_eq] at this
  have e:(1 * 2 ^ 60:Nat)=1152921504606846976:=by decide
  rw [e] at this
  omega
 rw [h1,or_48 _ _ hm]
 omega
structure En where
 vid:Int
 mac:Nat
 port:Int
 st:Bool
 stamp:Nat
deriving DecidableEq
def en0:En:=⟨0,0,0,false,0⟩
def En.ok (e:En):Prop:=(-9223372036854775808≤e.vid∧e.vid≤9223372036854775807)∧e.mac < 18446744073709551616∧(-9223372036854775808≤e.port∧e.port≤9223372036854775807)∧e.stamp < 4294967296
def rightE (e:En):Bool:=rightK e.vid e.mac && decide (0≤e.port∧e.port < 64∧¬ (e.st=true∧e.stamp ≠ 0))
end
section
open Go.RowKit
set_option maxHeartbeats 1600000 in
theorem key_Right (v:Int) (m:Nat) (hm:m < 18446744073709551616) (w:World) :
  Calls Tryz.prog 123 #[.agg #[.int .i64 v,.int .u64 (m:Int)]] w (Says (.bool (rightK v m)) w):=by
 have hg:(0:Int)≤(m:Int):=Int.natCast_nonneg _
 have hR:=fun W => mac_Right m hm W
 have hK:=fun W => mac_Kind m hm W
 rcases (show (v < 1) ∨ (1≤v∧4094 < v) ∨ (1≤v∧v≤4094∧m=0) ∨ (1≤v∧v≤4094∧0 < m∧281474976710656≤m) ∨ (1≤v∧v≤4094∧0 < m∧m < 281474976710656∧m / 1099511627776 % 2 ≠ 0) ∨ (1≤v∧v≤4094∧0 < m∧m < 281474976710656∧m / 1099511627776 % 2=0) by omega) with h | ⟨h,h1⟩ | ⟨h,h1,h2⟩ | ⟨h,h1,h2,h3⟩ | ⟨h,h1,h2,h3,h4⟩ | ⟨h,h1,h2,h3,h4⟩
 ·rw [rightK_no (by omega)]
  clear hR hK hm hg
  go_enter Tryz.func123,Tryz.ntmps123
  go_wp2
  go_ret
  exact ⟨ret_bool (by first | rfl | (simp; omega)),((Below.refl _ _).alloc (Nat.le_refl _) _)⟩
 ·rw [rightK_no (by omega)]
  clear hR hK hm hg
  go_enter Tryz.func123,Tryz.ntmps123
  go_wp2
  go_ret
  exact ⟨ret_bool (by first | rfl | (simp; omega)),((Below.refl _ _).alloc (Nat.le_refl _) _)⟩
 ·rw [rightK_no (by omega)]
  subst h2
  clear hR hK hm hg
  go_enter Tryz.func123,Tryz.ntmps123
  go_wp2
  go_ret
  exact ⟨ret_bool (by first | rfl | (simp; omega)),((Below.refl _ _).alloc (Nat.le_refl _) _)⟩
 ·rw [rightK_no (by omega)]
  have h5:¬ (m:Int)=0:=by omega
  rw [decide_eq_false (by omega)] at hR
  clear hK
  have HR:=Lib.hid hR
  clear hR
  clear hm
  go_enter Tryz.func123,Tryz.ntmps123
  go_wp2_with fail
  refine (HR.out _).mono ?_
  rintro e w1 ⟨rfl,rfl⟩
  go_wp2
  go_ret
  exact ⟨ret_bool (by first | rfl | (simp; omega)),((Below.refl _ _).alloc (Nat.le_refl _) _)⟩
 ·rw [rightK_no (by omega)]
  have h5:¬ (m:Int)=0:=by omega
  rw [decide_eq_true (by omega)] at hR
  have h6:¬ kindN m=0:=fun hh => h4 ((kind_zero h3).1 hh)
  generalize kindN m=k at *
  have h7:¬ (k:Int)=0:=by omega
  have HK:=Lib.hid hK
  clear hK
  have HR:=Lib.hid hR
  clear hR
  clear h4
  clear hm
  go_enter Tryz.func123,Tryz.ntmps123
  go_wp2_with fail
  refine (HR.out _).mono ?_
  rintro e w1 ⟨rfl,rfl⟩
  go_wp2_with fail
  refine (HK.out _).mono ?_
  rintro e w2 ⟨rfl,rfl⟩
  go_wp2
  go_ret
  exact ⟨ret_bool (by first | rfl | (simp; omega)),((Below.refl _ _).alloc (Nat.le_refl _) _)⟩
 ·rw [rightK_iff.2 ⟨h,h1,h2,h3,h4⟩]
  have h5:¬ (m:Int)=0:=by omega
  rw [decide_eq_true (by omega)] at hR
  rw [(kind_zero h3).2 h4] at hK
  have HK:=Lib.hid hK
  clear hK
  have HR:=Lib.hid hR
  clear hR
  clear h4
  clear hm
  go_enter Tryz.func123,Tryz.ntmps123
  go_wp2_with fail
  refine (HR.out _).mono ?_
  rintro e w1 ⟨rfl,rfl⟩
  go_wp2_with fail
  refine (HK.out _).mono ?_
  rintro e w2 ⟨rfl,rfl⟩
  go_wp2
  go_ret
  exact ⟨ret_bool (by first | rfl | (simp; omega)),((Below.refl _ _).alloc (Nat.le_refl _) _)⟩
set_option maxHeartbeats 1600000 in
theorem ref8_Right (v:Int) (m:Nat) (hm:m < 18446744073709551616) (w:World) :
  Calls Tryz.prog 119 #[.agg #[.int .i64 v,.int .u64 (m:Int)]] w (Says (.bool (rightK v m)) w):=by
 have hg:(0:Int)≤(m:Int):=Int.natCast_nonneg _
 have hR:=fun W => ref_Low m W
 have hK:=fun W => ref_Kind m hm W
 rcases (show (v < 1) ∨ (1≤v∧4094 < v) ∨ (1≤v∧v≤4094∧m=0) ∨ (1≤v∧v≤4094∧0 < m∧281474976710656≤m) ∨ (1≤v∧v≤4094∧0 < m∧m < 281474976710656∧m / 1099511627776 % 2 ≠ 0) ∨ (1≤v∧v≤4094∧0 < m∧m < 281474976710656∧m / 1099511627776 % 2=0) by omega) with h | ⟨h,h1⟩ | ⟨h,h1,h2⟩ | ⟨h,h1,h2,h3⟩ | ⟨h,h1,h2,h3,h4⟩ | ⟨h,h1,h2,h3,h4⟩
 ·rw [rightK_no (by omega)]
  have d0:decide (v ≥ 1)=false:=decide_eq_false (by omega)
  clear hR hK hm hg
  go_enter Tryz.func119,Tryz.ntmps119
  go_wp2_with fail
  go_quiet (fail)
  go_wp2
  go_ret
  exact ⟨ret_bool (by first | rfl | (simp; omega)),below_drewN ((Below.refl _ _).alloc (Nat.le_refl _) _) _⟩
 ·rw [rightK_no (by omega)]
  have d0:decide (v ≥ 1)=true:=decide_eq_true (by omega)
  have d1:decide (v≤4094)=false:=decide_eq_false (by omega)
  clear hR hK hm hg
  go_enter Tryz.func119,Tryz.ntmps119
  go_wp2_with fail
  go_quiet (fail)
  go_wp2
  go_ret
  exact ⟨ret_bool (by first | rfl | (simp; omega)),below_drewN ((Below.refl _ _).alloc (Nat.le_refl _) _) _⟩
 ·rw [rightK_no (by omega)]
  subst h2
  have d0:decide (v ≥ 1)=true:=decide_eq_true (by omega)
  have d1:decide (v≤4094)=true:=decide_eq_true (by omega)
  clear hR hK hm hg
  go_enter Tryz.func119,Tryz.ntmps119
  go_wp2_with fail
  go_quiet (fail)
  go_wp2
  go_ret
  exact ⟨ret_bool (by first | rfl | (simp; omega)),below_drewN ((Below.refl _ _).alloc (Nat.le_refl _) _) _⟩
 ·rw [rightK_no (by omega)]
  have d0:decide (v ≥ 1)=true:=decide_eq_true (by omega)
  have d1:decide (v≤4094)=true:=decide_eq_true (by omega)
  have d2:decide ((m:Int) > 0)=true:=decide_eq_true (by omega)
  have d3:((m:Int) == ((m % 281474976710656:Nat):Int))=false:=by simp; omega
  have h5:¬ (m:Int)=0:=by omega
  generalize m % 281474976710656=L at *
  clear hK
  have HR:=Lib.hid hR
  clear hR
  clear hm
  go_enter Tryz.func119,Tryz.ntmps119
  go_wp2_with fail
  go_quiet (first | (go_at_call 132; with_reducible exact still0 HR.out _ _) | (go_at_call 132; with_reducible exact still1 HR.out _ _ _))
  go_wp2
  go_ret
  exact ⟨ret_bool (by first | rfl | (simp; omega)),below_drewN ((Below.refl _ _).alloc (Nat.le_refl _) _) _⟩
 ·rw [rightK_no (by omega)]
  have d0:decide (v ≥ 1)=true:=decide_eq_true (by omega)
  have d1:decide (v≤4094)=true:=decide_eq_true (by omega)
  have d2:decide ((m:Int) > 0)=true:=decide_eq_true (by omega)
  have d3:((m:Int) == (m:Int))=true:=by simp
  have h5:¬ (m:Int)=0:=by omega
  rw [Nat.mod_eq_of_lt (by omega)] at hR
  have h6:¬ kindN m=0:=fun hh => h4 ((kind_zero h3).1 hh)
  generalize kindN m=k at *
  have d4:((k:Int) == 0)=false:=by simp; omega
  have HK:=Lib.hid hK
  clear hK
  have HR:=Lib.hid hR
  clear hR
  clear h4
  clear hm
  go_enter Tryz.func119,Tryz.ntmps119
  go_wp2_with fail
  go_region_held3 (fun w' => w'.cell? ⟨w.heap.size,0,none⟩=some (.int .i64 v)∧w'.cell? ⟨w.heap.size,1,none⟩=some (.int .u64 (m:Int)))
   (first | (with_reducible exact kp2 (by assumption) (fun p hp => hb.cell (by rw [hp]; go_size))) | go_keep)
   (first
    | (go_at_call 132; (with_reducible refine Calls.mono (HR.out _) ?_); rintro e w1 ⟨rfl,rfl⟩)
    | (go_at_call 133; (with_reducible refine Calls.mono (HK.out _) ?_); rintro e w2 ⟨rfl,hb⟩; have hB2:Below w.heap.size w w2:=Below.trans (by (repeat' (first | (with_reducible exact Below.refl _ _) | (with_reducible assumption) | (with_reducible refine Below.setCell ?_ ?_ _) | (with_reducible refine Below.alloc ?_ ?_ _) | (with_reducible refine below_drewN ?_ _) | (with_reducible refine Below.drew ?_) | go_size))) (hb.mono (by go_size)); have hz2:w.heap.size + 1≤w2.heap.size:=(by have:=hb.size; (try simp at this); omega)))
  all_goals
   go_wp2
   go_ret
   exact ⟨ret_bool (by first | rfl | (simp; omega)),by assumption⟩
 ·rw [rightK_iff.2 ⟨h,h1,h2,h3,h4⟩]
  have d0:decide (v ≥ 1)=true:=decide_eq_true (by omega)
  have d1:decide (v≤4094)=true:=decide_eq_true (by omega)
  have d2:decide ((m:Int) > 0)=true:=decide_eq_true (by omega)
  have d3:((m:Int) == (m:Int))=true:=by simp
  have h5:¬ (m:Int)=0:=by omega
  rw [Nat.mod_eq_of_lt (by omega)] at hR
  rw [(kind_zero h3).2 h4] at hK
  have HK:=Lib.hid hK
  clear hK
  have HR:=Lib.hid hR
  clear hR
  clear h4
  clear hm
  go_enter Tryz.func119,Tryz.ntmps119
  go_wp2_with fail
  go_region_held3 (fun w' => w'.cell? ⟨w.heap.size,0,none⟩=some (.int .i64 v)∧w'.cell? ⟨w.heap.size,1,none⟩=some (.int .u64 (m:Int)))
   (first | (with_reducible exact kp2 (by assumption) (fun p hp => hb.cell (by rw [hp]; go_size))) | go_keep)
   (first
    | (go_at_call 132; (with_reducible refine Calls.mono (HR.out _) ?_); rintro e w1 ⟨rfl,rfl⟩)
    | (go_at_call 133; (with_reducible refine Calls.mono (HK.out _) ?_); rintro e w2 ⟨rfl,hb⟩; have hB2:Below w.heap.size w w2:=Below.trans (by (repeat' (first | (with_reducible exact Below.refl _ _) | (with_reducible assumption) | (with_reducible refine Below.setCell ?_ ?_ _) | (with_reducible refine Below.alloc ?_ ?_ _) | (with_reducible refine below_drewN ?_ _) | (with_reducible refine Below.drew ?_) | go_size))) (hb.mono (by go_size)); have hz2:w.heap.size + 1≤w2.heap.size:=(by have:=hb.size; (try simp at this); omega)))
  all_goals
   go_wp2
   go_ret
   exact ⟨ret_bool (by first | rfl | (simp; omega)),by assumption⟩
set_option maxHeartbeats 1600000 in
theorem key_Word (v:Int) (m:Nat) (hm:m < 18446744073709551616) (w:World) :
  Calls Tryz.prog 125 #[.agg #[.int .i64 v,.int .u64 (m:Int)]] w (Says (.int .u64 (wordN v m:Nat)) w):=by
 have hR:=fun W => key_Right v m hm W
 cases hr:rightK v m
 ·rw [hr] at hR
  rw [wordN_no hr]
  have HR:=Lib.hid hR
  clear hR hr hm
  go_enter Tryz.func125,Tryz.ntmps125
  go_wp2_with fail
  refine (HR.out _).mono ?_
  rintro e w1 ⟨rfl,hb⟩
  have HB:=Lib.hid hb
  clear hb
  go_wp2
  go_ret
  exact ⟨rfl,Below.trans ((Below.refl _ _).alloc (Nat.le_refl _) _) (HB.out.mono (by simp))⟩
 ·rw [hr] at hR
  rw [wordN_yes hr]
  obtain ⟨h1,h2,h3,h4,h5⟩:=rightK_iff.1 hr
  have HR:=Lib.hid hR
  clear hR hr hm h5
  obtain ⟨u,rfl⟩:=Int.eq_ofNat_of_zero_le (show 0≤v by omega)
  rw [Int.toNat_natCast]
  have hu:u < 4096:=by omega
  have e1:bits .or .u64 1152921504606846976 ((u:Int) * 281474976710656)=((1152921504606846976 ||| u * 281474976710656:Nat):Int):=by
   have:=u64_or_nat 1152921504606846976 (u * 281474976710656) (by omega) (by omega)
   simpa using this
  have hx:1152921504606846976 ||| u * 281474976710656 < 18446744073709551616:=by
   have:=or_word u 0 hu (by omega)
   rw [Nat.or_zero] at this
   omega
  have e2:=u64_or_nat (1152921504606846976 ||| u * 281474976710656) m hx (by omega)
  rw [or_word u m hu h4] at e2
  obtain ⟨y,hy⟩:∃ y,y=1152921504606846976 ||| u * 281474976710656:=⟨_,rfl⟩
  rw [← hy] at e1 e2
  clear hy hx
  go_enter Tryz.func125,Tryz.ntmps125
  go_wp2_with fail
  refine (HR.out _).mono ?_
  rintro e w1 ⟨rfl,hb⟩
  obtain ⟨hc,hf⟩:=bcell hb
  have c0:w1.cell? ⟨w.heap.size,0,none⟩=some (.int .i64 (u:Int)):=by rw [hc _ _ (by simp)]; simp [go_sem]
  have c1:w1.cell? ⟨w.heap.size,1,none⟩=some (.int .u64 (m:Int)):=by rw [hc _ _ (by simp)]; simp [go_sem]
  have HB:=Lib.hid hb
  clear hb hc hf
  go_wp2
  go_ret
  exact ⟨ret_u64 (by first | rfl | (simp; done) | omega),Below.trans ((Below.refl _ _).alloc (Nat.le_refl _) _) (HB.out.mono (by simp))⟩
set_option maxHeartbeats 1600000 in
theorem ref8_Word (v:Int) (m:Nat) (hm:m < 18446744073709551616) (w:World) :
  Calls Tryz.prog 131 #[.agg #[.int .i64 v,.int .u64 (m:Int)]] w (Says (.int .u64 (wordN v m:Nat)) w):=by
 have hR:=fun W => ref8_Right v m hm W
 cases hr:rightK v m
 ·rw [hr] at hR
  rw [wordN_no hr]
  have HR:=Lib.hid hR
  clear hR hr hm
  go_enter Tryz.func131,Tryz.ntmps131
  go_wp2_with fail
  refine (HR.out _).mono ?_
  rintro e w1 ⟨rfl,hb⟩
  have HB:=Lib.hid hb
  clear hb
  go_wp2
  go_ret
  exact ⟨rfl,Below.trans ((Below.refl _ _).alloc (Nat.le_refl _) _) (HB.out.mono (by simp))⟩
 ·rw [hr] at hR
  rw [wordN_yes hr]
  obtain ⟨h1,h2,h3,h4,h5⟩:=rightK_iff.1 hr
  have HR:=Lib.hid hR
  clear hR hr hm h5
  obtain ⟨u,rfl⟩:=Int.eq_ofNat_of_zero_le (show 0≤v by omega)
  rw [Int.toNat_natCast]
  have hu:u < 4096:=by omega
  go_enter Tryz.func131,Tryz.ntmps131
  go_wp2_with fail
  refine (HR.out _).mono ?_
  rintro e w1 ⟨rfl,hb⟩
  obtain ⟨hc,hf⟩:=bcell hb
  have c0:w1.cell? ⟨w.heap.size,0,none⟩=some (.int .i64 (u:Int)):=by rw [hc _ _ (by simp)]; simp [go_sem]
  have c1:w1.cell? ⟨w.heap.size,1,none⟩=some (.int .u64 (m:Int)):=by rw [hc _ _ (by simp)]; simp [go_sem]
  have HB:=Lib.hid hb
  clear hb hc hf
  go_wp2
  go_ret
  exact ⟨ret_u64 (by first | rfl | (simp; done) | omega),Below.trans ((Below.refl _ _).alloc (Nat.le_refl _) _) (HB.out.mono (by simp))⟩
end
section
def rightSt (s:Int):Bool:=decide (0≤s) && decide (s≤4)
theorem rightSt_iff {s:Int}:rightSt s=true ↔ 0≤s∧s≤4:=by simp [rightSt]
theorem rightSt_no {s:Int} (h:¬ (0≤s∧s≤4)):rightSt s=false:=by
 rw [Bool.eq_false_iff]; exact fun e => h (rightSt_iff.1 e)
end
section
open Go.RowKit
set_option maxHeartbeats 800000 in
theorem port_Right (s:Int) (w:World):Calls Tryz.prog 116 #[.int .i64 s] w fun e w' => e=.returned (.bool (rightSt s))∧w=w':=by
 by_cases h1:0≤s
 ·have d1:decide (s ≥ 0)=true:=by simpa using h1
  have d1':decide (0≤s)=true:=by simpa using h1
  by_cases h2:s≤4
  ·have d2:decide (s≤4)=true:=by simpa using h2
   have hr:rightSt s=true:=rightSt_iff.2 ⟨h1,h2⟩
   rw [hr]
   go_enter Tryz.func116,Tryz.ntmps116
   go_wp2
   go_ret
   exact ⟨by first | rfl | (simp; done) | (simp [h1,h2]; done),rfl⟩
  ·have d2:decide (s≤4)=false:=by simpa using h2
   have hr:rightSt s=false:=rightSt_no (by omega)
   rw [hr]
   go_enter Tryz.func116,Tryz.ntmps116
   go_wp2
   go_ret
   exact ⟨by first | rfl | (simp; done) | (simp [h1,h2]; done),rfl⟩
 ·have d1:decide (s ≥ 0)=false:=by simpa using h1
  have d1':decide (0≤s)=false:=by simpa using h1
  have hr:rightSt s=false:=rightSt_no (by omega)
  rw [hr]
  go_enter Tryz.func116,Tryz.ntmps116
  go_wp2
  go_ret
  exact ⟨by first | rfl | (simp; done) | (simp [h1]; done),rfl⟩
set_option maxHeartbeats 800000 in
theorem ref16_Right (s:Int) (w:World):Calls Tryz.prog 97 #[.int .i64 s] w fun e w' => e=.returned (.bool (rightSt s))∧w=w':=by
 by_cases h1:0≤s
 ·have d1:decide (s ≥ 0)=true:=by simpa using h1
  have d1':decide (0≤s)=true:=by simpa using h1
  by_cases h2:s≤4
  ·have d2:decide (s≤4)=true:=by simpa using h2
   have hr:rightSt s=true:=rightSt_iff.2 ⟨h1,h2⟩
   rw [hr]
   go_enter Tryz.func97,Tryz.ntmps97
   go_wp2
   go_ret
   exact ⟨by first | rfl | (simp; done) | (simp [h1,h2]; done),rfl⟩
  ·have d2:decide (s≤4)=false:=by simpa using h2
   have hr:rightSt s=false:=rightSt_no (by omega)
   rw [hr]
   go_enter Tryz.func97,Tryz.ntmps97
   go_wp2
   go_ret
   exact ⟨by first | rfl | (simp; done) | (simp [h1,h2]; done),rfl⟩
 ·have d1:decide (s ≥ 0)=false:=by simpa using h1
  have d1':decide (0≤s)=false:=by simpa using h1
  have hr:rightSt s=false:=rightSt_no (by omega)
  rw [hr]
  go_enter Tryz.func97,Tryz.ntmps97
  go_wp2
  go_ret
  exact ⟨by first | rfl | (simp; done) | (simp [h1]; done),rfl⟩
set_option maxHeartbeats 800000 in
theorem port_Forwards (s:Int) (w:World):Calls Tryz.prog 88 #[.int .i64 s] w fun e w' => e=.returned (.bool (decide (s=4)))∧w=w':=by
 have hh:decide (s=4)=(s == 4):=by by_cases h4:s=4 <;> simp [h4]
 rw [hh]
 go_enter Tryz.func88,Tryz.ntmps88
 go_wp2
 go_ret
 exact ⟨by first | rfl | (simp; done),rfl⟩
end
section
open Go.RowKit
set_option maxHeartbeats 1600000 in
theorem port_Set (s x:Int) (k:Nat) (w:World):Calls Tryz.prog 85 #[.agg #[.int .i64 s,.int .u32 (k:Int)],.int .i64 x] w (Says (if rightSt x=true then .tuple #[.agg #[.int .i64 x,.int .u32 (((k + 1) % 4294967296:Nat):Int)],.int .i64 0] else .tuple #[.agg #[.int .i64 0,.int .u32 0],.int .i64 7]) w):=by
 have HR:=Lib.hid (fun W => port_Right x W)
 by_cases h:rightSt x=true
 ·rw [if_pos h]
  rw [h] at HR
  have hk:IntKind.u32.wrap ((k:Int) + 1)=(((k + 1) % 4294967296:Nat):Int):=by rw [IntKind.wrap_u32]; omega
  generalize (((k + 1) % 4294967296:Nat):Int)=K at *
  generalize (k:Int)=k at *
  clear h
  go_enter Tryz.func85,Tryz.ntmps85
  go_wp2_with fail
  refine (HR.out _).mono ?_
  rintro e w1 ⟨rfl,rfl⟩
  go_wp2
  exact bodyPost_ret (v:=.tuple #[.agg #[.int .i64 x,.int .u32 K],.int .i64 0]) (by first | (simp [results,Tryz.results85,go_sem]; done) | (simp_all [results,Tryz.results85,go_sem]; done)) rfl ⟨rfl,(by (repeat' (first | (with_reducible exact Below.refl _ _) | (with_reducible assumption) | (with_reducible refine Below.setCell ?_ ?_ _) | (with_reducible refine Below.alloc ?_ ?_ _) | (with_reducible refine below_drewN ?_ _) | (with_reducible refine Below.drew ?_) | go_size)))⟩
 ·rw [if_neg h]
  have h:rightSt x=false:=by simpa using h
  rw [h] at HR
  clear h
  go_enter Tryz.func85,Tryz.ntmps85
  go_wp2_with fail
  refine (HR.out _).mono ?_
  rintro e w1 ⟨rfl,rfl⟩
  go_wp2
  exact bodyPost_ret (v:=.tuple #[.agg #[.int .i64 0,.int .u32 0],.int .i64 7]) (by first | (simp [results,Tryz.results85,go_sem]; done) | (simp_all [results,Tryz.results85,go_sem]; done)) rfl ⟨rfl,(by (repeat' (first | (with_reducible exact Below.refl _ _) | (with_reducible assumption) | (with_reducible refine Below.setCell ?_ ?_ _) | (with_reducible refine Below.alloc ?_ ?_ _) | (with_reducible refine below_drewN ?_ _) | (with_reducible refine Below.drew ?_) | go_size)))⟩
set_option maxHeartbeats 1600000 in
theorem ref16_Set (s x:Int) (k:Nat) (w:World):Calls Tryz.prog 52 #[.agg #[.int .i64 s,.int .u32 (k:Int)],.int .i64 x] w (Says (if rightSt x=true then .tuple #[.agg #[.int .i64 x,.int .u32 (((k + 1) % 4294967296:Nat):Int)],.bool true] else .tuple #[.agg #[.int .i64 0,.int .u32 0],.bool false]) w):=by
 have HR:=Lib.hid (fun W => ref16_Right x W)
 by_cases h:rightSt x=true
 ·rw [if_pos h]
  rw [h] at HR
  have hk:IntKind.u32.wrap ((k:Int) + 1)=(((k + 1) % 4294967296:Nat):Int):=by rw [IntKind.wrap_u32]; omega
  generalize (((k + 1) % 4294967296:Nat):Int)=K at *
  generalize (k:Int)=k at *
  clear h
  go_enter Tryz.func52,Tryz.ntmps52
  go_wp2_with fail
  refine (HR.out _).mono ?_
  rintro e w1 ⟨rfl,rfl⟩
  go_wp2
  exact bodyPost_ret (v:=.tuple #[.agg #[.int .i64 x,.int .u32 K],.bool true]) (by first | (simp [results,Tryz.results52,go_sem]; done) | (simp_all [results,Tryz.results52,go_sem]; done)) rfl ⟨rfl,(by (repeat' (first | (with_reducible exact Below.refl _ _) | (with_reducible assumption) | (with_reducible refine Below.setCell ?_ ?_ _) | (with_reducible refine Below.alloc ?_ ?_ _) | (with_reducible refine below_drewN ?_ _) | (with_reducible refine Below.drew ?_) | go_size)))⟩
 ·rw [if_neg h]
  have h:rightSt x=false:=by simpa using h
  rw [h] at HR
  clear h
  go_enter Tryz.func52,Tryz.ntmps52
  go_wp2_with fail
  refine (HR.out _).mono ?_
  rintro e w1 ⟨rfl,rfl⟩
  go_wp2
  exact bodyPost_ret (v:=.tuple #[.agg #[.int .i64 0,.int .u32 0],.bool false]) (by first | (simp [results,Tryz.results52,go_sem]; done) | (simp_all [results,Tryz.results52,go_sem]; done)) rfl ⟨rfl,(by (repeat' (first | (with_reducible exact Below.refl _ _) | (with_reducible assumption) | (with_reducible refine Below.setCell ?_ ?_ _) | (with_reducible refine Below.alloc ?_ ?_ _) | (with_reducible refine below_drewN ?_ _) | (with_reducible refine Below.drew ?_) | go_size)))⟩
end
end Go.Proofs.YtpcapdpglpgcbaaGreat
